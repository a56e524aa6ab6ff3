import PyProof.Rows.All
import Wide.All
import OpenK.AllK
import Wide.FinOn
import PyProof.TupleKey
import PyProof.EqAt
import PyProof.EqKinds
import Wide.Seal
import Lean
import PyProof.TupleCall
import KE.KTryMore
import KE.KRevIter
import PyProof.CollectIter
import PyProof.ConsumeWalk
import PyProof.TupleOfStr
import KE.KIsAll
import PyProof.ExcArgs
import PyProof.ExcAttrAll.ValueError
import PyProof.CompUse
import PyProof.NeKinds
import PyProof.EnumIter
import PyProof.EnumFor
import PyProof.EnumMake
import PyProof.EnumStmt
import PyProof.ListMulRoad
import PyProof.ZipIter
import PyProof.TupleIter
import PyProof.Rows.SortWalk
import PyProof.SetKind
import PyProof.Rows.SetFrom
import PyProof.FactsAll.set_1
import KE.KDictSum
import PyProof.FactsAll.set_2
import PyProof.FactsAll.tuple_2
import PyProof.ReprRoads
import PyProof.Rows.SeqMore
import PyProof.ReprLen
import PyProof.WalkInts
import PyProof.SeqI3
import PyProof.Rows.TupIter
import PyProof.ListRange
import PyProof.SumWalk
import PyProof.DictIter
import PyProof.DictWalks
import PyProof.Draws
import PyProof.StrBlockI
import PyProof.StrLawsIn
import PyProof.StrOps2
import PyProof.ReprStr
import KE.KTops
import PySem.Challenge.RW_circuits_k08_whole_written
set_option Elab.async false
set_option linter.all false
set_option maxRecDepth 100000
set_option maxHeartbeats 1000000
local macro_rules | `(tactic| omega) => `(tactic| first | with_reducible assumption | decide | with_reducible exact Nat.le_refl _ | with_reducible exact Nat.zero_le _ | lia)
set_option genSizeOf false
set_option genInjectivity false
local macro_rules | `(tactic| walk_at "1") => `(tactic| (first | exact Or.inl rfl | exact Or.inr (Or.inl rfl) | exact Or.inr (Or.inr rfl)))
local macro_rules | `(tactic| walk_at "2") => `(tactic| (first | exact .inl rfl | exact .inr rfl | assumption))
local macro_rules | `(tactic| walk_at "3") => `(tactic| (first | exact Or.inl rfl | exact Or.inr rfl))
open PySem.W (findIn hideAll_get kdpLook keepIn kia_one kitOne methodObj mg_none_of mg_of specialIn takesIn)
def w0a:=@List.getElem?_eq_some_iff
def w0b:=@List.getElem?_eq_getElem
def w0c:=@List.size_toArray
def w0d:=@Option.map_eq_some_iff
def w0e:=@Nat.le_refl
def w0f:=@List.getElem?_set_ne
def w0g:=@Bool.and_eq_true
def w0h:=@List.getElem?_set_self
def w0i:=@List.mem_append_right
def w0j:=@List.length_cons
def w0k:=@List.length_append
def w0l:=@Nat.lt_of_lt_of_le
def w0m:=@List.mem_cons
def w0n:=@List.map_cons
def w0o:=@Nat.le_trans
def w0p:=@Nat.ne_of_lt
def w0q:=@List.map_append
def w0r:=@List.length_map
def w0s:=@Option.bind_eq_some_iff
def w0t:=@Bool.false_ne_true
def w0u:=@List.length_take
def w0v:=@List.getElem?_map
def w0w:=@List.replicate_succ
def w0x:=@List.mem_cons_of_mem
def w0y:=@List.getD_eq_getElem?_getD
def w0z:=@List.lookup_cons
def w1a:=@List.getElem_mem
def w1b:=@List.append_assoc
def w1c:=@List.mem_singleton
def w1d:=@List.mem_range
def w1e:=@List.cons_append
def w1f:=@List.foldl_cons
def w1g:=@List.all_eq_true
def w1h:=@List.not_mem_nil
def w1i:=@List.mem_map
def w1j:=@List.mem_cons_self
def w1k:=@List.map_map
def w1l:=@Nat.zero_le
def w1m:=@List.flatten_cons
def w1n:=@List.drop_eq_getElem_cons
def w1o:=@List.getElem?_eq_none
def w1p:=@List.find?_cons
def w1q:=@Int.toNat_natCast
def w1r:=@Option.isSome_map
def w1s:=@List.append_nil
def w1t:=@List.length_drop
def w1u:=@List.set_cons_zero
def w1v:=@List.set_cons_succ
def w1w:=@List.getElem?_append_left
def w1x:=@List.mem_of_getElem?
def w1y:=@List.map_eq_cons_iff
def w1z:=@Bool.eq_false_iff
def w2a:=@Bool.eq_iff_iff
def w2b:=@Nat.lt_irrefl
def w2c:=@Array.length_toList
def w2d:=@List.getElem?_replicate
def w2e:=@List.getElem?_cons_succ
def w2f:=@List.eq_nil_of_length_eq_zero
def w2g:=@List.map_eq_append_iff
def w2h:=@Bool.false_eq_true
def w2i:=@Int.emod_lt_of_pos
def w2j:=@List.nodup_cons
def w2k:=@List.length_replicate
def w2l:=@List.length_nil
def w2m:=@List.reverse_cons
def w2n:=@List.getElem?_append_right
def w2o:=@List.mem_of_mem_take
def w2p:=@List.map_eq_singleton_iff
def w2q:=@List.map_congr_left
def w2r:=@Option.isSome_iff_exists
def w2s:=@List.eq_of_mem_replicate
def w2t:=@List.mem_append
def w2u:=@List.all_cons
def w2v:=@List.any_cons
def w2w:=@List.nil_append
def w2x:=@Int.emod_nonneg
def w2y:=@Nat.lt_succ_of_lt
def w2z:=@List.foldl_append
def w3a:=@Bool.and_eq_false_iff
def w3b:=@List.length_singleton
def w3c:=@Nat.le_of_ble_eq_true
def w3d:=@List.filterMap_cons
def w3e:=@List.takeWhile_cons
def w3f:=@Array.getElem?_append_left
def w3g:=@Array.getElem?_eq_some_iff
def w3h:=@List.mem_filterMap
def w3i:=@Nat.zero_add
def w3j:=@List.getElem?_take_of_lt
def w3k:=@List.nodup_append
def w3l:=@Bool.and_true
def w3m:=@Nat.min_le_right
def w3n:=@List.drop_length
def w3o:=@List.take_of_length_le
def w3p:=@List.drop_eq_nil_of_le
def w3q:=@List.forIn_cons
def w3r:=@List.of_mem_zip
def w3s:=@Array.getElem?_toList
def w3t:=@List.dropLast_eq_take
def w3u:=@Nat.ble_eq_true_of_le
def w3v:=@Bool.true_or
def w3w:=@Option.map_some
def w3x:=@Bool.decide_and
def w3y:=@List.singleton_append
def w3z:=@Nat.not_lt
def w4a:=@List.mem_append_left
def w4b:=@List.getElem?_append
def w4c:=@List.foldl_nil
def w4d:=@List.getElem_of_mem
def w4e:=@Nat.add_mul
def w4f:=@Array.forIn_toList
def w4g:=@Bool.not_true
def w4h:=@Array.append_assoc
def w4i:=@Array.append_empty
def w4j:=@List.getElem_range
def w4k:=@Nat.le_of_lt
def w4l:=@List.map_nil
def w4m:=@Int.sub_zero
namespace PySem.W.Fast
theorem tw13387090596216966635:True:=trivial
theorem tw12169888881012020349:True:=trivial
theorem tw982602472301159493:True:=trivial
theorem tw12083320353114413016:True:=trivial
theorem tw12405680531136379487:True:=trivial
theorem tw14984048709179338420:True:=trivial
theorem tw17782479574595965210:True:=trivial
theorem tw15077419132090731016:True:=trivial
theorem tw2020207150417141648:True:=trivial
theorem tw3131394657997503218:True:=trivial
theorem tw11652078976934780385:True:=trivial
theorem tw5810495406309161596:True:=trivial
theorem tw13365296750665700622:True:=trivial
theorem tw2518565325429164616:True:=trivial
theorem tw12753265648549127630:True:=trivial
theorem tw11413724551276577828:True:=trivial
theorem tw7923681091072418486:True:=trivial
theorem tw13458459320465889997:True:=trivial
theorem tw10534643837238401916:True:=trivial
theorem tw5543822964111098957:True:=trivial
theorem tw1358879344224920361:True:=trivial
theorem tw16505820309318086358:True:=trivial
theorem tw12466592276858051921:True:=trivial
theorem tw9588828291587402009:True:=trivial
theorem tw855695616176769442:True:=trivial
theorem tw14089120291788994759:True:=trivial
theorem tw4746046345750821794:True:=trivial
theorem tw15415404501155129594:True:=trivial
theorem tw8281534001710391379:True:=trivial
theorem tw7004718365234870481:True:=trivial
theorem tw17126058344154960249:True:=trivial
theorem tw4242758654047128462:True:=trivial
theorem tw2115100913490639258:True:=trivial
theorem tw11573697482838378387:True:=trivial
theorem tw5773814179920926154:True:=trivial
theorem tw12899058394762307946:True:=trivial
theorem tw13527294493115016956:True:=trivial
theorem tw16212515792487901120:True:=trivial
theorem tw6123918457699187579:True:=trivial
theorem tw2579195240874891772:True:=trivial
theorem tw2515805405742409369:True:=trivial
theorem tw14569412928213906744:True:=trivial
theorem tw5197127062465549233:True:=trivial
theorem tw13726954692314969837:True:=trivial
theorem tw1282966869269162984:True:=trivial
theorem tw1036755990309596789:True:=trivial
theorem tw10773795628196523955:True:=trivial
theorem tw4321557785377373089:True:=trivial
theorem tw1562275226936340528:True:=trivial
theorem tw17303398322123447424:True:=trivial
theorem tw14542929921306743516:True:=trivial
theorem tw10466797061384871699:True:=trivial
theorem tw10016268479992859451:True:=trivial
theorem tw1187864614787212061:True:=trivial
theorem tw9973795110876249801:True:=trivial
theorem tw12293153812027804405:True:=trivial
theorem tw15260137774762880363:True:=trivial
theorem tw1814872677869193216:True:=trivial
theorem tw17201385421721032679:True:=trivial
theorem tw10037291964610457672:True:=trivial
end PySem.W.Fast
namespace L2
open PySem PySem.Spec PyProof.Rows
variable{C a b:Addr}{A:Around}{op:CmpOp}{c e tg:Expr}{fd:FuncData}{base h h':Heap}{pins:List (Addr×Obj)}{ch fp:List Addr}{es:List Expr}{N ps:List Str}{us:List Value}{M:Model}{i t':Nat}{p pos:Pos}{P prog:Program}{K:PySem.W.Frag}{s:Shared}{x:Str}{mg:Str->Option Value}{u:Value}{E:Value->Shared->Prop}{f:Value->Value->Sem Value}{w:World}
set_option genInjectivity true in
inductive Kx where
 |bl (b:Bool)|int (i:Int)|str (x:Str)|tup (ks:List Kx)
inductive Sh where
 |bl|int|str|tup (ss:List Sh)|many (s:Sh)
noncomputable instance:DecidableEq Kx:=fun _ _=>Classical.propDecidable _
mutual
noncomputable def Kx.depth:Kx->Nat
 |.tup ks=>Kx.depths ks+1
 |_=>0
noncomputable def Kx.depths:List Kx->Nat
 |[]=>0
 |k::ks=>max k.depth (Kx.depths ks)
end
mutual
def Conf:Kx->Sh->Prop
 |.bl _,.bl=>True
 |.int _,.int=>True
 |.str _,.str=>True
 |.tup ks,.tup ss=>Confs ks ss
 |.tup ks,.many s=>ConfM ks s
 |_,_=>False
def Confs:List Kx->List Sh->Prop
 |[],[]=>True
 |k::ks,s::ss=>Conf k s/\Confs ks ss
 |_,_=>False
def ConfM:List Kx->Sh->Prop
 |[],_=>True
 |k::ks,s=>Conf k s/\ConfM ks s
end
mutual
def KIs(h:Heap):Kx->Value->Prop
 |.bl b,v=>v=.bool b
 |.int i,v=>∃t,v=.int i t
 |.str x,v=>∃t,v=.str x t
 |.tup ks,v=>∃a o items n,v=.ref a/\h.get? a=some o/\o.cls=.type "tuple" /\ o.data=.seq items n/\KAre h ks items.toList
def KAre(h:Heap):List Kx->List Value->Prop
 |[],vs=>vs=[]
 |k::ks,vs=>∃v r,vs=v::r/\KIs h k v/\KAre h ks r
end
mutual
theorem x54{h:Heap}:∀(k k':Kx){v:Value},KIs h k v->KIs h k' v->k=k'
 |.bl b,k',v,x,y=>by
  cases(show v=.bool b from x);cases k' with
  |bl c=>cases(show Value.bool b=.bool c from y);rfl
  |int i=>obtain⟨t,e⟩:=y;cases e
  |str i=>obtain⟨t,e⟩:=y;cases e
  |tup ks=>obtain⟨_,_,_,_,e,_⟩:=y;cases e
 |.int b,k',v,x,y=>by
  obtain⟨t,rfl⟩:=x;cases k' with
  |bl c=>cases y
  |int i=>obtain⟨t,e⟩:=y;cases e;rfl
  |str i=>obtain⟨t,e⟩:=y;cases e
  |tup ks=>obtain⟨_,_,_,_,e,_⟩:=y;cases e
 |.str b,k',v,x,y=>by
  obtain⟨t,rfl⟩:=x;cases k' with
  |bl c=>cases y
  |int i=>obtain⟨t,e⟩:=y;cases e
  |str i=>obtain⟨t,e⟩:=y;cases e;rfl
  |tup ks=>obtain⟨_,_,_,_,e,_⟩:=y;cases e
 |.tup ks,k',v,x,y=>by
  obtain⟨a,o,it,n,rfl,h1,h2,h3,h4⟩:=x;cases k' with
  |bl c=>cases y
  |int i=>obtain⟨t,e⟩:=y;cases e
  |str i=>obtain⟨t,e⟩:=y;cases e
  |tup ks'=>
   obtain⟨a',o',it',n',e,g1,g2,g3,g4⟩:=y;cases e;rw[h1]at g1;cases g1;rw[h3]at g3;injection g3 with e1 _
   subst e1;rw[q94 ks ks' h4 g4]
theorem q94{h:Heap}:∀(ks ks':List Kx){vs:List Value},KAre h ks vs->KAre h ks' vs->ks=ks'
 |[],ks',vs,x,y=>by
  cases(show vs=[]from x);cases ks' with
  |nil=>rfl
  |cons k ks'=>obtain⟨v,r,e,_⟩:=y;cases e
 |k::ks,ks',vs,x,y=>by
  obtain⟨v,r,rfl,h1,h2⟩:=x;cases ks' with
  |nil=>cases(show v::r=[]from y)
  |cons k' ks'=>
   obtain⟨v',r',e,g1,g2⟩:=y;cases e;rw[x54 k k' h1 g1,q94 ks ks' h2 g2]
end
mutual
theorem x15{h h':Heap}(hk:∀a o,h.get? a=some o->o.cls=.type "tuple"->(∃it n,o.data=.seq it n)->h'.get? a=some o):∀(k:Kx){v:Value},KIs h k v->KIs h' k v
 |.bl b,v,x=>x
 |.int b,v,x=>x
 |.str b,v,x=>x
 |.tup ks,v,x=>by
  obtain⟨a,o,it,n,rfl,h1,h2,h3,h4⟩:=x;exact⟨a,o,it,n,rfl,hk a o h1 h2 ⟨it,n,h3⟩,h2,h3,x0p hk ks h4⟩
theorem x0p{h h':Heap}(hk:∀a o,h.get? a=some o->o.cls=.type "tuple"->(∃it n,o.data=.seq it n)->h'.get? a=some o):∀(ks:List Kx){vs:List Value},KAre h ks vs->KAre h' ks vs
 |[],vs,x=>x
 |k::ks,vs,x=>by
  obtain⟨v,r,rfl,h1,h2⟩:=x;exact⟨v,r,rfl,x15 hk k h1,x0p hk ks h2⟩
end
theorem KAre.length:∀(ks:List Kx){vs:List Value},KAre h ks vs->vs.length=ks.length
 |[],vs,x=>by cases(show vs=[]from x);rfl
 |k::ks,vs,x=>by
  obtain⟨v,r,rfl,h1,h2⟩:=x;rw[w0j,w0j,KAre.length ks h2]
mutual
noncomputable def kHash(w:World):Kx->Int
 |.bl b=>reduceHash (if b=true then 1 else 0)
 |.int i=>hashInt i
 |.str x=>hashStr w x
 |.tup ks=>reduceHash (Builtin.Tuple.tupleHashOf (kHashes w ks))
noncomputable def kHashes(w:World):List Kx->List Int
 |[]=>[]
 |k::ks=>kHash w k::kHashes w ks
end
mutual
noncomputable def kDraws:Kx->Nat
 |.tup ks=>kDrawss ks+1
 |_=>1
noncomputable def kDrawss:List Kx->Nat
 |[]=>0
 |k::ks=>kDraws k+kDrawss ks
end
mutual
theorem x55:∀(k:Kx)(v:Value)(A:Around)(s:Shared)(Q:Int->Shared->Prop),KIs s.heap k v->A.units+k.depth<cLine->Q (kHash w k) {s with toks:=s.toks+kDraws k}->wpAny (model prog w) A (pyHash v) Q E s
 |.bl b,v,A,s,Q,x,hu,h=>by
  cases(show v=.bool b from x);refine PySem.W.pyHash_slot (T:="bool") rfl F.slot_bool_hash entry_int_hash (args_int_hash _) (beq_builtin_none _) (.inr (by omega)) ?_;cases b
  ·exact(show wpAny _ _ (do ret (<- mkInt 0)) _ _ s from wpAny_bind (wpAny_mkInt (wpAny_pure ⟨_,_,rfl,h⟩)))
  ·exact(show wpAny _ _ (do ret (<- mkInt 1)) _ _ s from wpAny_bind (wpAny_mkInt (wpAny_pure ⟨_,_,rfl,h⟩)))
 |.int i,v,A,s,Q,x,hu,h=>by
  obtain⟨t,rfl⟩:=x;exact wpAny_pyHash_int h
 |.str i,v,A,s,Q,x,hu,h=>by
  obtain⟨t,rfl⟩:=x;exact wpAny_pyHash_str h
 |.tup ks,v,A,s,Q,x,hu,h=>by
  obtain⟨a,o,it,n,rfl,h1,h2,h3,h4⟩:=x;refine PySem.W.pyHash_slot (T:="tuple") ⟨_,h1,h2⟩ F.slot_tuple_hash F.entry_tuple_hash (F.args_tuple_hash_1 _) (beq_builtin_none _) (.inr (by omega)) ?_;show wpAny _ _ (Builtin.Tuple.tupleItemsOf (.ref a) >>= _) _ _ s;refine wpAny_bind (wpAny_tupleItemsOf h1 h3 ?_);refine wpAny_bind ?_;rw[<- w4f];refine x16 ks it.toList A.in1 s #[] _ h4 (by simp only[Kx.depth,Around.in1_units]at hu |-;omega) fun b hb=>?_
  show wpAny _ _ (retInt (Builtin.Tuple.tupleHashOf b.toList)) _ _ _;rw[hb];exact wpAny_bind (wpAny_mkInt (wpAny_pure ⟨_,_,rfl,by simpa [kHash,kDraws,Nat.add_assoc]using h⟩))
theorem x16:∀(ks:List Kx)(vs:List Value)(A:Around)(s:Shared)(b:Array Int)(Q:Array Int->Shared->Prop),KAre s.heap ks vs->A.units+Kx.depths ks<cLine ->
  (∀b',b'.toList=b.toList++kHashes w ks->Q b' {s with toks:=s.toks+kDrawss ks}) ->
  wpAny (model prog w) A (forIn vs b fun x r=>do let h <- pyHash x;pure PUnit.unit;pure (ForInStep.yield (r.push h))) Q E s
 |[],vs,A,s,b,Q,x,hu,h=>by
  cases(show vs=[]from x);exact wpAny_pure (h b (by simp[kHashes]))
 |k::ks,vs,A,s,b,Q,x,hu,h=>by
  obtain⟨v,r,rfl,h1,h2⟩:=x;simp only[Kx.depths]at hu;rw[w3q];refine wpAny_bind (wpAny_bind (x55 k v A s _ h1 (by omega) ?_));refine wpAny_bind (wpAny_pure (wpAny_pure ?_))
  exact x16 ks r A _ _ Q h2 (by omega) fun b' hb=>by
   have:=h b' (by simp[hb,kHashes])
   simpa [kDrawss,Nat.add_assoc]using this
end
theorem y4b(a b:Bool):decide (Kx.bl a=Kx.bl b)=(a==b):=by
 by_cases e:a=b
 ·subst e;simp
 ·rw[decide_eq_false (fun z=>e (by injection z))];exact(beq_eq_false_iff_ne.mpr e).symm
theorem y08(a b:Int):decide (Kx.int a=Kx.int b)=(a==b):=by
 by_cases e:a=b
 ·subst e;simp
 ·rw[decide_eq_false (fun z=>e (by injection z))];exact(beq_eq_false_iff_ne.mpr e).symm
theorem y09(a b:Str):decide (Kx.str a=Kx.str b)=(a==b):=by
 by_cases e:a=b
 ·subst e;simp
 ·rw[decide_eq_false (fun z=>e (by injection z))];exact(beq_eq_false_iff_ne.mpr e).symm
noncomputable def sameAt(ks ks':List Kx)(j:Nat):Bool:=decide (ks[j]?=ks'[j]?)
theorem y1a:∀ks ks':List Kx,((List.range (min ks.length ks'.length)).all (sameAt ks ks')&&ks.length==ks'.length)=decide (Kx.tup ks=Kx.tup ks'):=by
 intro ks ks'
 by_cases e:ks=ks'
 ·subst e;rw[decide_eq_true rfl];simp[sameAt]
 ·rw[decide_eq_false (fun z=>e (by injection z))]
  rw[w3a]
  by_cases hl:ks.length=ks'.length
  ·left
   rw[w1z];intro ha;refine e (List.ext_getElem? fun j=>?_)
   by_cases hj:j<ks.length
   ·have:=w1g.mp ha j (w1d.mpr (by omega));exact of_decide_eq_true this
   ·rw[w1o (by omega),w1o (by omega)]
  ·right
   simpa using hl
theorem q7m:∀(ks:List Kx){vs:List Value},KAre h ks vs->∀(j:Nat)(v:Value),vs[j]?=some v->∃k,ks[j]?=some k/\KIs h k v
 |[],vs,x,j,v,e=>by cases(show vs=[]from x);simp at e
 |k::ks,vs,x,j,v,e=>by
  obtain⟨u,r,rfl,h1,h2⟩:=x;cases j with
  |zero=>cases e;exact⟨k,rfl,h1⟩
  |succ j=>exact q7m ks h2 j v (by simpa using e)
theorem q8g:∀(ks:List Kx)(j:Nat)(k:Kx),ks[j]?=some k->k.depth<=Kx.depths ks
 |[],j,k,e=>by simp at e
 |x::ks,j,k,e=>by
  simp only[Kx.depths];cases j with
  |zero=>cases e;omega
  |succ j=>have:=q8g ks j k (by simpa using e);omega
theorem q8h:∀(ks:List Kx)(ss:List Sh),Confs ks ss->∀(j:Nat)(k:Kx),ks[j]?=some k->∃s,ss[j]?=some s/\Conf k s
 |[],ss,_,j,k,e=>by simp at e
 |x::ks,[],c,j,k,e=>c.elim
 |x::ks,s::ss,c,j,k,e=>by
  cases j with
  |zero=>cases e;exact⟨s,rfl,c.1⟩
  |succ j=>exact q8h ks ss c.2 j k (by simpa using e)
theorem q8i:∀(ks:List Kx)(s:Sh),ConfM ks s->∀(j:Nat)(k:Kx),ks[j]?=some k->Conf k s
 |[],s,_,j,k,e=>by simp at e
 |x::ks,s,c,j,k,e=>by
  cases j with
  |zero=>cases e;exact c.1
  |succ j=>exact q8i ks s c.2 j k (by simpa using e)
theorem z2e(s:Shared):∀(n:Nat)(k k':Kx)(sh:Sh)(v v':Value)(A:Around),k.depth<=n->Conf k sh->Conf k' sh->KIs s.heap k v->KIs s.heap k' v'->A.units+n<cLine->SeqAt.EqAt A s v v' (decide (k=k')):=by
 intro n
 induction n with
 |zero=>
  intro k k' sh v v' A hd c c' x y hu;cases k with
  |bl a=>
   cases sh with
   |bl=>
    cases k' with
    |bl b=>cases(show v=.bool a from x);cases(show v'=.bool b from y);rw[y4b];exact .bool_bool a b
    |_=>exact c'.elim
   |_=>exact c.elim
  |int a=>
   cases sh with
   |int=>
    cases k' with
    |int b=>obtain⟨t,rfl⟩:=x;obtain⟨u,rfl⟩:=y;rw[y08];exact .int_int a t b u
    |_=>exact c'.elim
   |_=>exact c.elim
  |str a=>
   cases sh with
   |str=>
    cases k' with
    |str b=>obtain⟨t,rfl⟩:=x;obtain⟨u,rfl⟩:=y;rw[y09];exact .str_str a t b u
    |_=>exact c'.elim
   |_=>exact c.elim
  |tup ks=>simp only[Kx.depth]at hd;omega
 |succ n ih=>
  intro k k' sh v v' A hd c c' x y hu;cases k with
  |bl a=>exact ih (.bl a) k' sh v v' A (w1l _) c c' x y (by omega)
  |int a=>exact ih (.int a) k' sh v v' A (w1l _) c c' x y (by omega)
  |str a=>exact ih (.str a) k' sh v v' A (w1l _) c c' x y (by omega)
  |tup ks=>
   obtain⟨a,o,it,m,rfl,h1,h2,h3,h4⟩:=x
   have tail:∀ks',k'=.tup ks'->(∀(j:Nat)(u u':Kx),ks[j]?=some u->ks'[j]?=some u'->∃s,Conf u s/\Conf u' s)->SeqAt.EqAt A s (.ref a) v' (decide (Kx.tup ks=k')):=by
    rintro ks' rfl hc;obtain⟨b,o',it',m',rfl,g1,g2,g3,g4⟩:=y
    by_cases hab:a=b
    ·subst hab;rw[h1]at g1;cases g1;rw[h3]at g3;injection g3 with e1 _
     subst e1;rw[q94 ks ks' h4 g4,decide_eq_true rfl];exact .same _
    ·have l1:=KAre.length ks h4;have l2:=KAre.length ks' g4;rw[<- y1a]
     have:=SeqAt.RcAt.tuples (A:=A) (s:=s) (e:=sameAt ks ks') (show s.heap.IsTuple a it from⟨o,h1,h2,m,h3⟩) (show s.heap.IsTuple b it' from⟨o',g1,g2,m',g3⟩) (by omega) (fun j j1 j2=>by
      obtain⟨u,u1,u2⟩:=q7m ks h4 j it[j] (by simp[j1]);obtain⟨u',u1',u2'⟩:=q7m ks' g4 j it'[j] (by simp[j2]);obtain⟨sh',c1,c2⟩:=hc j u u' u1 u1';have hdj:=q8g ks j u u1;simp only[Kx.depth]at hd;have z:=ih u u' sh' _ _ A.in1 (by omega) c1 c2 u2 u2' (by rw[Around.in1_units];omega)
      have e:sameAt ks ks' j=decide (u=u'):=by
       unfold sameAt;rw[u1,u1']
       by_cases q:u=u'
       ·rw[q];simp
       ·rw[decide_eq_false q,decide_eq_false (fun z=>q (Option.some.inj z))]
      rw[e];exact z)
     rw[show it.size=ks.length by simpa using l1,show it'.size=ks'.length by simpa using l2]at this;exact .of_refs hab this
   cases sh with
   |tup ss=>
    cases k' with
    |tup ks'=>
     refine tail ks' rfl fun j u u' e1 e2=>?_
     obtain⟨s1,q1,q2⟩:=q8h ks ss c j u e1;obtain⟨s2,q3,q4⟩:=q8h ks' ss c' j u' e2;rw[q1]at q3;cases q3;exact⟨s1,q2,q4⟩
    |_=>exact c'.elim
   |many s1=>
    cases k' with
    |tup ks'=>exact tail ks' rfl fun j u u' e1 e2=>⟨s1,q8i ks s1 c j u e1,q8i ks' s1 c' j u' e2⟩
    |_=>exact c'.elim
   |_=>exact c.elim
theorem y1b:∀(n:Nat)(k:Kx)(v:Value)(s:Shared)(Q:Bool->Shared->Prop),k.depth<=n->KIs s.heap k v->Q true s->wpAny (model prog w) A (eqIsQuiet n v) Q E s:=by
 intro n
 induction n with
 |zero=>
  intro k v s Q hd x h;cases k with
  |bl b=>cases(show v=.bool b from x);rw[eqIsQuiet_byValue _ rfl];exact wpAny_pure h
  |int i=>obtain⟨t,rfl⟩:=x;rw[eqIsQuiet_byValue _ rfl];exact wpAny_pure h
  |str i=>obtain⟨t,rfl⟩:=x;rw[eqIsQuiet_byValue _ rfl];exact wpAny_pure h
  |tup ks=>simp only[Kx.depth]at hd;omega
 |succ n ih=>
  intro k v s Q hd x h;cases k with
  |bl b=>cases(show v=.bool b from x);rw[eqIsQuiet_byValue _ rfl];exact wpAny_pure h
  |int i=>obtain⟨t,rfl⟩:=x;rw[eqIsQuiet_byValue _ rfl];exact wpAny_pure h
  |str i=>obtain⟨t,rfl⟩:=x;rw[eqIsQuiet_byValue _ rfl];exact wpAny_pure h
  |tup ks=>
   obtain⟨a,o,it,m,rfl,h1,h2,h3,h4⟩:=x;have hT:s.TypeIs (.ref a) "tuple":=⟨o,h1,h2⟩;unfold eqIsQuiet;refine wpAny_bind (wpAny_specialOf hT F.slot_tuple_eq.lookup ?_);show wpAny _ _ (isInstance (.ref a) (.type "tuple") >>= _) _ _ s;refine wpAny_bind (wpAny_isInstance hT isSubtype_tuple_tuple ?_);simp only[w4g,w2h,if_false];refine wpAny_bind (wpAny_seqItems h1 h3 ?_);refine wpAny_bind ?_;show wpAny _ _ (forIn it _ _) _ _ s;rw[<- w4f];refine wpAny_forIn_list _ (fun rest r s'=>r.1=none/\s'=s/\∀v∈rest,∃k:Kx,k.depth<=n/\KIs s.heap k v) _ ?_ ?_ _ _ ⟨rfl,rfl,fun v hv=>?_⟩
   ·rintro v rest r s' ⟨hr,rfl,hall⟩;obtain⟨k,k1,k2⟩:=hall v w1j;refine wpAny_bind (ih k v _ _ k1 k2 ?_);simp only[w4g,w2h,if_false];exact wpAny_pure ⟨rfl,rfl,fun u hu'=>hall u (w0x _ hu')⟩
   ·rintro⟨r1,r2⟩ s' ⟨hr,rfl,_⟩;simp only at hr;subst hr;exact wpAny_pure h
   ·obtain⟨j,hj,e⟩:=List.mem_iff_getElem.mp hv;obtain⟨k,k1,k2⟩:=q7m ks h4 j v (by rw[w0b hj,e]);have:=q8g ks j k k1;simp only[Kx.depth]at hd;exact⟨k,by omega,k2⟩
noncomputable def treeKind(prog:Program)(w:World)(sh:Sh):HeapKind prog w Kx where
 is:=fun h k a=>KIs h k (.ref a)/\Conf k sh/\k.depth<=7
 hash:=kHash w
 draws:=kDraws
 room:=fun A=>A.units+8<cLine
 inj:=fun hx hy=>x54 _ _ hx.1 hy.1
 keeps:=fun {h h' k a d o es ep} x ho hd hs=>⟨x15 (fun b ob e1 e2 e3=>by
  have hne:b≠d:=by
   rintro rfl;rw[ho]at e1;cases e1;obtain⟨it,n,e⟩:=e3;rw[hd]at e;cases e
  exact(hs.2 b hne).trans e1) _ x.1,x.2⟩
 pyHash:=fun {A E s k a Q} hu hk h=>x55 k _ A s Q hk.1 (by have:=hk.2.2;omega) h
 eqBool:=fun {A E s x y a b Q} hu hx hy h=>z2e s 7 x y sh _ _ A hx.2.2 hx.2.1 hy.2.1 hx.1 hy.1 (by omega) prog w E Q h
 quiet:=fun {A E s k a Q} hk h=>y1b 8 k _ s Q (by have:=hk.2.2;omega) hk.1 h
set_option Elab.async false
set_option linter.all false
set_option maxRecDepth 100000
noncomputable abbrev Key:=Sum Int Str
noncomputable def keyIs:Key->Value->Bool
 |.inl k,v=>Value.isInt k v
 |.inr x,v=>Value.isStrOf x v
noncomputable def keyH(w:World):Key->Int
 |.inl k=>hashInt k
 |.inr x=>hashStr w x
theorem q2b:∀{k:Key}{v:Value},keyIs k v=true->(∃i t,k=Sum.inl i/\v=Value.int i t)\/(∃x t,k=Sum.inr x/\v=Value.str x t)
 |.inl i,v,h=>by
  obtain⟨t,e⟩:=Value.isInt_shape (k:=i) (v:=v) h;exact .inl ⟨i,t,rfl,e⟩
 |.inr x,v,h=>by
  obtain⟨t,e⟩:=Value.isStrOf_shape (x:=x) (v:=v) h;exact .inr ⟨x,t,rfl,e⟩
theorem x8g(i:Int)(t:Tok):keyIs (.inl i) (.int i t)=true:=by simp[keyIs,Value.isInt]
theorem x8h(x:Str)(t:Tok):keyIs (.inr x) (.str x t)=true:=by simp[keyIs,Value.isStrOf]
theorem y75(a b:Int):decide ((Sum.inl a:Key)=Sum.inl b)=(a==b):=by
 by_cases e:a=b
 ·subst e;simp
 ·have h:¬(Sum.inl a:Key)=Sum.inl b:=fun q=>e (Sum.inl.inj q)
  rw[decide_eq_false h];exact(beq_eq_false_iff_ne.mpr e).symm
theorem y76(a b:Str):decide ((Sum.inr a:Key)=Sum.inr b)=decide (a=b):=by
 by_cases e:a=b
 ·subst e;simp
 ·have h:¬(Sum.inr a:Key)=Sum.inr b:=fun q=>e (Sum.inr.inj q)
  rw[decide_eq_false h,decide_eq_false e]
theorem y77(a:Int)(b:Str):decide ((Sum.inl a:Key)=Sum.inr b)=false:=decide_eq_false (fun q=>nomatch q)
theorem y78(a:Str)(b:Int):decide ((Sum.inr a:Key)=Sum.inl b)=false:=decide_eq_false (fun q=>nomatch q)
noncomputable def mixKind(prog:Program)(w:World):PySem.KeyKind prog w Key where
 is:=keyIs
 hash:=keyH w
 inj:=fun v a b ha hb=>by
  rcases q2b ha with⟨i,t,rfl,rfl⟩|⟨x,t,rfl,rfl⟩
  ·rcases q2b hb with⟨j,u,rfl,e⟩|⟨y,u,rfl,e⟩
   ·injection e with e1 _;rw[e1]
   ·exact nomatch e
  ·rcases q2b hb with⟨j,u,rfl,e⟩|⟨y,u,rfl,e⟩
   ·exact nomatch e
   ·injection e with e1 _;rw[e1]
 byValue:=fun k v h=>by
  rcases q2b h with⟨i,t,rfl,rfl⟩|⟨x,t,rfl,rfl⟩<;>rfl
 pyHash:=fun hv h=>by
  rcases q2b hv with⟨i,t,rfl,rfl⟩|⟨x,t,rfl,rfl⟩
  ·exact wpAny_pyHash_int h
  ·exact wpAny_pyHash_str h
 eqBool:=fun hu hv h=>by
  rcases q2b hu with⟨i,t,rfl,rfl⟩|⟨x,t,rfl,rfl⟩
  ·rcases q2b hv with⟨j,u,rfl,rfl⟩|⟨y,u,rfl,rfl⟩
   ·rw[y75]at h;exact wpAny_eqBool_int h
   ·rw[y77]at h;exact SeqAt.EqAt.int_str i t y u _ _ _ _ h
  ·rcases q2b hv with⟨j,u,rfl,rfl⟩|⟨y,u,rfl,rfl⟩
   ·rw[y78]at h;exact SeqAt.EqAt.str_int x t j u _ _ _ _ h
   ·rw[y76]at h;exact wpAny_eqBool_str h
 «strs»:=fun k x t v h=>by
  rcases q2b h with⟨i,u,rfl,e⟩|⟨y,u,rfl,e⟩
  ·exact nomatch e
  ·injection e with e1 _
   subst e1;cases v<;>rfl
theorem x5j(prog:Program)(w:World)(i:Int)(t:Tok):(mixKind prog w).is (.inl i) (.int i t)=true:=x8g i t
theorem x5k(prog:Program)(w:World)(x:Str)(t:Tok):(mixKind prog w).is (.inr x) (.str x t)=true:=x8h x t
set_option genInjectivity true in
inductive V where
 |non|bl (b:Bool)|int (i:Int)|str (x:Str)|byt (b:Array UInt8)|flt (b:UInt64)|ref (a:Addr)|ty (n:String)
 deriving DecidableEq
variable{xs:List V}{v:V}
def RelV:V->Value->Prop
 |.non,u=>u=Value.none
 |.bl b,u=>u=Value.bool b
 |.int i,u=>∃t,u=Value.int i t
 |.str x,u=>∃t,u=Value.str x t
 |.byt b,u=>∃t,u=Value.bytes b t
 |.flt b,u=>∃t,u=Value.float b t
 |.ref a,u=>u=Value.ref a
 |.ty n,u=>u=Value.type n
abbrev Vals:List V->List Value->Prop:=Paired RelV
theorem Vals.length(r:Vals xs us):xs.length=us.length:=Paired.length r
theorem Vals.get:∀{xs:List V}{us:List Value}{i:Nat}{x:V},Vals xs us->xs[i]?=some x->∃u,us[i]?=some u/\RelV x u
 |_,_,_,_,.nil,e=>by simp at e
 |_,_,0,_,.cons r _,e=>by simp at e;subst e;exact⟨_,rfl,r⟩
 |_,_,i+1,x,.cons _ t,e=>by
  obtain⟨u,h1,h2⟩:=Vals.get (i:=i) (x:=x) t (by simpa using e);exact⟨u,by simpa using h1,h2⟩
theorem Vals.set{x:V}(r:RelV x u):∀{xs:List V}{us:List Value}(i:Nat),Vals xs us->Vals (xs.set i x) (us.set i u)
 |_,_,_,.nil=>.nil
 |_,_,0,.cons _ t=>.cons r t
 |_,_,i+1,.cons q t=>.cons q (Vals.set r i t)
theorem Vals.append:∀{xs ys:List V}{us ws:List Value},Vals xs us->Vals ys ws->Vals (xs++ys) (us++ws)
 |_,_,_,_,.nil,s=>s
 |_,_,_,_,.cons r t,s=>.cons r (Vals.append t s)
theorem Vals.take:∀{xs:List V}{us:List Value}(n:Nat),Vals xs us->Vals (xs.take n) (us.take n)
 |_,_,0,_=>.nil
 |_,_,_+1,.nil=>.nil
 |_,_,n+1,.cons r t=>.cons r (Vals.take n t)
theorem Vals.drop:∀{xs:List V}{us:List Value}(n:Nat),Vals xs us->Vals (xs.drop n) (us.drop n)
 |_,_,0,r=>r
 |_,_,_+1,.nil=>.nil
 |_,_,n+1,.cons _ t=>Vals.drop n t
def RelO:Option V->Option Value->Prop
 |some v,some u=>RelV v u
 |none,none=>True
 |_,_=>False
def KV{κ:Type}:List (κ×V)->List (κ×Value)->Prop:=Paired fun(p:κ×V) (q:κ×Value)=>p.1=q.1/\RelV p.2 q.2
noncomputable def kV:Key->V
 |.inl i=>.int i
 |.inr x=>.str x
inductive HO where
 /-- a list -/
 |lst (xs:List V)
 /-- a tuple (never changes) -/
 |tup (xs:List V)
 /-- a dict whose keys are ints and texts;one whose keys are tuples of ints and texts (the empty one is both) -/
 |dK (kvs:List (Key×V))|dT (sh:Sh) (kvs:List (Kx×V)) (kas:List Addr)
 /-- a set of ints: its members,its size -/
 |set (S:Int->Bool) (n:Nat)
 /-- an instance of the class at C,its dict at dx,its attributes -/
 |ins (C dx:Addr) (fs:List (Str×V))
 /-- the dict of the instance at x -/
 |own (x:Addr)
 /-- the dict of an exception -/
 |xd (fs:List (Str×V))
 /-- a bound method,f of x -/
 |met (f x:Addr)
 /-- a range object lo,lo+1,.. below hi -/
 |rng (lo hi:Int)
 /-- a thing that is known to the object (the script;a dict while a loop walks it): read,never written while it is so -/
 |frz (o:Obj) (u:HO)
 /-- a code object's table -/
 |tbl (ps:Array Value)
 /-- any other thing,by what is true of its one object (a def of one's own: SetO a S n:=HO.ext fun h=>..) -/
 |ext (φ:Heap->Prop)
noncomputable abbrev Hp:=Addr->Option HO
variable{H H':Hp}
def TupLike:HO->Prop
 |.tup _=>True
 |.frz _ (.tup _)=>True
 |.frz _ (.own _)=>True
 |_=>False
mutual
def KRep(H:Hp):Kx->V->Prop
 |.bl b,v=>v=.bl b
 |.int i,v=>v=.int i
 |.str x,v=>v=.str x
 |.tup ks,v=>∃a xs,v=.ref a/\(H a=some (.tup xs)\/∃o,H a=some (.frz o (.tup xs)))/\KReps H ks xs
def KReps(H:Hp):List Kx->List V->Prop
 |[],vs=>vs=[]
 |k::ks,vs=>∃v r,vs=v::r/\KRep H k v/\KReps H ks r
end
mutual
theorem KRep.keeps{H H':Hp}(ht:∀b u,TupLike u->H b=some u->H' b=some u):∀(k:Kx){v:V},KRep H k v->KRep H' k v
 |.bl _,_,x=>x
 |.int _,_,x=>x
 |.str _,_,x=>x
 |.tup ks,_,x=>by
  obtain⟨a,xs,e,q,r⟩:=x;refine⟨a,xs,e,?_,KReps.keeps ht ks r⟩;rcases q with q|⟨o,q⟩
  ·exact .inl (ht _ _ True.intro q)
  ·exact .inr ⟨o,ht _ _ True.intro q⟩
theorem KReps.keeps{H H':Hp}(ht:∀b u,TupLike u->H b=some u->H' b=some u):∀(ks:List Kx){vs:List V},KReps H ks vs->KReps H' ks vs
 |[],_,x=>x
 |k::ks,_,x=>by
  obtain⟨v,r,e,h1,h2⟩:=x;exact⟨v,r,e,KRep.keeps ht k h1,KReps.keeps ht ks h2⟩
end
noncomputable def upd(H:Hp)(a:Addr)(o:HO):Hp:=fun b=>if b=a then some o else H b
theorem q0o{o:HO}:upd H a o a=some o:=by unfold upd;rw[if_pos rfl]
theorem q0f{o:HO}(h:b≠a):upd H a o b=H b:=by unfold upd;rw[if_neg h]
theorem q00{o u:HO}(h:H a=some o)(h':H b=some u)(d:o≠u):a≠b:=by
 intro e;subst e;rw[h]at h';exact d (Option.some.inj h')
theorem q0r{o:HO}(h:H a=some o)(h':H b=none):a≠b:=by
 intro e;subst e;rw[h]at h';cases h'
section
variable(P:Program)(w:World)
def BareT(h:Heap)(a:Addr):Prop:=∃o,h.get? a=some o/\o.dict=none
def ObjOk(H:Hp)(h:Heap)(a:Addr):HO->Prop
 |.lst xs=>xs.length<=sizeLine/\∃(its:List Value)(n:Nat),Vals xs its/\h.get? a=some {cls:=.type "list", data:=.seq its.toArray n}
 |.tup xs=>xs.length<=sizeLine/\∃its:List Value,Vals xs its/\IsTup h a its.toArray/\BareT h a
 |.dK kvs=>kvs.length<=sizeLine/\(a==sysModules)=false/\∃vs,KV kvs vs/\h.DictOf (mixKind P w) a vs
 |.dT sh kvs kas=>kvs.length<=sizeLine/\(a==sysModules)=false/\∃xs:List (Kx×Addr×Value),
   Paired (fun(p:Kx×V) (q:Kx×Addr×Value)=>p.1=q.1/\(KRep H p.1 (.ref q.2.1)/\Conf p.1 sh/\p.1.depth<=7)/\RelV p.2 q.2.2) kvs xs/\xs.map (·.2.1)=kas /\
   ∃o es ep,h.get? a=some o/\o.ExactDict/\o.data=.dict es ep/\es.toList=xs.map (entryOfKey (treeKind P w sh))/\(xs.map (·.1)).Nodup
 |.set S n=>h.SetOf (intKind P w) a S n
 |.ins C dx fs=>H dx=some (.own a)/\fs.length<=1000/\dx≠a/\h.get? a=some (PySem.W.instObj C dx) /\
   ∃mA,h.Ns1 dx mA/\(∀f,RelO (fs.lookup f) (mA f))/\PySem.Within mA (fs.map (·.1))
 |.own _=>∃o,h.get? a=some o
 |.xd fs=>∃mA,h.Ns1 a mA/\∀f,RelO (fs.lookup f) (mA f)
 |.rng lo hi=>∃t u v,h.get? a=some {cls:=.type "range", data:=.fields #[.int lo t,.int hi u,.int 1 v]}
 |.frz o u=>h.get? a=some o/\ObjOk H h a u
 |.tbl ps=>(∃(q:Str)(qs:Array Value),ps[0]?=some (.bool true)/\ps[1]?=some (.str q 0)/\h.get? a=some {cls:=.none,data:=.fields qs}/\TriplesOk qs.toList/\∀(pos:Pos)(cv:Value),codeAmong pos qs.toList=some cv ->
   ∃(c:Addr)(oc:Obj)(vs:Array Value)(t:Tok),cv=.ref c/\H c=some (.frz oc (.own 0))/\oc.data=.fields vs/\vs[1]?=some (.str q t)) \/
   ∃(q:Str)(c:Addr)(oc ob:Obj)(vs:Array Value)(t:Tok),ps[0]?=some (.bool false)/\ps[1]?=some (.str q 0)/\ps[2]?=some (.ref c)/\H c=some (.frz oc (.own 0))/\oc.data=.fields vs/\vs[1]?=some (.str q t)/\h.get? a=some ob
 |.met f x=>h.get? a=some (methodObj (.ref f) (.ref x))
 |.ext φ=>φ h/\(∃o,h.get? a=some o)/\∀h1 h2:Heap,φ h1->(∀o,h1.get? a=some o->h2.get? a=some o)->φ h2
def HOk(H:Hp)(h:Heap):Prop:=∀a o,H a=some o->ObjOk P w H h a o
end
section
variable{o:HO}
theorem ObjOk.lt(x:ObjOk P w H h a o):a<h.objs.size:=by
 cases o with
 |lst xs=>obtain⟨_,_,_,_,e⟩:=x;exact Heap.lt_size e
 |tup xs=>obtain⟨_,_,_,p,_⟩:=x;exact p.lt
 |dK kvs=>obtain⟨_,_,_,_,o,_,_,e,_⟩:=x;exact Heap.lt_size e
 |dT sh kvs kas=>obtain⟨_,_,_,_,_,o,_,_,e,_⟩:=x;exact Heap.lt_size e
 |set S n=>obtain⟨o,_,_,_,e,_⟩:=x;exact Heap.lt_size e
 |ins C dx fs=>obtain⟨_,_,_,e,_⟩:=x;exact Heap.lt_size e
 |own y=>obtain⟨_,e⟩:=x;exact Heap.lt_size e
 |xd fs=>obtain⟨_,⟨_,_,_,e,_⟩,_⟩:=x;exact Heap.lt_size e
 |rng lo hi=>obtain⟨_,_,_,e⟩:=x;exact Heap.lt_size e
 |frz ob u=>obtain⟨e,_⟩:=x;exact Heap.lt_size e
 |tbl ps=>rcases x with⟨_,_,_,_,e,_⟩|⟨_,_,_,_,_,_,_,_,_,_,_,_,e⟩<;>exact Heap.lt_size e
 |met f y=>exact Heap.lt_size (show h.get? a=some _ from x)
 |ext φ=>obtain⟨_,⟨_,e⟩,_⟩:=x;exact Heap.lt_size e
theorem Paired.mapP{α β:Type}{F G:α->β->Prop}:∀{l₁:List α}{l₂:List β},Paired F l₁ l₂->(∀a b,F a b->G a b)->Paired G l₁ l₂
 |_,_,.nil,_=>.nil
 |_,_,.cons r t,f=>.cons (f _ _ r) (Paired.mapP t f)
theorem ObjOk.stay(x:ObjOk P w H h a o)(k:∀b u,(b=a\/H b=some (.own a))->h.get? b=some u->h'.get? b=some u)
  (ho:∀b,H b=some (.own a)->H' b=some (.own a))(ht:∀b u,TupLike u->H b=some u->H' b=some u):ObjOk P w H' h' a o:=by
 induction o with
 |lst xs=>obtain⟨z,its,n,r,e⟩:=x;exact⟨z,its,n,r,k _ _ (.inl rfl) e⟩
 |tup xs=>obtain⟨z,its,r,⟨ob,e,c⟩,⟨o2,e2,c2⟩⟩:=x;exact⟨z,its,r,⟨ob,k _ _ (.inl rfl) e,c⟩,⟨o2,k _ _ (.inl rfl) e2,c2⟩⟩
 |dK kvs=>obtain⟨z,y,vs,r,ob,es,ep,e,c⟩:=x;exact⟨z,y,vs,r,ob,es,ep,k _ _ (.inl rfl) e,c⟩
 |dT sh kvs kas=>
  obtain⟨z,y,xs,r,ka,ob,es,ep,e,c⟩:=x;exact⟨z,y,xs,Paired.mapP r fun p q z=>⟨z.1,⟨KRep.keeps ht _ z.2.1.1,z.2.1.2⟩,z.2.2⟩,ka,ob,es,ep,k _ _ (.inl rfl) e,c⟩
 |set S n=>obtain⟨ob,es,ep,t,e,c⟩:=x;exact⟨ob,es,ep,t,k _ _ (.inl rfl) e,c⟩
 |ins C dx fs=>
  obtain⟨d,z,ne,e,mA,⟨od,es,ep,e2,c⟩,r⟩:=x;exact⟨ho _ d,z,ne,k _ _ (.inl rfl) e,mA,⟨od,es,ep,k _ _ (.inr d) e2,c⟩,r⟩
 |own y=>obtain⟨ob,e⟩:=x;exact⟨ob,k _ _ (.inl rfl) e⟩
 |xd fs=>obtain⟨mA,⟨od,es,ep,e,c⟩,r⟩:=x;exact⟨mA,⟨od,es,ep,k _ _ (.inl rfl) e,c⟩,r⟩
 |rng lo hi=>obtain⟨t,u,v,e⟩:=x;exact⟨t,u,v,k _ _ (.inl rfl) e⟩
 |frz ob u ih=>obtain⟨e,q⟩:=x;exact⟨k _ _ (.inl rfl) e,ih q⟩
 |tbl ps=>
  rcases x with⟨q,qs,p0,p1,e,tr,cd⟩|⟨q,c,oc,ob,vs,t,p0,p1,p2,h3,h4,h5,e⟩
  ·refine .inl ⟨q,qs,p0,p1,k _ _ (.inl rfl) e,tr,fun pos cv z=>?_⟩
   obtain⟨c,oc,vs,t,h1,h3,h4,h5⟩:=cd pos cv z;exact⟨c,oc,vs,t,h1,ht _ _ True.intro h3,h4,h5⟩
  ·exact .inr ⟨q,c,oc,ob,vs,t,p0,p1,p2,ht _ _ True.intro h3,h4,h5,k _ _ (.inl rfl) e⟩
 |met f y=>
  have e:h.get? a=some (methodObj (.ref f) (.ref y)):=x;show h'.get? a=some (methodObj (.ref f) (.ref y));exact k a _ (.inl rfl) e
 |ext φ=>obtain⟨p,⟨o,e⟩,st⟩:=x;exact⟨st _ _ p fun o q=>k _ _ (.inl rfl) q,⟨o,k _ _ (.inl rfl) e⟩,st⟩
theorem HOk.lt(x:HOk P w H h)(e:H a=some o):a<h.objs.size:=(x a o e).lt
theorem HOk.fresh(x:HOk P w H h)(e:h.objs.size<=a):H a=none:=by
 cases q:H a with
 |none=>rfl
 |some u=>exact absurd (w0l (x.lt q) e) (w2b _)
theorem HOk.kept(x:HOk P w H h)(k:∀b u,h.get? b=some u->h'.get? b=some u):HOk P w H h':=fun a o e=>
 (x a o e).stay (fun b u _ q=>k b u q) (fun _ q=>q) fun _ _ _ q=>q
theorem HOk.laid(x:HOk P w H h)(k:∀b u,h.get? b=some u->h'.get? b=some u)(hp:h.objs.size<=a)(new:ObjOk P w (upd H a o) h' a o):HOk P w (upd H a o) h':=fun b u e=>by
 have hn:=x.fresh hp
 by_cases hb:b=a
 ·subst hb;rw[q0o]at e;cases e;exact new
 ·rw[q0f hb]at e;exact(x b u e).stay (fun c v _ q=>k c v q) (fun c q=>by rw[q0f (q0r q hn)];exact q) fun c xs _ q=>by rw[q0f (q0r q hn)];exact q
end
def Rd(H:Hp)(a:Addr)(u:HO):Prop:=H a=some u\/∃o,H a=some (.frz o u)
theorem Rd.ok{u:HO}(r:Rd H a u)(x:HOk P w H h):ObjOk P w H h a u:=by
 rcases r with r|⟨o,r⟩
 ·exact x a u r
 ·obtain⟨_,q⟩:=x a _ r;exact q
def Mut:Option HO->Prop
 |some (.lst _)=>True
 |some (.dK _)=>True
 |some (.dT _ _ _)=>True
 |some (.set _ _)=>True
 |some (.ins _ _ _)=>True
 |some (.ext _)=>True
 |_=>False
section
variable{x e:Addr}{o':HO}
theorem HOk.write(ok:HOk P w H h)(mu:Mut (H x))(he:e=x\/H e=some (.own x))(k:∀b u,b≠e->h.get? b=some u->h'.get? b=some u)(heo:∃u,h'.get? e=some u)
  (new:ObjOk P w (upd H x o') h' x o'):HOk P w (upd H x o') h':=fun b u q=>by
 have nown:∀c y,H c=some (.own y)->c≠x:=fun c y r z=>by subst z;rw[r]at mu;exact mu
 have ntup:∀c u,TupLike u->H c=some u->c≠x:=fun c u t r z=>by
  subst z;rw[r]at mu;cases u<;>first|exact mu|exact t
 by_cases hb:b=x
 ·subst hb;rw[q0o]at q;cases q;exact new
 ·rw[q0f hb]at q
  by_cases hbe:b=e
  ·have q':H b=some (.own x):=by
    rcases he with z|z
    ·exact absurd (hbe.trans z) hb
    ·rw[hbe];exact z
   rw[q]at q';cases q';obtain⟨v,hv⟩:=heo;exact⟨v,by rw[hbe];exact hv⟩
  ·refine(ok b u q).stay (fun c v hc r=>k c v ?_ r) (fun c r=>by rw[q0f (nown c b r)];exact r) fun c xs t r=>by rw[q0f (ntup c xs t r)];exact r
   rcases hc with rfl|hc
   ·exact hbe
   ·rintro rfl;rcases he with z|z
    ·exact nown c b hc z
    ·rw[hc]at z;cases z;exact hb rfl
end
structure Un(fs ex:List Addr)(H H':Hp)(h h':Heap):Prop where
 keep:∀b o,h.get? b=some o->H b=none->b∉fs->b∉ex->h'.get? b=some o
 slot:∀b o,h.get? b=some o->H b=none->b∈fs->b∉ex->∃sl,h'.get? b=some {o with slots:=sl}
 free:∀b o,h.get? b=some o->H b=none->b∉ex->H' b=none
 there:∀b o,h.get? b=some o->b∉ex->∃o',h'.get? b=some o'
 tups:∀b xs,H b=some (.tup xs)->H' b=some (.tup xs)
 frzs:∀b o u,H b=some (.frz o u)->H' b=some (.frz o u)
 tbls:∀b ps,H b=some (.tbl ps)->∃more,H' b=some (.tbl (ps++more))
section
variable{fs fs' ex ex':List Addr}{H1 H2:Hp}{h1 h2:Heap}{x e:Addr}{o:HO}
theorem Un.any(u:Un fs ex H H1 h h1){ob:Obj}(q:h.get? b=some ob)(n:H b=none)(hx:b∉ex):∃sl,h1.get? b=some {ob with slots:=sl}:=by
 by_cases hb:b∈fs
 ·exact u.slot b ob q n hb hx
 ·exact⟨ob.slots,u.keep b ob q n hb hx⟩
theorem Un.kept(k:∀b u,h.get? b=some u->h'.get? b=some u):Un fs ex H H h h':=
 ⟨fun b ob q _ _ _=>k b ob q,fun b ob q _ _ _=>⟨ob.slots,k b ob q⟩,fun _ _ _ n _=>n,fun b ob q _=>⟨ob,k b ob q⟩,fun _ _ q=>q,fun _ _ _ q=>q,fun _ ps q=>⟨#[],by rw[q];simp⟩⟩
theorem Un.refl:Un fs ex H H h h:=Un.kept fun _ _ q=>q
theorem Un.laid(k:∀b u,h.get? b=some u->h'.get? b=some u)(hp:h.objs.size<=a)(hn:H a=none):Un fs ex H (upd H a o) h h' where
 keep:=fun b u q _ _ _=>k b u q
 slot:=fun b u q _ _ _=>⟨u.slots,k b u q⟩
 free:=fun b u q n _=>by rw[q0f (w0p (w0l (Heap.lt_size q) hp))];exact n
 there:=fun b u q _=>⟨u,k b u q⟩
 tups:=fun b xs q=>by rw[q0f (q0r q hn)];exact q
 frzs:=fun b u xs q=>by rw[q0f (q0r q hn)];exact q
 tbls:=fun b ps q=>⟨#[],by rw[q0f (q0r q hn),q];simp⟩
theorem Un.write(mu:Mut (H x))(he:e=x\/H e=some (.own x))(k:∀b u,b≠e->h.get? b=some u->h'.get? b=some u)(heo:∃u,h'.get? e=some u):Un fs ex H (upd H x o) h h':=by
 have hx:∀b,H b=none->b≠x:=fun b n z=>by subst z;rw[n]at mu;exact mu
 have hb:∀b,H b=none->b≠e:=fun b n z=>by
  subst z;rcases he with r|r
  ·exact hx b n r
  ·rw[n]at r;cases r
 have hm:∀b u,H b=some u->¬Mut (some u)->b≠x:=fun b u q nm z=>by subst z;rw[q]at mu;exact nm mu
 refine⟨fun b u q n _ _=>k b u (hb b n) q,fun b u q n _ _=>⟨u.slots,k b u (hb b n) q⟩,fun b u q n _=>by rw[q0f (hx b n)];exact n,fun b u q _=>?_,
  fun b xs q=>by rw[q0f (hm b _ q fun z=>z)];exact q,fun b u xs q=>by rw[q0f (hm b _ q fun z=>z)];exact q,fun b ps q=>⟨#[],by rw[q0f (hm b _ q fun z=>z),q];simp⟩⟩
 by_cases hbe:b=e
 ·subst hbe;exact heo
 ·exact⟨u,k b u hbe q⟩
end
noncomputable def trk(h:Heap)(H:Hp):List Addr:=(List.range h.objs.size).filter fun a=>(H a).isSome
noncomputable def hidT(h:Heap)(H:Hp):Heap:=PySem.W.hideAll h (trk h H)
theorem x8i(h:Heap)(H:Hp):(hidT h H).objs.size=h.objs.size:=PySem.W.hideAll_size _ _
theorem y1c{o:Obj}(e:h.get? b=some o)(n:H b=none):(hidT h H).get? b=some o:=
 hideAll_get _ e fun hm=>by
  have q:(H b).isSome=true:=(List.mem_filter.mp hm).2;rw[n]at q;simp at q
theorem y4c{o:Obj}(e:(hidT h H).get? b=some o):h.get? b=some o/\H b=none:=by
 have e':h.get? b=some o:=PySem.W.of_hideAll (trk h H) e;refine⟨e',?_⟩;cases q:H b with
 |none=>rfl
 |some x=>
  have hm:b∈trk h H:=List.mem_filter.mpr ⟨w1d.mpr (Heap.lt_size e'),by simp[q]⟩;have z:(hidT h H).get? b=none:=PySem.W.hideAll_none (trk h H) hm;rw[z]at e;cases e
noncomputable def allNews(g h:Heap)(L:Addr):List (Addr×Obj):=(List.range h.objs.size).filterMap fun a=>if a=L\/(g.get? a).isSome=true then none else(h.get? a).map fun o=>(a,o)
noncomputable def rest(g h:Heap)(L d:Addr):List (Addr×Obj):=(allNews g h L).filter fun p=>decide (p.1≠d)
structure Mod(K:PySem.W.Frag)(mg:Str->Option Value)(base:Heap):Prop where
 kin:K.In base
 glob:base.Ns mainGlobals mg
 blt:∃mb,base.Ns builtinsNs mb/\∀x:Str,x≠"__name__"->mb x=bootBuiltins x
 nolimit:base.NoLimit
structure Cx where
 prog:Program
 w:World
 K:PySem.W.Frag
 mg:Str->Option Value
 base:Heap
 A:Around
 N:List Str
 s₀:Shared
 H₀:Hp
 env:Env
 outer:List Env
 stack:List Env
 ex:List Addr
 fn:Str->Bool
 calm:Bool
 pn:List (Addr×Obj)
 xe:Value->Shared->Prop
variable{X:Cx}
noncomputable def frs(l:List Env):List Addr:=l.filterMap (·.frame)
noncomputable abbrev Cx.fs(X:Cx):List Addr:=frs X.outer
def Vis(sc:Scope)(x:Str):Prop:=sc.names.lookup x=some .local\/sc.names.lookup x=some .cell\/sc.names.lookup x=some .free
def Loc(sc:Scope)(x:Str):Prop:=sc.names.lookup x=some .local\/sc.names.lookup x=some .cell
def Look(env:Env)(h:Heap)(m:Str->Option Value)(x:Str)(u:Value):Prop:=
 (env.kindOf x=some .local/\m x=some u)\/((env.kindOf x=some .cell\/env.kindOf x=some .free)/\∃c,env.cells.lookup x=some c/\h.IsCell c (some u))
noncomputable abbrev markO(P:Addr)(q:Str):Obj:={cls:=.str q 0,data:=.fields #[.ref P]}
def TabOk(K:PySem.W.Frag)(H:Hp):Prop:=∀(a:Addr)(q:Str)(P:Addr),(a,markO P q)∈K->∃ps:Array Value,H P=some (.tbl ps)/\ps[0]?=some (.bool true)/\ps[1]?=some (.str q 0)
noncomputable def noMark(K:PySem.W.Frag):Bool:=K.all fun p=>match p.2.cls with
 |.str _ _=>false
 |_=>true
theorem TabOk.vac(h:noMark K=true):TabOk K H:=fun a q P m=>by
 have:=w1g.mp h _ m;cases this
theorem TabOk.un{fs ex:List Addr}{h':Heap}(t:TabOk K H)(u:Un fs ex H H' h h'):TabOk K H':=fun a q P m=>by
 obtain⟨ps,e,p0,p1⟩:=t a q P m;obtain⟨more,e'⟩:=u.tbls P ps e;refine⟨_,e',?_,?_⟩
 ·rw[w3f (by obtain⟨z,_⟩:=w3g.mp p0;exact z)];exact p0
 ·rw[w3f (by obtain⟨z,_⟩:=w3g.mp p1;exact z)];exact p1
theorem TabOk.laid{D:Addr}{o:HO}(t:TabOk K H)(hn:H D=none):TabOk K (upd H D o):=fun a q P m=>by
 obtain⟨ps,e,p⟩:=t a q P m;exact⟨ps,by rw[q0f (q0r e hn)];exact e,p⟩
structure Cx.Ok(X:Cx):Prop where
 mod:Mod X.K X.mg X.base
 kind:X.env.scope.kind=.function
 glob:X.env.globals=mainGlobals
 blt:X.env.builtins=builtinsNs
 above:X.s₀.heap.objs.size<=X.env.locals
 inj:∀x y c,X.env.cells.lookup x=some c->X.env.cells.lookup y=some c->x=y
 has:∀x,(X.env.kindOf x=some .cell\/X.env.kindOf x=some .free)->∃c,X.env.cells.lookup x=some c
 cab:∀x c,X.fn x=true->X.env.cells.lookup x=some c->X.s₀.heap.objs.size<=c
 hd:X.calm=true->X.A.handled=none
 frames:X.A.frames=some X.stack
 stk:X.stack=X.outer\/(X.stack=X.env::X.outer/\X.env.frame=some X.env.locals)
 exf:∀b∈X.ex,b≠X.env.locals/\∀x c,X.env.cells.lookup x=some c->c≠b
 bs:∀b o,X.base.get? b=some o->X.s₀.heap.get? b=some o/\X.H₀ b=none
 bsz:X.base.objs.size<=X.s₀.heap.objs.size
 noex:∀b o,X.base.get? b=some o->b∉X.ex
 exfs:∀b∈X.ex,b∉X.fs
 funs:X.s₀.heap.FunFrames X.base X.outer
 frf:∀b∈X.fs,X.H₀ b=none
 tab:TabOk X.K X.H₀
structure Inv(X:Cx)(pins:List (Addr×Obj))(σ:List (Option V))(H:Hp)(s:Shared):Prop where
 ok:X.Ok
 os:s.os=X.s₀.os
 bare:AllBare s.gens
 base:Un X.fs X.ex X.H₀ H X.s₀.heap s.heap
 loc:∃m,s.heap.Ns X.env.locals m/\∀(i:Nat)(x:Str)(v:V),X.N[i]?=some x->σ[i]?=some (some v)->Vis X.env.scope x->∃u,RelV v u/\Look X.env s.heap m x u
 cell:∀x c,X.env.cells.lookup x=some c->∃v,s.heap.IsCell c v
 free:H X.env.locals=none
 freeC:∀x c,X.env.cells.lookup x=some c->H c=none
 pin:∀p∈X.pn++pins,s.heap.get? p.1=some p.2/\H p.1=none/\p.1≠X.env.locals/\p.1∉X.fs/\∀v,p.2.data≠.cell v
 hok:HOk X.prog X.w H s.heap
 len:σ.length=X.N.length
section
variable{σ:List (Option V)}
theorem Cx.Ok.nofr(ok:X.Ok){o:Obj}(e:X.base.get? b=some o):b∉X.fs:=fun hb=>by
 have:=(ok.funs.mem hb).1
 rw[e]at this;cases this
theorem Inv.bs(I:Inv X pins σ H s):∀b o,X.base.get? b=some o->s.heap.get? b=some o/\H b=none:=fun b o e=>
 ⟨I.base.keep b o (I.ok.bs b o e).1 (I.ok.bs b o e).2 (I.ok.nofr e) (I.ok.noex b o e),I.base.free b o (I.ok.bs b o e).1 (I.ok.bs b o e).2 (I.ok.noex b o e)⟩
theorem Inv.bk(I:Inv X pins σ H s):∀b o,X.base.get? b=some o->s.heap.get? b=some o:=fun b o e=>(I.bs b o e).1
theorem Inv.mod(I:Inv X pins σ H s):Mod X.K X.mg X.base:=I.ok.mod
theorem Inv.kIn(I:Inv X pins σ H s):X.K.In s.heap:=I.ok.mod.kin.keeps I.bk
theorem Inv.fr(I:Inv X pins σ H s):∃m,Fr X.base X.env.locals s.heap m:=
 let ⟨m,hn,_⟩:=I.loc
 ⟨m,hn,I.bk,w0o I.ok.bsz I.ok.above⟩
theorem Inv.lt(I:Inv X pins σ H s):X.env.locals<s.heap.objs.size:=let ⟨_,hn,_⟩:=I.loc;hn.lt
theorem Inv.sz(I:Inv X pins σ H s):X.s₀.heap.objs.size<=s.heap.objs.size:=w0o I.ok.above (w4k I.lt)
theorem Inv.nofs(I:Inv X pins σ H s)(h:s.heap.objs.size<=a):a∉X.fs:=fun hb=>by
 obtain⟨_,o,ho,_⟩:=I.ok.funs.mem hb
 exact absurd (w0l (Heap.lt_size ho) (w0o I.sz h)) (w2b _)
theorem Inv.cne(I:Inv X pins σ H s):∀x c,X.env.cells.lookup x=some c->c≠X.env.locals:=fun x c e z=>by
 obtain⟨v,o,ho,hd⟩:=I.cell x c e;obtain⟨m,⟨o',es,ep,ho',hd',_⟩,_⟩:=I.loc;rw[z,ho']at ho;cases ho;rw[hd']at hd;cases hd
theorem Inv.funs(I:Inv X pins σ H s):s.heap.FunFrames X.base X.outer:=by
 have all:∀(l:List Env),(∀b∈frs l,b∈X.fs)->X.s₀.heap.FunFrames X.base l->s.heap.FunFrames X.base l:=by
  intro l
  induction l with
  |nil=>intro _ _;trivial
  |cons env r ih=>
   intro hs hl;obtain⟨hk,⟨L,o,hf,hn,ho,hd⟩,hr⟩:=hl;have hL:L∈X.fs:=hs L (by unfold frs;rw[w3d,hf];exact w1j);obtain⟨sl,e⟩:=I.base.slot L o ho (I.ok.frf L hL) hL fun z=>I.ok.exfs L z hL
   exact⟨hk,⟨L,_,hf,hn,e,hd⟩,ih (fun b hb=>hs b (by unfold frs;rw[w3d,hf];exact w0x _ hb)) hr⟩
 exact all X.outer (fun _ hb=>hb) I.ok.funs
theorem Inv.stack(I:Inv X pins σ H s):s.heap.FunFrames X.base X.stack:=by
 rcases I.ok.stk with e|⟨e,hf⟩
 ·rw[e];exact I.funs
 ·rw[e];obtain⟨m,hn,_⟩:=I.loc;refine .cons (by rw[I.ok.kind];decide) hf hn ?_ I.funs
  exact Heap.get?_none_of_le (w0o I.ok.bsz I.ok.above)
theorem Inv.stkSub(I:Inv X pins σ H s):∀b∈frs X.stack,b∈X.env.locals::X.fs:=fun b hb=>by
 rcases I.ok.stk with e|⟨e,hf⟩
 ·rw[e]at hb;exact w0x _ hb
 ·rw[e]at hb;unfold frs at hb;rw[w3d,hf]at hb;exact hb
theorem Inv.stkFree(I:Inv X pins σ H s):∀b∈frs X.stack,H b=none:=fun b hb=>by
 rcases w0m.mp (I.stkSub b hb)with e|hb
 ·rw[e];exact I.free
 ·obtain⟨_,o,ho,_⟩:=I.ok.funs.mem hb
  exact I.base.free b o ho (I.ok.frf b hb) fun z=>I.ok.exfs b z hb
theorem Inv.step{g':Array GenState}{d':Drawn}{ch:List Addr}(I:Inv X pins σ H s)
  (hch:∀b∈ch,(b∈X.ex\/X.s₀.heap.objs.size<=b)/\b≠X.env.locals/\(∀x c,X.env.cells.lookup x=some c->c≠b)/\∀p∈X.pn++pins,p.1≠b)
  (keep:∀b o,b≠X.env.locals->b∉X.fs->b∉ch->s.heap.get? b=some o->H b=none->h'.get? b=some o)
  (slot:∀b o,b≠X.env.locals->b∈X.fs->b∉ch->s.heap.get? b=some o->H b=none->∃sl,h'.get? b=some {o with slots:=sl})(free:∀b o,b∉ch->s.heap.get? b=some o->H b=none->H' b=none)
  (there:∀b o,b∉ch->s.heap.get? b=some o->∃o',h'.get? b=some o')
  (tups:∀b xs,H b=some (.tup xs)->H' b=some (.tup xs))(frzs:∀b o u,H b=some (.frz o u)->H' b=some (.frz o u))(tbls:∀b ps,H b=some (.tbl ps)->∃more,H' b=some (.tbl (ps++more)))
  (ns:∀m,s.heap.Ns X.env.locals m->h'.Ns X.env.locals m)(hok:HOk X.prog X.w H' h')(hg:AllBare g'):
  Inv X pins σ H' {s with heap:=h',gens:=g',drawn:=d',toks:=t'}:=by
 have neL:∀b o,X.s₀.heap.get? b=some o->b≠X.env.locals:=fun b o e=>w0p (w0l (Heap.lt_size e) I.ok.above)
 have neC:∀b o,X.s₀.heap.get? b=some o->b∉X.ex->b∉ch:=fun b o e hx hb=>by
  rcases(hch b hb).1 with z|z
  ·exact hx z
  ·exact absurd (w0l (Heap.lt_size e) z) (w2b _)
 have cellK:∀x c,X.env.cells.lookup x=some c->∀v,s.heap.IsCell c v->h'.IsCell c v:=fun x c e v ⟨o,ho,hd⟩=>by
  have nch:c∉ch:=fun z=>(hch c z).2.2.1 x c e rfl
  by_cases hc:c∈X.fs
  ·obtain⟨sl,q⟩:=slot c o (I.cne x c e) hc nch ho (I.freeC x c e);exact⟨_,q,hd⟩
  ·exact⟨o,keep c o (I.cne x c e) hc nch ho (I.freeC x c e),hd⟩
 refine⟨I.ok,I.os,hg,⟨fun b o e n hb hx=>?_,fun b o e n hb hx=>?_,fun b o e n hx=>?_,fun b o e hx=>?_,fun b xs e=>tups b xs (I.base.tups b xs e),fun b o xs e=>frzs b o xs (I.base.frzs b o xs e),fun b ps e=>?_⟩,?_,fun x c e=>?_,?_,fun x c e=>?_,fun p hp=>?_,hok,I.len⟩
 ·exact keep b o (neL b o e) hb (neC b o e hx) (I.base.keep b o e n hb hx) (I.base.free b o e n hx)
 ·obtain⟨sl,e1⟩:=I.base.slot b o e n hb hx;obtain⟨sl',e2⟩:=slot b _ (neL b o e) hb (neC b o e hx) e1 (I.base.free b o e n hx);exact⟨sl',e2⟩
 ·obtain⟨o',e1⟩:=I.base.there b o e hx;exact free b o' (neC b o e hx) e1 (I.base.free b o e n hx)
 ·obtain⟨o',e1⟩:=I.base.there b o e hx;exact there b o' (neC b o e hx) e1
 ·obtain⟨m1,e1⟩:=I.base.tbls b ps e;obtain⟨m2,e2⟩:=tbls b _ e1;exact⟨m1++m2,by rw[e2,w4h]⟩
 ·obtain⟨m,hn,hl⟩:=I.loc;refine⟨m,ns m hn,fun i x v e1 e2 e3=>?_⟩
  obtain⟨u,r,l⟩:=hl i x v e1 e2 e3;refine⟨u,r,?_⟩;rcases l with l|⟨k,c,e,z⟩
  ·exact .inl l
  ·exact .inr ⟨k,c,e,cellK x c e _ z⟩
 ·obtain⟨v,z⟩:=I.cell x c e;exact⟨v,cellK x c e v z⟩
 ·obtain⟨m,⟨o,_,_,ho,_⟩,_⟩:=I.loc;exact free _ o (fun z=>(hch _ z).2.1 rfl) ho I.free
 ·obtain⟨v,o,ho,hd⟩:=I.cell x c e;exact free c o (fun z=>(hch c z).2.2.1 x c e rfl) ho (I.freeC x c e)
 ·obtain⟨e,n,ne,nf,d⟩:=I.pin p hp;have nch:p.1∉ch:=fun z=>(hch p.1 z).2.2.2 p hp rfl
  exact⟨keep p.1 p.2 ne nf nch e n,free p.1 p.2 nch e n,ne,nf,d⟩
theorem Inv.un(I:Inv X pins σ H s)(u:Un X.fs [] H H' s.heap h')(hok:HOk X.prog X.w H' h'):Inv X pins σ H' {s with heap:=h',toks:=t'}:=by
 obtain⟨m,⟨o,es,ep,ho,r⟩,_⟩:=id I.loc;obtain⟨sl,hL⟩:=u.any ho I.free (by simp)
 exact I.step (g':=s.gens) (d':=s.drawn) (ch:=[]) (fun _ z=>nomatch z) (fun b o _ hb _ e n=>u.keep b o e n hb (by simp)) (fun b o _ hb _ e n=>u.slot b o e n hb (by simp)) (fun b o _ e n=>u.free b o e n (by simp)) (fun b o _ e=>u.there b o e (by simp)) u.tups u.frzs u.tbls (fun m' hm=>by
  obtain⟨o',es',ep',ho',r'⟩:=hm;rw[ho]at ho';cases ho';exact⟨_,es',ep',hL,r'⟩) hok I.bare
theorem Inv.call{g':Array GenState}{d':Drawn}(I:Inv X pins σ H s)(u:Un (frs X.stack) ch H H' s.heap h')(hok:HOk X.prog X.w H' h')(hg:AllBare g')
  (hch:∀b∈ch,(b∈X.ex\/X.s₀.heap.objs.size<=b)/\b≠X.env.locals/\(∀x c,X.env.cells.lookup x=some c->c≠b)/\∀p∈X.pn++pins,p.1≠b):
  Inv X pins σ H' {s with heap:=h',gens:=g',drawn:=d',toks:=t'}:=by
 obtain⟨m,⟨o,es,ep,ho,r⟩,_⟩:=id I.loc;obtain⟨sl,hL⟩:=u.any ho I.free fun z=>(hch _ z).2.1 rfl
 exact I.step (ch:=ch) hch (fun b o hL hb hc e n=>u.keep b o e n (fun z=>(w0m.mp (I.stkSub b z)).elim hL hb) hc) (fun b o _ _ hc e n=>u.any e n hc) (fun b o hc e n=>u.free b o e n hc) (fun b o hc e=>u.there b o e hc) u.tups u.frzs u.tbls (fun m' hm=>by
  obtain⟨o',es',ep',ho',r'⟩:=hm;rw[ho]at ho';cases ho';exact⟨_,es',ep',hL,r'⟩) hok hg
theorem Inv.turned{t':Nat}{it:Addr}(I:Inv X pins σ H s)(k:∀b o,b≠it->s.heap.get? b=some o->h'.get? b=some o)(hn:H it=none)(hL:it≠X.env.locals)
  (h1:it∈X.ex\/X.s₀.heap.objs.size<=it)(h2:∀x c,X.env.cells.lookup x=some c->c≠it)(h3:∀p∈X.pn++pins,p.1≠it):Inv X pins σ H {s with heap:=h',toks:=t'}:=by
 have nit:∀b u,H b=some u->b≠it:=fun b u e z=>by rw[z,hn]at e;cases e
 refine I.step (g':=s.gens) (d':=s.drawn) (ch:=[it]) (fun b hb=>?_) (fun b o _ _ hc e _=>k b o (fun z=>hc (by simp[z])) e) (fun b o _ _ hc e _=>⟨o.slots,k b o (fun z=>hc (by simp[z])) e⟩) (fun _ _ _ _ n=>n)
  (fun b o hc e=>⟨o,k b o (fun z=>hc (by simp[z])) e⟩) (fun _ _ e=>e) (fun _ _ _ e=>e) (fun b ps e=>⟨#[],by rw[e];simp⟩) (fun m hm=>?_) (fun b u e=>?_) I.bare
 ·have e:b=it:=by simpa using hb
  subst e;exact⟨h1,hL,h2,h3⟩
 ·obtain⟨o,es,ep,ho,r⟩:=hm;exact⟨o,es,ep,k _ o (Ne.symm hL) ho,r⟩
 ·refine(I.hok b u e).stay (fun c v hc q=>k c v ?_ q) (fun _ q=>q) fun _ _ _ q=>q
  rcases hc with z|z
  ·rw[z];exact nit b u e
  ·exact nit c _ z
theorem Inv.tok(I:Inv X pins σ H s)(t:Nat):Inv X pins σ H {s with toks:=t}:=I.un (h':=s.heap) (t':=t) Un.refl I.hok
theorem Inv.kept{t':Nat}(I:Inv X pins σ H s)(k:∀b u,s.heap.get? b=some u->h'.get? b=some u):Inv X pins σ H {s with heap:=h',toks:=t'}:=I.un (Un.kept k) (I.hok.kept k)
theorem Inv.laid{a:Addr}{o:HO}{t':Nat}(I:Inv X pins σ H s)(k:∀b u,s.heap.get? b=some u->h'.get? b=some u)(hp:s.heap.objs.size<=a)(new:ObjOk X.prog X.w (upd H a o) h' a o):
  Inv X pins σ (upd H a o) {s with heap:=h',toks:=t'}:=I.un (Un.laid k hp (I.hok.fresh hp)) (I.hok.laid k hp new)
theorem Inv.write{x e:Addr}{o:HO}(I:Inv X pins σ H s)(mu:Mut (H x))(he:e=x\/H e=some (.own x))(k:∀b u,b≠e->s.heap.get? b=some u->h'.get? b=some u)(heo:∃u,h'.get? e=some u)
  (new:ObjOk X.prog X.w (upd H x o) h' x o):Inv X pins σ (upd H x o) {s with heap:=h',toks:=t'}:=I.un (Un.write mu he k heo) (I.hok.write mu he k heo new)
theorem Inv.weak{σ':List (Option V)}(I:Inv X pins σ H s)(hl:σ'.length=σ.length)(w:∀(i:Nat) v,σ'[i]?=some (some v)->σ[i]?=some (some v)):Inv X pins σ' H s:=
 ⟨I.ok,I.os,I.bare,I.base,let ⟨m,hn,hl'⟩:=I.loc;⟨m,hn,fun i x v e1 e2 e3=>hl' i x v e1 (w i v e2) e3⟩,I.cell,I.free,I.freeC,I.pin,I.hok,hl.trans I.len⟩
theorem Inv.pins_of{pins':List (Addr×Obj)}(I:Inv X pins σ H s)(h:∀p∈pins',s.heap.get? p.1=some p.2/\H p.1=none/\p.1≠X.env.locals/\p.1∉X.fs/\∀v,p.2.data≠.cell v):Inv X pins' σ H s:=
 ⟨I.ok,I.os,I.bare,I.base,I.loc,I.cell,I.free,I.freeC,fun p hp=>(w2t.mp hp).elim (fun z=>I.pin p (w4a _ z)) (h p),I.hok,I.len⟩
theorem x3t(hN:N.Nodup){j:Nat}(a:N[i]?=some x)(b:N[j]?=some x):i=j:=by
 obtain⟨h1,e1⟩:=w0a.mp a;obtain⟨h2,e2⟩:=w0a.mp b;exact(List.getElem_inj hN).mp (e1.trans e2.symm)
theorem x8j{Q:Unit->Shared->Prop}(I:Inv X pins σ H s)(hN:X.N.Nodup)(hi:X.N[i]?=some x)(hx:Loc X.env.scope x)(r:RelV v u)
  (h:∀s',Inv X pins (σ.set i (some v)) H s'->(∃a,Heap.SameBut a s.heap s'.heap/\(a=X.env.locals\/X.env.cells.lookup x=some a))->Q () s')(hf:X.fn x=true\/X.env.scope.names.lookup x=some .local:=by walk_at "2"):wpAny M A (storeName X.env x u) Q E s:=by
 obtain⟨m,hn,hl⟩:=id I.loc;have hcls:(X.env.scope.kind==.class||(X.env.scope.kind==.module&&X.env.locals != X.env.globals))=false:=by rw[I.ok.kind];rfl
 have hiσ:i<σ.length:=by rw[I.len];exact(w0a.mp hi).1
 have cne:=I.cne
 have tracked:∀{a:Addr}{h':Heap},(∃o,s.heap.get? a=some o/\H a=none)->Heap.SameBut a s.heap h'->HOk X.prog X.w H h':=fun {a h'} ha hs b ob e=>by
  obtain⟨_,_,hfree⟩:=ha;refine(I.hok b ob e).stay (fun c w' hc q=>(hs.2 c ?_).trans q) (fun _ q=>q) fun _ _ _ q=>q
  rintro rfl;rcases hc with rfl|hc
  ·rw[hfree]at e;cases e
  ·rw[hfree]at hc;cases hc
 rcases hx with hk|hk
 ·refine wpAny_storeName_local hk hn (fun h' hn' hs=>?_) hcls
  obtain⟨oL,_,_,hoL,_⟩:=id hn;refine h _ ⟨I.ok,I.os,I.bare,⟨fun b o e n hb hx=>?_,fun b o e n hb hx=>?_,I.base.free,fun b o e hx=>?_,I.base.tups,I.base.frzs,I.base.tbls⟩,⟨_,hn',fun j y v' e1 e2 e3=>?_⟩,fun y c e=>?_,I.free,I.freeC,fun p hp=>?_,tracked ⟨oL,hoL,I.free⟩ hs,by simpa using I.len⟩ ⟨_,hs,.inl rfl⟩
  ·exact(hs.2 b (w0p (w0l (Heap.lt_size e) I.ok.above))).trans (I.base.keep b o e n hb hx)
  ·obtain⟨sl,e1⟩:=I.base.slot b o e n hb hx;exact⟨sl,(hs.2 b (w0p (w0l (Heap.lt_size e) I.ok.above))).trans e1⟩
  ·obtain⟨o',e1⟩:=I.base.there b o e hx;exact⟨o',(hs.2 b (w0p (w0l (Heap.lt_size e) I.ok.above))).trans e1⟩
  ·by_cases hj:j=i
   ·subst hj;rw[hi]at e1;cases e1;rw[w0h hiσ]at e2;cases e2;exact⟨u,r,.inl ⟨hk,by simp⟩⟩
   ·rw[w0f (Ne.symm hj)]at e2;obtain⟨u',r',q⟩:=hl j y v' e1 e2 e3;refine⟨u',r',?_⟩;rcases q with⟨k,e⟩|⟨k,c,e,z⟩
    ·refine .inl ⟨k,?_⟩;have:y≠x:=fun e=>hj (x3t hN e1 (e ▸ hi))
     simp[this,e]
    ·exact .inr ⟨k,c,e,z.sameBut hs (cne y c e)⟩
  ·obtain⟨w',z⟩:=I.cell y c e;exact⟨w',z.sameBut hs (cne y c e)⟩
  ·obtain⟨e,n,ne,nf,d⟩:=I.pin p hp;exact⟨(hs.2 p.1 ne).trans e,n,ne,nf,d⟩
 ·have hfn:X.fn x=true:=by
   rcases hf with z|z
   ·exact z
   ·rw[z]at hk;cases hk
  obtain⟨c,hc⟩:=I.ok.has x (.inl hk);obtain⟨w',z⟩:=I.cell x c hc;refine wpAny_storeName_cell I.ok.kind hk hc z (fun h' hc' hs=>?_)
  obtain⟨oc,hoc,hocd⟩:=id z;refine h {s with heap:=h'} ⟨I.ok,I.os,I.bare,⟨fun b o e n hb hx=>?_,fun b o e n hb hx=>?_,I.base.free,fun b o e hx=>?_,I.base.tups,I.base.frzs,I.base.tbls⟩,⟨m,hn.sameBut hs (Ne.symm (cne x c hc)),fun j y v' e1 e2 e3=>?_⟩,fun y c' e=>?_,I.free,I.freeC,fun p hp=>?_,tracked ⟨oc,hoc,I.freeC x c hc⟩ hs,by simpa using I.len⟩ ⟨c,hs,.inr hc⟩
  ·exact(hs.2 b (w0p (w0l (Heap.lt_size e) (I.ok.cab x c hfn hc)))).trans (I.base.keep b o e n hb hx)
  ·obtain⟨sl,e1⟩:=I.base.slot b o e n hb hx;exact⟨sl,(hs.2 b (w0p (w0l (Heap.lt_size e) (I.ok.cab x c hfn hc)))).trans e1⟩
  ·obtain⟨o',e1⟩:=I.base.there b o e hx;exact⟨o',(hs.2 b (w0p (w0l (Heap.lt_size e) (I.ok.cab x c hfn hc)))).trans e1⟩
  ·by_cases hj:j=i
   ·subst hj;rw[hi]at e1;cases e1;rw[w0h hiσ]at e2;cases e2;exact⟨u,r,.inr ⟨.inl hk,c,hc,hc'⟩⟩
   ·rw[w0f (Ne.symm hj)]at e2;obtain⟨u',r',q⟩:=hl j y v' e1 e2 e3;refine⟨u',r',?_⟩;rcases q with q|⟨k,c',e,z'⟩
    ·exact .inl q
    ·refine .inr ⟨k,c',e,z'.sameBut hs ?_⟩;rintro rfl;exact hj (x3t hN e1 (I.ok.inj _ _ _ e hc ▸ hi))
  ·by_cases hcc:c'=c
   ·subst hcc;exact⟨_,hc'⟩
   ·obtain⟨w2,z2⟩:=I.cell y c' e;exact⟨w2,z2.sameBut hs hcc⟩
  ·obtain⟨e,n,ne,nf,d⟩:=I.pin p hp;refine⟨(hs.2 p.1 ?_).trans e,n,ne,nf,d⟩;intro q;rw[q,hoc]at e;have q':oc=p.2:=Option.some.inj e;exact d w' (by rw[<- q'];exact hocd)
theorem x3u{Q:Unit->Shared->Prop}(I:Inv X pins σ H s)(hN:X.N.Nodup)(hi:X.N[i]?=some x)(hx:Loc X.env.scope x)(r:RelV v u)
  (h:∀s',Inv X pins (σ.set i (some v)) H s'->Q () s')(hf:X.fn x=true\/X.env.scope.names.lookup x=some .local:=by walk_at "2"):wpAny M A (storeName X.env x u) Q E s:=
 x8j I hN hi hx r (fun s' I' _=>h s' I') hf
theorem Inv.call'{s':Shared}{ch:List Addr}(I:Inv X pins σ H s)(ho:s'.os=s.os)(u:Un (frs X.stack) ch H H' s.heap s'.heap)(hok:HOk X.prog X.w H' s'.heap)(hg:AllBare s'.gens)
  (hch:∀b∈ch,(b∈X.ex\/X.s₀.heap.objs.size<=b)/\b≠X.env.locals/\(∀x c,X.env.cells.lookup x=some c->c≠b)/\∀p∈X.pn++pins,p.1≠b):Inv X pins σ H' s':=by
 obtain⟨h',g',d',t',o'⟩:=s';have e:o'=s.os:=ho;subst e;exact I.call (g':=g') (t':=t') (d':=d') u hok hg hch
end
abbrev XK:=Value->Option Addr->Hp->Prop
noncomputable abbrev St:=List (Option V)
variable{σ:St}
abbrev VK:=V->Hp->Prop
abbrev TE:=St->Hp->VK->Prop
variable{ta te:TE}
abbrev TT:=St->Hp->(Bool->Hp->Prop)->Prop
abbrev TA:=St->Hp->(List V->Hp->Prop)->Prop
variable{t:TA}
structure Ends where
 nx:St->Hp->Prop
 rt:VK
 bk:St->Hp->Prop:=fun _ _=>False
 ct:St->Hp->Prop:=fun _ _=>False
abbrev TS:=Ends->St->Hp->Prop
variable{tb:TS}
def EP(X:Cx)(pins:List (Addr×Obj))(σ:St)(Q:VK)(u:Value)(s':Shared):Prop:=∃v H',Inv X pins σ H' s'/\RelV v u/\Q v H'
def TP(X:Cx)(pins:List (Addr×Obj))(σ:St)(Q:Bool->Hp->Prop)(b:Bool)(s':Shared):Prop:=∃H',Inv X pins σ H' s'/\Q b H'
def AP(X:Cx)(pins:List (Addr×Obj))(σ:St)(Q:List V->Hp->Prop)(us:List Value)(s':Shared):Prop:=∃vs H',Inv X pins σ H' s'/\Vals vs us/\Q vs H'
def SP(X:Cx)(pins:List (Addr×Obj))(D:Ends)(f:Flow)(s':Shared):Prop:=
 match f with
 |.next=>∃σ' H',Inv X pins σ' H' s'/\D.nx σ' H'
 |.brk=>∃σ' H',Inv X pins σ' H' s'/\D.bk σ' H'
 |.cont=>∃σ' H',Inv X pins σ' H' s'/\D.ct σ' H'
 |.ret u=>∃v σ' H',Inv X pins σ' H' s'/\RelV v u/\D.rt v H'
def PE(X:Cx)(e:Expr)(t:TE):Prop:=
 ∀(pins:List (Addr×Obj))(s:Shared)(σ:St)(H:Hp)(Q:VK),Inv X pins σ H s->t σ H Q->wpAny (model X.prog X.w) X.A (eval e X.env) (EP X pins σ Q) X.xe s
def PT(X:Cx)(e:Expr)(t:TT):Prop:=
 ∀(pins:List (Addr×Obj))(s:Shared)(σ:St)(H:Hp)(Q:Bool->Hp->Prop),Inv X pins σ H s->t σ H Q->wpAny (model X.prog X.w) X.A (isTrue e X.env (eval e X.env)) (TP X pins σ Q) X.xe s
def PW(X:Cx)(e:Expr)(t:TT):Prop:=
 ∀(whole:Sem Value)(pins:List (Addr×Obj))(s:Shared)(σ:St)(H:Hp)(Q:Bool->Hp->Prop),Inv X pins σ H s->t σ H Q->wpAny (model X.prog X.w) X.A (isTrue e X.env whole) (TP X pins σ Q) X.xe s
theorem PW.pt{t:TT}(h:PW X e t):PT X e t:=h _
def PA(X:Cx)(es:List Expr)(t:TA):Prop:=
 ∀(pos:Pos)(pins:List (Addr×Obj))(s:Shared)(σ:St)(H:Hp)(Q:List V->Hp->Prop),Inv X pins σ H s->t σ H Q->wpAny (model X.prog X.w) X.A (spliced (backTo pos (starEach es X.env))) (AP X pins σ Q) X.xe s
def PS(X:Cx)(st:Stmt)(t:TS):Prop:=
 ∀(pins:List (Addr×Obj))(s:Shared)(σ:St)(H:Hp)(D:Ends),Inv X pins σ H s->t D σ H->wpAny (model X.prog X.w) X.A (exec st X.env) (SP X pins D) X.xe s
def PSs(X:Cx)(st:List Stmt)(t:TS):Prop:=
 ∀(pins:List (Addr×Obj))(s:Shared)(σ:St)(H:Hp)(D:Ends),Inv X pins σ H s->t D σ H->wpAny (model X.prog X.w) X.A (execs st X.env) (SP X pins D) X.xe s
theorem thn{α:Type}{t:Sem α}{Q Q':α->Shared->Prop}(h:wpAny M A t Q E s)(hQ:∀a s,Q a s->Q' a s):wpAny M A t Q' E s:=wpAny_mono h hQ fun _ _ x=>x
section
def tVar(i:Nat):TE:=fun σ H Q=>∃v,σ[i]?=some (some v)/\Q v H
def tC(v:V):TE:=fun _ H Q=>Q v H
theorem y79(hN:X.N[i]?=some x)(hv:Vis X.env.scope x)(hd:(x==("__debug__":Str))=false:=by decide)(hcd:(x==("__classdict__":Str))=false:=by decide):PE X (.Name x pos) (tVar i):=by
 intro pins s σ H Q I h;obtain⟨v,e,h⟩:=h;obtain⟨m,hn,hl⟩:=I.loc;obtain⟨u,r,l⟩:=hl i x v hN e hv;have fin:EP X pins σ Q u s:=⟨v,H,I,r,h⟩;rcases l with⟨hk,hm⟩|⟨hk,c,hc,hcell⟩
 ·exact wpAny_Name (wpAny_loadName_local I.ok.kind hk hn hm fin) hd
 ·rcases hk with hk|hk
  ·exact wpAny_Name (wpAny_loadName_cell I.ok.kind hk hc hcell fin) hd
  ·exact wpAny_Name (wpAny_loadName_free I.ok.kind hk hc hcell fin hcd) hd
theorem y8a{i j pos}:PE X (.Constant (.int i) j pos) (tC (.int i)):=fun _ _ _ H _ I h=>wpAny_Constant_int ⟨.int i,H,I.tok _,⟨_,rfl⟩,h⟩
theorem z2f{b j pos}:PE X (.Constant (.bool b) j pos) (tC (.bl b)):=fun _ _ _ H _ I h=>Constant_bool ⟨.bl b,H,I,rfl,h⟩
theorem y8b{j pos}:PE X (.Constant .none j pos) (tC .non):=fun _ _ _ H _ I h=>Constant_none ⟨.non,H,I,rfl,h⟩
theorem y8c{x j pos}:PE X (.Constant (.str x) j pos) (tC (.str x)):=fun _ _ _ H _ I h=>Calls.Constant_str ⟨.str x,H,I.tok _,⟨_,rfl⟩,h⟩
def Gl(X:Cx)(x:Str):Prop:=X.env.kindOf x=some .globalImplicit
theorem x1g{Q:Value->Shared->Prop}(I:Inv X pins σ H s)(hg:Gl X x)(hm:X.mg x=some u)(h:Q u s)
  (hd:(x==("__debug__":Str))=false:=by decide):wpAny (model X.prog X.w) X.A (eval (.Name x pos) X.env) Q E s:=
 Calls.Name_function_global I.ok.kind hg (Calls.loadGlobal_global (by rw[I.ok.glob];exact I.mod.glob.keeps I.bk) hm h) hd
theorem q6z{Q:Value->Shared->Prop}(I:Inv X pins σ H s)(hg:Gl X x)(hm:X.mg x=none)(hv:bootBuiltins x=some u)(h:Q u s)
  (hn:x≠"__name__":=by decide)(hd:(x==("__debug__":Str))=false:=by decide):wpAny (model X.prog X.w) X.A (eval (.Name x pos) X.env) Q E s:=by
 obtain⟨mb,h1,h2⟩:=I.mod.blt;exact Calls.Name_function_global I.ok.kind hg (Calls.loadGlobal_builtin (by rw[I.ok.glob];exact I.mod.glob.keeps I.bk) hm (by rw[I.ok.blt];exact h1.keeps I.bk) ((h2 x hn).trans hv) h) hd
theorem x1h{v:V}(hg:Gl X x)(hm:X.mg x=some u)(r:RelV v u)(hd:(x==("__debug__":Str))=false:=by decide):PE X (.Name x pos) (tC v):=
 fun _ _ _ H _ I h=>x1g I hg hm ⟨v,H,I,r,h⟩ hd
theorem y4d{v:V}(hg:Gl X x)(hm:X.mg x=none)(hv:bootBuiltins x=some u)(r:RelV v u)(hn:x≠"__name__":=by decide)(hd:(x==("__debug__":Str))=false:=by decide):PE X (.Name x pos) (tC v):=
 fun _ _ _ H _ I h=>q6z I hg hm hv ⟨v,H,I,r,h⟩ hn hd
variable{a b:Expr}{tb:TE}
def PC(X:Cx)(op:CmpOp)(a b:Expr)(t:TE):Prop:=
 ∀(pins:List (Addr×Obj))(s:Shared)(σ:St)(H:Hp)(Q:VK),Inv X pins σ H s->t σ H Q ->
  wpAny (model X.prog X.w) X.A (eval a X.env) (fun v s₁=>wpAny (model X.prog X.w) X.A (eval b X.env) (fun u s₂=>wpAny (model X.prog X.w) X.A (compareOp op v u) (EP X pins σ Q) X.xe s₂) X.xe s₁) X.xe s
theorem nobehind(b:Expr)(h:op≠.In)(h2:op≠.NotIn):behindInMarks op b=false:=by
 have e1:(op==CmpOp.In)=false:=by cases op<;>first|rfl|exact absurd rfl h
 have e2:(op==CmpOp.NotIn)=false:=by cases op<;>first|rfl|exact absurd rfl h2
 cases b<;>simp[behindInMarks,e1,e2]
def tB(t:TE):TT:=fun σ H Q=>t σ H fun x H1=>∃c,x=.bl c/\Q c H1
theorem y8d{t:TE}(h:PC X op a b t)(h1:behindInMarks op b=false:=by first|exact nobehind _ (by decide) (by decide)|rfl):PE X (.Compare a [op] [b] pos) t:=fun pins s σ H Q I hw=>wpAny_Compare1 (h pins s σ H Q I hw) h1
theorem y8e{t:TE}(h:PC X op a b t)(h1:behindInMarks op b=false:=by first|exact nobehind _ (by decide) (by decide)|rfl):PT X (.Compare a [op] [b] pos) (tB t):=by
 intro pins s σ H Q I hw;refine wpAny_isTrue_Compare1 (thn (h pins s σ H _ I hw) fun v s1 h1=>thn h1 fun u s2 h2=>thn h2 fun c s3 ⟨x,H1,I1,r1,q1⟩=>?_) h1
 obtain⟨d,rfl,q⟩:=q1;cases r1;exact wpAny_truthy_bool ⟨H1,I1,q⟩
variable{tA tB':TT}{rest:List Expr}
def tAnd(t u:TT):TT:=fun σ H Q=>t σ H fun c H1=>if c=true then u σ H1 Q else Q false H1
def tOr(t u:TT):TT:=fun σ H Q=>t σ H fun c H1=>if c=true then Q true H1 else u σ H1 Q
def tNot(t:TT):TT:=fun σ H Q=>t σ H fun c H1=>Q (!c) H1
theorem y4e(ha:PT X a tA):PW X (.BoolOp .And [a] pos) tA:=by
 intro wh pins s σ H Q I h;refine isTrue_and (thn (ha pins s σ H Q I h) fun c s1 e=>?_)
 cases c with
 |true=>exact isTrue_and_nil e
 |false=>exact e
theorem y8f(ha:PT X a tA):PW X (.BoolOp .Or [a] pos) tA:=by
 intro wh pins s σ H Q I h;refine isTrue_or (thn (ha pins s σ H Q I h) fun c s1 e=>?_)
 cases c with
 |false=>exact isTrue_or_nil e
 |true=>exact e
theorem y8g(ha:PT X a tA)(hb:PW X (.BoolOp .And (b::rest) pos) tB'):PW X (.BoolOp .And (a::b::rest) pos) (tAnd tA tB'):=by
 intro wh pins s σ H Q I h;refine isTrue_and (thn (ha pins s σ H _ I h) fun c s1 ⟨H1,I1,q1⟩=>?_)
 cases c with
 |true=>exact hb wh pins s1 σ H1 Q I1 q1
 |false=>exact⟨H1,I1,q1⟩
theorem z2g(ha:PT X a tA)(hb:PW X (.BoolOp .Or (b::rest) pos) tB'):PW X (.BoolOp .Or (a::b::rest) pos) (tOr tA tB'):=by
 intro wh pins s σ H Q I h;refine isTrue_or (thn (ha pins s σ H _ I h) fun c s1 ⟨H1,I1,q1⟩=>?_)
 cases c with
 |true=>exact⟨H1,I1,q1⟩
 |false=>exact hb wh pins s1 σ H1 Q I1 q1
theorem y8h(ha:PT X a tA):PT X (.UnaryOp .Not a pos) (tNot tA):=by
 intro pins s σ H Q I h;exact isTrue_not (ha pins s σ H (fun c H1=>Q (!c) H1) I h)
def tAndV(ta tb:TE):TE:=fun σ H Q=>ta σ H fun x H1=>∃c,x=.bl c/\if c=true then tb σ H1 Q else Q (.bl false) H1
def tOrV(ta tb:TE):TE:=fun σ H Q=>ta σ H fun x H1=>∃c,x=.bl c/\if c=true then Q (.bl true) H1 else tb σ H1 Q
def tNotV(ta:TE):TE:=fun σ H Q=>ta σ H fun x H1=>∃c,x=.bl c/\Q (.bl (!c)) H1
theorem y8i{op}{t:TE}(h:PE X a t):PE X (.BoolOp op [a] pos) t:=fun pins s σ H Q I hw=>BoolOp_one (h pins s σ H Q I hw)
theorem y8j(ha:PE X a ta)(hb:PE X (.BoolOp .And (b::rest) pos) tb):PE X (.BoolOp .And (a::b::rest) pos) (tAndV ta tb):=by
 intro pins s σ H Q I h;refine BoolOp_and (thn (ha pins s σ H _ I h) fun v s1 ⟨x,H1,I1,r1,q1⟩=>?_)
 obtain⟨c,rfl,q1⟩:=q1;cases r1;refine wpAny_truthy_bool ?_;cases c with
 |true=>exact hb pins s1 σ H1 Q I1 q1
 |false=>exact⟨.bl false,H1,I1,rfl,q1⟩
theorem z2h(ha:PE X a ta)(hb:PE X (.BoolOp .Or (b::rest) pos) tb):PE X (.BoolOp .Or (a::b::rest) pos) (tOrV ta tb):=by
 intro pins s σ H Q I h;refine BoolOp_or (thn (ha pins s σ H _ I h) fun v s1 ⟨x,H1,I1,r1,q1⟩=>?_)
 obtain⟨c,rfl,q1⟩:=q1;cases r1;refine wpAny_truthy_bool ?_;cases c with
 |false=>exact hb pins s1 σ H1 Q I1 q1
 |true=>exact⟨.bl true,H1,I1,rfl,q1⟩
theorem y8k(ha:PE X a ta):PE X (.UnaryOp .Not a pos) (tNotV ta):=by
 intro pins s σ H Q I h;refine UnaryOp_ (thn (ha pins s σ H _ I h) fun v s1 ⟨x,H1,I1,r1,q1⟩=>?_)
 obtain⟨c,rfl,q1⟩:=q1;cases r1;exact not_of (wpAny_truthy_bool ⟨.bl (!c),H1,I1,rfl,q1⟩)
def tIf(t:TT)(ta tb:TE):TE:=fun σ H Q=>t σ H fun c H1=>if c=true then ta σ H1 Q else tb σ H1 Q
theorem y1d(hc:PT X c tA)(ha:PE X a ta)(hb:PE X b tb):PE X (.IfExp c a b pos) (tIf tA ta tb):=by
 intro pins s σ H Q I h;refine wpAny_IfExp (thn (hc pins s σ H _ I h) fun d s1 ⟨H1,I1,q1⟩=>?_)
 cases d with
 |true=>exact ha pins s1 σ H1 Q I1 q1
 |false=>exact hb pins s1 σ H1 Q I1 q1
end
def SqL(K:PySem.W.Frag)(H:Hp)(a:Addr)(xs:List V):Prop:=
 Rd H a (.lst xs) \/
  ∃(o:Obj)(its:Array Value)(n:Nat),K.lookup a=some o/\o.cls=.type "list" /\ o.dict=none/\o.data=.seq its n/\its.size<=sizeLine/\Vals xs its.toList
def SqT(K:PySem.W.Frag)(H:Hp)(a:Addr)(xs:List V):Prop:=
 Rd H a (.tup xs) \/
  ∃(o:Obj)(its:Array Value)(n:Nat),K.lookup a=some o/\o.cls=.type "tuple" /\ o.dict=none/\o.data=.seq its n/\its.size<=sizeLine/\Vals xs its.toList
noncomputable def absV:Value->Option V
 |.none=>some .non
 |.bool b=>some (.bl b)
 |.int i _=>some (.int i)
 |.str x _=>some (.str x)
 |.bytes b _=>some (.byt b)
 |.float b _=>some (.flt b)
 |.ref a=>some (.ref a)
 |.type n=>some (.ty n)
 |_=>none
theorem RelV.abs{x:V}(r:RelV x u):absV u=some x:=by
 cases x with
 |non=>cases r;rfl
 |bl _=>cases r;rfl
 |int _=>obtain⟨t,rfl⟩:=r;rfl
 |str _=>obtain⟨t,rfl⟩:=r;rfl
 |byt _=>obtain⟨t,rfl⟩:=r;rfl
 |flt _=>obtain⟨t,rfl⟩:=r;rfl
 |ref _=>cases r;rfl
 |ty _=>cases r;rfl
theorem RelV.inj{x y:V}(r:RelV x u)(q:RelV y u):x=y:=Option.some.inj (r.abs.symm.trans q.abs)
theorem Vals.inj:∀{xs ys:List V}{us:List Value},Vals xs us->Vals ys us->xs=ys
 |_,_,_,.nil,.nil=>rfl
 |_,_,_,.cons r t,.cons r' t'=>by rw[r.inj r',Vals.inj t t']
section
variable{ys:List V}
theorem SqL.of(h:H a=some (.lst xs)):SqL K H a xs:=.inl (.inl h)
theorem SqT.of(h:H a=some (.tup xs)):SqT K H a xs:=.inl (.inl h)
theorem Inv.list(I:Inv X pins σ H s)(h:SqL X.K H a xs):∃its:List Value,Vals xs its/\PlainL s.heap a its.toArray/\xs.length<=sizeLine:=by
 rcases h with h|⟨o,its,n,hk,hc,hd,hs,hz,r⟩
 ·obtain⟨z,its,n,r,e⟩:=h.ok I.hok;exact⟨its,r,⟨_,n,e,rfl,rfl,rfl⟩,z⟩
 ·refine⟨its.toList,r,⟨o,n,I.kIn a o hk,hc,hd,by simpa using hs⟩,?_⟩;have e:=r.length;simp only[w2c]at e;omega
theorem Inv.tuple(I:Inv X pins σ H s)(h:SqT X.K H a xs):∃its:List Value,Vals xs its/\IsTup s.heap a its.toArray/\xs.length<=sizeLine:=by
 rcases h with h|⟨o,its,n,hk,hc,_,hs,hz,r⟩
 ·obtain⟨z,its,r,p,_⟩:=h.ok I.hok;exact⟨its,r,p,z⟩
 ·refine⟨its.toList,r,⟨o,I.kIn a o hk,hc,n,by simpa using hs⟩,?_⟩;have e:=r.length;simp only[w2c]at e;omega
theorem Inv.list_inj(I:Inv X pins σ H s)(h:SqL X.K H a xs)(h':SqL X.K H a ys):xs=ys:=by
 obtain⟨its,r,⟨o,n,e,_,_,d⟩,_⟩:=I.list h;obtain⟨its',r',⟨o',n',e',_,_,d'⟩,_⟩:=I.list h';rw[e]at e';cases e';rw[d]at d';injection d' with d1 _
 have:its=its':=by simpa using congrArg Array.toList d1
 subst this;exact r.inj r'
theorem Inv.tuple_inj(I:Inv X pins σ H s)(h:SqT X.K H a xs)(h':SqT X.K H a ys):xs=ys:=by
 obtain⟨its,r,⟨o,e,_,n,d⟩,_⟩:=I.tuple h;obtain⟨its',r',⟨o',e',_,n',d'⟩,_⟩:=I.tuple h';rw[e]at e';cases e';rw[d]at d';injection d' with d1 _
 have:its=its':=by simpa using congrArg Array.toList d1
 subst this;exact r.inj r'
end
section
variable{st:Stmt}{rest:List Stmt}{t u:TS}
def tNext:TS:=fun D σ H=>D.nx σ H
def tSeq(t u:TS):TS:=fun D σ H=>t {D with nx:=u D} σ H
theorem y4f:PSs X [] tNext:=fun _ _ σ H _ I h=>wpAny_execs_nil ⟨σ,H,I,h⟩
theorem y1e(h1:PS X st t)(h2:PSs X rest u):PSs X (st::rest) (tSeq t u):=by
 intro pins s σ H D I h;refine wpAny_execs_cons (thn (h1 pins s σ H {D with nx:=u D} I h) fun f s1 q=>?_)
 cases f with
 |next=>
  obtain⟨σ',H',I',q⟩:=q;exact h2 pins s1 σ' H' D I' q
 |ret v=>exact q
 |brk=>exact q
 |cont=>exact q
theorem y4g(h1:PS X st t):PSs X [st] t:=by
 intro pins s σ H D I h;refine wpAny_execs_cons (thn (h1 pins s σ H D I h) fun f s1 q=>?_)
 cases f with
 |next=>exact wpAny_execs_nil q
 |ret v=>exact q
 |brk=>exact q
 |cont=>exact q
theorem Inv.quiet(I:Inv X pins σ H s):interactive X.env=false:=by simp[interactive,I.ok.kind]
def tDrop(te:TE):TS:=fun D σ H=>te σ H fun _ H1=>D.nx σ H1
theorem x1i(he:PE X e te)(hs:swapsWith e none pos.line X.env=pure false:=by rfl):PS X (.Expr e pos) (tDrop te):=by
 intro pins s σ H D I h;exact wpAny_Expr_any (thn (he pins s σ H _ I h) fun v s1 ⟨x,H1,I1,r1,q1⟩=>⟨σ,H1,I1,q1⟩) I.quiet hs
def tRet(te:TE):TS:=fun D σ H=>te σ H D.rt
theorem x3v(he:PE X e te):PS X (.Return (some e) pos) (tRet te):=by
 intro pins s σ H D I h;exact wpAny_Return_some (thn (he pins s σ H _ I h) fun v s1 ⟨x,H1,I1,r1,q1⟩=>⟨x,σ,H1,I1,r1,q1⟩)
def tIfS(c:TT)(t u:TS):TS:=fun D σ H=>c σ H fun b H1=>if b=true then t D σ H1 else u D σ H1
theorem z2i{a b:List Stmt}{tc:TT}(hc:PT X c tc)(ha:PSs X a t)(hb:PSs X b u):PS X (.If c a b pos) (tIfS tc t u):=by
 intro pins s σ H D I h;refine wpAny_If (thn (hc pins s σ H _ I h) fun d s1 ⟨H1,I1,q1⟩=>?_)
 cases d with
 |true=>exact ha pins s1 σ H1 D I1 q1
 |false=>exact hb pins s1 σ H1 D I1 q1
end
abbrev TG:=V->St->Hp->(St->Hp->Prop)->Prop
abbrev TGs:=List V->St->Hp->(St->Hp->Prop)->Prop
def PG(X:Cx)(target:Expr)(t:TG):Prop:=
 ∀(pins:List (Addr×Obj))(s:Shared)(σ:St)(H:Hp)(v:V)(u:Value)(Q:St->Hp->Prop),Inv X pins σ H s->RelV v u->t v σ H Q ->
  wpAny (model X.prog X.w) X.A (assign target X.env u) (fun _ s'=>∃σ' H',Inv X pins σ' H' s'/\Q σ' H') X.xe s
def PGs(X:Cx)(ts:List Expr)(t:TGs):Prop:=
 ∀(pins:List (Addr×Obj))(s:Shared)(σ:St)(H:Hp)(vs:List V)(us:List Value)(Q:St->Hp->Prop),Inv X pins σ H s->Vals vs us->t vs σ H Q ->
  wpAny (model X.prog X.w) X.A (assignInOrder ((assignEach ts X.env).map (·.2)) us) (fun _ s'=>∃σ' H',Inv X pins σ' H' s'/\Q σ' H') X.xe s
abbrev TSet:=V->V->V->Hp->(Hp->Prop)->Prop
def PSet(X:Cx)(t:TSet):Prop:=
 ∀(pins:List (Addr×Obj))(s:Shared)(σ:St)(H:Hp)(o i v:V)(ov iv u:Value)(Q:Hp->Prop),Inv X pins σ H s->RelV o ov->RelV i iv->RelV v u->t o i v H Q ->
  wpAny (model X.prog X.w) X.A (setItem ov iv u) (fun _ s'=>∃H',Inv X pins σ H' s'/\Q H') X.xe s
def gName(i:Nat):TG:=fun v σ H Q=>Q (σ.set i (some v)) H
theorem y4h(hN:X.N.Nodup)(hi:X.N[i]?=some x)(hx:Loc X.env.scope x)(hf:X.fn x=true\/X.env.scope.names.lookup x=some .local:=by walk_at "2"):PG X (.Name x pos) (gName i):=by
 intro pins s σ H v u Q I r h;exact wpAny_assign_Name (x3u I hN hi hx r (fun s' I'=>⟨_,H,I',h⟩) hf)
noncomputable def gNil:TGs:=fun vs σ H Q=>vs=[]/\Q σ H
noncomputable def gCons(t:TG)(u:TGs):TGs:=fun vs σ H Q=>∃v r,vs=v::r/\t v σ H fun σ' H'=>u r σ' H' Q
theorem y4i:PGs X [] gNil:=by
 intro pins s σ H vs us Q I r h;obtain⟨e,h⟩:=h;subst e;cases r;exact assignInOrder_nil ⟨σ,H,I,h⟩
theorem x3w{t:TG}{u:TGs}(h1:PG X e t)(h2:PGs X es u)
  (hs:(assignEach (e::es) X.env).map (·.2)=assign e X.env::(assignEach es X.env).map (·.2):=by rfl):PGs X (e::es) (gCons t u):=by
 intro pins s σ H vs us Q I r h;obtain⟨v,vr,e1,h⟩:=h;subst e1;cases r with
 |cons r rr=>
  rw[hs];refine assignInOrder_cons (thn (h1 pins s σ H _ _ _ I r h) fun _ s1 ⟨σ1,H1,I1,q1⟩=>?_)
  exact h2 pins s1 σ1 H1 _ _ Q I1 rr q1
def gTup(K:PySem.W.Frag)(n:Nat)(t:TGs):TG:=fun v σ H Q=>∃a xs,v=.ref a/\SqT K H a xs/\xs.length=n/\t xs σ H Q
theorem y8l{k:Nat}{t:TGs}{n:Nat}(hc:X.calm=true)(h:PGs X es t)
  (hn:(assignEach es X.env).length=n:=by rfl)(hst:(assignEach es X.env).findIdx? (·.1)=none:=by rfl):PG X (.Tuple es k pos) (gTup X.K n t):=by
 intro pins s σ H v u Q I r hw;obtain⟨a,xs,e1,hq,hl,hw⟩:=hw;subst e1;cases r;obtain⟨its,rv,ht,hz⟩:=I.tuple hq;refine assign_Tuple_tuple (I.ok.hd hc) ht (by simp[hn,<- hl,rv.length]) hst fun h' hx=>?_
 have I1:Inv X pins σ H {s with heap:=h'}:=I.kept (t':=s.toks) fun b o e=>hx b o (w0p (Heap.lt_size e)) e
 exact h pins _ σ H xs _ Q I1 (by simpa using rv) hw
def gSub(to ti:TE)(t:TSet):TG:=fun v σ H Q=>to σ H fun o H1=>ti σ H1 fun i H2=>t o i v H2 fun H3=>Q σ H3
theorem y8m{o i:Expr}{to ti:TE}{t:TSet}(ho:PE X o to)(hi:PE X i ti)(hs:PSet X t)
  (ha:∀v,assign (.Subscript o i pos) X.env v=(do
   let ov <- holding [v] (eval o X.env)
   let iv <- holding [v,ov] (eval i X.env)
   standAt pos
   holding [v,ov,iv] (setItem ov iv v)
   release [v,ov,iv] []):=by intro _;rfl):PG X (.Subscript o i pos) (gSub to ti t):=by
 intro pins s σ H v u Q I r h;rw[ha];refine wpAny_bind (wpAny_holding (thn (ho pins s σ H _ I h) fun ov s1 ⟨x,H1,I1,r1,q1⟩=>?_))
 refine wpAny_bind (wpAny_holding (thn (hi pins s1 σ H1 _ I1 q1) fun iv s2 ⟨y,H2,I2,r2,q2⟩=>?_))
 refine wpAny_bind (wpAny_standAt (wpAny_bind (wpAny_holding (thn (hs pins s2 σ H2 x y v ov iv u _ I2 r1 r2 r q2) fun _ s3 ⟨H3,I3,q3⟩=>?_))))
 exact wpAny_release ⟨σ,H3,I3,q3⟩
def tAsg(te:TE)(g:TG):TS:=fun D σ H=>te σ H fun x H1=>g x σ H1 D.nx
theorem y8n{g:TG}(he:PE X e te)(hg:PG X tg g)(hs:swapsWithSole [tg] e pos.line X.env=pure false:=by rfl)(hw:swappedStores [tg] e X.env=pure none:=by rfl)
  (h1:(assignEach [tg] X.env).map (·.2)=[assign tg X.env]:=by rfl):PS X (.Assign [tg] e pos) (tAsg te g):=by
 intro pins s σ H D I h;refine wpAny_Assign_stores (thn (he pins s σ H _ I h) fun v s1 ⟨x,H1,I1,r1,q1⟩=>?_) hs hw
 rw[h1];exact thn (hg pins s1 σ H1 x v _ I1 r1 q1) fun _ s2 q=>q
theorem y8o{pos':Pos}(hN:X.N.Nodup)(hi:X.N[i]?=some x)(hx:Loc X.env.scope x)(he:PE X e te)(hs:swapsWith e (some (.Name x pos')) pos.line X.env=pure false:=by rfl)(hf:X.fn x=true\/X.env.scope.names.lookup x=some .local:=by walk_at "2"):
  PS X (.Assign [.Name x pos'] e pos) (tAsg te (gName i)):=by
 intro pins s σ H D I h;refine wpAny_Assign_Name (thn (he pins s σ H _ I h) fun v s1 ⟨y,H1,I1,r1,q1⟩=>?_) hs
 exact x3u I1 hN hi hx r1 (fun s2 I2=>⟨_,H1,I2,q1⟩) hf
def tWhile(c:TT)(tb:TS):TS:=fun D σ H=>∃W:Nat->St->Hp->Prop,(∃m,W m σ H)/\∀m σ H,W m σ H ->
 c σ H fun b H1=>if b=true then ∃N:St->Hp->Prop,(∀σ' H',N σ' H'->∃m',m'<m/\W m' σ' H')/\tb {D with nx:=N,ct:=N,bk:=D.nx} σ H1 else D.nx σ H1
theorem y1f{body:List Stmt}{tc:TT}(hp:PassesOwn (model X.prog X.w) X.A X.env X.xe)(hc:PT X c tc)(hb:PSs X body tb):PS X (.While c body [] pos) (tWhile tc tb):=by
 intro pins s σ H D I h;obtain⟨W,⟨m0,w0⟩,turn⟩:=h;refine wpAny_While (codeAny_whileLoop (fun n s'=>∃σ' H',Inv X pins σ' H' s'/\W n σ' H') ?_ m0 ⟨σ,H,I,w0⟩)
 rintro n s1 ⟨σ1,H1,I1,w1⟩;refine wpAny_passesOwn hp (thn (hc pins s1 σ1 H1 _ I1 (turn n σ1 H1 w1)) fun b s2 ⟨H2,I2,q2⟩=>?_)
 cases b with
 |true=>
  obtain⟨N,hN,q2⟩:=q2;rw[if_pos rfl];refine wpAny_passesOwn hp (thn (hb pins s2 σ1 H2 _ I2 q2) fun f s3 q3=>?_)
  cases f with
  |next=>
   obtain⟨σ3,H3,I3,n3⟩:=q3;obtain⟨m',hm,w3⟩:=hN σ3 H3 n3;exact⟨m',hm,σ3,H3,I3,w3⟩
  |cont=>
   obtain⟨σ3,H3,I3,n3⟩:=q3;obtain⟨m',hm,w3⟩:=hN σ3 H3 n3;exact⟨m',hm,σ3,H3,I3,w3⟩
  |brk=>exact q3
  |ret v=>exact q3
 |false=>
  rw[if_neg w0t];exact wpAny_execs_nil ⟨σ1,H2,I2,q2⟩
structure It where
 go:Nat->Hp->Prop
 yld:Nat->Hp->V->Hp->Prop
 stop:Nat->Hp->Prop
def FpOk(X:Cx)(pins:List (Addr×Obj))(H:Hp)(b:Addr):Prop:=
 H b=none/\b≠X.env.locals/\b∉X.fs/\(b∈X.ex\/X.s₀.heap.objs.size<=b)/\(∀x c,X.env.cells.lookup x=some c->c≠b)/\∀p∈X.pn++pins,p.1≠b
theorem Inv.fpOk(I:Inv X pins σ H s)(hb:s.heap.objs.size<=b)(hn:H' b=none):FpOk X pins H' b:=by
 refine⟨hn,Nat.ne_of_gt (w0l I.lt hb),I.nofs hb,.inr (w0o I.sz hb),fun x c e z=>?_,fun p hp z=>?_⟩
 ·obtain⟨v,q⟩:=I.cell x c e;exact absurd (w0l q.lt (by rw[z];exact hb)) (w2b _)
 ·exact absurd (w0l (Heap.lt_size (I.pin p hp).1) (by rw[z];exact hb)) (w2b _)
structure Turn(P:Program)(w:World)(K:PySem.W.Frag)(tg:Expr)(J:It)(fp:List Addr)(it:Addr)(tn:Nat->Heap->Prop):Prop where
 mem:it∈fp
 obj:∀i h,tn i h->∀b∈fp,∃o,h.get? b=some o/\∀v,o.data≠.cell v
 keep:∀i h h',tn i h->(∀b∈fp,∀o,h.get? b=some o->h'.get? b=some o)->tn i h'
 item:∀(X:Cx),X.prog=P->X.w=w->X.K=K->X.calm=true->∀(i:Nat)(pins:List (Addr×Obj))(s:Shared)(σ:St)(H:Hp)(E:Value->Shared->Prop),Inv X pins σ H s->(∀b∈fp,FpOk X pins H b)->tn i s.heap->J.go i H ->
  wpAny (model P w) X.A (pyNext (.ref it)) (fun r s1=>∃u,r=some u /\
   wpAny (model P w) X.A (letOwnedTupleGo tg (.ref it) u) (fun _ s2=>∃x H',Inv X pins σ H' s2/\RelV x u/\J.yld i H x H'/\tn (i+1) s2.heap/\∀b∈fp,H' b=none) E s1) E s
 done:∀(X:Cx),X.prog=P->X.w=w->X.K=K->X.calm=true->∀(i:Nat)(pins:List (Addr×Obj))(s:Shared)(σ:St)(H:Hp)(E:Value->Shared->Prop),Inv X pins σ H s->(∀b∈fp,FpOk X pins H b)->tn i s.heap->J.stop i H ->
  wpAny (model P w) X.A (pyNext (.ref it)) (fun r s1=>r=none/\Inv X pins σ H s1) E s
 self:∀(A:Around)(i:Nat)(s:Shared)(Q:Value->Shared->Prop)(E:Value->Shared->Prop),tn i s.heap->Q (.ref it) s->wpAny (model P w) A (pyIter (.ref it)) Q E s
abbrev TI:=St->Hp->(It->Hp->Prop)->Prop
def PIE(X:Cx)(pins:List (Addr×Obj))(σ:St)(tg:Expr)(R:It->Hp->Prop)(itv:Value)(s2:Shared):Prop:=
 ∃(it:Addr)(fp:List Addr)(tn:Nat->Heap->Prop)(J:It)(H':Hp),itv=.ref it/\Inv X pins σ H' s2/\Turn X.prog X.w X.K tg J fp it tn/\tn 0 s2.heap/\(∀b∈fp,FpOk X pins H' b)/\R J H'
def PI(X:Cx)(tg iter:Expr)(wi:TI):Prop:=
 ∀(pins:List (Addr×Obj))(s:Shared)(σ:St)(H:Hp)(R:It->Hp->Prop),Inv X pins σ H s->wi σ H R ->
  wpAny (model X.prog X.w) X.A (eval iter X.env) (fun v s1=>wpAny (model X.prog X.w) X.A (pyIter v) (PIE X pins σ tg R) X.xe s1) X.xe s
theorem x3m{E : Value -> Shared -> Prop}{s : Shared}{it : Addr}{o : Obj}{n : String}{vs : Array Value}{Q : Unit -> Shared -> Prop}(ho : s.heap.get? it = some o)(hc : o.cls = .type n)(hd : o.data = .fields vs)
    (hn : ["enumerate", "zip", "dict_itemiterator", "dict_reverseitemiterator", "odict_iterator", "itertools.zip_longest", "itertools.pairwise"].contains n = false)(hQ : Q () s) : wpAny M A (letOwnedTupleGo tg (.ref it) u) Q E s := by
  unfold letOwnedTupleGo
  cases tg <;> first
    | exact wpAny_pure hQ
    | (cases u <;> first
        | exact wpAny_pure hQ
        | (refine wpAny_bind (wpAny_load ho ?_)
           rw [hc, hd];show wpAny M A (if (["enumerate", "zip", "dict_itemiterator", "dict_reverseitemiterator", "odict_iterator", "itertools.zip_longest", "itertools.pairwise"].contains n && vs[0]? == some (rawInt _)) = true then _ else _) Q E s;rw [if_neg (by intro h; rw [hn, Bool.false_and] at h; cases h)];exact wpAny_pure hQ))
noncomputable def Itl(K:PySem.W.Frag)(a:Addr):It:=
 ⟨fun i H=>∃xs x,SqL K H a xs/\xs[i]?=some x,fun i H x H'=>H'=H/\∀xs,SqL K H a xs->xs[i]?=some x,fun i H=>∃xs,SqL K H a xs/\xs.length<=i⟩
noncomputable def Itt(K:PySem.W.Frag)(a:Addr):It:=
 ⟨fun i H=>∃xs x,SqT K H a xs/\xs[i]?=some x,fun i H x H'=>H'=H/\∀xs,SqT K H a xs->xs[i]?=some x,fun i H=>∃xs,SqT K H a xs/\xs.length<=i⟩
noncomputable def Itr(lo:Int)(n:Nat):It:=⟨fun i _=>i<n,fun i H x H'=>H'=H/\x=.int (lo+i),fun i _=>n<=i⟩
theorem x8k(a it:Addr):Turn P w K tg (Itl K a) [it] it (fun i h=>h.IsListIter it a i) where
 mem:=by simp
 obj:=fun i h st b hb=>by
  have e:b=it:=by simpa using hb
  subst e;obtain⟨o,e,c,d⟩:=st;exact⟨o,e,fun v z=>by rw[d]at z;cases z⟩
 keep:=fun i h h' st k=>st.at fun o e=>k it (by simp) o e
 item:=by
  intro X hP hw hK hc i pins s σ H E I hf st hg;subst hP hw hK;obtain⟨xs,x,hq,hx⟩:=hg;obtain⟨its,rv,p,hz⟩:=I.list hq;obtain⟨u,hu,ru⟩:=rv.get hx;obtain⟨f0,f1,f2,f3,f4,f5⟩:=hf it (by simp);refine wpAny_pyNext_list_item st p.isList (x:=u) (by simpa using hu) fun h' st' sb=>?_
  have I1:Inv X pins σ H {s with heap:=h'}:=I.turned (t':=s.toks) (fun b o hb e=>(sb.2 b hb).trans e) f0 f1 f3 f4 f5
  obtain⟨o,e,c,d⟩:=id st';exact⟨u,rfl,x3m (s:={s with heap:=h'}) e c d (by decide) ⟨x,H,I1,ru,⟨rfl,fun ys hy=>by rw[I.list_inj hy hq];exact hx⟩,st',fun b hb=>(hf b hb).1⟩⟩
 done:=by
  intro X hP hw hK hc i pins s σ H E I hf st hg;subst hP hw hK;obtain⟨xs,hq,hx⟩:=hg;obtain⟨its,rv,p,hz⟩:=I.list hq;obtain⟨f0,f1,f2,f3,f4,f5⟩:=hf it (by simp);have hl:=rv.length;exact wpAny_pyNext_list_end (I.ok.hd hc) st p.isList (by simp;omega) fun h' eb=>⟨rfl,I.turned (t':=s.toks) (fun b o hb e=>eb b o hb e) f0 f1 f3 f4 f5⟩
 self:=fun _ _ _ _ _ st h=>wpAny_pyIter_listiter st h
theorem x62(a it:Addr):Turn P w K tg (Itt K a) [it] it (fun i h=>h.IsTupleIter it a i) where
 mem:=by simp
 obj:=fun i h st b hb=>by
  have e:b=it:=by simpa using hb
  subst e;obtain⟨o,e,c,d⟩:=st;exact⟨o,e,fun v z=>by rw[d]at z;cases z⟩
 keep:=fun i h h' st k=>st.at fun o e=>k it (by simp) o e
 item:=by
  intro X hP hw hK hc i pins s σ H E I hf st hg;subst hP hw hK;obtain⟨xs,x,hq,hx⟩:=hg;obtain⟨its,rv,p,hz⟩:=I.tuple hq;obtain⟨u,hu,ru⟩:=rv.get hx;obtain⟨f0,f1,f2,f3,f4,f5⟩:=hf it (by simp);refine wpAny_pyNext_tuple_item st (show s.heap.IsTuple a its.toArray from p) (x:=u) (by simpa using hu) fun h' st' sb=>?_
  have I1:Inv X pins σ H {s with heap:=h'}:=I.turned (t':=s.toks) (fun b o hb e=>(sb.2 b hb).trans e) f0 f1 f3 f4 f5
  obtain⟨o,e,c,d⟩:=id st';exact⟨u,rfl,x3m (s:={s with heap:=h'}) e c d (by decide) ⟨x,H,I1,ru,⟨rfl,fun ys hy=>by rw[I.tuple_inj hy hq];exact hx⟩,st',fun b hb=>(hf b hb).1⟩⟩
 done:=by
  intro X hP hw hK hc i pins s σ H E I hf st hg;subst hP hw hK;obtain⟨xs,hq,hx⟩:=hg;obtain⟨its,rv,p,hz⟩:=I.tuple hq;obtain⟨f0,f1,f2,f3,f4,f5⟩:=hf it (by simp);have hl:=rv.length;exact wpAny_pyNext_tuple_end (I.ok.hd hc) st (show s.heap.IsTuple a its.toArray from p) (by simp;omega) fun h' eb=>⟨rfl,I.turned (t':=s.toks) (fun b o hb e=>eb b o hb e) f0 f1 f3 f4 f5⟩
 self:=fun _ _ _ _ _ st h=>wpAny_pyIter_tupleiter st h
theorem x63(it:Addr)(lo:Int)(n:Nat):Turn P w K tg (Itr lo n) [it] it (fun i h=>IsRangeIter h it (lo+(i:Nat)*1) ((n:Int)-(i:Nat)) 1) where
 mem:=by simp
 obj:=fun i h st b hb=>by
  have e:b=it:=by simpa using hb
  subst e
  exact⟨_,st,fun v z=>by
   have z':Data.fields _=Data.cell v:=z;cases z'⟩
 keep:=fun i h h' st k=>k it (by simp) _ st
 item:=by
  intro X hP hw hK hc i pins s σ H E I hf st hg;subst hP hw hK;obtain⟨f0,f1,f2,f3,f4,f5⟩:=hf it (by simp);have W:=Walks.range (prog:=X.prog) (w:=X.w) (I.ok.hd hc) it lo 1 n;refine W.item i s _ _ hg st fun v h' tk hv st' kk=>?_
  obtain⟨t,rfl⟩:=hv;have I1:Inv X pins σ H {s with heap:=h',toks:=tk}:=I.turned (fun b o hb e=>kk b o (by simpa using hb) e) f0 f1 f3 f4 f5
  refine⟨_,rfl,x3m (s:={s with heap:=h',toks:=tk}) (n:="range_iterator") st' rfl rfl (by decide) ⟨.int (lo+i),H,I1,⟨t,?_⟩,⟨rfl,rfl⟩,st',fun b hb=>(hf b hb).1⟩⟩
  rw[Int.mul_one]
 done:=by
  intro X hP hw hK hc i pins s σ H E I hf st hg;subst hP hw hK;obtain⟨f0,f1,f2,f3,f4,f5⟩:=hf it (by simp);exact wpAny_pyNext_range_end (I.ok.hd hc) st (by have:n<=i:=hg;omega) fun h' eb=>⟨rfl,I.turned (t':=s.toks) (fun b o hb e=>eb b o hb e) f0 f1 f3 f4 f5⟩
 self:=fun _ _ _ _ _ st h=>wpAny_pyIter_rangeiter st h
theorem x3x{R:It->Hp->Prop}{lo hi:Int}{t u v:Tok}{tk:Nat}(I:Inv X pins σ H s)(h1:-(2^62)<=lo)(h2:lo<2^62)(h3:-(2^62)<=hi)(h4:hi<2^62)
  (q:R (Itr lo (hi-lo).toNat) H):wpAny (model X.prog X.w) X.A (pyIter (.ref s.heap.objs.size)) (PIE X pins σ tg R) E {s with heap:=s.heap.push {cls:=.type "range", data:=.fields #[.int lo t,.int hi u,.int 1 v]},toks:=tk}:=by
 refine wpAny_pyIter_range (IsRange.new ..) (small_one h1 h2 h3 h4) ?_;have I1:Inv X pins σ H {s with heap:=s.heap.push {cls:=.type "range", data:=.fields #[.int lo t,.int hi u,.int 1 v]},toks:=tk}:=I.kept fun b o e=>Heap.get?_push_of_some _ e
 refine⟨(s.heap.push {cls:=.type "range", data:=.fields #[.int lo t,.int hi u,.int 1 v]}).objs.size,[(s.heap.push {cls:=.type "range", data:=.fields #[.int lo t,.int hi u,.int 1 v]}).objs.size],_,_,H,rfl,
  I1.kept (t':=tk) fun b o e=>Heap.get?_push_of_some _ e,x63 _ lo (hi-lo).toNat,?_,fun b hb=>?_,q⟩
 ·have e1:lo+((0:Nat):Int)*1=lo:=by simp
  have e2:(((hi-lo).toNat:Nat):Int)-((0:Nat):Int)=Builtin.Range.rangeSize lo hi 1:=by rw[rangeSize_one];split<;>omega
  show IsRangeIter _ _ (lo+((0:Nat):Int)*1) ((((hi-lo).toNat:Nat):Int)-((0:Nat):Int)) 1;rw[e1,e2];exact Heap.get?_push_size _ rfl
 ·have e:b=(s.heap.push {cls:=.type "range", data:=.fields #[.int lo t,.int hi u,.int 1 v]}).objs.size:=by simpa using hb
  subst e;exact I1.fpOk (w0e _) (I1.hok.fresh (w0e _))
def iRng1(ta:TA):TI:=fun σ H R=>ta σ H fun vs H1=>∃j:Int,vs=[.int j]/\-(2^62)<=j/\j<2^62/\R (Itr 0 j.toNat) H1
def iRng2(ta:TA):TI:=fun σ H R=>ta σ H fun vs H1=>∃i j:Int,vs=[.int i,.int j]/\(-(2^62)<=i/\i<2^62/\-(2^62)<=j/\j<2^62)/\R (Itr i (j-i).toNat) H1
theorem q8j{a:Expr}{ta:TA}(hg:Gl X "range")(hm:X.mg "range"=none)(ha:PA X [a] ta)(hs:starEach [a] X.env=[(false,eval a X.env)]:=by rfl):PI X tg (.Call (.Name "range" p) [a] [] pos) (iRng1 ta):=by
 intro pins s σ H R I h;refine Call_ (q6z I hg hm boot_range (PyProof.Rows.callWith_type1 (thn (ha pos pins s σ H _ I h) fun us s1 ⟨vs,H1,I1,r1,q1⟩=>?_) hs rfl))
 obtain⟨j,e,q1,q2,q⟩:=q1;subst e;cases r1 with
 |cons r rr=>
  cases rr;obtain⟨t,rfl⟩:=r;exact call_range_1 (x3x I1 (by omega) (by omega) q1 q2 (by simpa using q))
theorem x8l{a b:Expr}{ta:TA}(hg:Gl X "range")(hm:X.mg "range"=none)(ha:PA X [a,b] ta)(hs:starEach [a,b] X.env=[(false,eval a X.env),(false,eval b X.env)]:=by rfl)(hs2:starEach [b] X.env=[(false,eval b X.env)]:=by rfl):
  PI X tg (.Call (.Name "range" p) [a,b] [] pos) (iRng2 ta):=by
 intro pins s σ H R I h;refine Call_ (q6z I hg hm boot_range (PyProof.Rows.callWith_type1 (thn (ha pos pins s σ H _ I h) fun us s1 ⟨vs,H1,I1,r1,q1⟩=>?_) (by rw[hs,hs2]) (by rw[hs2];rfl)))
 obtain⟨i,j,e,⟨q1,q2,q3,q4⟩,q⟩:=q1;subst e;cases r1 with
 |cons r rr=>
  cases rr with
  |cons r' rr=>
   cases rr;obtain⟨t,rfl⟩:=r;obtain⟨t',rfl⟩:=r';exact call_range_2 (x3x I1 q1 q2 q3 q4 q)
def tFor(wi:TI)(g:TG)(tb:TS):TS:=fun D σ H=>wi σ H fun J H1=>∃W:Nat->Nat->St->Hp->Prop,(∃m,W 0 m σ H1)/\∀i m σ H,W i m σ H ->
 (J.stop i H/\D.nx σ H)\/(J.go i H/\∃N:St->Hp->Prop,(∀σ' H',N σ' H'->∃m',m'<m/\W (i+1) m' σ' H')/\∀x H',J.yld i H x H'->g x σ H' fun σ2 H2=>tb {D with nx:=N,ct:=N,bk:=D.nx} σ2 H2)
noncomputable def pinsAt(fp:List Addr)(h:Heap):List (Addr×Obj):=fp.filterMap fun b=>(h.get? b).map fun o=>(b,o)
theorem q3g{o:Obj}(hb:b∈fp)(e:h.get? b=some o):(b,o)∈pinsAt fp h:=w3h.mpr ⟨b,hb,by rw[e];rfl⟩
theorem x8m{p:Addr×Obj}(hp:p∈pinsAt fp h):p.1∈fp/\h.get? p.1=some p.2:=by
 obtain⟨b,hb,e⟩:=w3h.mp hp;cases q:h.get? b with
 |none=>rw[q]at e;cases e
 |some o=>
  rw[q]at e;have e':(b,o)=p:=Option.some.inj e;subst e';exact⟨hb,q⟩
theorem Inv.pinned(I:Inv X pins σ H s)(hf:∀b∈fp,FpOk X pins H b)(ho:∀b∈fp,∃o,s.heap.get? b=some o/\∀v,o.data≠.cell v):Inv X (pins++pinsAt fp s.heap) σ H s:=
 I.pins_of fun p hp=>(w2t.mp hp).elim (fun z=>I.pin p (w0i _ z)) fun z=>by
  obtain⟨hb,e⟩:=x8m z;obtain⟨f0,f1,f2,_⟩:=hf p.1 hb;obtain⟨o,e',d⟩:=ho p.1 hb;rw[e]at e';cases e';exact⟨e,f0,f1,f2,d⟩
theorem Inv.unpinned{pl:List (Addr×Obj)}(I:Inv X (pins++pl) σ H s):Inv X pins σ H s:=I.pins_of fun p hp=>I.pin p (w0i _ (w4a _ hp))
theorem x0q{iter:Expr}{body:List Stmt}{wi:TI}{g:TG}(hp:PassesOwn (model X.prog X.w) X.A X.env X.xe)(hc:X.calm=true)(hi:PI X tg iter wi)(hg:PG X tg g)(hb:PSs X body tb)
  (hs:∀x,foldedSetIterable iter X.env x=pure x:=by intro _;rfl):PS X (.For tg iter body [] pos) (tFor wi g tb):=by
 intro pins s σ H D I h;refine wpAny_For (thn (hi pins s σ H _ I h) fun v s1 h1=>thn h1 fun itv s2 h2=>?_) hs
 obtain⟨it,fp,tn,J,H2,e,I2,T,st2,f2,W,⟨m0,w0⟩,turn⟩:=h2;subst e;have stat:∀{H':Hp},(∀b∈fp,H' b=none)->∀b∈fp,FpOk X pins H' b:=fun hn b hb=>⟨hn b hb,(f2 b hb).2⟩
 refine codeAny_forLoop_any (fun n s'=>∃i σ' H',Inv X pins σ' H' s'/\tn i s'.heap/\(∀b∈fp,H' b=none)/\W i n σ' H') ?_ m0 ⟨0,σ,H2,I2,st2,fun b hb=>(f2 b hb).1,w0⟩
 rintro n s3 ⟨i,σ3,H3,I3,st3,fr3,w3⟩;rcases turn i n σ3 H3 w3 with⟨stop,qn⟩|⟨go,N,hN,step⟩
 ·refine wpAny_passesOwn hp (thn (T.done X rfl rfl rfl hc i pins s3 σ3 H3 X.xe I3 (stat fr3) st3 stop) fun r s4 ⟨hr,I4⟩=>?_)
  subst hr;exact wpAny_execs_nil ⟨σ3,H3,I4,qn⟩
 ·refine wpAny_passesOwn hp (thn (T.item X rfl rfl rfl hc i pins s3 σ3 H3 X.xe I3 (stat fr3) st3 go) fun r s4 ⟨u,hr,h4⟩=>?_)
  subst hr;refine wpAny_passesOwn hp (thn h4 fun _ s5 ⟨x,H5,I5,r5,y5,st5,fr5⟩=>?_)
  have I5':=I5.pinned (stat fr5) (T.obj _ _ st5);refine wpAny_passesOwn hp (thn (hg _ s5 σ3 H5 x u _ I5' r5 (step x H5 y5)) fun _ s6 ⟨σ6,H6,I6,q6⟩=>?_)
  refine wpAny_passesOwn hp (thn (hb _ s6 σ6 H6 _ I6 q6) fun f s7 q7=>?_)
  have again:∀{σ7:St}{H7:Hp},Inv X (pins++pinsAt fp s5.heap) σ7 H7 s7->N σ7 H7->∃m,m<n/\∃i σ' H',Inv X pins σ' H' s7/\tn i s7.heap/\(∀b∈fp,H' b=none)/\W i m σ' H':=fun {σ7 H7} I7 n7=>by
   obtain⟨m',hm,w7⟩:=hN σ7 H7 n7;refine⟨m',hm,i+1,σ7,H7,I7.unpinned,T.keep _ _ _ st5 fun b hb o e=>(I7.pin (b,o) (w0i _ (w0i _ (q3g hb e)))).1,fun b hb=>?_,w7⟩
   obtain⟨o,e,d⟩:=T.obj _ _ st5 b hb;exact(I7.pin (b,o) (w0i _ (w0i _ (q3g hb e)))).2.1
  cases f with
  |next=>obtain⟨σ7,H7,I7,n7⟩:=q7;exact again I7 n7
  |cont=>obtain⟨σ7,H7,I7,n7⟩:=q7;exact again I7 n7
  |brk=>obtain⟨σ7,H7,I7,q7⟩:=q7;exact⟨σ7,H7,I7.unpinned,q7⟩
  |ret v=>obtain⟨x7,σ7,H7,I7,r7,q7⟩:=q7;exact⟨x7,σ7,H7,I7.unpinned,r7,q7⟩
theorem y1g{g:TG}{D:Ends}(Pv:Nat->St->Hp->Prop)(h0:Pv 0 σ H)(hl:∀i σ H,i<=xs.length->Pv i σ H->SqL K H a xs)
  (hs:∀i x σ H,xs[i]?=some x->Pv i σ H->g x σ H fun σ2 H2=>tb {D with nx:=Pv (i+1),ct:=Pv (i+1),bk:=D.nx} σ2 H2)(hd:∀σ H,Pv xs.length σ H->D.nx σ H):
  ∃W:Nat->Nat->St->Hp->Prop,(∃m,W 0 m σ H)/\∀i m σ H,W i m σ H ->
   ((Itl K a).stop i H/\D.nx σ H)\/((Itl K a).go i H/\∃N:St->Hp->Prop,(∀σ' H',N σ' H'->∃m',m'<m/\W (i+1) m' σ' H')/\∀x H',(Itl K a).yld i H x H'->g x σ H' fun σ2 H2=>tb {D with nx:=N,ct:=N,bk:=D.nx} σ2 H2):=by
 refine⟨fun i m σ H=>m=xs.length-i/\i<=xs.length/\Pv i σ H,⟨xs.length,by simp,w1l _,h0⟩,?_⟩
 rintro i m σ H ⟨rfl,hi,p⟩;have q:=hl i σ H hi p
 by_cases hlt:i<xs.length
 ·refine .inr ⟨⟨xs,xs[i],q,by simp[hlt]⟩,Pv (i+1),fun σ' H' p'=>⟨xs.length-(i+1),by omega,rfl,hlt,p'⟩,fun x H' y=>?_⟩
  obtain⟨e,y⟩:=y;subst e;exact hs i x σ _ (y xs q) p
 ·have e:i=xs.length:=by omega
  subst e;exact .inl ⟨⟨xs,q,w0e _⟩,hd σ H p⟩
theorem y4j{g:TG}{D:Ends}(Pv:Nat->St->Hp->Prop)(h0:Pv 0 σ H)(hl:∀i σ H,i<=xs.length->Pv i σ H->SqT K H a xs)
  (hs:∀i x σ H,xs[i]?=some x->Pv i σ H->g x σ H fun σ2 H2=>tb {D with nx:=Pv (i+1),ct:=Pv (i+1),bk:=D.nx} σ2 H2)(hd:∀σ H,Pv xs.length σ H->D.nx σ H):
  ∃W:Nat->Nat->St->Hp->Prop,(∃m,W 0 m σ H)/\∀i m σ H,W i m σ H ->
   ((Itt K a).stop i H/\D.nx σ H)\/((Itt K a).go i H/\∃N:St->Hp->Prop,(∀σ' H',N σ' H'->∃m',m'<m/\W (i+1) m' σ' H')/\∀x H',(Itt K a).yld i H x H'->g x σ H' fun σ2 H2=>tb {D with nx:=N,ct:=N,bk:=D.nx} σ2 H2):=by
 refine⟨fun i m σ H=>m=xs.length-i/\i<=xs.length/\Pv i σ H,⟨xs.length,by simp,w1l _,h0⟩,?_⟩
 rintro i m σ H ⟨rfl,hi,p⟩;have q:=hl i σ H hi p
 by_cases hlt:i<xs.length
 ·refine .inr ⟨⟨xs,xs[i],q,by simp[hlt]⟩,Pv (i+1),fun σ' H' p'=>⟨xs.length-(i+1),by omega,rfl,hlt,p'⟩,fun x H' y=>?_⟩
  obtain⟨e,y⟩:=y;subst e;exact hs i x σ _ (y xs q) p
 ·have e:i=xs.length:=by omega
  subst e;exact .inl ⟨⟨xs,q,w0e _⟩,hd σ H p⟩
theorem x8n{lo:Int}{n:Nat}{g:TG}{D:Ends}(Pv:Nat->St->Hp->Prop)(h0:Pv 0 σ H)
  (hs:∀i σ H,i<n->Pv i σ H->g (.int (lo+i)) σ H fun σ2 H2=>tb {D with nx:=Pv (i+1),ct:=Pv (i+1),bk:=D.nx} σ2 H2)(hd:∀σ H,Pv n σ H->D.nx σ H):
  ∃W:Nat->Nat->St->Hp->Prop,(∃m,W 0 m σ H)/\∀i m σ H,W i m σ H ->
   ((Itr lo n).stop i H/\D.nx σ H)\/((Itr lo n).go i H/\∃N:St->Hp->Prop,(∀σ' H',N σ' H'->∃m',m'<m/\W (i+1) m' σ' H')/\∀x H',(Itr lo n).yld i H x H'->g x σ H' fun σ2 H2=>tb {D with nx:=N,ct:=N,bk:=D.nx} σ2 H2):=by
 refine⟨fun i m σ H=>m=n-i/\i<=n/\Pv i σ H,⟨n,by simp,w1l _,h0⟩,?_⟩
 rintro i m σ H ⟨rfl,hi,p⟩
 by_cases hlt:i<n
 ·refine .inr ⟨hlt,Pv (i+1),fun σ' H' p'=>⟨n-(i+1),by omega,rfl,hlt,p'⟩,fun x H' y=>?_⟩
  obtain⟨e,y⟩:=y;subst e y;exact hs i σ _ hlt p
 ·have e:i=n:=by omega
  subst e;exact .inl ⟨w0e _,hd σ H p⟩
abbrev R2:=V->V->Hp->VK->Prop
variable{r:R2}
def OpR(X:Cx)(f:Value->Value->Sem Value)(r:R2):Prop:=
 ∀(pins:List (Addr×Obj))(s:Shared)(σ:St)(H:Hp)(x y:V)(v u:Value)(Q:VK),Inv X pins σ H s->RelV x v->RelV y u->r x y H Q ->
  wpAny (model X.prog X.w) X.A (f v u) (EP X pins σ Q) X.xe s
def UnR(X:Cx)(f:Value->Sem Value)(r:V->Hp->VK->Prop):Prop:=
 ∀(pins:List (Addr×Obj))(s:Shared)(σ:St)(H:Hp)(x:V)(v:Value)(Q:VK),Inv X pins σ H s->RelV x v->r x H Q ->
  wpAny (model X.prog X.w) X.A (f v) (EP X pins σ Q) X.xe s
def CallR(X:Cx)(f:Value)(r:List V->Hp->VK->Prop):Prop:=
 ∀(pins:List (Addr×Obj))(s:Shared)(σ:St)(H:Hp)(xs:List V)(us:List Value)(Q:VK),Inv X pins σ H s->Vals xs us->r xs H Q ->
  wpAny (model X.prog X.w) X.A (call f us) (EP X pins σ Q) X.xe s
def TruR(X:Cx)(r:V->Hp->(Bool->Hp->Prop)->Prop):Prop:=
 ∀(pins:List (Addr×Obj))(s:Shared)(σ:St)(H:Hp)(x:V)(v:Value)(Q:Bool->Hp->Prop),Inv X pins σ H s->RelV x v->r x H Q ->
  wpAny (model X.prog X.w) X.A (truthy v) (TP X pins σ Q) X.xe s
def tOp(r:R2)(ta tb:TE):TE:=fun σ H Q=>ta σ H fun x H1=>tb σ H1 fun y H2=>r x y H2 Q
def tUn(r:V->Hp->VK->Prop)(ta:TE):TE:=fun σ H Q=>ta σ H fun x H1=>r x H1 Q
def rI(C:Int->Int->Prop)(g:Int->Int->V):R2:=fun x y H Q=>∃i j,x=.int i/\y=.int j/\C i j/\Q (g i j) H
def rI0(g:Int->Int->V):R2:=fun x y H Q=>∃i j,x=.int i/\y=.int j/\Q (g i j) H
def rU(g:Int->V):V->Hp->VK->Prop:=fun x H Q=>∃i,x=.int i/\Q (g i) H
section
variable{a b:Expr}{tb tc:TE}
theorem binT(ha:PE X a ta)(hb:PE X b tb){R:V->V->Hp->Prop}(I:Inv X pins σ H s)
  (h:ta σ H fun x H1=>tb σ H1 fun y H2=>R x y H2){Q:Value->Shared->Prop}
  (hf:∀v u s2 x y H2,Inv X pins σ H2 s2->RelV x v->RelV y u->R x y H2->wpAny (model X.prog X.w) X.A (f v u) Q X.xe s2):
  wpAny (model X.prog X.w) X.A (eval a X.env) (fun v s₁=>wpAny (model X.prog X.w) X.A (eval b X.env) (fun u s₂=>wpAny (model X.prog X.w) X.A (f v u) Q X.xe s₂) X.xe s₁) X.xe s:=by
 refine thn (ha pins s σ H _ I h) fun v s1 ⟨x,H1,I1,r1,q1⟩=>?_
 refine thn (hb pins s1 σ H1 _ I1 q1) fun u s2 ⟨y,H2,I2,r2,q2⟩=>?_
 exact hf v u s2 x y H2 I2 r1 r2 q2
theorem z2j{op:Operator}(ho:OpR X (binaryOp op) r)(ha:PE X a ta)(hb:PE X b tb):PE X (.BinOp a op b pos) (tOp r ta tb):=by
 intro pins s σ H Q I h;exact wpAny_BinOp (binT ha hb I h fun v u s2 x y H2 I2 rx ry q=>ho pins s2 σ H2 x y v u Q I2 rx ry q)
theorem z2k{op:UnaryOp}{r:V->Hp->VK->Prop}(ho:UnR X (unaryOp op) r)(ha:PE X a ta):PE X (.UnaryOp op a pos) (tUn r ta):=by
 intro pins s σ H Q I h;exact UnaryOp_ (thn (ha pins s σ H _ I h) fun v s1 ⟨x,H1,I1,r1,q1⟩=>ho pins s1 σ H1 x v Q I1 r1 q1)
theorem opI{C:Int->Int->Prop}{g:Int->Int->Int}
  (rule:∀(i j:Int)(t u:Tok)(s:Shared)(Q:Value->Shared->Prop)(E:Value->Shared->Prop),C i j->Q (.int (g i j) s.toks) {s with toks:=s.toks+1}->wpAny (model X.prog X.w) X.A (f (.int i t) (.int j u)) Q E s):
  OpR X f (rI C fun i j=>.int (g i j)):=by
 intro pins s σ H x y v u Q I rx ry h;obtain⟨i,j,rfl,rfl,hc,q⟩:=h;obtain⟨t,rfl⟩:=rx;obtain⟨t',rfl⟩:=ry;exact rule i j t t' s _ _ hc ⟨.int (g i j),H,I.tok _,⟨_,rfl⟩,q⟩
theorem opI0{g:Int->Int->Int}
  (rule:∀(i j:Int)(t u:Tok)(s:Shared)(Q:Value->Shared->Prop)(E:Value->Shared->Prop),Q (.int (g i j) s.toks) {s with toks:=s.toks+1}->wpAny (model X.prog X.w) X.A (f (.int i t) (.int j u)) Q E s):
  OpR X f (rI0 fun i j=>.int (g i j)):=by
 intro pins s σ H x y v u Q I rx ry h;obtain⟨i,j,rfl,rfl,q⟩:=h;obtain⟨t,rfl⟩:=rx;obtain⟨t',rfl⟩:=ry;exact rule i j t t' s _ _ ⟨.int (g i j),H,I.tok _,⟨_,rfl⟩,q⟩
theorem opB0{g:Int->Int->Bool}
  (rule:∀(i j:Int)(t u:Tok)(s:Shared)(Q:Value->Shared->Prop)(E:Value->Shared->Prop),Q (.bool (g i j)) s->wpAny (model X.prog X.w) X.A (f (.int i t) (.int j u)) Q E s):
  OpR X f (rI0 fun i j=>.bl (g i j)):=by
 intro pins s σ H x y v u Q I rx ry h;obtain⟨i,j,rfl,rfl,q⟩:=h;obtain⟨t,rfl⟩:=rx;obtain⟨t',rfl⟩:=ry;exact rule i j t t' s _ _ ⟨.bl (g i j),H,I,rfl,q⟩
def CDiv(i j:Int):Prop:=0<j/\j<1073741824
def CMul(i j:Int):Prop:=(-(2^64)<i/\i<2^64)\/(-(2^64)<j/\j<2^64)
theorem CMul.ok{i j:Int}(h:CMul i j):IntMulOk i j:=by
 rcases h with⟨h1,h2⟩|⟨h1,h2⟩
 ·exact .of_left (intBits_le_64 h1 h2)
 ·exact .of_right (intBits_le_64 h1 h2)
theorem op_add:OpR X (binaryOp .Add) (rI0 fun i j=>.int (i+j)):=opI0 fun _ _ _ _ _ _ _ q=>add_int q
theorem y8p:OpR X (binaryOp .Sub) (rI0 fun i j=>.int (i-j)):=opI0 fun _ _ _ _ _ _ _ q=>sub_int q
theorem y8q:OpR X (binaryOp .Mult) (rI CMul fun i j=>.int (i*j)):=opI fun _ _ _ _ _ _ _ hc q=>mul_int q hc.ok
theorem y4k:OpR X (binaryOp .FloorDiv) (rI CDiv fun i j=>.int (i / j)):=opI fun i j _ _ _ _ _ hc q=>by
 have h1:(0:Int)<j:=hc.1;have h2:j<1073741824:=hc.2;exact floordiv_int (by omega) (by rw[Int.fdiv_eq_ediv_of_nonneg i (by omega)];exact q) (.inl (PyProof.noPylong_small (by omega)))
theorem y8r:OpR X (binaryOp .Mod) (rI (fun _ j=>0<j) fun i j=>.int (i%j)):=opI fun i j _ _ _ _ _ hc q=>by
 have h1:(0:Int)<j:=hc;exact mod_int' (by omega) (by rw[Int.fmod_eq_emod_of_nonneg i (by omega)];exact q)
theorem unI{f:Value->Sem Value}{g:Int->Int}
  (rule:∀(i:Int)(t:Tok)(s:Shared)(Q:Value->Shared->Prop)(E:Value->Shared->Prop),Q (.int (g i) s.toks) {s with toks:=s.toks+1}->wpAny (model X.prog X.w) X.A (f (.int i t)) Q E s):
  UnR X f (rU fun i=>.int (g i)):=by
 intro pins s σ H x v Q I rx h;obtain⟨i,rfl,q⟩:=h;obtain⟨t,rfl⟩:=rx;exact rule i t s _ _ ⟨.int (g i),H,I.tok _,⟨_,rfl⟩,q⟩
theorem y8s:UnR X (unaryOp .USub) (rU fun i=>.int (-i)):=unI fun _ _ _ _ _ q=>neg_int q
end
section
variable{a b:Expr}{tb tc:TE}
theorem x3y{Q:VK}{k k':Bool}(I:Inv X pins σ H s)(q:Q (.bl k) H)(e:k=k'):EP X pins σ Q (.bool k') s:=by
 subst e;exact⟨.bl k,H,I,rfl,q⟩
theorem y3t:OpR X (compareOp .Lt) (rI0 fun i j=>.bl (decide (i<j))):=opB0 fun _ _ _ _ _ _ _ q=>lt_int q
theorem y3u:OpR X (compareOp .Gt) (rI0 fun i j=>.bl (decide (j<i))):=opB0 fun _ _ _ _ _ _ _ q=>gt_int q
theorem z2l:OpR X (compareOp .GtE) (rI0 fun i j=>.bl (decide (j<=i))):=opB0 fun _ _ _ _ _ _ _ q=>ge_int q
theorem OpR.or{r':R2}(h:OpR X f r)(h':OpR X f r'):OpR X f (fun x y H Q=>r x y H Q\/r' x y H Q):=by
 intro pins s σ H x y v u Q I rx ry q;rcases q with q|q
 ·exact h pins s σ H x y v u Q I rx ry q
 ·exact h' pins s σ H x y v u Q I rx ry q
theorem nomark(b:Expr)(h:op≠.In:=by decide)(h2:op≠.NotIn:=by decide):behindInMarks op b=false:=by
 have e1:(op==CmpOp.In)=false:=by cases op<;>first|rfl|exact absurd rfl h
 have e2:(op==CmpOp.NotIn)=false:=by cases op<;>first|rfl|exact absurd rfl h2
 cases b<;>simp[behindInMarks,e1,e2]
theorem y4l(ho:OpR X (compareOp op) r)(ha:PE X a ta)(hb:PE X b tb)(hm:behindInMarks op b=false):PE X (.Compare a [op] [b] pos) (tOp r ta tb):=by
 intro pins s σ H Q I h;exact wpAny_Compare1 (binT ha hb I h fun v u s2 x y H2 I2 rx ry q=>ho pins s2 σ H2 x y v u Q I2 rx ry q) hm
def tTest(t:TE):TT:=fun σ H Q=>t σ H fun x H'=>∃k,x=.bl k/\Q k H'
theorem y4m(ho:OpR X (compareOp op) r)(ha:PE X a ta)(hb:PE X b tb)(hm:behindInMarks op b=false):PT X (.Compare a [op] [b] pos) (tTest (tOp r ta tb)):=by
 intro pins s σ H Q I h
 refine wpAny_isTrue_Compare1 (thn (ha pins s σ H _ I h) fun v s1 ⟨x,H1,I1,r1,q1⟩=>thn (hb pins s1 σ H1 _ I1 q1) fun u s2 ⟨y,H2,I2,r2,q2⟩=>
  thn (ho pins s2 σ H2 x y v u _ I2 r1 r2 q2) fun c s3 ⟨z,H3,I3,r3,k,e,q3⟩=>?_) hm
 subst e;cases r3;exact wpAny_truthy_bool ⟨H3,I3,q3⟩
def TruV(K:PySem.W.Frag)(x:V)(H:Hp)(k:Bool):Prop:=
 match x with
 |.non=>k=false
 |.bl b=>k=b
 |.int i=>k=(i != 0)
 |.str y=>y.length<=sizeLine/\k=((y.length:Int) != 0)
 |.byt y=>y.size<=sizeLine/\k=((y.size:Int) != 0)
 |.ref p=>(∃xs,SqL K H p xs/\k=!xs.isEmpty)\/(∃xs,SqT K H p xs/\k=!xs.isEmpty)\/∃kvs,H p=some (.dK kvs)/\k=!kvs.isEmpty
 |_=>False
theorem x64{κ:Type}{kvs:List (κ×V)}{vs:List (κ×Value)}(r:KV kvs vs):(!vs.isEmpty)=!kvs.isEmpty:=by
 cases r<;>rfl
theorem x0r{its:List Value}(r:Vals xs its):(!its.toArray.isEmpty)=!xs.isEmpty:=by
 cases r<;>simp
theorem line63:(sizeLine:Nat)<2^63:=by rw[sizeLine_eq];decide
theorem y8t:TruR X (fun x H Q=>∃k,TruV X.K x H k/\Q k H):=by
 intro pins s σ H x v Q I rx h;obtain⟨k,e,q⟩:=h;have hl:=line63;have hs:sizeLine=16777216:=sizeLine_eq;cases x with
 |non=>
  cases rx;have e':k=false:=e;subst e';exact truthy_none ⟨H,I,q⟩
 |bl b=>
  cases rx;have e':k=b:=e;subst e';exact wpAny_truthy_bool ⟨H,I,q⟩
 |int i=>
  obtain⟨t,rfl⟩:=rx;have e':k=(i != 0):=e;subst e';exact PySem.P.truthy_int ⟨H,I,q⟩
 |str y=>
  obtain⟨t,rfl⟩:=rx;obtain⟨hy,e'⟩:y.length<=sizeLine/\k=((y.length:Int) != 0):=e;subst e';exact PySem.P.truthy_str (by omega) ⟨H,I.tok _,q⟩
 |byt y=>
  obtain⟨t,rfl⟩:=rx;obtain⟨hy,e'⟩:y.size<=sizeLine/\k=((y.size:Int) != 0):=e;subst e';exact PySem.W.truthy_bytes (by omega) ⟨H,I.tok _,q⟩
 |ref p=>
  cases rx;have e':(∃xs,SqL X.K H p xs/\k=!xs.isEmpty)\/(∃xs,SqT X.K H p xs/\k=!xs.isEmpty)\/∃kvs,H p=some (.dK kvs)/\k=!kvs.isEmpty:=e;rcases e' with⟨xs,hx,e'⟩|⟨xs,hx,e'⟩|⟨kvs,hx,e'⟩
  ·subst e';obtain⟨its,r,pl,hz⟩:=I.list hx;have hlen:=r.length;exact wpAny_truthy_list pl.isList (by simp only[w0c];omega) ⟨H,I.tok _,by rw[x0r r];exact q⟩
  ·subst e';obtain⟨its,r,pl,hz⟩:=I.tuple hx;have hlen:=r.length;exact truthy_tuple pl (by simp only[w0c];omega) ⟨H,I.tok _,by rw[x0r r];exact q⟩
  ·subst e';obtain⟨hz,hS,vs,r,m⟩:kvs.length<=sizeLine/\(p==sysModules)=false/\∃vs,KV kvs vs/\s.heap.DictOf (mixKind X.prog X.w) p vs:=I.hok p _ hx;have hlen:kvs.length=vs.length:=Paired.length r;exact wpAny_truthy_dict hS m (by omega) ⟨H,I.tok _,by rw[x64 r];exact q⟩
 |_=>exact(show False from e).elim
theorem y1h(ha:PE X a ta)(he:∀whole,isTrue a X.env whole=(do let v <- whole;standAt a.pos;holding [v] (truthy v))):
  PT X a (fun σ H Q=>ta σ H fun x H'=>∃k,TruV X.K x H' k/\Q k H'):=by
 intro pins s σ H Q I h;exact isTrue_plain (thn (ha pins s σ H _ I h) fun v s1 ⟨x,H1,I1,r1,q1⟩=>y8t pins s1 σ H1 x v Q I1 r1 q1) (he _)
theorem op_add_str:OpR X (binaryOp .Add) (fun x y H Q=>∃i j,x=.str i/\y=.str j/\i.length+j.length<=sizeLine/\Q (.str (i++j)) H):=by
 intro pins s σ H x y v u Q I rx ry h;obtain⟨i,j,rfl,rfl,hz,q⟩:=h;obtain⟨t,rfl⟩:=rx;obtain⟨t',rfl⟩:=ry;exact add_str (fun t' tk=>⟨.str (i++j),H,I.tok _,⟨_,rfl⟩,q⟩) hz
theorem vals1{x:V}(r:Vals [x] us):∃u,us=[u]/\RelV x u:=by
 cases r with
 |cons r1 r2=>cases r2;exact⟨_,rfl,r1⟩
theorem vals2{x y:V}(r:Vals [x,y] us):∃u w',us=[u,w']/\RelV x u/\RelV y w':=by
 cases r with
 |cons r1 r2=>
  cases r2 with
  |cons r3 r4=>cases r4;exact⟨_,_,rfl,r1,r3⟩
theorem x8o(hc:X.calm=true):CallR X (.builtin "max") (fun xs H Q=>∃i j,xs=[.int i,.int j]/\Q (.int (if j>i then j else i)) H):=by
 intro pins s σ H xs us Q I r h;obtain⟨i,j,rfl,q⟩:=h;obtain⟨u,w',rfl,⟨t,rfl⟩,⟨t',rfl⟩⟩:=vals2 r;refine max_two_ints (I.ok.hd hc) fun h' tk k=>⟨_,H,I.kept k,?_,q⟩
 by_cases hj:j>i
 ·rw[if_pos hj,if_pos hj];exact⟨_,rfl⟩
 ·rw[if_neg hj,if_neg hj];exact⟨_,rfl⟩
theorem x8p(hc:X.calm=true):CallR X (.builtin "min") (fun xs H Q=>∃i j,xs=[.int i,.int j]/\Q (.int (if j<i then j else i)) H):=by
 intro pins s σ H xs us Q I r h;obtain⟨i,j,rfl,q⟩:=h;obtain⟨u,w',rfl,⟨t,rfl⟩,⟨t',rfl⟩⟩:=vals2 r;refine min_two_ints (I.ok.hd hc) fun h' tk k=>⟨_,H,I.kept k,?_,q⟩
 by_cases hj:j<i
 ·rw[if_pos hj,if_pos hj];exact⟨_,rfl⟩
 ·rw[if_neg hj,if_neg hj];exact⟨_,rfl⟩
theorem x8q:CallR X (.type "int") (fun xs H Q=>(∃i,xs=[.int i]/\Q (.int i) H)\/∃k,xs=[.bl k]/\Q (.int (if k then 1 else 0)) H):=by
 intro pins s σ H xs us Q I r h;rcases h with⟨i,rfl,q⟩|⟨k,rfl,q⟩
 ·obtain⟨u,rfl,t,rfl⟩:=vals1 r;exact call_int_int ⟨.int i,H,I,⟨_,rfl⟩,q⟩
 ·obtain⟨u,rfl,r1⟩:=vals1 r;cases r1;exact call_int_bool ⟨.int (if k then 1 else 0),H,I.tok _,⟨_,rfl⟩,q⟩
def LenV(K:PySem.W.Frag)(x:V)(H:Hp)(n:Nat):Prop:=
 match x with
 |.str y=>y.length<=sizeLine/\n=y.length
 |.byt y=>y.size<=sizeLine/\n=y.size
 |.ref p=>(∃xs,SqL K H p xs/\n=xs.length)\/∃xs,SqT K H p xs/\n=xs.length
 |_=>False
theorem x3z:CallR X (.builtin "len") (fun xs H Q=>∃x n,xs=[x]/\LenV X.K x H n/\Q (.int n) H):=by
 intro pins s σ H xs us Q I r h;obtain⟨x,n,rfl,e,q⟩:=h;obtain⟨u,rfl,rx⟩:=vals1 r;have hl:=line63;have hs:sizeLine=16777216:=sizeLine_eq;cases x with
 |str y=>
  obtain⟨t,rfl⟩:=rx;obtain⟨hy,e'⟩:y.length<=sizeLine/\n=y.length:=e;subst e';exact len_str (by omega) ⟨.int _,H,I.tok _,⟨_,rfl⟩,q⟩
 |byt y=>
  obtain⟨t,rfl⟩:=rx;obtain⟨hy,e'⟩:y.size<=sizeLine/\n=y.size:=e;subst e';exact PySem.W.len_bytes (by omega) ⟨.int _,H,I.tok _,⟨_,rfl⟩,q⟩
 |ref p=>
  cases rx;have e':(∃xs,SqL X.K H p xs/\n=xs.length)\/∃xs,SqT X.K H p xs/\n=xs.length:=e;rcases e' with⟨xs,hx,e'⟩|⟨xs,hx,e'⟩
  ·subst e';obtain⟨its,r',pl,hz⟩:=I.list hx;have hlen:=r'.length;exact Calls.call_len_list pl.isList (by simp only[w0c];omega) ⟨.int xs.length,H,I.tok _,⟨_,by simp only[w0c];rw[hlen]⟩,q⟩
  ·subst e';obtain⟨its,r',pl,hz⟩:=I.tuple hx;have hlen:=r'.length;exact len_tuple pl (by simp only[w0c];omega) ⟨.int xs.length,H,I.tok _,⟨_,by simp only[w0c];rw[hlen]⟩,q⟩
 |_=>exact(show False from e).elim
end
structure ObjM(h:Heap)(x dx C:Addr)(mA:Str->Option Value):Prop where
 obj:h.get? x=some (PySem.W.instObj C dx)
 ns:h.Ns1 dx mA
 ne:dx≠x
theorem RelO.some_of{v:V}{o:Option Value}(r:RelO (some v) o):∃u,o=some u/\RelV v u:=by
 cases o with
 |none=>exact(show False from r).elim
 |some u=>exact⟨u,rfl,r⟩
structure Cls(K:PySem.W.Frag)(C:Addr):Prop where
 pg:PySem.W.plainGet K C Str.empty=true
 hd:PySem.W.hasDictIn K C=true
 po:PySem.W.plainOver K C=true
 sa:findIn K (.ref C) "__setattr__"=some (some (.builtin "object.__setattr__"))
structure Con(K:PySem.W.Frag)(C:Addr)(f:Str)(v:V)(u:Value):Prop where
 at_:findIn K (.ref C) f=some (some u)
 rel:RelV v u
 get:specialIn K u "__get__"=some none
 cp:PySem.W.copiedNames.contains f=false
structure Meth(K:PySem.W.Frag)(C:Addr)(m:Str)(f:Addr):Prop where
 at_:findIn K (.ref C) m=some (some (.ref f))
 fn:PySem.W.isFn K (.ref f)=true
 kp:keepIn K (.ref f)=true
section
variable{Q:Value->Shared->Prop}{c:Value}{b:Bool}
inductive TyOf(K:PySem.W.Frag)(H:Hp):V->Value->Prop where
 |non:TyOf K H .non (.type "NoneType")
 |bl (x:Bool):TyOf K H (.bl x) (.type "bool")
 |int (i:Int):TyOf K H (.int i) (.type "int")
 |str (x:Str):TyOf K H (.str x) (.type "str")
 |flt (x:UInt64):TyOf K H (.flt x) (.type "float")
 |lst {a:Addr} {xs:List V} (e:H a=some (.lst xs)):TyOf K H (.ref a) (.type "list")
 |frz {a:Addr} {o:Obj} {xs:List V} (e:H a=some (.frz o (.lst xs))):TyOf K H (.ref a) (.type "list")
 |tup {a:Addr} {xs:List V} (e:H a=some (.tup xs)):TyOf K H (.ref a) (.type "tuple")
 |dK {a:Addr} {kvs:List (Key×V)} (e:H a=some (.dK kvs)):TyOf K H (.ref a) (.type "dict")
 |dT {a:Addr} {sh:Sh} {kvs:List (Kx×V)} {kas:List Addr} (e:H a=some (.dT sh kvs kas)):TyOf K H (.ref a) (.type "dict")
 |ins {a C dx:Addr} {fs:List (Str×V)} (e:H a=some (.ins C dx fs)) (cl:Cls K C) (ha:findIn K (.ref C) "__class__"=some (some (.builtin "object.__class__")))
   (hn:specialIn K (.builtin "object.__class__") "__get__"=some (some (.builtin "getset_descriptor.__get__"))) (htk:takesIn K (.builtin "object.__class__")=some true)
   (hm:PySem.W.mroIn K C (.type "object")=some true):TyOf K H (.ref a) (.ref C)
end
structure Room(k:Nat)(A:Around):Prop where
 hd:A.handled=none
 dp:A.depth+3*k+5<recursionLimit
 un:A.units+16*k+200<cLine
 gd:A.guards=some []
theorem Room.deeper{k:Nat}(r:Room (k+1) A)(env:Env):Room k (A.deeper env):=
 ⟨r.hd,by have:=r.dp;show A.depth+1+3*k+5<_;omega,by have:=r.un;show A.units+3+16*k+200<_;omega,r.gd⟩
theorem Room.depth{k:Nat}(r:Room k A):A.depth<recursionLimit:=by have:=r.dp;omega
def tNil:TA:=fun _ H Q=>Q [] H
def tCons(ta:TE)(tr:TA):TA:=fun σ H Q=>ta σ H fun x H1=>tr σ H1 fun xs H2=>Q (x::xs) H2
theorem x30:PA X [] tNil:=fun _ _ _ _ H Q I h=>Calls.spliced_nil ⟨[],H,I,.nil,h⟩
theorem q55(ha:PE X e te)(hr:PA X es t)(hs:starEach (e::es) X.env=(false,eval e X.env)::starEach es X.env:=by rfl):PA X (e::es) (tCons te t):=by
 intro pos pins s σ H Q I h;rw[hs];show wpAny _ _ (spliced ((false,eval e X.env)::backTo pos (starEach es X.env))) _ _ s;refine Calls.spliced_cons (thn (ha pins s σ H _ I h) fun u s1 ⟨x,H1,I1,r1,q1⟩=>?_)
 exact thn (hr pos pins s1 σ H1 _ I1 q1) fun us s2 ⟨xs,H2,I2,r2,q2⟩=>⟨x::xs,H2,I2,.cons r1 r2,q2⟩
def tTup(t:TA):TE:=fun σ H Q=>t σ H fun xs H1=>xs.length<=sizeLine/\∀p,H1 p=none->Q (.ref p) (upd H1 p (.tup xs))
def tLst(t:TA):TE:=fun σ H Q=>t σ H fun xs H1=>xs.length<=sizeLine/\∀p,H1 p=none->Q (.ref p) (upd H1 p (.lst xs))
theorem y8u{x1}(h:PA X es t):PE X (.Tuple es x1 pos) (tTup t):=by
 intro pins s σ H Q I hq;refine wpAny_Tuple_spliced (thn (h pos pins s σ H _ I hq) fun us s1 ⟨xs,H1,I1,r,z,q⟩=>⟨by rw[<- r.length];exact z,?_⟩)
 have hf:H1 s1.heap.objs.size=none:=I1.hok.fresh (w0e _);refine⟨.ref s1.heap.objs.size,upd H1 s1.heap.objs.size (.tup xs),I1.laid (t':=s1.toks) (fun b u e=>Heap.get?_push_of_some _ e) (w0e _) ?_,rfl,q _ hf⟩
 exact⟨z,us,r,⟨_,Heap.get?_push_size _ rfl,rfl,_,rfl⟩,⟨_,Heap.get?_push_size _ rfl,rfl⟩⟩
theorem y8v(h:PA X es t):PE X (.List es pos) (tLst t):=by
 intro pins s σ H Q I hq;refine wpAny_List_spliced (thn (h pos pins s σ H _ I hq) fun us s1 ⟨xs,H1,I1,r,z,q⟩=>⟨by rw[<- r.length];exact z,?_⟩)
 have hf:H1 s1.heap.objs.size=none:=I1.hok.fresh (w0e _);refine⟨.ref s1.heap.objs.size,upd H1 s1.heap.objs.size (.lst xs),I1.laid (t':=s1.toks) (fun b u e=>Heap.get?_push_of_some _ e) (w0e _) ?_,rfl,q _ hf⟩
 exact⟨z,us,0,r,Heap.get?_push_size _ rfl⟩
abbrev Sp:=List V->Hp->VK->XK->Prop
variable{sp:Sp}
abbrev CXT:=List Env->Hp->Shared->XK->Value->Shared->Prop
variable{CX:CXT}
structure Env0(P:Program)(w:World)(K:PySem.W.Frag)(mg:Str->Option Value)(base:Heap)(A:Around)(outer:List Env)(s:Shared)(H:Hp):Prop where
 frames:A.frames=some outer
 mod:Mod K mg base
 bs:∀b o,base.get? b=some o->s.heap.get? b=some o/\H b=none
 bsz:base.objs.size<=s.heap.objs.size
 funs:s.heap.FunFrames base outer
 frf:∀b∈frs outer,H b=none
 hok:HOk P w H s.heap
 bare:AllBare s.gens
 tab:TabOk K H
def CE(outer:List Env)(P:Program)(w:World)(H:Hp)(s:Shared)(Q:VK)(u:Value)(s':Shared):Prop:=
 ∃v H',s'.os=s.os/\AllBare s'.gens/\Un (frs outer) [] H H' s.heap s'.heap/\HOk P w H' s'.heap/\RelV v u/\Q v H'
def CR(CX:CXT)(outer:List Env)(P:Program)(w:World)(H:Hp)(s:Shared)(Q:VK)(E:XK)(r:Result)(s':Shared):Prop:=
 match r with
 |.ok (.ret u)=>CE outer P w H s Q u s'
 |.ok _=>False
 |.error e=>CX outer H s E e s'
structure FnOk(P:Program)(w:World)(K:PySem.W.Frag)(mg:Str->Option Value)(base:Heap)(CX:CXT)(k:Nat)(f:Addr)(fd:FuncData)(ps:List Str)(sp:Sp):Prop where
 len:∀vs H Q E,sp vs H Q E->vs.length=ps.length
 run:∀(A:Around)(outer:List Env)(s:Shared)(H:Hp)(args:Args)(us:List Value)(vs:List V)(Q:VK)(E:XK),Room k A->Env0 P w K mg base A outer s H->BindsTo s fd args (ps.zip us)->Vals vs us->sp vs H Q E ->
  codeAny (model P w) A (.call (.ref f) args) (CR CX outer P w H s Q E) s
theorem FnOk.imp{k:Nat}{f:Addr}{sp':Sp}(F:FnOk P w K mg base CX k f fd ps sp)
  (h:∀vs H Q E,sp' vs H Q E->sp vs H Q E):FnOk P w K mg base CX k f fd ps sp':=
 ⟨fun vs H Q E q=>F.len vs H Q E (h _ _ _ _ q),fun A outer s H args us vs Q E hr he hb hv hs=>F.run A outer s H args us vs Q E hr he hb hv (h _ _ _ _ hs)⟩
section
variable{s':Shared}
theorem Inv.env0(I:Inv X pins σ H s):Env0 X.prog X.w X.K X.mg X.base X.A X.stack s H:=
 ⟨I.ok.frames,I.ok.mod,I.bs,w0o I.ok.bsz I.sz,I.stack,I.stkFree,I.hok,I.bare,I.ok.tab.un I.base⟩
theorem Inv.after{Q:VK}(I:Inv X pins σ H s)(h:CE X.stack X.prog X.w H s Q u s'):EP X pins σ Q u s':=by
 obtain⟨v,H',os,bare,un,hok,r,q⟩:=h;obtain⟨hh,g,d,t,os'⟩:=s';obtain rfl:os'=s.os:=os;exact⟨v,H',I.call (h':=hh) (g':=g) (d':=d) (t':=t) (ch:=[]) un hok bare (fun b z=>absurd z (by simp)),r,q⟩
end
def Binds(K:PySem.W.Frag)(fd:FuncData)(ps:List Str)(ds:List Value):Prop:=
 ∀(s:Shared)(us:List Value),K.In s.heap->(us++ds).length=ps.length->BindsTo s fd ⟨us,[]⟩ (ps.zip (us++ds))
theorem Binds.all(h:∀us:List Value,us.length=ps.length->bindArgs fd ⟨us,[]⟩=pure (ps.zip us)):Binds K fd ps []:=fun s us _ hl=>by
 rw[w1s]at hl |-
 exact .of_eq (h us hl)
section
variable{k:Nat}{f:Addr}{dvs:List V}{ds:List Value}{E:XK}{m:Str}{apos:Pos}{o:Expr}
structure Mk(K:PySem.W.Frag)(C f:Addr):Prop where
 makes:PySem.W.makesIn K C=true
 init:findIn K (.ref C) "__init__"=some (some (.ref f))
 fn:PySem.W.isFn K (.ref f)=true
 kp:keepIn K (.ref C)=true
end
section
variable{k:Nat}{f:Addr}{ks:List Str}{E:XK}{m:Str}{apos kpos:Pos}{o:Expr}{kws:List Keyword}{tk:TA}{nm:Option Str}
structure KBinds(K:PySem.W.Frag)(fd:FuncData)(ps ks:List Str)(g:List Value->List Value->List Value)(gV:List V->List V->List V):Prop where
 to:∀(s:Shared)(us ws:List Value),K.In s.heap->(g us ws).length=ps.length->BindsTo s fd ⟨us,ks.zip ws⟩ (ps.zip (g us ws))
 rel:∀{vs:List V}{us:List Value}{zs:List V}{ws:List Value},Vals vs us->Vals zs ws->Vals (gV vs zs) (g us ws)
variable{g:List Value->List Value->List Value}{gV:List V->List V->List V}
end
structure FnScope(N P:List Str)(sc:Scope):Prop where
 kind:sc.kind=.function
 co:sc.isCoroutine=false
 gen:sc.isGenerator=false
 nd:N.Nodup
 pre:N.take P.length=P
 par:∀x∈P,sc.names.lookup x=some .local\/sc.names.lookup x=some .cell
 nofree:∀y∈sc.names,y.2≠.free
theorem x17{kindOf:Str->Option NameKind}:∀{binds:List (Str×Value)}{m:Str->Option Value},(∀v,(x,v)∉binds)->bindL kindOf binds m x=m x
 |[],_,_=>rfl
 |(n,v)::r,m,h=>by
  unfold bindL;rw[x17 fun w hw=>h w (w0x _ hw)]
  split
  ·have:x≠n:=by rintro rfl;exact h v w1j
   simp[this]
  ·rfl
theorem x18{kindOf:Str->Option NameKind}:∀{binds:List (Str×Value)}{m:Str->Option Value},(∀v,(x,v)∉binds)->bindC kindOf binds m x=m x
 |[],_,_=>rfl
 |(n,v)::r,m,h=>by
  unfold bindC;rw[x18 fun w hw=>h w (w0x _ hw)]
  split
  ·rfl
  ·have:x≠n:=by rintro rfl;exact h v w1j
   simp[this]
theorem x19{kindOf:Str->Option NameKind}{x:Str}{v:Value}:∀{P:List Str}{vs:List Value}{i:Nat}{m:Str->Option Value},P.Nodup->P[i]?=some x->vs[i]?=some v->kindOf x=some .local ->
  bindL kindOf (P.zip vs) m x=some v
 |[],_,_,_,_,h,_,_=>by simp at h
 |_::_,[],_,_,_,_,h,_=>by simp at h
 |p::P,w::vs,0,m,nd,h1,h2,hk=>by
  simp at h1 h2;subst h1;subst h2;show bindL kindOf ((p,w)::P.zip vs) m p=_;unfold bindL;rw[x17 fun v hv=>(w2j.mp nd).1 (w3r hv).1,if_pos hk]
  simp
 |p::P,w::vs,i+1,m,nd,h1,h2,hk=>by
  show bindL kindOf ((p,w)::P.zip vs) m x=_;unfold bindL;exact x19 (i:=i) (w2j.mp nd).2 (by simpa using h1) (by simpa using h2) hk
theorem x2a{kindOf:Str->Option NameKind}{x:Str}{v:Value}:∀{P:List Str}{vs:List Value}{i:Nat}{m:Str->Option Value},P.Nodup->P[i]?=some x->vs[i]?=some v->kindOf x≠some .local ->
  bindC kindOf (P.zip vs) m x=some v
 |[],_,_,_,_,h,_,_=>by simp at h
 |_::_,[],_,_,_,_,h,_=>by simp at h
 |p::P,w::vs,0,m,nd,h1,h2,hk=>by
  simp at h1 h2;subst h1;subst h2;show bindC kindOf ((p,w)::P.zip vs) m p=_;unfold bindC;rw[x18 fun v hv=>(w2j.mp nd).1 (w3r hv).1,if_neg hk]
  simp
 |p::P,w::vs,i+1,m,nd,h1,h2,hk=>by
  show bindC kindOf ((p,w)::P.zip vs) m x=_;unfold bindC;exact x2a (i:=i) (w2j.mp nd).2 (by simpa using h1) (by simpa using h2) hk
noncomputable def start(N:List Str)(vs:List V):St:=vs.map some++List.replicate (N.length-vs.length) none
noncomputable def cxOf(CX:CXT)(P:Program)(w:World)(K:PySem.W.Frag)(mg:Str->Option Value)(base:Heap)(N:List Str)(qual:Str)(scope:Scope)(f:Addr)(cd:Value)(A:Around)(outer:List Env)(s:Shared)(H:Hp)(E:XK):Cx where
 prog:=P
 w:=w
 K:=K
 mg:=mg
 base:=base
 A:=A.deeper (envOfC qual scope s.heap.objs.size f cd)
 N:=N
 s₀:=s
 H₀:=H
 env:=envOfC qual scope s.heap.objs.size f cd
 outer:=outer
 stack:=envOfC qual scope s.heap.objs.size f cd::outer
 ex:=[]
 calm:=true
 fn:=fun _=>true
 pn:=[]
 xe:=fun e s'=>wpAny (model P w) (A.deeper (envOfC qual scope s.heap.objs.size f cd)) (leaving (envOfC qual scope s.heap.objs.size f cd) e) (fun _ s''=>CX outer H s E e s'') (fun e' s''=>CX outer H s E e' s'') s'
theorem x31{sc:Scope}{n:Nat}(h:sc.names.lookup x=some .cell):∃c,(cellsFrom n sc.names []).lookup x=some c:=by
 have q:=PySem.W.cellsFrom_some sc.names n [] (.inl h);exact w2r.mp q
theorem x8r{qual:Str}{scope:Scope}{f:Addr}{cd:Value}{outer:List Env}{s1:Shared}{E:XK}{vs:List V}
  (S:FnScope N ps scope)(hd:A.handled=none)(e0:Env0 P w K mg base A outer s H)(hl:vs.length=ps.length)(r:Vals vs us)
  (x:InCallC s s.heap.objs.size (bindL (envOfC qual scope s.heap.objs.size f cd).kindOf (ps.zip us) fun _=>none) (cellsFrom (s.heap.objs.size+1) scope.names []) (bindC (envOfC qual scope s.heap.objs.size f cd).kindOf (ps.zip us) fun _=>none) s1):
  Inv (cxOf CX P w K mg base N qual scope f cd A outer s H E) [] (start N vs) H s1:=by
 have hpl:ps.length<=N.length:=by have:=congrArg List.length S.pre;rw[w0u]at this;omega
 obtain⟨h1,tk,rfl,hk⟩:=x.done;have noA:∀b:Addr,b∉(cxOf CX P w K mg base N qual scope f cd A outer s H E).ex:=fun b z=>absurd (show b∈([]:List Addr)from z) (by simp)
 refine⟨⟨e0.mod,S.kind,rfl,rfl,w0e _,fun y z c h1 h2=>?_,fun y hy=>?_,fun y c _ h=>?_,fun _=>hd,Around.frames_deeper e0.frames,.inr ⟨rfl,rfl⟩,fun b z=>absurd z (noA b),e0.bs,e0.bsz,fun b _ _=>noA b,fun b z=>absurd z (noA b),e0.funs,e0.frf,e0.tab⟩,
  rfl,e0.bare,Un.kept hk,⟨_,x.toInCall.ns,fun i y v h1 h2 h3=>?_⟩,fun y c h=>⟨_,x.cell y c h⟩,e0.hok.fresh (w0e _),fun y c h=>?_,fun p hp=>absurd (show p∈([]:List (Addr×Obj))from hp) (by simp),e0.hok.kept hk,?_⟩
 ·exact name_of_addr x.apart (PySem.mem_of_lookup h1) (PySem.mem_of_lookup h2)
 ·have hy:scope.names.lookup y=some .cell\/scope.names.lookup y=some .free:=hy;rcases hy with hy|hy
  ·exact x31 hy
  ·exact absurd rfl (S.nofree _ (PySem.mem_of_lookup hy))
 ·exact w4k (x.above y c (PySem.mem_of_lookup h))
 ·have hi:i<vs.length:=by
   unfold start at h2
   by_cases hi:i<vs.length
   ·exact hi
   ·rw[w2n (by simpa using hi)]at h2;rw[w2d]at h2;split at h2<;>cases h2
  have ha:vs[i]?=some v:=by
   unfold start at h2;rw[w1w (by simpa using hi),w0v]at h2;cases e:vs[i]? with
   |none=>rw[e]at h2;cases h2
   |some a=>rw[e]at h2;cases h2;rfl
  obtain⟨u,hu,rv⟩:=r.get ha
  have hp:ps[i]?=some y:=by
   rw[<- S.pre,w3j (by omega)];exact h1
  have ndP:ps.Nodup:=by rw[<- S.pre];exact S.nd.sublist (List.take_sublist _ _)
  refine⟨u,rv,?_⟩;rcases S.par y (w1x hp)with k|k
  ·exact .inl ⟨k,x19 ndP hp hu k⟩
  ·obtain⟨c,e⟩:=x31 (n:=s.heap.objs.size+1) k;refine .inr ⟨.inl k,c,e,?_⟩;have q:=x.cell y c e;rw[x2a ndP hp hu (by show scope.names.lookup y≠_;rw[k];decide)]at q;exact q
 ·exact e0.hok.fresh (w4k (x.above y c (PySem.mem_of_lookup h)))
 ·unfold start;show _=N.length;rw[w0k,w0r,w2k];omega
theorem z2m{k:Nat}{f:Addr}{name qual:Str}{params:Arguments}{body:List Stmt}{scope:Scope}{dV kV doc pm cdv ct oc:Value}{an od:Option Addr}
  {osl:Array (Option Value)}(lk:K.lookup f=some ⟨oc,od,.func (PySem.W.fnOf name qual params body scope dV kV doc pm an cdv ct),osl⟩)(hcd:PySem.W.codeIn K cdv qual=true)(S:FnScope N ps scope)
  (len:∀vs H Q E,sp vs H Q E->vs.length=ps.length)
  (hbody:∀(A:Around)(outer:List Env)(s:Shared)(H:Hp)(vs:List V)(Q:VK)(E:XK),Room k (A.deeper (envOfC qual scope s.heap.objs.size f cdv))->sp vs H Q E ->
   ∃t,PSs (cxOf CX P w K mg base N qual scope f cdv A outer s H E) body t/\t {nx:=fun _ H'=>Q .non H',rt:=Q} (start N vs) H):
  FnOk P w K mg base CX (k+1) f (PySem.W.fnOf name qual params body scope dV kV doc pm an cdv ct) ps sp:=by
 refine⟨len,fun A outer s H args us vs Q E hr e0 hb r hsp=>?_⟩
 have hl:=len _ _ _ _ hsp;have KX:K.In s.heap:=e0.mod.kin.keeps fun b o e=>(e0.bs b o e).1
 have lim:s.heap.NoLimit:=e0.mod.nolimit.keeps fun b o e=>(e0.bs b o e).1
 have hkind:∀y∈ps.zip us,scope.names.lookup y.1=some .local\/(scope.names.lookup y.1=some .cell/\((cellsFrom (s.heap.objs.size+1) scope.names []).lookup y.1).isSome=true):=fun⟨n,v⟩ hy=>by
  rcases S.par n (w3r hy).1 with q|q
  ·exact .inl q
  ·exact .inr ⟨q,PySem.W.cellsFrom_some _ _ _ (.inl q)⟩
 refine codeAny_call_function hr.depth (KX _ _ lk) rfl S.co S.gen rfl (PySem.W.codeRec_of KX hcd) (hb _ _ _ _ ?_)
 refine wpAny_newFunctionEnv_cells S.kind hkind fun env he s1 x=>?_
 subst he;refine⟨lim.keeps x.toInCall.keep,codeAny_func ?_⟩
 obtain⟨t,ht,hq⟩:=hbody A outer s H vs Q E (hr.deeper _) hsp;have I:Inv (cxOf CX P w K mg base N qual scope f cdv A outer s H E) [] (start N vs) H s1:=x8r S hr.hd e0 hl r x;refine wpAny_mono (ht [] s1 (start N vs) H _ I hq) (fun fl s' hs=>?_) fun e s' hs=>hs
 have fin:∀{σ':St}{H':Hp}{v:V}{u:Value},Inv (cxOf CX P w K mg base N qual scope f cdv A outer s H E) [] σ' H' s'->RelV v u->Q v H'->CE outer P w H s Q u s':=
  fun {σ' H' v u} J rv q=>⟨v,H',J.os,J.bare,J.base,J.hok,rv,q⟩
 cases fl with
 |ret u=>
  obtain⟨v,σ',H',J,rv,q⟩:=hs;exact fin J rv q
 |next=>
  obtain⟨σ',H',J,q⟩:=hs;exact fin (v:=V.non) (u:=Value.none) J rfl q
 |brk=>
  obtain⟨_,_,_,q⟩:=hs;exact False.elim q
 |cont=>
  obtain⟨_,_,_,q⟩:=hs;exact False.elim q
section
variable{id T:String}{r:List V->Hp->VK->Prop}
def tCB(r:List V->Hp->VK->Prop)(t:TA):TE:=fun σ H Q=>t σ H fun vs H1=>r vs H1 Q
theorem q95(hc:CallR X (.builtin id) r)(hg:Gl X x)(hm:X.mg x=none)(hv:bootBuiltins x=some (.builtin id))(ha:PA X (e::es) t)(hn:x≠"__name__":=by decide)(hdb:(x==("__debug__":Str))=false:=by decide)
  (he:starEach (e::es) X.env=(false,eval e X.env)::starEach es X.env:=by rfl)(hpl:(backTo pos (starEach es X.env)).any (·.1)=false:=by rfl):PE X (.Call (.Name x p) (e::es) [] pos) (tCB r t):=by
 intro pins s σ H Q I h;refine wpAny_Call_Name_kw (q6z I hg hm hv ?_ hn hdb);exact PyProof.Rows.callWith_builtin1 (thn (ha pos pins s σ H _ I h) fun us s1 ⟨vs,H1,I1,r1,q1⟩=>hc pins s1 σ H1 vs us Q I1 r1 q1) he hpl
theorem x2b(hc:CallR X (.type T) r)(hg:Gl X x)(hm:X.mg x=none)(hv:bootBuiltins x=some (.type T))(ha:PA X (e::es) t)(hn:x≠"__name__":=by decide)(hdb:(x==("__debug__":Str))=false:=by decide)
  (he:starEach (e::es) X.env=(false,eval e X.env)::starEach es X.env:=by rfl)(hpl:(backTo pos (starEach es X.env)).any (·.1)=false:=by rfl):PE X (.Call (.Name x p) (e::es) [] pos) (tCB r t):=by
 intro pins s σ H Q I h;refine wpAny_Call_Name_kw (q6z I hg hm hv ?_ hn hdb);exact PyProof.Rows.callWith_type1 (thn (ha pos pins s σ H _ I h) fun us s1 ⟨vs,H1,I1,r1,q1⟩=>hc pins s1 σ H1 vs us Q I1 r1 q1) he hpl
end
end L2
namespace HT
open PySem PyProof.Rows
section
variable{prog:Program}{w:World}{A:Around}{E:Value->Shared->Prop}{s:Shared}
theorem cat_tup{t b:Addr}{vs ws:List Value}{Q:Value->Shared->Prop}(ht:IsTup s.heap t vs.toArray)(hb:IsTup s.heap b ws.toArray)(hv:vs≠[])
  (h1:ws=[]->Q (.ref t) s)(h2:ws≠[]->Q (.ref s.heap.objs.size) {s with heap:=s.heap.push {cls:=.type "tuple", data:=.seq (vs++ws).toArray}})
  (hsz:vs.length+ws.length<=sizeLine):wpAny (model prog w) A (binaryOp .Add (.ref t) (.ref b)) Q E s:=by
 obtain⟨⟨cls,dd,data,sl⟩,ho,hc,n,hd⟩:=id ht;obtain⟨⟨cls2,dd2,data2,sl2⟩,ho2,hc2,n2,hd2⟩:=id hb;simp only at hc hd hc2 hd2;subst hc hd hc2 hd2;have e:vs.toArray++ws.toArray=(vs++ws).toArray:=by simp
 by_cases hw:ws=[]
 ·exact concat_meets ⟨_,ho,rfl⟩ ⟨_,ho2,rfl⟩ noFill_tuple_add seq_tuple_add PySem.F.slot_tuple_add PySem.F.entry_tuple_add (PySem.F.args_tuple_add_2 _ _)
   (tuple_addW1 t b vs.toArray ws.toArray n n2 dd dd2 sl sl2 (by simpa using hv) (by simp[hw])) ⟨ho,ho2,h1 hw⟩
 ·refine concat_meets ⟨_,ho,rfl⟩ ⟨_,ho2,rfl⟩ noFill_tuple_add seq_tuple_add PySem.F.slot_tuple_add PySem.F.entry_tuple_add (PySem.F.args_tuple_add_2 _ _)
   (tuple_addW2 t b vs.toArray ws.toArray n n2 dd dd2 sl sl2 (by simpa using hv) (by simpa using hw) (by rw[w0c,w0c];exact hsz)) ⟨ho,ho2,?_⟩
  rw[e];exact h2 hw
noncomputable def sIx(n d:Nat):Option Int->Nat
 |none=>d
 |some v=>if v<0 then(v+(n:Int)).toNat else min v.toNat n
theorem sIx_none(n d:Nat):sIx n d none=d:=rfl
theorem sIx_nat(n d k:Nat):sIx n d (some (k:Int))=min k n:=by
 show(if(k:Int)<0 then((k:Int)+(n:Int)).toNat else min (k:Int).toNat n)=min k n;rw[if_neg (by omega),w1q]
theorem y8w(n d:Nat)(hd:d<=n)(o:Option Int):sIx n d o<=n:=by
 cases o with
 |none=>exact hd
 |some v=>
  show(if v<0 then(v+(n:Int)).toNat else min v.toNat n)<=n
  by_cases hv:v<0
  ·rw[if_pos hv];omega
  ·rw[if_neg hv];exact w3m _ _
theorem x56(v:Int)(n d:Nat):(if v<0 then max (v+(n:Int)) 0 else min v (n:Int))=((sIx n d (some v):Nat):Int):=by
 show(if v<0 then max (v+(n:Int)) 0 else min v (n:Int))=(((if v<0 then(v+(n:Int)).toNat else min v.toNat n):Nat):Int)
 by_cases hv:v<0
 ·simp only[if_pos hv];omega
 ·simp only[if_neg hv];omega
theorem x65(lo hi:Option Int)(n:Nat):Builtin.Slice.sliceAdjust lo hi 1 (n:Int)=(((sIx n 0 lo:Nat):Int),((sIx n n hi:Nat):Int)):=by
 have h1:¬((1:Int)<0):=by omega
 unfold Builtin.Slice.sliceAdjust;simp only[h1,if_false];refine Prod.ext ?_ ?_
 ·cases lo with
  |none=>rfl
  |some v=>exact x56 v n 0
 ·cases hi with
  |none=>rfl
  |some v=>exact x56 v n n
theorem x66(i j:Nat):Builtin.Slice.slicePlaces (i:Int) (j:Int) 1=j-i:=by
 unfold Builtin.Slice.slicePlaces;have h1:(1:Int)>0:=by omega
 simp only[h1,if_true,Int.ediv_one];split<;>omega
theorem x0s{v:Value}{o:Option Int}{Q:Option Int->Shared->Prop}(p:IsPart v o)(h:Q o s):wpAny (model prog w) A (Builtin.Slice.slicePartIndex v) Q E s:=by
 cases p with
 |none=>exact slicePart_none h
 |int i t=>exact slicePart_int h
theorem q6d{sl:Addr}{vl vu:Value}{lo hi:Option Int}{n:Nat}{Q:Int×Int×Nat->Shared->Prop}(hs:s.heap.IsSliceOf sl vl vu .none)(pl:IsPart vl lo)(pu:IsPart vu hi)
  (h:Q (((sIx n 0 lo:Nat):Int),1,sIx n n hi-sIx n 0 lo) s):wpAny (model prog w) A (Builtin.Slice.sliceApplied (.ref sl) (pure (n:Int))) Q E s:=by
 obtain⟨os,hos,hcs,hds⟩:=id hs;unfold Builtin.Slice.sliceApplied Builtin.Slice.sliceFields;refine wpAny_bind (wpAny_bind (wpAny_field hos hds (x:=vl) rfl (wpAny_bind (wpAny_field hos hds (x:=vu) rfl (wpAny_bind (wpAny_field hos hds (x:=.none) rfl (wpAny_pure ?_)))))));refine wpAny_bind (slicePart_none ?_);show wpAny _ _ (if((1:Int)==0)=true then _ else _) _ _ s;rw[if_neg (by decide)];refine wpAny_bind (x0s pl (wpAny_bind (x0s pu (wpAny_bind (wpAny_pure ?_)))));show wpAny _ _ (match Builtin.Slice.sliceAdjust lo hi 1 (n:Int)with|(lo,hi)=>pure (lo,(1:Int),Builtin.Slice.slicePlaces lo hi 1)) _ _ s;rw[x65 lo hi n];show wpAny _ _ (pure (((sIx n 0 lo:Nat):Int),(1:Int),Builtin.Slice.slicePlaces ((sIx n 0 lo:Nat):Int) ((sIx n n hi:Nat):Int) 1)) _ _ s;rw[x66];exact wpAny_pure h
theorem y1i(xs:Array Value)(i k:Nat):((List.range k).filterMap fun(m:Nat)=>xs[((i:Int)+(m:Int)*1).toNat]?).toArray=((xs.toList.drop i).take k).toArray:=by
 have e:(fun(m:Nat)=>xs[((i:Int)+(m:Int)*1).toNat]?)=fun m=>xs[i+m]?:=by
  funext m
  have:((i:Int)+(m:Int)*1).toNat=i+m:=by omega
  rw[this]
 rw[e];have:=pick_run xs i k;rw[List.filterMap_map]at this;have e2:((fun x=>xs[x]?) ∘ fun x=>i+x)=fun m=>xs[i+m]?:=rfl
 rw[e2]at this;rw[this]
theorem getItem_tuple_cut{t sl:Addr}{items:Array Value}{vl vu:Value}{lo hi:Option Int}{Q:Value->Shared->Prop}(ht:IsTup s.heap t items)(hs:s.heap.IsSliceOf sl vl vu .none)(pl:IsPart vl lo)(pu:IsPart vu hi)
  (hw:¬(sIx items.size 0 lo=0/\sIx items.size items.size hi=items.size))
  (h:Q (.ref s.heap.objs.size) {s with heap:=s.heap.push {cls:=.type "tuple", data:=.seq ((items.toList.drop (sIx items.size 0 lo)).take (sIx items.size items.size hi-sIx items.size 0 lo)).toArray}})
  (hsz:items.size<=sizeLine):wpAny (model prog w) A (getItem (.ref t) (.ref sl)) Q E s:=by
 have htake:sizeOk (.seq ((items.toList.drop (sIx items.size 0 lo)).take (sIx items.size items.size hi-sIx items.size 0 lo)).toArray):=by
  show((items.toList.drop (sIx items.size 0 lo)).take (sIx items.size items.size hi-sIx items.size 0 lo)).toArray.size<=sizeLine;rw[w0c,w0u,w1t,w2c];exact w0o (w3m _ _) (w0o (Nat.sub_le _ _) hsz)
 have hj:sIx items.size items.size hi<=items.size:=y8w _ _ (w0e _) hi;obtain⟨os,hos,hcs,hds⟩:=id hs;have hTs:s.TypeIs (.ref sl) "slice":=⟨os,hos,hcs⟩;unfold getItem;try with_reducible refine wpAny_holding ?_
 first|refine wpAny_bind (wpAny_pure ?_)|skip
 refine wpAny_bind (wpAny_sequenceKey ht.typeIs (by decide) ?_)
 refine wpAny_bind (wpAny_callSpecial?_slot (name:=Str.ofString "__getitem__") ht.typeIs PyProof.Rows.slot_tuple_getitem
  (wpAny_call_entry PyProof.Rows.slot_tuple_getitem ht.typeIs entry_tuple_getitem ?_ (args_tuple_getitem _ _)))
 show wpAny _ _ (Builtin.Tuple.tupleItemsOf (.ref t) >>= _) _ _ s;refine wpAny_bind (tupleItemsOf_ ht ?_);refine wpAny_bind (wpAny_typeOf hTs ?_);rw[if_pos (by decide)];refine wpAny_bind (q6d hs pl pu ?_)
 have hno:¬((((sIx items.size 0 lo:Nat):Int)==0&&(1:Int)==1&&(sIx items.size items.size hi-sIx items.size 0 lo)==items.size)=true):=by
  intro q;rw[w0g,w0g]at q;have q1:((sIx items.size 0 lo:Nat):Int)=0:=eq_of_beq q.1.1;have q2:sIx items.size items.size hi-sIx items.size 0 lo=items.size:=eq_of_beq q.2;exact hw ⟨by omega,by omega⟩
 show wpAny _ _ (if(((sIx items.size 0 lo:Nat):Int)==0&&(1:Int)==1&&(sIx items.size items.size hi-sIx items.size 0 lo)==items.size)=true then _ else _) _ _ s;rw[if_neg hno,y1i]
 first
  |exact wpAny_bind (m:=Builtin.Tuple.tupleExact _) (wpAny_newObj_type (wpAny_pure ⟨_,rfl,wpAny_pure h⟩) htake)
  |exact wpAny_bind (m:=Builtin.Tuple.tupleExact _) (wpAny_newObj_type (wpAny_bind (wpAny_pure (wpAny_pure ⟨_,rfl,wpAny_pure h⟩))) htake)
  |exact wpAny_bind (wpAny_bind (m:=Builtin.Tuple.tupleExact _) (wpAny_newObj_type (wpAny_pure (wpAny_pure ⟨_,rfl,wpAny_pure h⟩)) htake))
  |exact wpAny_bind (wpAny_bind (m:=Builtin.Tuple.tupleExact _) (wpAny_newObj_type (wpAny_pure ⟨_,rfl,wpAny_pure h⟩) htake))
end
end HT
namespace L2
open PySem PySem.Spec PyProof.Rows
variable{A:Around}{X:Cx}{H:Hp}{pins:List (Addr×Obj)}{xs:List V}{its us:List Value}{n:Nat}{s:Shared}{σ:St}{α:Type}{x:V}{v:Value}
abbrev TO:=St->Hp->(Option Int->Hp->Prop)->Prop
def PO(X:Cx)(e:Option Expr)(t:TO):Prop:=
 ∀(pins:List (Addr×Obj))(s:Shared)(σ:St)(H:Hp)(Q:Option Int->Hp->Prop),Inv X pins σ H s->t σ H Q ->
  wpAny (model X.prog X.w) X.A (evalPart e X.env) (fun u s'=>∃o H',Inv X pins σ H' s'/\IsPart u o/\Q o H') X.xe s
def tNoPart:TO:=fun _ H Q=>Q none H
def tPart(t:TE):TO:=fun σ H Q=>t σ H fun x H1=>∃i,x=.int i/\Q (some i) H1
section
variable{e:Expr}{te:TE}{lo hi:Option Expr}{tl th:TO}{pos p2:Pos}
theorem y4n:PO X none tNoPart:=by
 intro pins s σ H Q I h;rw[evalPart_none];exact wpAny_pure ⟨none,H,I,.none,h⟩
theorem y4o(h:PE X e te):PO X (some e) (tPart te):=by
 intro pins s σ H Q I hw;rw[evalPart_some];refine thn (h pins s σ H _ I hw) fun u s1 ⟨x,H1,I1,r1,q1⟩=>?_
 obtain⟨i,rfl,q⟩:=q1;obtain⟨t,rfl⟩:=r1;exact⟨some i,H1,I1,.int i t,q⟩
def SlR(X:Cx)(r:V->Option Int->Option Int->Hp->VK->Prop):Prop:=
 ∀(pins:List (Addr×Obj))(s:Shared)(σ:St)(H:Hp)(x:V)(v vl vu:Value)(lo hi:Option Int)(sl:Addr)(Q:VK),Inv X pins σ H s->RelV x v->s.heap.IsSliceOf sl vl vu .none->IsPart vl lo->IsPart vu hi->r x lo hi H Q ->
  ∃T id,typeLookup (.type T) "__getitem__"=pure (some (.builtin id))/\s.TypeIs v T/\wpAny (model X.prog X.w) X.A (getItem v (.ref sl)) (EP X pins σ Q) X.xe s
theorem SlR.or{r r':V->Option Int->Option Int->Hp->VK->Prop}(h:SlR X r)(h':SlR X r'):SlR X (fun x lo hi H Q=>r x lo hi H Q\/r' x lo hi H Q):=by
 intro pins s σ H x v vl vu lo hi sl Q I rx hs pl pu q;rcases q with q|q
 ·exact h pins s σ H x v vl vu lo hi sl Q I rx hs pl pu q
 ·exact h' pins s σ H x v vl vu lo hi sl Q I rx hs pl pu q
def tSl(r:V->Option Int->Option Int->Hp->VK->Prop)(te:TE)(tl th:TO):TE:=fun σ H Q=>te σ H fun x H1=>tl σ H1 fun l H2=>th σ H2 fun u H3=>r x l u H3 Q
theorem y1j{r:V->Option Int->Option Int->Hp->VK->Prop}(hr:SlR X r)(he:PE X e te)(hl:PO X lo tl)(hu:PO X hi th):PE X (.Subscript e (.Slice lo hi none p2) pos) (tSl r te tl th):=by
 intro pins s σ H Q I h;refine Subscript_ (thn (he pins s σ H _ I h) fun v s1 ⟨x,H1,I1,r1,q1⟩=>?_)
 refine wpAny_Slice (thn (hl pins s1 σ H1 _ I1 q1) fun vl s2 ⟨l,H2,I2,pl,q2⟩=>thn (hu pins s2 σ H2 _ I2 q2) fun vu s3 ⟨u,H3,I3,pu,q3⟩=>?_)
 rw[evalPart_none];refine wpAny_pure ?_;have I4:Inv X pins σ H3 {s3 with heap:=s3.heap.push {cls:=.type "slice", data:=.fields #[vl,vu,.none]}}:=I3.kept (t':=s3.toks) fun b ob q=>Heap.get?_push_of_some _ q
 obtain⟨T,id,hT,ht,hg⟩:=hr pins {s3 with heap:=s3.heap.push {cls:=.type "slice", data:=.fields #[vl,vu,.none]}} σ H3 x v vl vu l u s3.heap.objs.size Q I4 r1 (Heap.IsSliceOf.new ..) pl pu q3;show wpAny (model X.prog X.w) X.A (subscriptTail e (.Slice lo hi none p2) v (.ref s3.heap.objs.size)) (EP X pins σ Q) X.xe {s3 with heap:=s3.heap.push {cls:=.type "slice", data:=.fields #[vl,vu,.none]}};exact tail_any (ops:=[.ref s3.heap.objs.size,v]) ht hT hg (by with_unfolding_all rfl)
noncomputable def cutV(xs:List V)(lo hi:Option Int):List V:=(xs.drop (HT.sIx xs.length 0 lo)).take (HT.sIx xs.length xs.length hi-HT.sIx xs.length 0 lo)
theorem q9t(xs:List V)(lo hi:Option Int):(cutV xs lo hi).length<=xs.length:=by
 unfold cutV;rw[w0u,w1t];exact w0o (w3m _ _) (Nat.sub_le _ _)
def rSlT(K:PySem.W.Frag):V->Option Int->Option Int->Hp->VK->Prop:=fun x lo hi H Q=>∃a xs,x=.ref a/\SqT K H a xs /\
 ¬(HT.sIx xs.length 0 lo=0/\HT.sIx xs.length xs.length hi=xs.length)/\∀p,H p=none->Q (.ref p) (upd H p (.tup (cutV xs lo hi)))
theorem y8x:SlR X (rSlT X.K):=by
 intro pins s σ H x v vl vu lo hi sl Q I rx hs pl pu h;obtain⟨a,xs,rfl,hx,hw,q⟩:=h;cases rx;obtain⟨its,r,ht,hz⟩:=I.tuple hx;have hlen:its.toArray.size=xs.length:=by rw[w0c];exact r.length.symm
 refine⟨"tuple", _,PyProof.Rows.slot_tuple_getitem.lookup,ht.typeIs,?_⟩;refine HT.getItem_tuple_cut ht hs pl pu (by rw[hlen];exact hw) ?_ (by rw[hlen];exact hz);rw[hlen];refine⟨.ref s.heap.objs.size,_,I.laid (t':=s.toks) (o:=.tup (cutV xs lo hi)) (fun b ob q=>Heap.get?_push_of_some _ q) (w0e _) ?_,rfl,q _ (I.hok.fresh (w0e _))⟩
 exact⟨w0o (q9t xs lo hi) hz,_,(r.drop (HT.sIx xs.length 0 lo)).take (HT.sIx xs.length xs.length hi-HT.sIx xs.length 0 lo),IsTup.new _ _,_,Heap.get?_push_size _ rfl,rfl⟩
def rCatT(K:PySem.W.Frag):R2:=fun x y H Q=>∃a b xs ys,x=.ref a/\y=.ref b/\SqT K H a xs/\SqT K H b ys/\xs≠[]/\xs.length+ys.length<=sizeLine /\
 (ys=[]->Q (.ref a) H)/\(ys≠[]->∀p,H p=none->Q (.ref p) (upd H p (.tup (xs++ys))))
theorem Vals.nil_iff(r:Vals xs us):us=[]↔xs=[]:=by
 cases r with
 |nil=>simp
 |cons _ _=>simp
theorem op_catT:OpR X (binaryOp .Add) (rCatT X.K):=by
 intro pins s σ H x y v u Q I rx ry h;obtain⟨a,b,xs,ys,rfl,rfl,ha,hb,hx,hz,q1,q2⟩:=h;cases rx;cases ry;obtain⟨its,r1,p1,_⟩:=I.tuple ha;obtain⟨its2,r2,p2,_⟩:=I.tuple hb;refine HT.cat_tup p1 p2 (fun z=>hx (r1.nil_iff.mp z)) (fun z=>⟨.ref a,H,I,rfl,q1 (r2.nil_iff.mp z)⟩) (fun z=>?_) (by rw[<- r1.length,<- r2.length];exact hz)
 refine⟨.ref s.heap.objs.size,_,I.laid (t':=s.toks) (o:=.tup (xs++ys)) (fun b ob q=>Heap.get?_push_of_some _ q) (w0e _) ?_,rfl,q2 (fun w=>z (r2.nil_iff.mpr w)) _ (I.hok.fresh (w0e _))⟩
 exact⟨by rw[w0k];exact hz,_,r1.append r2,IsTup.new _ _,_,Heap.get?_push_size _ rfl,rfl⟩
end
noncomputable def ixN(n:Nat)(i:Int):Option Nat:=if 0<=i then(if i<n then some i.toNat else none)else if -(n:Int)<=i then some (i+n).toNat else none
noncomputable def atI(xs:List α)(i:Int):Option α:=(ixN xs.length i).bind fun j=>xs[j]?
theorem x57{i:Int}{j:Nat}(h:ixN n i=some j):seqIndex? i n=some j/\j<n/\-(n:Int)<=i/\i<n:=by
 unfold ixN at h
 by_cases h0:0<=i
 ·rw[if_pos h0]at h
  by_cases h1:i<n
  ·rw[if_pos h1]at h;have e:i.toNat=j:=Option.some.inj h;exact⟨by rw[seqIndex_of h0 h1,e],by omega,by omega,h1⟩
  ·rw[if_neg h1]at h;cases h
 ·rw[if_neg h0]at h
  by_cases h1:-(n:Int)<=i
  ·rw[if_pos h1]at h;have e:(i+n).toNat=j:=Option.some.inj h;exact⟨by rw[seqIndex_neg (by omega) h1,e],by omega,h1,by omega⟩
  ·rw[if_neg h1]at h;cases h
theorem x1j{xs:List α}{i:Int}{v:α}(h:atI xs i=some v):∃j,seqIndex? i xs.length=some j/\xs[j]?=some v/\j<xs.length/\-(xs.length:Int)<=i/\i<xs.length:=by
 unfold atI at h;cases e:ixN xs.length i with
 |none=>rw[e]at h;cases h
 |some j=>
  rw[e]at h;obtain⟨h1,h2,h3,h4⟩:=x57 e;exact⟨j,h1,h,h2,h3,h4⟩
theorem q56{xs:List α}{j:Nat}{v:α}(h:xs[j]?=some v):atI xs (j:Int)=some v:=by
 have hj:j<xs.length:=(w0a.mp h).1
 have e:ixN xs.length (j:Int)=some j:=by
  unfold ixN;rw[if_pos (by omega),if_pos (by omega)];simp
 unfold atI;rw[e];exact h
def PlainIx(b:Expr):Prop:=∀o i,subscripted b false o i=operate [o,i] (getItem o i)
def IxR(X:Cx)(r:R2):Prop:=
 ∀(value slice:Expr)(pins:List (Addr×Obj))(s:Shared)(σ:St)(H:Hp)(x y:V)(v u:Value)(Q:VK),Inv X pins σ H s->RelV x v->RelV y u->r x y H Q ->
  subscripted slice false v u=operate [v,u] (getItem v u)->wpAny (model X.prog X.w) X.A (subscriptTail value slice v u) (EP X pins σ Q) X.xe s
def MtR(X:Cx)(id:String)(r:V->List V->Hp->VK->Prop):Prop:=
 ∀(pins:List (Addr×Obj))(s:Shared)(σ:St)(H:Hp)(x:V)(xs:List V)(v:Value)(us:List Value)(Q:VK),Inv X pins σ H s->RelV x v->Vals xs us->r x xs H Q ->
  wpAny (model X.prog X.w) X.A (call (.builtin id) (v::us)) (EP X pins σ Q) X.xe s
section
variable{a b:Expr}{ta tb:TE}{pos:Pos}
theorem IxR.or{r r':R2}(h:IxR X r)(h':IxR X r'):IxR X (fun x y H Q=>r x y H Q\/r' x y H Q):=by
 intro value slice pins s σ H x y v u Q I rx ry q hs;rcases q with q|q
 ·exact h value slice pins s σ H x y v u Q I rx ry q hs
 ·exact h' value slice pins s σ H x y v u Q I rx ry q hs
theorem x67{r:R2}(hr:IxR X r)(ha:PE X a ta)(hb:PE X b tb)(hs:PlainIx b):PE X (.Subscript a b pos) (tOp r ta tb):=by
 intro pins s σ H Q I h;exact Subscript_ (binT ha hb I h fun v u s2 x y H2 I2 rx ry q=>hr a b pins s2 σ H2 x y v u Q I2 rx ry q (hs _ _))
def rIxL(K:PySem.W.Frag):R2:=fun x y H Q=>∃p xs i v,x=.ref p/\y=.int i/\SqL K H p xs/\atI xs i=some v/\Q v H
def rIxT(K:PySem.W.Frag):R2:=fun x y H Q=>∃p xs i v,x=.ref p/\y=.int i/\SqT K H p xs/\atI xs i=some v/\Q v H
def rIxS:R2:=fun x y H Q=>∃z i c,x=.str z/\y=.int i/\z.length<=sizeLine/\atI z.cps.toList i=some c/\Q (.str ⟨#[c]⟩) H
theorem ix_list:IxR X (rIxL X.K):=by
 intro value slice pins s σ H x y v u Q I rx ry h hs;obtain⟨p,xs,i,z,rfl,rfl,hq,he,q⟩:=h;cases rx;obtain⟨t,rfl⟩:=ry;obtain⟨its,r,pl,hz⟩:=I.list hq;obtain⟨j,h1,h2,h3,h4,h5⟩:=x1j he;obtain⟨w,ew,rw'⟩:=r.get h2;have hl:=r.length;have hn:=line63;have fin:EP X pins σ Q w s:=⟨z,H,I,rw',q⟩
 by_cases h0:0<=i
 ·have hj:i.toNat=j:=by
   rw[seqIndex_of h0 h5]at h1;exact Option.some.inj h1
  exact item_listR pl.isList h0 (by omega) (by rw[hj];simpa using ew) fin hs
 ·have hj:(i+(its.toArray.size:Int)).toNat=j:=by
   rw[seqIndex_neg (by omega) h4]at h1;rw[w0c,<- hl];exact Option.some.inj h1
  exact subscriptTail_builtinR (x:=w) pl.isList.typeIs slot_list_getitem.lookup
   (wpAny_getItem_list_neg (Q:=fun r s'=>r=w/\EP X pins σ Q r s') pl.isList (by omega) (by rw[w0c]<;>omega) (by omega) (by rw[hj];simpa using ew) ⟨rfl,fin⟩) hs
theorem ix_tup:IxR X (rIxT X.K):=by
 intro value slice pins s σ H x y v u Q I rx ry h hs;obtain⟨p,xs,i,z,rfl,rfl,hq,he,q⟩:=h;cases rx;obtain⟨t,rfl⟩:=ry;obtain⟨its,r,pl,hz⟩:=I.tuple hq;obtain⟨j,h1,h2,h3,h4,h5⟩:=x1j he;obtain⟨w,ew,rw'⟩:=r.get h2;have hl:=r.length;have hn:=line63;have fin:EP X pins σ Q w s:=⟨z,H,I,rw',q⟩
 exact subscriptTail_builtinR (x:=w) pl.typeIs slot_tuple_getitem.lookup
  (getItem_tuple (j:=j) (Q:=fun r s'=>r=w/\EP X pins σ Q r s') pl (by omega) (by omega) (by rw[w0c,<- hl];exact h1) (by simpa using ew) ⟨rfl,fin⟩) hs
theorem y8y:IxR X rIxS:=by
 intro value slice pins s σ H x y v u Q I rx ry h hs;obtain⟨z,i,c,rfl,rfl,hz,he,q⟩:=h;obtain⟨t,rfl⟩:=rx;obtain⟨t',rfl⟩:=ry;obtain⟨j,h1,h2,h3,h4,h5⟩:=x1j he;have hl:z.cps.toList.length=z.length:=by simp[Str.length]
 rw[hl]at h1 h4 h5;have hn:=line63
 exact tail_any (typeIs_str s z t) slot_str_getitem.lookup (getItem_str (c:=c) (by
  have e1:decide (i < -(2^63:Int))=false:=decide_eq_false (by omega);have e2:decide (i>=2^63)=false:=decide_eq_false (by omega);rw[e1,e2,Bool.or_false]) (by rw[h1];simpa using h2) ⟨.str ⟨#[c]⟩,H,I.tok _,⟨_,rfl⟩,q⟩) hs
def rIx(K:PySem.W.Frag):R2:=fun x y H Q=>rIxL K x y H Q\/rIxT K x y H Q\/rIxS x y H Q
theorem x8s:IxR X (rIx X.K):=ix_list.or (ix_tup.or y8y)
theorem x68(its:List Value)(n j:Nat)(u:Value):Obj.mapSeq (·.setIfInBounds j u) {cls:=.type "list", data:=.seq its.toArray n}={cls:=.type "list", data:=.seq (its.set j u).toArray n}:=by
 simp[Obj.mapSeq]
theorem Inv.lst{p:Addr}(I:Inv X pins σ H s)(h:H p=some (.lst xs)):
  ∃(its:List Value)(n:Nat),Vals xs its/\s.heap.get? p=some {cls:=.type "list", data:=.seq its.toArray n}/\xs.length<=sizeLine:=by
 obtain⟨z,its,n,r,e⟩:=I.hok p _ h;exact⟨its,n,r,e,z⟩
theorem Inv.lstUpd{p:Addr}{ys:List V}{its':List Value}{n':Nat}{f:Obj->Obj}(I:Inv X pins σ H s)(h:H p=some (.lst xs))
  (ho:s.heap.get? p=some {cls:=.type "list", data:=.seq its.toArray n})(hf:f {cls:=.type "list", data:=.seq its.toArray n}={cls:=.type "list", data:=.seq its'.toArray n'})(r:Vals ys its')(hz:ys.length<=sizeLine)(t:Nat):
  Inv X pins σ (upd H p (.lst ys)) {s with heap:=s.heap.update p f,toks:=t}:=by
 have e:(s.heap.update p f).get? p=some {cls:=.type "list", data:=.seq its'.toArray n'}:=by
  rw[Heap.get?_update_self f ho (by rw[hf]<;>rfl),hf]
 refine I.write (x:=p) (e:=p) (by rw[h];trivial) (.inl rfl) (fun b u hb q=>(Heap.get?_update_other _ _ (Ne.symm hb)).trans q) ⟨_,e⟩ ?_
 exact⟨hz,its',n',r,e⟩
def rSetL:V->V->V->Hp->(Hp->Prop)->Prop:=fun o i v H Q=>∃p xs k j,o=.ref p/\i=.int k/\H p=some (.lst xs)/\ixN xs.length k=some j/\Q (upd H p (.lst (xs.set j v)))
theorem y1k:PSet X rSetL:=by
 intro pins s σ H o i v ov iv u Q I ro ri rv h;obtain⟨p,xs,k,j,rfl,rfl,hp,hj,q⟩:=h;cases ro;obtain⟨t,rfl⟩:=ri;obtain⟨its,n,r,ho,hz⟩:=I.lst hp;obtain⟨h1,h2,h3,h4⟩:=x57 hj;have hl:=r.length;have hn:=line63
 have I':Inv X pins σ (upd H p (.lst (xs.set j v))) {s with heap:=s.heap.update p (Obj.mapSeq (·.setIfInBounds j u))}:=
  I.lstUpd hp ho (x68 its n j u) (r.set rv j) (by rw[List.length_set];exact hz) s.toks
 by_cases h0:0<=k
 ·have hk:k.toNat=j:=by
   rw[seqIndex_of h0 h4]at h1;exact Option.some.inj h1
  exact PySem.W.ki_setAt ho h0 (by omega) (by rw[w0c,<- hl];exact h4) (by rw[hk];exact⟨_,I',q⟩)
 ·have hk:(k+(its.toArray.size:Int)).toNat=j:=by
   rw[seqIndex_neg (by omega) h3]at h1;rw[w0c,<- hl];exact Option.some.inj h1
  exact PySem.W.ki_setBack ho (by omega) (by rw[w0c,<- hl];exact h3) (by omega) (by rw[hk];exact⟨_,I',q⟩)
theorem x32(lo hi:Option Int)(n:Nat):(sliceBounds lo hi none n).1=((HT.sIx n 0 lo:Nat):Int)/\(sliceBounds lo hi none n).2.1=((HT.sIx n n hi:Nat):Int)/\(sliceBounds lo hi none n).2.2=1:=by
 refine⟨?_,?_,rfl⟩
 ·cases lo with
  |none=>simp[sliceBounds,HT.sIx]
  |some i=>
   simp only[sliceBounds,HT.sIx,Option.getD_none,show(1:Int)>0 by decide,if_true]
   by_cases h:i<0
   ·simp only[h,if_true]<;>omega
   ·simp only[h,if_false]<;>omega
 ·cases hi with
  |none=>simp[sliceBounds,HT.sIx]
  |some i=>
   simp only[sliceBounds,HT.sIx,Option.getD_none,show(1:Int)>0 by decide,if_true]
   by_cases h:i<0
   ·simp only[h,if_true]<;>omega
   ·simp only[h,if_false]<;>omega
theorem x24(its:List Value)(lo hi:Option Int):slicePick its.toArray lo hi none=((its.drop (HT.sIx its.length 0 lo)).take (HT.sIx its.length its.length hi-HT.sIx its.length 0 lo)).toArray:=by
 obtain⟨h1,h2,h3⟩:=x32 lo hi its.toArray.size;unfold slicePick;rw[h1,h2,h3];simp only[sliceRange_one,pick_run,w0c]<;>rfl
def rSlL(K:PySem.W.Frag):V->Option Int->Option Int->Hp->VK->Prop:=fun x lo hi H Q=>∃a xs,x=.ref a/\SqL K H a xs/\∀p,H p=none->Q (.ref p) (upd H p (.lst (cutV xs lo hi)))
theorem sl_list:SlR X (rSlL X.K):=by
 intro pins s σ H x v vl vu lo hi sl Q I rx hs pl pu h;obtain⟨a,xs,rfl,hx,q⟩:=h;cases rx;obtain⟨its,r,ht,hz⟩:=I.list hx;have hlen:=r.length;refine⟨"list", _,slot_list_getitem.lookup,ht.isList.typeIs,?_⟩;refine wpAny_getItem_list_slice ht.isList hs pl pu .none (by simp) ?_ (by rw[w0c]<;>omega);rw[x24,<- hlen];refine⟨.ref s.heap.objs.size,_,I.laid (t':=s.toks) (o:=.lst (cutV xs lo hi)) (fun b ob q=>Heap.get?_push_of_some _ q) (w0e _) ?_,rfl,q _ (I.hok.fresh (w0e _))⟩
 exact⟨w0o (q9t xs lo hi) hz,_,0,(r.drop (HT.sIx xs.length 0 lo)).take (HT.sIx xs.length xs.length hi-HT.sIx xs.length 0 lo),Heap.get?_push_size _ rfl⟩
noncomputable def flatV:V->Bool
 |.non=>true
 |.bl _=>true
 |.int _=>true
 |.str _=>true
 |_=>false
noncomputable def eqV:V->V->Bool
 |.non,.non=>true
 |.bl a,.bl b=>a==b
 |.bl a,.int b=>(if a then 1 else 0)==b
 |.int a,.bl b=>a==(if b then 1 else 0)
 |.int a,.int b=>a==b
 |.str a,.str b=>a==b
 |_,_=>false
theorem y8z{y:V}{u:Value}(ry:RelV y u)(rx:RelV x v)(fy:flatV y=true)(fx:flatV x=true):SeqAt.EqAt A s u v (eqV y x):=by
 cases y with
 |non=>
  cases ry;cases x with
  |non=>cases rx;exact SeqAt.EqAt.same _
  |bl b=>cases rx;exact SeqAt.EqAt.none_bool b
  |int b=>obtain⟨t,rfl⟩:=rx;exact SeqAt.EqAt.none_int b t
  |str b=>obtain⟨t,rfl⟩:=rx;exact SeqAt.EqAt.none_str b t
  |_=>exact absurd (show false=true from fx) w0t
 |bl a=>
  cases ry;cases x with
  |non=>cases rx;exact SeqAt.EqAt.bool_none a
  |bl b=>cases rx;exact SeqAt.EqAt.bool_bool a b
  |int b=>obtain⟨t,rfl⟩:=rx;exact SeqAt.EqAt.bool_int a b t
  |str b=>obtain⟨t,rfl⟩:=rx;exact SeqAt.EqAt.bool_str a b t
  |_=>exact absurd (show false=true from fx) w0t
 |int a=>
  obtain⟨t',rfl⟩:=ry;cases x with
  |non=>cases rx;exact SeqAt.EqAt.int_none a t'
  |bl b=>cases rx;exact SeqAt.EqAt.int_bool a t' b
  |int b=>obtain⟨t,rfl⟩:=rx;exact SeqAt.EqAt.int_int a t' b t
  |str b=>obtain⟨t,rfl⟩:=rx;exact SeqAt.EqAt.int_str a t' b t
  |_=>exact absurd (show false=true from fx) w0t
 |str a=>
  obtain⟨t',rfl⟩:=ry;cases x with
  |non=>cases rx;exact SeqAt.EqAt.str_none a t'
  |bl b=>cases rx;exact SeqAt.EqAt.str_bool a t' b
  |int b=>obtain⟨t,rfl⟩:=rx;exact SeqAt.EqAt.str_int a t' b t
  |str b=>obtain⟨t,rfl⟩:=rx;exact SeqAt.EqAt.str_str a t' b t
  |_=>exact absurd (show false=true from fx) w0t
 |_=>exact absurd (show false=true from fy) w0t
noncomputable def eqU(x:V)(u:Value):Bool:=match u with
 |.none=>eqV .non x
 |.bool b=>eqV (.bl b) x
 |.int i _=>eqV (.int i) x
 |.str z _=>eqV (.str z) x
 |_=>false
theorem x8t{y:V}{u:Value}(r:RelV y u)(f:flatV y=true):eqU x u=eqV y x:=by
 cases y with
 |non=>cases r;rfl
 |bl b=>cases r;rfl
 |int i=>obtain⟨t,rfl⟩:=r;rfl
 |str z=>obtain⟨t,rfl⟩:=r;rfl
 |_=>exact absurd (show false=true from f) w0t
theorem x1k:∀{xs:List V}{us:List Value},Vals xs us->xs.all flatV=true->us.any (eqU x)=xs.any fun y=>eqV y x
 |_,_,.nil,_=>rfl
 |y::xs,u::us,.cons r t,f=>by
  rw[w2u,w0g]at f;rw[w2v,w2v,x8t r f.1,x1k t f.2]
theorem q96(rx:RelV x v)(fx:flatV x=true):∀{xs:List V}{us:List Value},Vals xs us->xs.all flatV=true->∀u∈us,SeqAt.EqAt A s u v (eqU x u)
 |_,_,.nil,_=>fun u hu=>by cases hu
 |y::xs,u::us,.cons r t,f=>fun u' hu=>by
  rw[w2u,w0g]at f;rcases w0m.mp hu with rfl|hu
  ·rw[x8t r f.1];exact y8z r rx f.1 fx
  ·exact q96 rx fx t f.2 u' hu
noncomputable def inV(x:V)(xs:List V):Bool:=xs.any fun y=>eqV y x
def rIn(K:PySem.W.Frag)(neg:Bool):R2:=fun x y H Q=>∃p xs,y=.ref p/\(SqL K H p xs\/SqT K H p xs)/\flatV x=true/\xs.all flatV=true/\Q (.bl (if neg then !inV x xs else inV x xs)) H
theorem x2c:OpR X (compareOp .In) (rIn X.K false):=by
 intro pins s σ H x y v u Q I rx ry h;obtain⟨p,xs,rfl,hq,fx,fs,q⟩:=h;cases ry;rcases hq with hq|hq
 ·obtain⟨its,r,pl,hz⟩:=I.list hq;refine SeqAt.in_listAt (eqU x) pl.isList (fun w hw=>q96 rx fx r fs w (by simpa using hw)) ⟨.bl _,H,I,rfl,?_⟩
  rw[show its.toArray.any (eqU x)=its.any (eqU x) by simp,x1k r fs];exact q
 ·obtain⟨its,r,pl,hz⟩:=I.tuple hq;refine SeqAt.in_tupleAt (eqU x) pl (fun w hw=>q96 rx fx r fs w (by simpa using hw)) ⟨.bl _,H,I,rfl,?_⟩
  rw[show its.toArray.any (eqU x)=its.any (eqU x) by simp,x1k r fs];exact q
theorem x33:CallR X (.type "list") (fun xs H Q=>∃p ys,xs=[.ref p]/\(SqL X.K H p ys\/SqT X.K H p ys)/\∀l,H l=none->Q (.ref l) (upd H l (.lst ys))):=by
 intro pins s σ H xs us Q I r h;obtain⟨p,ys,rfl,hq,q⟩:=h;obtain⟨u,rfl,rx⟩:=vals1 r;cases rx
 have fin:∀(its:List Value),Vals ys its->ys.length<=sizeLine->∀(h':Heap)(c':Nat),(∀b o',s.heap.get? b=some o'->h'.get? b=some o') ->
   h'.get? s.heap.objs.size=some {cls:=.type "list", dict:=none,data:=.seq its.toArray c',slots:=#[]}->EP X pins σ Q (.ref s.heap.objs.size) {s with heap:=h'}:=fun its r' hz h' c' kp e=>
  ⟨.ref s.heap.objs.size,_,I.laid (t':=s.toks) kp (w0e _) (show ObjOk X.prog X.w _ h' _ (.lst ys)from⟨hz,its,c',r',e⟩),rfl,q _ (I.hok.fresh (w0e _))⟩
 rcases hq with hq|hq
 ·obtain⟨its,r',pl,hz⟩:=I.list hq;have hlen:=r'.length;obtain⟨o,ho,hc,n,hd⟩:=pl.isList;exact call_list_seq p (.inl rfl) ho hc hd (fun h' c' kp e=>fin its r' hz h' c' kp e) (by simp only[w0c]<;>omega)
 ·obtain⟨its,r',pl,hz⟩:=I.tuple hq;have hlen:=r'.length;obtain⟨o,ho,hc,n,hd⟩:=pl;exact call_list_seq p (.inr rfl) ho hc hd (fun h' c' kp e=>fin its r' hz h' c' kp e) (by simp only[w0c]<;>omega)
theorem x25:CallR X (.type "tuple") (fun xs H Q=>∃p ys,xs=[.ref p]/\((SqL X.K H p ys/\∀l,H l=none->Q (.ref l) (upd H l (.tup ys)))\/(SqT X.K H p ys/\Q (.ref p) H))):=by
 intro pins s σ H xs us Q I r h;obtain⟨p,ys,rfl,h⟩:=h;obtain⟨u,rfl,rx⟩:=vals1 r;cases rx;rcases h with⟨hq,q⟩|⟨hq,q⟩
 ·obtain⟨its,r',pl,hz⟩:=I.list hq;have hlen:=r'.length;refine call_tuple_list pl.isList (fun h' kp=>?_) (by simp only[w0c]<;>omega)
  have I1:Inv X pins σ H {s with heap:=h'}:=I.kept (t':=s.toks) kp
  have I2:Inv X pins σ (upd H h'.objs.size (.tup ys)) {s with heap:=h'.push {cls:=.type "tuple", data:=.seq its.toArray}}:=
   I1.laid (t':=s.toks) (fun b o e=>Heap.get?_push_of_some _ e) (w0e _) (show ObjOk X.prog X.w _ _ _ (.tup ys)from⟨hz,its,r',IsTup.new _ _,_,Heap.get?_push_size _ rfl,rfl⟩)
  exact⟨.ref h'.objs.size,_,I2,rfl,q _ (I1.hok.fresh (w0e _))⟩
 ·obtain⟨its,r',pl,hz⟩:=I.tuple hq;exact call_tuple_same pl ⟨.ref p,H,I,rfl,q⟩
def tyV(K:PySem.W.Frag)(T:String)(x:V)(H:Hp):Prop:=match x with
 |.str _=>T="str"
 |.int _=>T="int"
 |.ref p=>(T="list" /\ ∃xs,SqL K H p xs)\/(T="tuple" /\ ∃o,K.lookup p=some o/\o.cls=.type "tuple" /\ o.dict=none) \/
   (T="dict" /\ ((∃kvs,H p=some (.dK kvs))\/∃sh kvs kas,H p=some (.dT sh kvs kas)))\/(T="set" /\ ∃S n,H p=some (.set S n))
 |_=>False
theorem x8u{T:String}(I:Inv X pins σ H s)(r:RelV x v)(ty:tyV X.K T x H):
  s.TypeIs v T/\∀a,v=.ref a->∃ob,s.heap.get? a=some ob/\ob.dict=none:=by
 cases x with
 |str z=>
  obtain⟨t,rfl⟩:=r;cases(show T="str" from ty);exact⟨typeIs_str s z t,fun _ e=>nomatch e⟩
 |int i=>
  obtain⟨t,rfl⟩:=r;cases(show T="int" from ty);exact⟨typeIs_int s i t,fun _ e=>nomatch e⟩
 |ref p=>
  cases r;rcases ty with⟨rfl,xs,hq⟩|⟨rfl,o,hk,hc,hd⟩|⟨rfl,hk⟩|⟨rfl,S,n,hk⟩
  ·obtain⟨its,_,pl,_⟩:=I.list hq;refine⟨pl.isList.typeIs,fun a e=>?_⟩
   cases e;obtain⟨o,n,e,c,hd,_⟩:=pl;exact⟨o,e,hd⟩
  ·refine⟨⟨o,I.kIn p o hk,hc⟩,fun a e=>?_⟩
   cases e;exact⟨o,I.kIn _ o hk,hd⟩
  ·have z:∃o,s.heap.get? p=some o/\o.ExactDict:=by
    rcases hk with⟨kvs,hk⟩|⟨sh,kvs,kas,hk⟩
    ·obtain⟨_,_,_,_,o,_,_,e,ex,_⟩:=I.hok p _ hk;exact⟨o,e,ex⟩
    ·obtain⟨_,_,_,_,_,o,_,_,e,ex,_⟩:=I.hok p _ hk;exact⟨o,e,ex⟩
   obtain⟨o,e,ex⟩:=z;refine⟨⟨o,e,ex.1⟩,fun a e2=>?_⟩
   cases e2;exact⟨o,e,ex.2.1⟩
  ·obtain⟨o,_,_,_,e,ex,_⟩:=I.hok p _ hk;refine⟨⟨o,e,ex.1⟩,fun a e2=>?_⟩
   cases e2;exact⟨o,e,ex.2.1⟩
 |_=>exact False.elim ty
def tBM0(K:PySem.W.Frag)(T:String)(r:V->List V->Hp->VK->Prop)(to:TE):TE:=fun σ H Q=>to σ H fun x H1=>tyV K T x H1/\r x [] H1 Q
def tBM(K:PySem.W.Frag)(T:String)(r:V->List V->Hp->VK->Prop)(to:TE)(t:TA):TE:=fun σ H Q=>to σ H fun x H1=>tyV K T x H1/\t σ H1 fun xs H2=>r x xs H2 Q
variable{o e:Expr}{es:List Expr}{to:TE}{t:TA}{name:Str}{apos cpos:Pos}{T id:String}{r:V->List V->Hp->VK->Prop}
theorem y80(pa:PlainAttrs T)(slot:Slot T name id)(hty:typeOf (.builtin id)=pure (.type "method_descriptor"))(hm:MtR X id r)(ho:PE X o to)
  (hbase:attributeBase o name X.env (eval o X.env)=eval o X.env:=by rfl)(hline:(apos.endLine==cpos.line)=true:=by rfl):PE X (.Call (.Attribute o name apos) [] [] cpos) (tBM0 X.K T r to):=by
 intro pins s σ H Q I h;refine wpAny_Call_method0_late hbase hline (thn (ho pins s σ H _ I h) fun v s1 ⟨x,H1,I1,r1,ty,q1⟩=>?_)
 obtain⟨h1,h2⟩:=x8u I1 r1 ty;exact⟨T,id,pa,slot,hty,h1,h2,Calls.callWith_builtin rfl (PySem.evalArgs_none (hm pins s1 σ H1 x [] v [] Q I1 r1 .nil q1))⟩
theorem y3v(pa:PlainAttrs T)(slot:Slot T name id)(hty:typeOf (.builtin id)=pure (.type "method_descriptor"))(hm:MtR X id r)(ho:PE X o to)(ha:PA X (e::es) t)
  (hbase:attributeBase o name X.env (eval o X.env)=eval o X.env:=by rfl)
  (hfew:((backTo cpos (starEach (e::es) X.env)).all (fun x=>!x.1)&&(backToKw cpos (keywordEach [] X.env)).all (fun x=>x.1.isSome)
   && decide ((e::es).length+([]:List Keyword).length+(if([]:List Keyword).isEmpty then 0 else 1)<30))=true:=by rfl)
  (hline:(apos.endLine==cpos.line)=true:=by rfl)(hs:starEach (e::es) X.env=(false,eval e X.env)::starEach es X.env:=by rfl)(hplain:(backTo cpos (starEach es X.env)).any (·.1)=false:=by rfl):
  PE X (.Call (.Attribute o name apos) (e::es) [] cpos) (tBM X.K T r to t):=by
 intro pins s σ H Q I h;refine wpAny_Call_method_late hbase hfew hline rfl (thn (ho pins s σ H _ I h) fun v s1 ⟨x,H1,I1,r1,ty,q1⟩=>?_)
 obtain⟨h1,h2⟩:=x8u I1 r1 ty;refine⟨T,id,pa,slot,hty,h1,h2,?_⟩;have hA:=ha cpos pins s1 σ H1 _ I1 q1;rw[hs]at hA |-
 refine Calls.callWith_builtin (by show(false||(backTo cpos (starEach es X.env)).any (·.1))=false;rw[hplain]<;>rfl) (Calls.evalArgs_plain ?_);exact thn hA fun us s2 ⟨vs,H2,I2,r2,q2⟩=>hm pins s2 σ H2 x vs v us Q I2 r1 r2 q2
/- xs.append(e),list.index on a module's tuple .. are MtR facts of 06m -/
end
def MtM(X:Cx)(id:String)(r:V->List V->Hp->VK->Prop):Prop:=
 ∀(pins:List (Addr×Obj))(s:Shared)(σ:St)(H:Hp)(x:V)(xs:List V)(v:Value)(us:List Value)(Q:VK),Inv X pins σ H s->RelV x v->Vals xs us->r x xs H Q ->
  wpAny (model X.prog X.w) X.A (call (.builtin id) (v::us)) (EP X pins σ Q) X.xe s
theorem Vals.one(h:Vals [x] us):∃u,us=[u]/\RelV x u:=vals1 h
theorem Vals.zero:∀{us:List Value},Vals [] us->us=[]
 |_,.nil=>rfl
theorem Vals.dropLast(h:Vals xs us):Vals xs.dropLast us.dropLast:=by
 induction h with
 |nil=>exact .nil
 |cons r t ih=>
  cases t with
  |nil=>exact .nil
  |cons q t'=>exact .cons r ih
theorem Vals.rep(h:Vals xs us):∀k:Nat,Vals (List.replicate k xs).flatten (List.replicate k us).flatten
 |0=>.nil
 |k+1=>by
  rw[w0w,w0w,w1m,w1m];exact Vals.append h (Vals.rep h k)
theorem x69(l:List α):l.eraseIdx (l.length-1)=l.dropLast:=by
 induction l with
 |nil=>rfl
 |cons a r ih=>
  cases r with
  |nil=>rfl
  |cons b r=>
   have e:(a::b::r).length-1=((b::r).length-1)+1:=by
    have h1:(a::b::r).length=r.length+2:=rfl;have h2:(b::r).length=r.length+1:=rfl;omega
   rw[e,List.eraseIdx_cons_succ,ih]
   all_goals rfl
theorem x2d(its:List Value):∀(k:Nat)(acc:List Value),
  List.foldl (fun x1 x2=>x1++x2) acc.toArray (List.replicate k its.toArray)=(acc++(List.replicate k its).flatten).toArray
 |0,acc=>by simp
 |k+1,acc=>by
  have e:acc.toArray++its.toArray=(acc++its).toArray:=by simp
  have e2:(acc++its)++(List.replicate k its).flatten=acc++(List.replicate (k+1) its).flatten:=by
   rw[w0w,w1m,w1b]
  rw[<- e2,<- x2d its k (acc++its),<- e,w0w,w1f]
section
variable{l b:Addr}{ys zs:List V}
theorem Inv.lset{its':List Value}{f:Array Value->Array Value}{t':Nat}(I:Inv X pins σ H s)(hH:H l=some (.lst xs))
  (e:s.heap.get? l=some {cls:=.type "list", data:=.seq its.toArray n})(hf:f its.toArray=its'.toArray)(hv:Vals ys its')(hz:ys.length<=sizeLine):
  Inv X pins σ (upd H l (.lst ys)) {s with heap:=s.heap.update l (Obj.mapSeq f),toks:=t'}:=by
 have q:=PySem.IsL.update e f;rw[hf]at q;refine I.write (x:=l) (e:=l) (by rw[hH];exact trivial) (.inl rfl) (fun b' u hb hu=>(Heap.get?_update_other s.heap (Obj.mapSeq f) (Ne.symm hb)).trans hu) ⟨_,q⟩ ?_
 exact⟨hz,its',_,hv,q⟩
theorem Inv.lnew{t':Nat}(I:Inv X pins σ H s)(hv:Vals ys its)(hz:ys.length<=sizeLine):
  Inv X pins σ (upd H s.heap.objs.size (.lst ys)) {s with heap:=s.heap.push {cls:=.type "list", data:=.seq its.toArray},toks:=t'}:=
 I.laid (fun _ _ q=>Heap.get?_push_of_some _ q) (w0e _) ⟨hz,its,0,hv,Heap.get?_push_size _ rfl⟩
theorem Inv.fresh(I:Inv X pins σ H s):H s.heap.objs.size=none:=I.hok.fresh (w0e _)
theorem Inv.lstM(I:Inv X pins σ H s)(hH:H l=some (.lst xs)):xs.length<=sizeLine/\∃(its:List Value)(n:Nat),Vals xs its/\xs.length=its.length/\s.heap.get? l=some {cls:=.type "list", data:=.seq its.toArray n}:=by
 obtain⟨z,its,n,r,e⟩:=I.hok l _ hH;exact⟨z,its,n,r,r.length,e⟩
theorem notLongL(h:n<=sizeLine):Builtin.List.listTooLong n=false:=by
 unfold Builtin.List.listTooLong;exact decide_eq_false (by omega)
end
def rAppend:V->List V->Hp->VK->Prop:=fun x vs H Q=>∃l xs y,x=.ref l/\vs=[y]/\H l=some (.lst xs)/\xs.length<sizeLine/\Q .non (upd H l (.lst (xs++[y])))
theorem q8k:MtM X "list.append" rAppend:=by
 intro pins s σ H x vs v us Q I rx rv h;obtain⟨l,xs,y,rfl,rfl,hH,hz,q⟩:=h;cases rx;obtain⟨u,rfl,ru⟩:=rv.one;obtain⟨z,its,n,r,hl,e⟩:=I.lstM hH;refine call_meets F.slot_list_append ⟨_,e,rfl⟩ F.entry_list_append (F.args_list_append_2 _ _) (PySem.list_append l its.toArray n u (by rw[w0c];omega)) ⟨e,?_⟩;refine⟨.non,_,I.lset (its':=its++[u]) hH e (by simp) (r.append (.cons ru .nil)) ?_,rfl,q⟩;rw[w0k,w3b];omega
def rPop:V->List V->Hp->VK->Prop:=fun x vs H Q=>∃l xs y,x=.ref l/\vs=[]/\H l=some (.lst xs)/\xs[xs.length-1]?=some y/\Q y (upd H l (.lst xs.dropLast))
theorem y81:MtM X "list.pop" rPop:=by
 intro pins s σ H x vs v us Q I rx rv h;obtain⟨l,xs,y,rfl,rfl,hH,hy,q⟩:=h;cases rx;have hus:=rv.zero;subst hus;obtain⟨z,its,n,r,hl,e⟩:=I.lstM hH;obtain⟨u,hu,ru⟩:=r.get hy
 have hy':its.toArray[its.toArray.size-1]?=some u:=by
  show its.toArray[its.length-1]?=some u;rw[<- w3s,<- hl];exact hu
 refine call_meets F.slot_list_pop ⟨_,e,rfl⟩ F.entry_list_pop (F.args_list_pop_1 _) (MeetsSeq.list_pop_last l its.toArray n u hy' (by rw[w0c];omega)) ⟨e,?_⟩;refine⟨y,_,I.lset (its':=its.dropLast) hH e ?_ r.dropLast ?_,ru,q⟩
 ·show its.toArray.eraseIdxIfInBounds (its.toArray.size-1)=its.dropLast.toArray;rw[w0c,List.eraseIdxIfInBounds_toArray,x69]
 ·rw[List.length_dropLast];omega
theorem y4p(xs:List α)(k:Nat):(List.replicate k xs).flatten.length=k*xs.length:=by
 induction k with
 |zero=>simp
 |succ k ih=>rw[w0w,w1m,w0k,ih,Nat.succ_mul,Nat.add_comm]
end L2
namespace Att
open PySem PySem.W PySem.Calls PyProof.Rows
theorem x0t{P:Params}{h:Heap}:∀(ns:List Int)(vs:List Value),WellAll P h vs (ns.map WData.int)->IntsAre vs ns:=by
 intro ns
 induction ns with
 |nil=>
  intro vs w;rw[w4l]at w;cases w;exact .nil
 |cons n ns ih=>
  intro vs w;rw[w0n]at w;cases w with
  |cons a b=>
   cases a;exact .cons _ _ (ih _ b)
theorem x8v{l:OpenLaw}{n:Nat}(hn:l.most=some n){P:Params}{h:Heap}{args:List WData}{vals:List Value}
  (hpre:l.row.toRowW.claim.pre args=true)(hwl:WellAll P h vals args):
  ∃a vs ns,vals=[Value.ref a]/\args=[WData.list (ns.map WData.int)]/\h.get? a=some {cls:=.type "list", data:=.seq vs.toArray}/\IntsAre vs ns/\ns.length<=n:=by
 have hsh:WShape.hasAll [] args [.list .int]=true:=(pre_splitW hpre).1;have hc:l.pre.holds [] {args:=args}=true:=(pre_splitW hpre).2;obtain⟨d,r,rfl,h1,h2⟩:=hasAllW_cons hsh;obtain rfl:=hasAllW_nil h2;obtain⟨xs,rfl,h3⟩:=hasW_list h1;obtain⟨ns,rfl⟩:=items_int h3
 have hlen:ns.length<=n:=by
  unfold OpenLaw.pre at hc
  have h4:(WTm.not (.lt (.lit (.int (n:Int))) (.len (.arg 0)))).holds [] {args:=[.list (ns.map .int)]}=true:=by
   have h4:=(holds_andW hc).1;rw[hn]at h4;exact h4
  have h5:=condW_of h4 (w_not (w_lt w_lit (w_len_list (w_arg rfl))));rw[w0r]at h5;refine Nat.le_of_not_lt fun q=>?_
  have q':(n:Int)<((ns.length:Nat):Int):=by omega
  first
   |(rw[decide_eq_true q']at h5;exact absurd h5 (by decide))
   |(simp at h5;omega)
 cases hwl with
 |cons w1 w2=>
  cases w2;cases w1 with
  |list ho hall=>exact⟨_,_,ns,rfl,rfl,ho,x0t ns _ hall,hlen⟩
theorem x8w(l:OpenLaw)(args:List WData):l.row.toRowW.claim.post args (.bool true) args=true:=
 postW_of (r:=l.row.toRowW) (X:=(true==true))
  (show WShape.has [] (.bool true) .bool=true by first|rfl|decide|simp[WShape.has,WShape.arms,WShape.armsAll])
  (show(WTm.eq .res (.lit (.bool true))).value [] {args:=args,res:=some (.bool true),after:=args}=some (.bool (true==true))from w_eq_bool (w_res rfl) w_lit) rfl
theorem attach_call{l:OpenLaw}{n:Nat}{q:Program}{loose:List Str}{XP:(Str->Option Value)->Heap->Prop}{YP:World->Heap->Prop}{d:DefRec}
  (hn:l.most=some n)(hdf:d.params.defaults=[])
  (call:∀(w:World)(s₀ s₁:Shared)(mg mb:Str->Option Value)(fa:Addr)(o:Obj)(pm cd doc:Value)(a:Addr)(vs:List Value)(ns:List Int),
   Ground q loose [] XP w s₀ mg mb s₁.heap->YP w s₁.heap ->
   s₁.heap.get? fa=some o->o.data=.func (docDef d.name d.params d.body d.scope pm cd doc)->s₁.heap.CodeRec cd d.name->mg d.name=some (.ref fa) ->
   s₁.heap.get? a=some {cls:=.type "list", data:=.seq vs.toArray}->IntsAre vs ns->ns.length<=n->s₁.gens=#[] ->
   codeAny (model l.prog w) callerA (.call (.ref fa) ⟨[.ref a],[]⟩) (fun r s'=>r=.ok (.ret (.bool true))/\OldK s₁.heap s'.heap/\s'.os=s₁.os/\AllBare s'.gens) s₁):
  WalkO q loose XP YP l.row.toRowW d [] (fun f vs=>PySem.call f vs):=by
 intro w s₀ s₁ mg mb G Y fa o pm cd doc dV kV ho hd hcd hD hmg hg args vals as hpre hlay hrd hwl hlo;obtain rfl:dV=.none:=Dflts.none hD hdf;obtain rfl:kV=.none:=Dflts.noKw hD;obtain⟨a,vs,ns,rfl,rfl,hobj,hints,hlen⟩:=x8v hn hpre hwl;refine enter_call (codeAny_mono (call w s₀ s₁ mg mb fa o pm cd doc a vs ns G Y ho (fd_plain hd) hcd hmg hobj hints hlen hg) fun r s' hq=>?_)
 obtain⟨rfl,h2,h3,h4⟩:=hq;exact⟨.inl ⟨.bool true,.bool true,[],rfl,fun _=>rfl,.bool true,x8w l _,fun _=>⟨List.Pairwise.nil,fun _ hm=>(nomatch hm)⟩⟩,h2,h3,h4⟩
section
variable{prog:Program}{w:World}{A:Around}{E:Value->Shared->Prop}{s:Shared}{K:Frag}
noncomputable def ledger(h:Heap)(L d:Addr):List (Addr×Obj):=(List.range h.objs.size).filterMap fun a=>if a=L\/a=d then none else(h.get? a).map fun o=>(a,o)
end
end Att
namespace L2
open PySem PySem.Spec PyProof.Rows
theorem x2e:∀{vs:List Value}{ns:List Int},IntsAre vs ns->Vals (ns.map V.int) vs
 |_,_,.nil=>.nil
 |_,_,.cons n t h=>.cons ⟨t,rfl⟩ (x2e h)
def Only(H:Hp):Prop:=∀b,H b=none\/∃o xs,H b=some (.frz o (.lst xs))
theorem y1l{P:Program}{w:World}{K:PySem.W.Frag}{mg mb:Str->Option Value}{CX:CXT}{k:Nat}{fa a:Addr}{fd:FuncData}{x:Str}{sp:Sp}{s₁:Shared}{vs:List Value}{ns:List Int}
  (KX:K.In s₁.heap)(hns:s₁.heap.Ns mainGlobals mg)(hb:s₁.heap.Ns builtinsNs mb)(hbb:∀x:Str,x≠"__name__"->mb x=bootBuiltins x)(hlim:s₁.heap.NoLimit)(hg:s₁.gens=#[])
  (ha:s₁.heap.get? a=some {cls:=.type "list", data:=.seq vs.toArray})(hi:IntsAre vs ns)(hl:ns.length<=sizeLine)(hr:Room k callerA)
  (F:∀base:Heap,K.In base->base.Ns mainGlobals mg->FnOk P w K mg base CX k fa fd [x] sp)(hbind:∀(s:Shared)(u:Value),BindsTo s fd ⟨[u],[]⟩ [(x,u)])
  (hsp:∀H:Hp,Only H->SqL K H a (ns.map V.int)->sp [.ref a] H (fun v _=>v=.bl true) fun _ _ _=>False)
  (hCX:∀H e s',CX [] H s₁ (fun _ _ _=>False) e s'->False)(hNM:noMark K=true):
  codeAny (model P w) callerA (.call (.ref fa) ⟨[.ref a],[]⟩) (fun r s'=>r=.ok (.ret (.bool true))/\OldK s₁.heap s'.heap/\s'.os=s₁.os/\AllBare s'.gens) s₁:=by
 have rv:=x2e hi;have lenV:=hi.length
 have core:∀H:Hp,Only H->SqL K H a (ns.map V.int)->HOk P w H s₁.heap->(∀b,H b≠none->b=a)->(H a≠none->K.lookup a=none) ->
   codeAny (model P w) callerA (.call (.ref fa) ⟨[.ref a],[]⟩) (fun r s'=>r=.ok (.ret (.bool true))/\OldK s₁.heap s'.heap/\s'.os=s₁.os/\AllBare s'.gens) s₁:=by
  intro H hO hS hok hA hK;have base_of:∀{b:Addr}{o:Obj},s₁.heap.get? b=some o->H b=none->(hidT s₁.heap H).get? b=some o:=fun e n=>y1c e n
  have noA:∀{b:Addr}{o:Obj}{es:Array DictEntry}{ep:Nat},s₁.heap.get? b=some o->o.data=.dict es ep->H b=none:=fun {b o es ep} e d=>by
   cases q:H b with
   |none=>rfl
   |some u=>
    have e':b=a:=hA b (by rw[q];simp);subst e';rw[ha]at e;cases e;have d':Data.seq vs.toArray _=Data.dict es ep:=d;cases d'
  have nsK:∀{b:Addr}{m:Str->Option Value},s₁.heap.Ns b m->(hidT s₁.heap H).Ns b m:=fun {b m} ⟨o,es,ep,e,d,r⟩=>⟨o,es,ep,base_of e (noA e d),d,r⟩
  have hKb:K.In (hidT s₁.heap H):=fun b o e=>base_of (KX b o e) (by
   cases q:H b with
   |none=>rfl
   |some u=>
    have e':b=a:=hA b (by rw[q];simp);subst e';rw[hK (by rw[q];simp)]at e;cases e)
  have hM:Mod K mg (hidT s₁.heap H):=⟨hKb,nsK hns,⟨mb,nsK hb,hbb⟩,let ⟨mc,h1,h2⟩:=hlim;⟨mc,nsK h1,h2⟩⟩;have e0:Env0 P w K mg (hidT s₁.heap H) callerA [] s₁ H:=⟨rfl,hM,fun b o e=>y4c e,Nat.le_of_eq (x8i _ _),trivial,fun b hb=>absurd (show b∈([]:List Addr)from hb) (by simp),hok,.of_eq hg,.vac hNM⟩
  refine codeAny_mono ((F _ hKb (nsK hns)).run callerA [] s₁ H ⟨[.ref a],[]⟩ [.ref a] [.ref a] _ _ hr e0 (hbind s₁ (.ref a)) (.cons rfl .nil) (hsp H hO hS)) fun r s' h=>?_
  cases r with
  |error e=>exact(hCX H e s' h).elim
  |ok fl=>
   cases fl with
   |next=>exact False.elim h
   |brk=>exact False.elim h
   |cont=>exact False.elim h
   |ret u=>
    obtain⟨v,H',os,bare,un,hok',r',q⟩:=h;have q':v=.bl true:=q;subst q';obtain rfl:u=Value.bool true:=r';refine⟨rfl,OldK.of_keep fun b o e=>?_,os,bare⟩
    cases q:H b with
    |none=>exact un.keep b o e q (by intro z;exact absurd (show b∈([]:List Addr)from z) (by simp)) (by simp)
    |some u=>
     rcases hO b with z|⟨ob,xs,z⟩
     ·rw[q]at z;cases z
     ·have z2:=un.frzs b ob _ z;obtain⟨e1,_⟩:=hok b _ z;obtain⟨e2,_⟩:=hok' b _ z2;rw[e]at e1;cases e1;exact e2
 cases hk:K.lookup a with
 |some o=>
  have e:=KX a o hk;rw[ha]at e;cases e;refine core (fun _=>none) (fun _=>.inl rfl) (.inr ⟨_,vs.toArray,_,hk,rfl,rfl,rfl,by rw[w0c,lenV];exact hl,by simpa using rv⟩) (fun b u z=>by have z':(none:Option HO)=some u:=z;cases z') (fun b z=>absurd rfl z) fun z=>absurd rfl z
 |none=>
  refine core (fun b=>if b=a then some (.frz {cls:=.type "list", data:=.seq vs.toArray} (.lst (ns.map V.int)))else none) (fun b=>?_) (.inl (.inr ⟨{cls:=.type "list", data:=.seq vs.toArray},if_pos rfl⟩)) (fun b u z=>?_) (fun b z=>?_) fun _=>hk
  ·by_cases hb:b=a
   ·exact .inr ⟨_,_,if_pos hb⟩
   ·exact .inl (if_neg hb)
  ·by_cases hb:b=a
   ·have z':=(if_pos hb).symm.trans z;cases z';subst hb;exact⟨ha,by rw[w0r];exact hl,vs,_,rv,ha⟩
   ·have z':=(if_neg hb).symm.trans z;cases z'
  ·by_cases hb:b=a
   ·exact hb
   ·exact absurd (if_neg hb) z
noncomputable abbrev KOf{K:PySem.W.Frag}{h:Heap}(_:K.In h):PySem.W.Frag:=K
theorem x58{l:PySem.W.OpenLaw}{n k:Nat}{q:Program}{loose:List Str}{XP:(Str->Option Value)->Heap->Prop}{YP:World->Heap->Prop}{d:DefRec}{K:Params->PySem.W.Frag}{CX:World->CXT}{sp:World->Sp}{x:Str}
  (hn:l.most=some n)(hn2:n<=sizeLine)(hdf:d.params.defaults=[])(hr:Room k callerA)
  (hY:∀(w:World)(h:Heap),YP w h->(K w.params).In h)
  (F:∀(w:World)(mg:Str->Option Value)(fa:Addr)(h:Heap),(K w.params).In h->h.Ns mainGlobals mg->mg d.name=some (.ref fa) ->
   ∃fd:FuncData,(∀(s:Shared)(u:Value),BindsTo s fd ⟨[u],[]⟩ [(x,u)]) /\
    ∀base:Heap,(K w.params).In base->base.Ns mainGlobals mg->FnOk l.prog w (K w.params) mg base (CX w) k fa fd [x] (sp w))
  (hsp:∀(w:World)(H:Hp)(a:Addr)(ns:List Int),ns.length<=n->Only H->SqL (K w.params) H a (ns.map V.int)->sp w [.ref a] H (fun v _=>v=.bl true) fun _ _ _=>False)
  (hCX:∀(w:World)(H:Hp)(s:Shared)(e:Value)(s':Shared),CX w [] H s (fun _ _ _=>False) e s'->False)(hNM:∀w:World,noMark (K w.params)=true):
  PySem.W.WalkO q loose XP YP l.row.toRowW d [] (fun f vs=>PySem.call f vs):=by
 refine Att.attach_call hn hdf fun w s₀ s₁ mg mb fa o pm cd doc a vs ns G Y ho hd hcd hmg hobj hints hlen hg=>?_
 have KX:=hY w _ Y;obtain⟨fd,hb,hF⟩:=F w mg fa _ KX G.T.g hmg;exact y1l KX G.T.g G.T.b G.T.builtins G.T.nolimit hg hobj hints (w0o hlen hn2) hr hF hb (fun H hO hS=>hsp w H a ns hlen hO hS) (fun H e s'=>hCX w H s₁ e s') (hNM w)
end L2
/- THE LAST THEOREM (shape; LID, My.* are yours):
   My.Adr: a structure of the addresses that your layer names (classes, functions); My.Txt K t: a structure (Prop) of the equations over K;
   My.txt_mk : {K} {implicit addresses ..} (e1 : nsIn K mainGlobals "law" = some (some (.ref f))) (e2 : K.lookup f = some ⟨oc, od, .func (fnOf "law" "law" params body scope dV kV doc pm an cdv ct), sl⟩) (e3 : codeIn K cdv "law" = true) .. : ∃ t, My.Txt K t
set_option maxRecDepth 100000 in
set_option maxHeartbeats 0 in
theorem PySem.Challenge.cw_LID_holds : PySem.Challenge.rw_LID.Holds := by
 w_on; o_law; k_head; (case hw => w_witness2)
 k_fill
 refine L2.x58 (l := PySem.Challenge.rw_LID) (n := 63) (k := 40) (x := "script") (CX := fun w => ..) (sp := fun _ => My.sp_law) rfl (by decide) rfl ⟨rfl, by decide, by decide⟩ (fun w h Y => PySem.W.kIn_of Y) ?F ?S ?C
 case F =>
  intro w mg fa h KX G hmg
  have T : ∃ t, My.Txt (L2.KOf KX) t := by
   dsimp only [L2.KOf]                          -- K must stand as «<heap const> w.params» for k_is;refine' My.txt_mk ?e1 ?e2 ?e3 ..
   (case e1 => PySem.W.k_is)                    -- in the order: a name -> its address -> its object -> its parts
   (case e2 => PySem.W.k_is)
   ..
  obtain ⟨t, T⟩ := T;have e0 := hmg.symm.trans (mg_of KX G T.law);cases e0                                       -- fa is the law's own address;exact ⟨_, fun s u => .of_eq rfl, fun base kb nb => My.law_fn T kb nb⟩     -- if «.of_eq rfl» comes too early: refine' ⟨_, ?b, fun base kb nb => My.law_fn T kb nb⟩; exact fun s u => .of_eq rfl
 case S => exact fun w H a ns hl hO hS => ..
 case C => exact ..
(the tactic k_is has no namespace: write k_is) -/
namespace L2
open PySem PySem.Spec PyProof.Rows
variable{a f:Addr}{X:Cx}{env:Env}{e:Expr}{fd:FuncData}{base h:Heap}{H H':Hp}{pins:List (Addr×Obj)}{es ifs:List Expr}{js:List Nat}{N ps:List Str}{pos:Pos}{P:Program}{K:PySem.W.Frag}{s:Shared}{sp:Sp}{σ:St}{qual x:Str}{mg:Str->Option Value}{t:TA}{te:TE}{w:World}
noncomputable def defArgs(s:Stmt):Arguments:=match s with
 |.FunctionDef _ a _ _ _ _ _ _ _ _=>a
 |_=>{posonlyargs:=[],args:=[],vararg:=none,kwonlyargs:=[],kw_defaults:=[],kwarg:=none,defaults:=[]}
noncomputable def defBody(s:Stmt):List Stmt:=match s with
 |.FunctionDef _ _ b _ _ _ _ _ _ _=>b
 |_=>[]
noncomputable def defScope(s:Stmt):Scope:=match s with
 |.FunctionDef _ _ _ _ _ _ sc _ _ _=>sc
 |_=>{kind:=.function,names:=[],isGenerator:=false,isCoroutine:=false}
noncomputable abbrev CX0:CXT:=fun _ _ _ _ _ _=>False
noncomputable abbrev E0:XK:=fun _ _ _=>False
structure Fun(K:PySem.W.Frag)(x qual:Str)(st:Stmt)(f:Addr)(fd:FuncData):Prop where
 ex:∃(oc:Value)(od:Option Addr)(kV doc pm:Value)(an:Option Addr)(cdv ct:Value)(osl:Array (Option Value)),
  fd=PySem.W.fnOf x qual (defArgs st) (defBody st) (defScope st) .none kV doc pm an cdv ct/\K.lookup f=some ⟨oc,od,.func fd,osl⟩/\PySem.W.codeIn K cdv qual=true
 kp:keepIn K (.ref f)=true
theorem Fun.binds{st:Stmt}{ps:List Str}(F:Fun K x qual st f fd)
  (h:∀(kV doc pm:Value)(an:Option Addr)(cdv ct:Value)(us:List Value),us.length=ps.length->bindArgs (PySem.W.fnOf x qual (defArgs st) (defBody st) (defScope st) .none kV doc pm an cdv ct) ⟨us,[]⟩=pure (ps.zip us)):Binds K fd ps []:=by
 obtain⟨oc,od,kV,doc,pm,an,cdv,ct,osl,rfl,lk,hcd⟩:=F.ex;exact .all (h kV doc pm an cdv ct)
theorem q0j{st:Stmt}{oc:Value}{od an:Option Addr}{osl:Array (Option Value)}{kV doc pm cdv ct:Value}(l:K.lookup f=some ⟨oc,od,.func (PySem.W.fnOf x qual (defArgs st) (defBody st) (defScope st) .none kV doc pm an cdv ct),osl⟩)
  (c:PySem.W.codeIn K cdv qual=true)(k:keepIn K (.ref f)=true):Fun K x qual st f (PySem.W.fnOf x qual (defArgs st) (defBody st) (defScope st) .none kV doc pm an cdv ct):=⟨⟨oc,od,kV,doc,pm,an,cdv,ct,osl,rfl,l,c⟩,k⟩
theorem pv(i:Nat)(hN:X.N[i]?=some x:=by rfl)(hv:Vis X.env.scope x:=by walk_at "1")(hd:(x==("__debug__":Str))=false:=by decide)
  (hcd:(x==("__classdict__":Str))=false:=by decide):PE X (.Name x pos) (tVar i):=y79 hN hv hd hcd
def Same(H H':Hp):Prop:=∀b o,H b=some o->H' b=some o
theorem Same.refl(H:Hp):Same H H:=fun _ _ h=>h
theorem Same.trans{H1 H2:Hp}(a:Same H H1)(b:Same H1 H2):Same H H2:=fun c o h=>b c o (a c o h)
theorem Same.free(e:Same H H'){l:Addr}(h:H' l=Option.none):H l=Option.none:=by
 cases q:H l with
 |none=>rfl
 |some o=>
  rw[e l o q]at h;cases h
theorem Same.seq{xs:List V}(e:Same H H')(h:SqL K H a xs):SqL K H' a xs:=by
 rcases h with(h|⟨o,h⟩)|h
 ·exact .inl (.inl (e _ _ h))
 ·exact .inl (.inr ⟨o,e _ _ h⟩)
 ·exact .inr h
set_option maxHeartbeats 4000000
theorem ObjOk.get{o:HO}(x:ObjOk P w H h a o):∃ob,h.get? a=some ob:=by
 cases o with
 |lst xs=>obtain⟨_,_,_,_,e⟩:=x;exact⟨_,e⟩
 |tup xs=>obtain⟨_,_,_,p,_⟩:=x;obtain⟨o,e,_⟩:=p;exact⟨o,e⟩
 |dK kvs=>obtain⟨_,_,_,_,o,_,_,e,_⟩:=x;exact⟨_,e⟩
 |dT sh kvs kas=>obtain⟨_,_,_,_,_,o,_,_,e,_⟩:=x;exact⟨_,e⟩
 |set S n=>obtain⟨o,_,_,_,e,_⟩:=x;exact⟨_,e⟩
 |ins C dx fs=>obtain⟨_,_,_,e,_⟩:=x;exact⟨_,e⟩
 |own y=>obtain⟨_,e⟩:=x;exact⟨_,e⟩
 |xd fs=>obtain⟨_,⟨_,_,_,e,_⟩,_⟩:=x;exact⟨_,e⟩
 |rng lo hi=>obtain⟨_,_,_,e⟩:=x;exact⟨_,e⟩
 |frz ob u=>obtain⟨e,_⟩:=x;exact⟨_,e⟩
 |tbl ps=>rcases x with⟨_,_,_,_,e,_⟩|⟨_,_,_,_,_,_,_,_,_,_,_,_,e⟩<;>exact⟨_,e⟩
 |met f y=>exact⟨_,(show h.get? a=some _ from x)⟩
 |ext φ=>obtain⟨_,⟨_,e⟩,_⟩:=x;exact⟨_,e⟩
structure Fly(outer:List Env)(H H':Hp)(h h':Heap)(e:Addr)(cls:Value)(B:Heap):Prop where
 fl:∃a0,Heap.FlyingW B outer e cls a0 h'
 old:∀b o,h.get? b=some o->H b=none->b∉frs outer->B.get? b=some o
 trk:∀b u o,H' b=some u->h'.get? b=some o->B.get? b=some o
 all:∀b o,h.get? b=some o->b∈frs outer\/∃o',B.get? b=some o'
 new:h.get? e=none
noncomputable def CX1(P:Program)(w:World):CXT:=fun outer H s E ev s'=>∃(e:Addr)(cls:Value)(H':Hp)(B:Heap),
 ev=.ref e/\s'.os=s.os/\AllBare s'.gens/\Un (frs outer) [] H H' s.heap s'.heap/\HOk P w H' s'.heap/\Fly outer H H' s.heap s'.heap e cls B/\E cls none H'
def PassX(CX:CXT)(X:Cx)(EE:St->XK):Prop:=∀(pins:List (Addr×Obj))(σ:St)(H:Hp)(s:Shared)(e:Value)(s':Shared),Inv X pins σ H s->CX X.stack H s (EE σ) e s'->X.xe e s'
def RaisX(X:Cx)(EE:St->XK):Prop:=∀(pins:List (Addr×Obj))(σ:St)(H:Hp)(s:Shared)(e:Addr)(cls:Value)(vs:List Value)(h':Heap),Inv X pins σ H s->Heap.MadeExcOf s.heap h' e cls vs->EE σ cls none H->X.xe (.ref e) {s with heap:=h'}
section
variable{CX:CXT}{scope:Scope}{cd:Value}{A:Around}{outer:List Env}{s₀:Shared}{H₀:Hp}{E:XK}
theorem x59{s':Shared}{e:Addr}{cls:Value}{B h'':Heap}{a0:Value}
  (I:Inv (cxOf CX P w K mg base N qual scope f cd A outer s₀ H₀ E) pins σ H s)(J:Inv (cxOf CX P w K mg base N qual scope f cd A outer s₀ H₀ E) pins σ H' s')
  (old:∀b o,s.heap.get? b=some o->H b=none->b∉frs (envOfC qual scope s₀.heap.objs.size f cd::outer)->B.get? b=some o)
  (trk:∀b u o,H' b=some u->s'.heap.get? b=some o->B.get? b=some o)
  (all:∀b o,s.heap.get? b=some o->b∈frs (envOfC qual scope s₀.heap.objs.size f cd::outer)\/∃o',B.get? b=some o')
  (new:s.heap.get? e=none)
  (fl:Heap.FlyingW B outer e cls a0 h'')(up:s'.heap.UpToSlots h'')(hE:E cls none H'):
  CX1 P w outer H₀ s₀ E (.ref e) {s' with heap:=h''}:=by
 have neL:∀b o,s₀.heap.get? b=some o->b∉frs outer->b∉frs (envOfC qual scope s₀.heap.objs.size f cd::outer):=fun b o q nb hb=>by
  rcases w0m.mp (show b∈s₀.heap.objs.size::frs outer from hb)with z|z
  ·exact absurd (Heap.lt_size q) (by rw[z];exact w2b _)
  ·exact nb z
 have ex0:∀b:Addr,b∉([]:List Addr):=fun b z=>nomatch z
 have slot:∀b o,s₀.heap.get? b=some o->b∈frs outer->∃sl,h''.get? b=some {o with slots:=sl}:=fun b o q hb=>by
  obtain⟨sl,e1⟩:=J.base.slot b o q (J.ok.frf b hb) hb (ex0 b);obtain⟨_,o2,e2,nd⟩:=J.funs.mem hb
  rw[e1]at e2;cases e2;obtain⟨sl',e3⟩:=up b _ e1 nd;exact⟨sl',e3⟩
 refine⟨e,cls,H',B,rfl,J.os,J.bare,⟨fun b o q n hb hx=>?_,fun b o q n hb hx=>slot b o q hb,fun b o q n hx=>J.base.free b o q n hx,fun b o q hx=>?_,J.base.tups,J.base.frzs,J.base.tbls⟩,fun a o q=>?_,⟨⟨a0,fl⟩,fun b o q n hb=>?_,fun b u o q z=>?_,fun b o q=>?_,?_⟩,hE⟩
 ·exact fl.1 b o (old b o (I.base.keep b o q n hb hx) (I.base.free b o q n hx) (neL b o q hb))
 ·by_cases hb:b∈frs outer
  ·obtain⟨sl,z⟩:=slot b o q hb;exact⟨_,z⟩
  ·obtain⟨o1,e1⟩:=I.base.there b o q hx;rcases all b o1 e1 with z|⟨o',z⟩
   ·exact absurd z (neL b o q hb)
   ·exact⟨o',fl.1 b o' z⟩
 ·refine(J.hok a o q).stay (fun b u hb z=>?_) (fun _ z=>z) fun _ _ _ z=>z
  rcases hb with rfl|hb
  ·exact fl.1 _ _ (trk b o u q z)
  ·exact fl.1 _ _ (trk b _ u hb z)
 ·exact old b o (I.base.keep b o q n hb (ex0 b)) (I.base.free b o q n (ex0 b)) (neL b o q hb)
 ·obtain⟨o1,e1⟩:=(J.hok b u q).get;have e2:=trk b u o1 q e1;have e3:=fl.1 b o1 e2;rw[e3]at z;cases z;exact e2
 ·obtain⟨o1,e1⟩:=I.base.there b o q (ex0 b);rcases all b o1 e1 with z|z
  ·by_cases hb:b∈frs outer
   ·exact .inl hb
   ·exact absurd z (neL b o q hb)
  ·exact .inr z
 ·cases q:s₀.heap.get? e with
  |none=>rfl
  |some o=>
   obtain⟨o1,e1⟩:=I.base.there e o q (ex0 e);rw[new]at e1;cases e1
theorem pass1:PassX (CX1 P w) (cxOf (CX1 P w) P w K mg base N qual scope f cd A outer s₀ H₀ E) (fun _=>E):=by
 intro pins σ H s ev s' I hx;obtain⟨e,cls,H',B,rfl,hos,hg,un,hok,fly,hE⟩:=hx;have J:=I.call' (ch:=[]) hos un hok hg (fun b hb=>nomatch hb)
 obtain⟨a0,fl⟩:=fly.fl;refine wpAny_leaves_onW (base:=B) I.ok.frames rfl fl fun h'' fl2 up=>?_
 exact x59 I J fly.old fly.trk fly.all fly.new fl2 up hE
theorem rais1:RaisX (cxOf (CX1 P w) P w K mg base N qual scope f cd A outer s₀ H₀ E) (fun _=>E):=by
 intro pins σ H s e cls vs h' I hx hE;have J:Inv (cxOf (CX1 P w) P w K mg base N qual scope f cd A outer s₀ H₀ E) pins σ H {s with heap:=h'}:=I.kept (t':=s.toks) hx.keeps;have hin:∀env∈(envOfC qual scope s₀.heap.objs.size f cd::outer),∀b,env.frame=some b->b∈frs (envOfC qual scope s₀.heap.objs.size f cd::outer):=fun env he b hb=>w3h.mpr ⟨env,he,hb⟩
 refine wpAny_leaves_madeW (base:=PySem.W.hideAll s.heap (frs (envOfC qual scope s₀.heap.objs.size f cd::outer))) (h:=s.heap) I.ok.frames rfl (fun b o q=>PySem.W.of_hideAll _ q) (PySem.W.funFrames_hide I.stack hin) hx fun h'' t fl _ _ up=>?_
 refine x59 I J (fun b o q _ nb=>hideAll_get _ q nb) (fun b u o q z=>?_) (fun b o q=>?_) hx.new fl up hE
 ·obtain⟨o1,e1⟩:=(I.hok b u q).get;have e2:=hx.keeps b o1 e1;have z':h'.get? b=some o:=z;rw[e2]at z';cases z';refine hideAll_get _ e1 fun hb=>?_
  rw[I.stkFree b hb]at q;cases q
 ·by_cases hb:b∈frs (envOfC qual scope s₀.heap.objs.size f cd::outer)
  ·exact .inl hb
  ·exact .inr ⟨o,hideAll_get _ q hb⟩
end
theorem passE:PassX (CX1 P w) X (fun _=>E0):=fun _ _ _ _ _ _ _ h=>by
 obtain⟨_,_,_,_,_,_,_,_,_,_,z⟩:=h;exact False.elim z
def tCallX(sp:Sp)(dvs:List V)(EE:St->XK)(t:TA):TE:=fun σ H Q=>t σ H fun vs H1=>sp (vs++dvs) H1 Q (EE σ)
section
variable{CX:CXT}{k:Nat}{C:Addr}{dvs:List V}{ds:List Value}{EE:St->XK}{m:Str}{p apos:Pos}{o:Expr}{ta:TE}
theorem y4q{Q:VK}{us:List Value}{vs:List V}(F:FnOk X.prog X.w X.K X.mg X.base CX k f fd ps sp)(hr:Room k X.A)(hb:Binds X.K fd ps ds)(hd:Vals dvs ds)(hx:PassX CX X EE)
  (I:Inv X pins σ H s)(r:Vals vs us)(h:sp (vs++dvs) H Q (EE σ)):wpAny (model X.prog X.w) X.A (call (.ref f) us) (EP X pins σ Q) X.xe s:=by
 have r2:Vals (vs++dvs) (us++ds):=r.append hd;have hl:(us++ds).length=ps.length:=by rw[<- r2.length];exact F.len _ _ _ _ h
 refine wpAny_call (codeAny_mono (F.run X.A X.stack s H ⟨us,[]⟩ (us++ds) (vs++dvs) Q (EE σ) hr I.env0 (hb s us I.kIn hl) r2 h) fun r s' hq=>?_)
 cases r with
 |error e=>exact hx pins σ H s e s' I hq
 |ok fl=>
  cases fl with
  |ret u=>exact I.after hq
  |next=>exact False.elim hq
  |brk=>exact False.elim hq
  |cont=>exact False.elim hq
theorem y1m(F:FnOk X.prog X.w X.K X.mg X.base CX k f fd ps sp)(hr:Room k X.A)(hg:Gl X x)(hm:X.mg x=some (.ref f))(hk:keepIn X.K (.ref f)=true)(hb:Binds X.K fd ps ds)(hd:Vals dvs ds)(hx:PassX CX X EE)
  (ha:PA X (e::es) t)(hdb:(x==("__debug__":Str))=false:=by decide)(he:starEach (e::es) X.env=(false,eval e X.env)::starEach es X.env:=by rfl)(hpl:(backTo pos (starEach es X.env)).any (·.1)=false:=by rfl):
  PE X (.Call (.Name x p) (e::es) [] pos) (tCallX sp dvs EE t):=by
 intro pins s σ H Q I h;refine wpAny_Call_Name_kw (x1g I hg hm ?_ hdb);refine PySem.W.callWith_K (h₀:=X.base) I.ok.mod.kin hk (thn (ha pos pins s σ H _ I h) fun us s1 ⟨vs,H1,I1,r,q⟩=>⟨I1.kIn,?_⟩) he hpl
 exact y4q F hr hb hd hx I1 r q
end
theorem Fun.okX{st:Stmt}{k:Nat}(F:Fun K x qual st f fd)(S:FnScope N ps (defScope st))(len:∀vs H Q E,sp vs H Q E->vs.length=ps.length)
  (hbody:∀(cdv:Value)(A:Around)(outer:List Env)(s:Shared)(H:Hp)(vs:List V)(Q:VK)(E:XK),Room k (A.deeper (envOfC qual (defScope st) s.heap.objs.size f cdv))->sp vs H Q E ->
   ∃t,PSs (cxOf (CX1 P w) P w K mg base N qual (defScope st) f cdv A outer s H E) (defBody st) t/\t {nx:=fun _ H'=>Q .non H',rt:=Q} (start N vs) H):FnOk P w K mg base (CX1 P w) (k+1) f fd ps sp:=by
 obtain⟨oc,od,kV,doc,pm,an,cdv,ct,osl,rfl,lk,hcd⟩:=F.ex;exact z2m lk hcd S len fun A outer s H vs Q E hr hsp=>hbody cdv A outer s H vs Q E hr hsp
noncomputable def strKeysIn(K:PySem.W.Frag)(a:Addr):Bool:=match K.lookup a with
 |some ⟨_,_,.dict es _,_⟩=>es.toList.all fun e=>match e.key with|.str _ _=>true|_=>false
 |_=>false
noncomputable def noInitIn(K:PySem.W.Frag)(a:Addr):Bool:=strKeysIn K a&&PySem.W.nsIn K a "__init__"==some none
noncomputable abbrev veMro:List Value:=[.type "ValueError", .type "Exception", .type "BaseException", .type "object"]
noncomputable def excIn(K:PySem.W.Frag)(C A:Addr):Bool:=match K.lookup C,K.lookup A with
 |some ⟨.type "type", _,.cls cd,sl⟩,some ⟨_,_,.cls ca,_⟩=>(match sl.toList with
   |[_,_,_,_,some (.builtin n),_]=>n=="ValueError.__new__"&&cd.mro==(.ref C::.ref A::veMro)&&!cd.hasDel&&noInitIn K cd.ns&&noInitIn K ca.ns
   |_=>false)
 |_,_=>false
theorem x2f(X:K.In h)(q:noInitIn K a=true):∃m,h.Ns a m/\m "__init__"=none:=by
 unfold noInitIn at q;rw[w0g]at q;obtain⟨q1,q2⟩:=q;unfold strKeysIn at q1;split at q1
 ·rename_i c d es n sl hl
  have hs:StrKeys es:=fun e he=>by
   have:=w1g.mp q1 e (by simpa using he);split at this
   ·rename_i k t hk;exact⟨_,_,hk⟩
   ·cases this
  refine⟨nsFind es,⟨_,es,n,X _ _ hl,rfl,hs,fun _=>rfl⟩,?_⟩
  have q2:=beq_iff_eq.mp q2;unfold PySem.W.nsIn at q2;rw[hl]at q2;dsimp only at q2;unfold nsFind findBy;rw[<- Array.find?_toList];split at q2
  ·cases q2
  ·rename_i he;rw[he];rfl
 ·cases q1
theorem q8l{C A:Addr}(X:K.In h)(q:excIn K C A=true):
  ∃nm qn N bs hdct sn sub ab col dd k0 k1 k2 k3 k5 mN,h.get? C=some (excClassObj nm qn C N bs (.ref A::veMro) hdct sn sub ab col dd k0 k1 k2 k3 k5 "ValueError.__new__")/\h.Ns N mN/\mN "__init__"=none/\OwnTail h veMro (.ref A::veMro):=by
 unfold excIn at q;split at q
 ·rename_i dd cd sl ca0 cad ca csl hC hA;split at q
  ·rename_i k0 k1 k2 k3 n k5 hs;simp only[w0g,beq_iff_eq,Bool.not_eq_true']at q;obtain⟨⟨⟨⟨rfl,hm⟩,hdel⟩,hn⟩,hna⟩:=q;obtain⟨nm,bs,mro,ns,qn,hd,sn,sub,ab,col,del⟩:=cd;dsimp only at hm hdel hn;subst hm hdel
   have hsl:sl=#[k0,k1,k2,k3,some (.builtin "ValueError.__new__"),k5]:=by
    obtain⟨l⟩:=sl;simp only at hs;rw[hs]
   subst hsl;obtain⟨mN,hN,hi⟩:=x2f X hn;obtain⟨mA,hNA,hiA⟩:=x2f X hna;exact⟨nm,qn,ns,bs,hd,sn,sub,ab,col,dd,k0,k1,k2,k3,k5,mN,X _ _ hC,hN,hi,.own (X _ _ hA) hNA hiA .base⟩
  ·cases q
 ·cases q
def tRaise(C:Addr)(EE:St->XK)(t:TA):TS:=fun _ σ H=>t σ H fun vs H1=>vs.length<=sizeLine/\EE σ (.ref C) none H1
section
variable{C Ac:Addr}{EE:St->XK}{np cpos:Pos}
theorem y1n(hx:RaisX X EE)(hc:X.calm=true)(hg:Gl X x)(hm:X.mg x=some (.ref C))(hC:excIn X.K C Ac=true)(ha:PA X (e::es) t)
  (hdb:(x==("__debug__":Str))=false:=by decide)(he:starEach (e::es) X.env=(false,eval e X.env)::starEach es X.env:=by rfl)(hpl:(backTo cpos (starEach es X.env)).any (·.1)=false:=by rfl):
  PS X (.Raise (some (.Call (.Name x np) (e::es) [] cpos)) none pos) (tRaise C EE t):=by
 intro pins s σ H D I h;obtain⟨nm,qn,N,bs,hdct,sn,sub,ab,col,dd,k0,k1,k2,k3,k5,mN,hC1,hN,hi,T⟩:=q8l I.kIn hC
 have hpl2:(backTo cpos (starEach (e::es) X.env)).any (·.1)=false:=by
  rw[he];show(false||(backTo cpos (starEach es X.env)).any (·.1))=false;rw[hpl];rfl
 refine wpAny_Raise_call_subT (C:=C) (nm:=nm) (q:=qn) (N:=N) (bs:=bs) (bm:=.ref Ac::veMro) (hdct:=hdct) (sn:=sn) (sub:=sub) (ab:=ab) (col:=col) (dd:=dd) (k0:=k0) (k1:=k1) (k2:=k2) (k3:=k3) (k5:=k5)
  PySem.F.excBase_ValueError (mN:=mN) (by rfl) (I.ok.hd hc) hpl2 hi (x1g I hg hm ⟨rfl,?_⟩ hdb)
 have key:=ha cpos pins s σ H _ I h;rw[he]at key |-
 refine Calls.evalArgs_plain (wpAny_mono key (fun us s1 ⟨vs,H1,I1,r,hz,q⟩=>?_) fun _ _ y=>y)
 obtain⟨nm',qn',N',bs',hdct',sn',sub',ab',col',dd',k0',k1',k2',k3',k5',mN',hC1',hN',hi',T'⟩:=q8l I1.kIn hC;have kk:∀b o,X.base.get? b=some o->s1.heap.get? b=some o:=I1.bk
 have hCb:X.base.get? C=s1.heap.get? C:=by
  obtain⟨_,_,_,_,_,_,_,_,_,_,_,_,_,_,_,_,z,_⟩:=q8l I.ok.mod.kin hC;rw[z];exact(kk _ _ z).symm
 have hCs:s.heap.get? C=s1.heap.get? C:=by
  obtain⟨_,_,_,_,_,_,_,_,_,_,_,_,_,_,_,_,z,_⟩:=q8l I.ok.mod.kin hC;rw[I.bk _ _ z];exact(kk _ _ z).symm
 have hC2:s1.heap.get? C=some (excClassObj nm qn C N bs (.ref Ac::veMro) hdct sn sub ab col dd k0 k1 k2 k3 k5 "ValueError.__new__"):=hCs ▸ hC1;rw[hC2]at hC1';cases hC1';have em:mN' "__init__"=none:=hi'
 have hN2:s1.heap.Ns N mN:=by
  obtain⟨o1,es1,ep1,a1,a2,a3,a4⟩:=hN;obtain⟨_,_,N3,_,_,_,_,_,_,_,_,_,_,_,_,m3,z3,n3,_,_⟩:=q8l I.ok.mod.kin hC;have z4:=I.bk _ _ z3;rw[hC1]at z4;cases z4;obtain⟨o5,es5,ep5,b1,b2,b3,b4⟩:=n3;have c1:=I.bk _ _ b1;rw[a1]at c1;cases c1;exact⟨_,es1,ep1,I1.bk _ _ b1,a2,a3,a4⟩
 exact⟨rfl,by rw[<- r.length];exact hz,hC2,hN2,T',fun h' ea hme=>hx pins σ H1 s1 ea (.ref C) us h' I1 hme q⟩
end
noncomputable def excO(e:Addr)(cls:Value):HO:=.ext fun h=>∃o vs,h.get? e=some o/\o.cls=cls/\o.data=.fields vs
structure RoomH(k:Nat)(A:Around):Prop where
 dp:A.depth+3*k+5<recursionLimit
 un:A.units+16*k+200<cLine
 gd:A.guards=some []
structure FnOkH(P:Program)(w:World)(K:PySem.W.Frag)(mg:Str->Option Value)(base:Heap)(k:Nat)(f:Addr)(fd:FuncData)(ps:List Str)(sp:Sp):Prop where
 len:∀vs H Q E,sp vs H Q E->vs.length=ps.length
 run:∀(A:Around)(outer:List Env)(s:Shared)(H:Hp)(args:Args)(us:List Value)(vs:List V)(Q:VK),RoomH k A->Env0 P w K mg base A outer s H->BindsTo s fd args (ps.zip us)->Vals vs us->sp vs H Q E0 ->
  codeAny (model P w) A (.call (.ref f) args) (CR CX0 outer P w H s Q E0) s
noncomputable abbrev Cx.cp(X:Cx)(Nc:List Str)(scope:Scope)(cl:List (Str×Addr))(C:Addr)(s₀:Shared)(H₀:Hp)(ex:List Addr):Cx:=
 {X with N:=Nc,s₀:=s₀,H₀:=H₀,env:=compEnvC scope cl C X.env,outer:=X.stack,ex:=ex,fn:=fun _=>false,pn:=[],xe:=fun _ _=>False}
theorem q6e:∀(names:List (Str×NameKind))(acc:List (Str×Addr)),(∀x∈names,x.2=.free->∃c,env.cells.lookup x.1=some c) ->
  ∃cl,(forIn names acc fun(x:Str×NameKind) (r:List (Str×Addr))=>(if(x.2==NameKind.free)=true then(cellOf env x.1 >>= fun a=>pure (ForInStep.yield ((x.1,a)::r)))else pure (ForInStep.yield r):Sem (ForInStep (List (Str×Addr)))))=pure cl /\
   (∀x c,cl.lookup x=some c->acc.lookup x=some c\/env.cells.lookup x=some c)/\(∀x,((x,NameKind.free)∈names\/(acc.lookup x).isSome=true)->(cl.lookup x).isSome=true)
 |[],acc,_=>⟨acc,rfl,fun x c h=>.inl h,fun x h=>h.elim (fun z=>nomatch z) id⟩
 |(n,k)::r,acc,h=>by
  by_cases hk:k=.free
  ·subst hk;obtain⟨c,hc⟩:=h (n,.free) w1j rfl;obtain⟨cl,e1,e2,e3⟩:=q6e r ((n,c)::acc) fun x hx=>h x (w0x _ hx)
   refine⟨cl,?_,fun x d hd=>?_,fun x hx=>?_⟩
   ·rw[w3q];have:cellOf env n=pure c:=by unfold cellOf;rw[hc]
    simp only[beq_self_eq_true,if_true,this,pure_bind];exact e1
   ·rcases e2 x d hd with z|z
    ·rw[w0z]at z
     by_cases hx:(x==n)=true
     ·rw[hx]at z;have:x=n:=by simpa using hx
      subst this;cases z;exact .inr hc
     ·rw[w1z.mpr hx]at z;exact .inl z
    ·exact .inr z
   ·refine e3 x ?_;rcases hx with z|z
    ·rcases w0m.mp z with y|y
     ·cases y;exact .inr (by rw[w0z];simp)
     ·exact .inl y
    ·refine .inr ?_;rw[w0z]
     by_cases hx:(x==n)=true
     ·rw[hx];rfl
     ·rw[w1z.mpr hx];exact z
  ·obtain⟨cl,e1,e2,e3⟩:=q6e r acc fun x hx=>h x (w0x _ hx)
   refine⟨cl,?_,e2,fun x hx=>e3 x ?_⟩
   ·rw[w3q];have:(k==NameKind.free)=false:=by simpa using hk
    simp only[this,w2h,if_false,pure_bind];exact e1
   ·rcases hx with z|z
    ·rcases w0m.mp z with y|y
     ·cases y;exact absurd rfl hk
     ·exact .inl y
    ·exact .inr z
theorem x0u{scope:Scope}(h:∀x∈scope.names,x.2=.free->∃c,env.cells.lookup x.1=some c):
  ∃cl,closureFor scope env=pure cl/\(∀x c,cl.lookup x=some c->env.cells.lookup x=some c)/\∀x,(x,NameKind.free)∈scope.names->∃c,cl.lookup x=some c:=by
 obtain⟨cl,e1,e2,e3⟩:=q6e scope.names [] h;refine⟨cl,?_,fun x c hc=>(e2 x c hc).resolve_left (fun z=>nomatch z),fun x hx=>w2r.mp (e3 x (.inl hx))⟩
 unfold closureFor
 first
  |exact e1
  |(rw[e1];rfl)
  |(simp only[e1];rfl)
theorem q8m{env : Env} : ∀ {names : List (Str × NameKind)} {x : Str}, (∀ y ∈ names, y.2 ≠ .cell) ->
    ((names.map fun (n, k) => if (k == NameKind.free && env.scope.kind == .function && env.kindOf n == some .cell) then (n, NameKind.cell) else (n, k)).lookup x = some .cell \/
     (names.map fun (n, k) => if (k == NameKind.free && env.scope.kind == .function && env.kindOf n == some .cell) then (n, NameKind.cell) else (n, k)).lookup x = some .free) -> (x, NameKind.free) ∈ names
  | [], x, _, h => by rcases h with h | h <;> cases h
  | (n, k) :: r, x, hc, h => by
    have ih := @q8m env r x fun y hy => hc y (w0x _ hy)
    rw [w0n] at h;dsimp only at h
    by_cases hx : (x == n) = true
    . have e : x = n := by simpa using hx
      subst e
      by_cases hk : k = .free
      . subst hk; exact w1j
      . exfalso
        have hb : (k == NameKind.free) = false := by simpa using hk
        simp only [hb, Bool.false_and, w2h, if_false, w0z, hx] at h;rcases h with h | h
        . exact hc (x, k) w1j (Option.some.inj h)
        . exact hk (Option.some.inj h)
    . refine w0x _ (ih ?_)
      have hb : (x == n) = false := w1z.mpr hx
      by_cases hq : (k == NameKind.free && env.scope.kind == .function && env.kindOf n == some .cell) = true
      . rw [if_pos hq] at h
        simpa only [w0z, hb] using h
      . rw [if_neg hq] at h
        simpa only [w0z, hb] using h
theorem x2g{prog:Program}{A:Around}{R:Result->Shared->Prop}{elt target iter:Expr}{scope:Scope}{it acc:Value}(I:Nat->Shared->Prop)
  (turn:∀n s,I n s->wpAny (model prog w) A (pyNext it) (fun r s1=>match r with
   |none=>R (.ok .next) s1
   |some v=>wpAny (model prog w) A (letOwnedTupleGo target it v) (fun _ s2=>wpAny (model prog w) A (assign target env v) (fun _ s3=>
     wpAny (model prog w) A (forIn ifs true fun c r=>if r=true then do let ok <- isTrue c env (eval c env);pure (ForInStep.yield ok)else pure (ForInStep.yield r)) (fun ok s4=>
      if ok=true then wpAny (model prog w) A (eval elt env) (fun x s5=>wpAny (model prog w) A (call (.builtin "list.append") [acc,x]) (fun _ s6=>∃m,m<n/\I m s6) (fun _ _=>False) s5) (fun _ _=>False) s4
      else ∃m,m<n/\I m s4) (fun _ _=>False) s3) (fun _ _=>False) s2) (fun _ _=>False) s1) (fun _ _=>False) s)
  (n:Nat)(h:I n s):codeAny (model prog w) A (.compLoop (.ListComp elt [⟨target,iter,ifs,0⟩] scope pos) 0 it acc env) R s:=by
 refine codeAny_loop rfl I (fun n s hI=>?_) n h
 show wpAny _ A ((compTurn (.ListComp elt [⟨target,iter,ifs,0⟩] scope pos) 0 it acc env).onRaise (fun x=>do noteFrame x env;theTreesLotGoes x)) _ _ s
 refine wpAny_noted ?_;rw[compTurn_list];refine wpAny_bind (wpAny_standAt (wpAny_bind (wpAny_mono (turn n s hI) (fun r s1 h1=>?_) fun _ _ z=>z.elim)))
 cases r with
 |none=>exact wpAny_pure h1
 |some v=>
  refine wpAny_bind (wpAny_mono h1 (fun _ s2 h2=>?_) fun _ _ z=>z.elim)
  refine wpAny_bind (wpAny_mono h2 (fun _ s3 h3=>?_) fun _ _ z=>z.elim)
  refine wpAny_bind (wpAny_mono h3 (fun ok s4 h4=>?_) fun _ _ z=>z.elim)
  cases ok with
  |false=>exact wpAny_pure ⟨rfl,h4⟩
  |true=>exact wpAny_bind (wpAny_bind (wpAny_mono h4 (fun x s5 h5=>wpAny_bind (wpAny_mono h5 (fun _ s6 h6=>wpAny_pure (wpAny_pure ⟨rfl,h6⟩)) fun _ _ z=>z.elim)) fun _ _ z=>z.elim))
noncomputable def pj(js:List Nat)(σ:St):St:=js.map fun j=>(σ[j]?).getD none
theorem y82{i:Nat}{v:V}(h:(pj js σ)[i]?=some (some v)):∃j,js[i]?=some j/\σ[j]?=some (some v):=by
 unfold pj at h;rw[w0v]at h;cases e:js[i]? with
 |none=>rw[e]at h;cases h
 |some j=>
  rw[e]at h;have h:(σ[j]?).getD none=some v:=Option.some.inj h;refine⟨j,rfl,?_⟩;cases e2:σ[j]? with
  |none=>rw[e2]at h;cases h
  |some z=>rw[e2]at h;rw[show z=some v from h]
def PTs(X:Cx)(ifs:List Expr)(t:TT):Prop:=
 ∀(pins:List (Addr×Obj))(s:Shared)(σ:St)(H:Hp)(Q:Bool->Hp->Prop),Inv X pins σ H s->t σ H Q ->
  wpAny (model X.prog X.w) X.A (forIn ifs true fun c r=>if r=true then do let ok <- isTrue c X.env (eval c X.env);pure (ForInStep.yield ok)else pure (ForInStep.yield r)) (TP X pins σ Q) X.xe s
def tYes:TT:=fun _ H Q=>Q true H
theorem y4r:PTs X [] tYes:=fun pins s σ H Q I h=>wpAny_tests_nil ⟨H,I,h⟩
def Kp(σ σ':St):Prop:=∀(i:Nat) v,σ[i]?=some (some v)->σ'[i]?=some (some v)
theorem Kp.one{v:V}:Kp (List.replicate 1 none++σ) (some v::σ):=fun i u h=>by
 cases i with
 |zero=>cases h
 |succ i=>exact h
def tComp(wi:TI)(nl:Nat)(js:List Nat)(g:TG)(tc:TT)(te:TE):TE:=fun σ H Q=>wi σ H fun J H1=>∀D,H1 D=none->∃W:Nat->Nat->Hp->Prop,(∃m,W 0 m (upd H1 D (.lst [])))/\∀i m H2,W i m H2 ->
 (J.stop i H2/\Q (.ref D) H2)\/(J.go i H2/\∀x H3,J.yld i H2 x H3->g x (List.replicate nl none++pj js σ) H3 fun σ4 H4=>Kp (List.replicate nl none++pj js σ) σ4/\tc σ4 H4 fun b H5=>
  if b=true then te σ4 H5 fun y H6=>∃ys,H6 D=some (.lst ys)/\ys.length<sizeLine/\∃m',m'<m/\W (i+1) m' (upd H6 D (.lst (ys++[y])))else ∃m',m'<m/\W (i+1) m' H5)
section
variable{elt target iter:Expr}{scope:Scope}{wi:TI}{g:TG}{tc:TT}
theorem x34{Nl Nf:List Str}{fp:List Addr}{cl:List (Str×Addr)}{h1:Heap}{tk:Nat}{mC:Str->Option Value}
  (I:Inv X pins σ H s)(hfp:∀b∈fp,FpOk X pins H b)(hob:∀b∈fp,∃o,s.heap.get? b=some o/\∀v,o.data≠.cell v)
  (hk:scope.kind=.function)(hcell:∀y∈scope.names,y.2≠.cell)(hcl:∀x c,cl.lookup x=some c->X.env.cells.lookup x=some c)(hcf:∀x,(x,NameKind.free)∈scope.names->∃c,cl.lookup x=some c)
  (hj:∀(i j:Nat) y,Nf[i]?=some y->js[i]?=some j->X.N[j]?=some y)(hlen:js.length=Nf.length)
  (hNf:∀y∈Nf,(y,NameKind.free)∈scope.names/\Vis X.env.scope y/\X.env.kindOf y≠some .local)
  (hvis:∀y∈Nf,(relabel scope X.env).names.lookup y=some .cell\/(relabel scope X.env).names.lookup y=some .free)
  (hn:h1.Ns (s.heap.objs.size+1) mC)(hs:Heap.SameBut (s.heap.objs.size+1) ((s.heap.push {cls:=.type "list", dict:=none,data:=.seq ([]:List Value).toArray}).push {cls:=.type "dict", data:=.dict #[]}) h1):
  Inv (X.cp (Nl++Nf) scope cl (s.heap.objs.size+1) {s with heap:=s.heap.push {cls:=.type "list", dict:=none,data:=.seq ([]:List Value).toArray}} (upd H s.heap.objs.size (.lst [])) fp) [] (List.replicate Nl.length none++pj js σ) (upd H s.heap.objs.size (.lst [])) {s with heap:=h1,toks:=tk}:=by
 have fD:H s.heap.objs.size=none:=I.hok.fresh (w0e _);have up1:∀b u,s.heap.get? b=some u->(s.heap.push {cls:=.type "list", dict:=none,data:=.seq ([]:List Value).toArray}).get? b=some u:=fun b u q=>Heap.get?_push_of_some _ q
 have szp:(s.heap.push {cls:=.type "list", dict:=none,data:=.seq ([]:List Value).toArray}).objs.size=s.heap.objs.size+1:=Heap.size_push ..
 have up2:∀b u,(s.heap.push {cls:=.type "list", dict:=none,data:=.seq ([]:List Value).toArray}).get? b=some u->h1.get? b=some u:=fun b u q=>by
  have hlt:=Heap.lt_size q;rw[szp]at hlt;exact(hs.2 b (w0p hlt)).trans (Heap.get?_push_of_some _ q)
 have up:∀b u,s.heap.get? b=some u->h1.get? b=some u:=fun b u q=>up2 b u (up1 b u q)
 have ltOf:∀b o,s.heap.get? b=some o->b≠s.heap.objs.size:=fun b o q=>w0p (Heap.lt_size q)
 have fr0:∀b o,s.heap.get? b=some o->H b=none->upd H s.heap.objs.size (.lst []) b=none:=fun b o q n=>by rw[q0f (ltOf b o q)];exact n
 have hasC:∀x,((relabel scope X.env).names.lookup x=some .cell\/(relabel scope X.env).names.lookup x=some .free)->∃c,cl.lookup x=some c:=fun x hx=>hcf x (q8m hcell hx)
 have hokD:HOk X.prog X.w (upd H s.heap.objs.size (.lst [])) (s.heap.push {cls:=.type "list", dict:=none,data:=.seq ([]:List Value).toArray}):=
  I.hok.laid up1 (w0e _) ⟨w1l _,[],_,.nil,Heap.get?_push_size _ rfl⟩
 have cellK:∀x c,cl.lookup x=some c->∃v,s.heap.IsCell c v:=fun x c e=>I.cell x c (hcl x c e)
 have cellUp:∀c v,s.heap.IsCell c v->h1.IsCell c v:=fun c v ⟨o,q,r⟩=>⟨o,up _ _ q,r⟩
 refine⟨⟨I.ok.mod,hk,I.ok.glob,I.ok.blt,(by show(s.heap.push _).objs.size<=_;rw[szp];exact w0e _),fun x y c e1 e2=>I.ok.inj x y c (hcl x c e1) (hcl y c e2),fun x hx=>hasC x hx,(fun x c z=>nomatch z),I.ok.hd,I.ok.frames,.inl rfl,fun b hb=>⟨?_,fun x c e=>?_⟩,fun b o q=>?_,?_,fun b o q hb=>?_,fun b hb hb2=>?_,?_,fun b hb=>?_,(I.ok.tab.un I.base).laid fD⟩,
  rfl,I.bare,Un.kept up2,⟨mC,hn,fun i y v e1 e2 e3=>?_⟩,fun x c e=>?_,?_,fun x c e=>?_,fun p hp=>(by cases hp),hokD.kept up2,?_⟩
 ·obtain⟨o,q,_⟩:=hob b hb;exact w0p (w2y (Heap.lt_size q))
 ·exact(hfp b hb).2.2.2.2.1 x c (hcl x c e)
 ·obtain⟨q1,q2⟩:=I.bs b o q;exact⟨up1 _ _ q1,fr0 b o q1 q2⟩
 ·show X.base.objs.size<=(s.heap.push _).objs.size;rw[szp];exact Nat.le_succ_of_le (w0o I.ok.bsz I.sz)
 ·rcases(hfp b hb).2.2.2.1 with z|z
  ·exact I.ok.noex b o q z
  ·obtain⟨q1,_⟩:=I.ok.bs b o q;exact absurd (Heap.lt_size q1) (w3z.mpr z)
 ·rcases w0m.mp (I.stkSub b hb2)with z|z
  ·exact(hfp b hb).2.1 z
  ·exact(hfp b hb).2.2.1 z
 ·exact I.stack.of_keeps fun b o q _=>⟨o,up1 _ _ q,rfl⟩
 ·obtain⟨_,o,q,_⟩:=I.stack.mem hb;exact fr0 b o q (I.stkFree b hb)
 ·-- the names
  have e2':(List.replicate Nl.length none++pj js σ)[i]?=some (some v):=e2;have e1':(Nl++Nf)[i]?=some y:=e1
  by_cases hi:i<Nl.length
  ·rw[w1w (by simpa using hi),w2d]at e2';split at e2'<;>cases e2'
  ·have hi':Nl.length<=i:=w3z.mp hi;rw[w2n (by simpa using hi')]at e2';rw[w2n hi']at e1';rw[w2k]at e2';obtain⟨j,ej,eσ⟩:=y82 e2';have hNy:=hj _ _ _ e1' ej;obtain⟨hfr,hv,hnl⟩:=hNf y (w1x e1');obtain⟨m,hm,hl⟩:=I.loc;obtain⟨u,r,l⟩:=hl j y v hNy eσ hv;refine⟨u,r,?_⟩;rcases l with⟨k,_⟩|⟨k,c,ec,z⟩
   ·exact absurd k hnl
   ·obtain⟨c',ec'⟩:=hcf y hfr;have:=hcl y c' ec';rw[ec]at this;cases this;exact .inr ⟨hvis y (w1x e1'),c,ec',cellUp _ _ z⟩
 ·obtain⟨v,z⟩:=cellK x c e;exact⟨v,cellUp _ _ z⟩
 ·show upd H s.heap.objs.size (.lst []) (s.heap.objs.size+1)=none;rw[q0f (Nat.succ_ne_self _)];exact I.hok.fresh (Nat.le_succ _)
 ·obtain⟨v,o,q,_⟩:=cellK x c e;exact fr0 c o q (I.freeC x c (hcl x c e))
 ·show(List.replicate Nl.length none++pj js σ).length=(Nl++Nf).length;rw[w0k,w0k,w2k];unfold pj;rw[w0r,hlen]
theorem x8x{σ':St}{s':Shared}{Nc:List Str}{fp:List Addr}{cl:List (Str×Addr)}{h':Heap}
  (I:Inv X pins σ H s)(hfp:∀b∈fp,FpOk X pins H b)
  (J:Inv (X.cp Nc scope cl (s.heap.objs.size+1) {s with heap:=s.heap.push {cls:=.type "list", dict:=none,data:=.seq ([]:List Value).toArray}} (upd H s.heap.objs.size (.lst [])) fp) [] σ' H' s')
  (hs:Heap.SameBut (s.heap.objs.size+1) s'.heap h'):Inv X pins σ H' {s' with heap:=h'}:=by
 have fD:H s.heap.objs.size=none:=I.hok.fresh (w0e _);have up1:∀b u,s.heap.get? b=some u->(s.heap.push {cls:=.type "list", dict:=none,data:=.seq ([]:List Value).toArray}).get? b=some u:=fun b u q=>Heap.get?_push_of_some _ q
 have neC:∀b o,s.heap.get? b=some o->b≠s.heap.objs.size+1:=fun b o q=>w0p (w2y (Heap.lt_size q))
 have fr0:∀b o,s.heap.get? b=some o->H b=none->upd H s.heap.objs.size (.lst []) b=none:=fun b o q n=>by rw[q0f (w0p (Heap.lt_size q))];exact n
 have old:∀b u,H b=some u->upd H s.heap.objs.size (.lst []) b=some u:=fun b u q=>by rw[q0f (q0r q fD)];exact q
 have B:Un (frs X.stack) fp (upd H s.heap.objs.size (.lst [])) H' (s.heap.push {cls:=.type "list", dict:=none,data:=.seq ([]:List Value).toArray}) s'.heap:=J.base;have hC:H' (s.heap.objs.size+1)=none:=J.free;refine I.call' (s':={s' with heap:=h'}) (ch:=fp) (J.os.trans rfl) ⟨fun b o q n hb hx=>?_,fun b o q n hb hx=>?_,fun b o q n hx=>B.free b o (up1 _ _ q) (fr0 b o q n) hx,fun b o q hx=>?_,fun b xs q=>B.tups b xs (old _ _ q),fun b o u q=>B.frzs b o u (old _ _ q),fun b ps q=>B.tbls b ps (old _ _ q)⟩ (fun a o q=>?_) J.bare fun b hb=>?_
 ·exact(hs.2 b (neC b o q)).trans (B.keep b o (up1 _ _ q) (fr0 b o q n) hb hx)
 ·obtain⟨sl,z⟩:=B.slot b o (up1 _ _ q) (fr0 b o q n) hb hx;exact⟨sl,(hs.2 b (neC b o q)).trans z⟩
 ·obtain⟨o',z⟩:=B.there b o (up1 _ _ q) hx;exact⟨o',(hs.2 b (neC b o q)).trans z⟩
 ·refine(J.hok a o q).stay (fun c v hc z=>(hs.2 c ?_).trans z) (fun _ z=>z) fun _ _ _ z=>z
  rintro rfl;rcases hc with rfl|hc
  ·rw[hC]at q;cases q
  ·rw[hC]at hc;cases hc
 ·obtain⟨_,f1,f2,f3,f4,f5⟩:=hfp b hb;exact⟨f3,f1,f4,f5⟩
theorem y4s{Nl Nf:List Str}(hc:X.calm=true)(hi:PI X target iter wi)
  (hk:scope.kind=.function)(hcell:∀y∈scope.names,y.2≠.cell)(hnames:∀x∈scope.names,x.2=.local->scope.names.lookup x.1=some .local)
  (hfree:∀x∈scope.names,x.2=.free->X.env.kindOf x.1=some .cell\/X.env.kindOf x.1=some .free)
  (hj:∀(i j:Nat) y,Nf[i]?=some y->js[i]?=some j->X.N[j]?=some y)(hlen:js.length=Nf.length)
  (hNf:∀y∈Nf,(y,NameKind.free)∈scope.names/\Vis X.env.scope y/\X.env.kindOf y≠some .local)
  (hvis:∀y∈Nf,(relabel scope X.env).names.lookup y=some .cell\/(relabel scope X.env).names.lookup y=some .free)
  (hg:∀cl C s₀ H₀ ex,PG (X.cp (Nl++Nf) scope cl C s₀ H₀ ex) target g)(ht:∀cl C s₀ H₀ ex,PTs (X.cp (Nl++Nf) scope cl C s₀ H₀ ex) ifs tc)(he:∀cl C s₀ H₀ ex,PE (X.cp (Nl++Nf) scope cl C s₀ H₀ ex) elt te)
  (hs:∀x,foldedSetIterable iter X.env x=pure x:=by intro _;rfl):
  PE X (.ListComp elt [⟨target,iter,ifs,0⟩] scope pos) (tComp wi Nl.length js g tc te):=by
 intro pins s σ H Q I h;obtain⟨cl,hclos,hcl,hcf⟩:=x0u (scope:=scope) (env:=X.env) fun x hx hf=>I.ok.has x.1 (hfree x hx hf)
 rw[eval_ListComp];refine wpAny_comprehension_free (use:=none) rfl hs hclos hk hnames (thn (hi pins s σ H _ I h) fun v s1 h1=>thn h1 fun itv s2 h2=>?_)
 obtain⟨it,fp,tn,J,H2,e,I2,T,st2,f2,rd⟩:=h2;subst e;refine wpAny_newObj_type (wpAny_newFunctionEnv hcell (by intro y hy;simp at hy) (fun h₁ hns₁ hsb₁=>?_) hk)
 dsimp only at hns₁ hsb₁ |-
 have szp:(s2.heap.push {cls:=.type "list", dict:=none,data:=.seq ([]:List Value).toArray}).objs.size=s2.heap.objs.size+1:=Heap.size_push ..;rw[szp]at hns₁ hsb₁ |-
 have fD:H2 s2.heap.objs.size=none:=I2.hok.fresh (w0e _);obtain⟨W,⟨m0,w0⟩,turn⟩:=rd s2.heap.objs.size fD;have obj2:=T.obj 0 s2.heap st2;have IS:=x34 (Nl:=Nl) (Nf:=Nf) (js:=js) (cl:=cl) (tk:=s2.toks+([]:List (Str×Value)).length) I2 f2 obj2 hk hcell hcl hcf hj hlen hNf hvis hns₁ hsb₁
 have upS:∀b u,s2.heap.get? b=some u->h₁.get? b=some u:=fun b u q=>by
  have hlt:=Heap.lt_size q;exact(hsb₁.2 b (w0p (w2y hlt))).trans (Heap.get?_push_of_some _ (Heap.get?_push_of_some _ q))
 have stS:tn 0 h₁:=T.keep 0 s2.heap h₁ st2 fun b hb o q=>upS b o q
 have noD:∀b∈fp,upd H2 s2.heap.objs.size (.lst []) b=none:=fun b hb=>by
  obtain⟨o,q,_⟩:=obj2 b hb;rw[q0f (w0p (Heap.lt_size q))];exact(f2 b hb).1
 have stat:∀{H':Hp},(∀b∈fp,H' b=none)->∀b∈fp,FpOk (X.cp (Nl++Nf) scope cl (s2.heap.objs.size+1) {s2 with heap:=s2.heap.push {cls:=.type "list", dict:=none,data:=.seq ([]:List Value).toArray}} (upd H2 s2.heap.objs.size (.lst [])) fp) [] H' b:=fun hn b hb=>by
  refine⟨hn b hb,(IS.ok.exf b hb).1,IS.ok.exfs b hb,.inl hb,(IS.ok.exf b hb).2,fun p hp=>(by cases hp)⟩
 have loop:∀s4:Shared,s4={s2 with heap:=h₁,toks:=s2.toks+([]:List (Str×Value)).length} ->
   codeAny (model X.prog X.w) X.A (.compLoop (.ListComp elt [⟨target,iter,ifs,0⟩] scope pos) 0 (.ref it) (.ref s2.heap.objs.size) (compEnvC scope cl (s2.heap.objs.size+1) X.env))
    (compPost (model X.prog X.w) X.A X.xe none (EP X pins σ Q) (.ref s2.heap.objs.size) (s2.heap.objs.size+1)) s4:=by
  rintro s4 rfl;refine x2g (fun n s'=>∃i H',Inv (X.cp (Nl++Nf) scope cl (s2.heap.objs.size+1) {s2 with heap:=s2.heap.push {cls:=.type "list", dict:=none,data:=.seq ([]:List Value).toArray}} (upd H2 s2.heap.objs.size (.lst [])) fp) [] (List.replicate Nl.length none++pj js σ) H' s'/\tn i s'.heap/\(∀b∈fp,H' b=none)/\W i n H') ?_ m0 ⟨0,_,IS,stS,noD,w0⟩
  rintro n s3 ⟨i,H3,I3,st3,fr3,w3⟩;rcases turn i n H3 w3 with⟨stop,qn⟩|⟨go,step⟩
  ·refine thn (T.done (X.cp (Nl++Nf) scope cl (s2.heap.objs.size+1) {s2 with heap:=s2.heap.push {cls:=.type "list", dict:=none,data:=.seq ([]:List Value).toArray}} (upd H2 s2.heap.objs.size (.lst [])) fp) rfl rfl rfl hc i [] s3 _ H3 _ I3 (stat fr3) st3 stop) fun r s5 ⟨hr,I5⟩=>?_
   subst hr;obtain⟨m5,hn5,_⟩:=I5.loc;refine⟨m5,hn5,fun h' hs'=>⟨.ref s2.heap.objs.size,H3,x8x I2 f2 I5 hs',rfl,qn⟩⟩
  ·refine thn (T.item (X.cp (Nl++Nf) scope cl (s2.heap.objs.size+1) {s2 with heap:=s2.heap.push {cls:=.type "list", dict:=none,data:=.seq ([]:List Value).toArray}} (upd H2 s2.heap.objs.size (.lst [])) fp) rfl rfl rfl hc i [] s3 _ H3 _ I3 (stat fr3) st3 go) fun r s5 ⟨u,hr,h5⟩=>?_
   subst hr;refine thn h5 fun _ s6 ⟨x,H6,I6,r6,y6,st6,fr6⟩=>?_
   have I6':=I6.pinned (stat fr6) (T.obj _ _ st6);refine thn (hg _ _ _ _ _ _ s6 _ H6 x u _ I6' r6 (step x H6 y6)) fun _ s7 ⟨σ7,H7,I7,kp,q7⟩=>?_
   refine thn (ht _ _ _ _ _ _ s7 σ7 H7 _ I7 q7) fun ok s8 ⟨H8,I8,q8⟩=>?_
   have again:∀{σ9:St}{H9:Hp}{s9:Shared},Inv (X.cp (Nl++Nf) scope cl (s2.heap.objs.size+1) {s2 with heap:=s2.heap.push {cls:=.type "list", dict:=none,data:=.seq ([]:List Value).toArray}} (upd H2 s2.heap.objs.size (.lst [])) fp) ([]++pinsAt fp s6.heap) σ9 H9 s9 ->
     Kp (List.replicate Nl.length none++pj js σ) σ9->(∃m',m'<n/\W (i+1) m' H9)->∃m,m<n/\∃i H',Inv (X.cp (Nl++Nf) scope cl (s2.heap.objs.size+1) {s2 with heap:=s2.heap.push {cls:=.type "list", dict:=none,data:=.seq ([]:List Value).toArray}} (upd H2 s2.heap.objs.size (.lst [])) fp) [] (List.replicate Nl.length none++pj js σ) H' s9/\tn i s9.heap/\(∀b∈fp,H' b=none)/\W i m H':=fun {σ9 H9 s9} I9 hw ⟨m',hm,w9⟩=>by
    refine⟨m',hm,i+1,H9,I9.unpinned.weak (by rw[I9.len,<- IS.len]) hw,T.keep _ _ _ st6 fun b hb o q=>(I9.pin (b,o) (w0i _ (w0i _ (q3g hb q)))).1,fun b hb=>?_,w9⟩
    obtain⟨o,q,d⟩:=T.obj _ _ st6 b hb;exact(I9.pin (b,o) (w0i _ (w0i _ (q3g hb q)))).2.1
   cases ok with
   |false=>exact again I8 kp (by simpa using q8)
   |true=>
    have q8':=by simpa only[if_true]using q8
    refine thn (he _ _ _ _ _ _ s8 σ7 H8 _ I8 q8') fun y s9 ⟨yv,H9,I9,r9,ys,hD,hz,q9⟩=>?_
    refine thn (q8k _ s9 σ7 H9 (.ref s2.heap.objs.size) [yv] (.ref s2.heap.objs.size) [y] (fun v H'=>v=.non/\H'=upd H9 s2.heap.objs.size (.lst (ys++[yv]))) I9 rfl (.cons r9 .nil) ⟨_,ys,yv,rfl,rfl,hD,hz,rfl,rfl⟩) fun _ s10 ⟨_,H10,I10,_,_,e10⟩=>?_
    subst e10;exact again I10 kp q9
 exact codeAny_compStart_list (loop _ rfl) (T.self X.A 0 _ _ _ stS (loop _ rfl))
end
theorem q6f{env:Env}:∀{names:List (Str×NameKind)}{x:Str},names.lookup x=some .free ->
  (names.map fun(n,k)=>if(k==NameKind.free&&env.scope.kind==.function&&env.kindOf n==some .cell)then(n,NameKind.cell)else(n,k)).lookup x=some .cell \/
  (names.map fun(n,k)=>if(k==NameKind.free&&env.scope.kind==.function&&env.kindOf n==some .cell)then(n,NameKind.cell)else(n,k)).lookup x=some .free
 |[],x,h=>by cases h
 |(n,k)::r,x,h=>by
  have ih:=@q6f env r x;rw[w0n];dsimp only
  by_cases hx:(x==n)=true
  ·simp only[w0z,hx]at h;cases h
   by_cases hq:(NameKind.free==NameKind.free&&env.scope.kind==.function&&env.kindOf n==some .cell)=true
   ·rw[if_pos hq];left;simp[w0z,hx]
   ·rw[if_neg hq];right;simp[w0z,hx]
  ·have hb:(x==n)=false:=w1z.mpr hx;simp only[w0z,hb]at h;have z:=ih h
   by_cases hq:(k==NameKind.free&&env.scope.kind==.function&&env.kindOf n==some .cell)=true
   ·rw[if_pos hq];simpa only[w0z,hb]using z
   ·rw[if_neg hq];simpa only[w0z,hb]using z
noncomputable def compOk(sc scope:Scope)(N Nf:List Str)(js:List Nat):Bool:=
 scope.kind==.function&&scope.names.all (fun y=>y.2 != .cell)&&scope.names.all (fun y=>y.2 != .local||scope.names.lookup y.1==some .local) &&
 scope.names.all (fun y=>y.2 != .free||sc.names.lookup y.1==some .cell||sc.names.lookup y.1==some .free)&&js.length==Nf.length &&
 (List.range js.length).all (fun i=>match js[i]?,Nf[i]? with|some j,some y=>N[j]?==some y|_,_=>true) &&
 Nf.all (fun y=>scope.names.lookup y==some .free&&(sc.names.lookup y==some .cell||sc.names.lookup y==some .free))
theorem q7n{elt target iter:Expr}{scope sc:Scope}{wi:TI}{g:TG}{tc:TT}{Nl Nf:List Str}(hc:X.calm=true)(hi:PI X target iter wi)
  (ok:compOk sc scope N Nf js=true)
  (hg:∀cl C s₀ H₀ ex,PG (X.cp (Nl++Nf) scope cl C s₀ H₀ ex) target g)(ht:∀cl C s₀ H₀ ex,PTs (X.cp (Nl++Nf) scope cl C s₀ H₀ ex) ifs tc)(he:∀cl C s₀ H₀ ex,PE (X.cp (Nl++Nf) scope cl C s₀ H₀ ex) elt te)
  (hsc:X.env.scope=sc:=by rfl)(hN:X.N=N:=by rfl)(hs:∀x,foldedSetIterable iter X.env x=pure x:=by intro _;rfl):
  PE X (.ListComp elt [⟨target,iter,ifs,0⟩] scope pos) (tComp wi Nl.length js g tc te):=by
 unfold compOk at ok;simp only[w0g,w1g,beq_iff_eq,bne_iff_ne,Bool.or_eq_true,w1d]at ok;obtain⟨⟨⟨⟨⟨⟨k1,k2⟩,k3⟩,k4⟩,k5⟩,k6⟩,k7⟩:=ok;have kind:∀x,X.env.kindOf x=sc.names.lookup x:=fun x=>by rw[<- hsc];rfl
 refine y4s hc hi k1 k2 (fun x hx hl=>(k3 x hx).resolve_left fun z=>z hl) (fun x hx hf=>?_) (fun i j y e1 e2=>?_) k5 (fun y hy=>?_) (fun y hy=>?_) hg ht he hs
 ·rw[kind];rcases k4 x hx with(z|z)|z
  ·exact absurd hf z
  ·exact .inl z
  ·exact .inr z
 ·have hlt:i<js.length:=(w0a.mp e2).1;have z:=k6 i hlt;rw[e1,e2]at z;rw[hN]
  simpa using z
 ·obtain⟨z1,z2⟩:=k7 y hy;refine⟨PySem.mem_of_lookup z1,?_,?_⟩
  ·rw[hsc];rcases z2 with z|z
   ·exact .inr (.inl z)
   ·exact .inr (.inr z)
  ·rw[kind];rcases z2 with z|z<;>(rw[z];decide)
 ·exact q6f (k7 y hy).1
abbrev TF:=Str->St->Hp->(Str->Hp->Prop)->Prop
def PF(X:Cx)(es:List Expr)(t:TF):Prop:=∀(acc:Str)(pins:List (Addr×Obj))(s:Shared)(σ:St)(H:Hp)(Q:Str->Hp->Prop),Inv X pins σ H s->t acc σ H Q ->
 Joins (model X.prog X.w) X.A X.xe (evalEach es X.env) acc (fun out s'=>out.length<=sizeLine/\∃H',Inv X pins σ H' s'/\Q out H') s
def FmtV:V->Str->Prop
 |.int i,y=>i.natAbs.log2<1920/\y=Str.ofString (toString i)
 |.str z,y=>z.length<=sizeLine/\y=z
 |_,_=>False
section
variable{t:TF}
theorem y83:PF X [] (fun acc _ H Q=>acc.length<=sizeLine/\Q acc H):=fun acc pins s σ H Q I h=>⟨h.1,H,I,h.2⟩
theorem y84{j pos}(r:PF X es t):PF X (.Constant (.str x) j pos::es) (fun acc σ H Q=>(acc++x).length<=sizeLine/\t (acc++x) σ H Q):=by
 intro acc pins s σ H Q I h;show wpAny _ _ (eval (.Constant (.str x) j pos) X.env) _ _ s;exact Calls.Constant_str ⟨x,_,rfl,h.1,r _ pins _ σ H Q (I.tok _) h.2⟩
theorem y85(he:PE X e te)(r:PF X es t):PF X (.FormattedValue e (-1) none pos::es) (fun acc σ H Q=>te σ H fun v H1=>∃y,FmtV v y/\(acc++y).length<=sizeLine/\t (acc++y) σ H1 Q):=by
 intro acc pins s σ H Q I h;show wpAny _ _ (eval (.FormattedValue e (-1) none pos) X.env) _ _ s;refine wpAny_FormattedValue_plain (thn (he pins s σ H _ I h) fun u s1 ⟨v,H1,I1,rv,y,hf,hz,q⟩=>?_)
 cases v with
 |int i=>
  obtain⟨tk,e1⟩:=rv;subst e1;obtain⟨hd,e2⟩:=hf;subst e2;exact wpAny_formatField_int hd ⟨_,_,rfl,hz,r _ pins _ σ H1 Q (I1.tok _) q⟩
 |str z=>
  obtain⟨tk,e1⟩:=rv;subst e1;obtain⟨hd,e2⟩:=hf;subst e2;exact wpAny_formatField_str ⟨_,_,rfl,hz,r _ pins _ σ H1 Q I1 q⟩ ⟨_,_,rfl,hz,r _ pins _ σ H1 Q (I1.tok _) q⟩ hd
 |_=>exact hf.elim
theorem y4t{v1 v2:Expr}{rest:List Expr}(h:PF X (v1::v2::rest) t):PE X (.JoinedStr (v1::v2::rest) pos) (fun σ H Q=>t Str.empty σ H fun out H'=>Q (.str out) H'):=by
 intro pins s σ H Q I hq;refine wpAny_JoinedStr ?_;have key:=h Str.empty pins s σ H _ I hq
 have mono:∀(l:List (Sem Value))(acc:Str)(R R':Str->Shared->Prop)(s:Shared),(∀o s,R o s->R' o s)->Joins (model X.prog X.w) X.A X.xe l acc R s->Joins (model X.prog X.w) X.A X.xe l acc R' s:=by
  intro l
  induction l with
  |nil=>intro acc R R' s hr h;exact hr _ _ h
  |cons x r ih=>intro acc R R' s hr h;exact wpAny_mono h (fun v s1 ⟨y,tk,e,hz,q⟩=>⟨y,tk,e,hz,ih _ _ _ _ hr q⟩) fun _ _ z=>z
 exact mono _ _ _ _ _ (fun o s1 ⟨hz,H',I',q⟩=>⟨hz,.str o,H',I'.tok _,⟨_,rfl⟩,q⟩) key
end
theorem y1o(hc:X.calm=true):CallR X (.builtin "all") (fun xs H Q=>∃p ys,xs=[.ref p]/\SqL X.K H p ys/\(∀y∈ys,∃b,y=.bl b)/\Q (.bl (ys.all fun y=>decide (y=.bl true))) H):=by
 intro pins s σ H xs us Q I r h;obtain⟨p,ys,rfl,hq,hb,q⟩:=h;obtain⟨u,rfl,rx⟩:=vals1 r;cases rx;obtain⟨its,r',pl,hz⟩:=I.list hq;have hl:=pl.isList;have hlt:p<s.heap.objs.size:=by obtain⟨_,e,_⟩:=hl;exact Heap.lt_size e
 have hh:X.A.in1.handled=none:=I.ok.hd hc;refine call_all_walk (wpAny_pyIter_list hl ⟨s.heap.objs.size,[s.heap.objs.size,p],[s.heap.objs.size],_,_,_,fun i=>decide (ys[i]?=some (.bl true)),rfl,Walks.list hh s.heap.objs.size p (w0p hlt) its.toArray,⟨⟨_,Heap.get?_push_size _ rfl,rfl,rfl⟩,hl.push _⟩,?_,fun h' tk kp=>?_⟩)
 ·intro i v s1 Q1 E1 hv hQ;have hv':its[i]?=some v:=by simpa using hv
  have hi:i<ys.length:=by rw[r'.length];exact(w0a.mp hv').1
  obtain⟨u,hu,ru⟩:=r'.get (w0b hi);rw[hv']at hu;cases hu;obtain⟨b,eb⟩:=hb ys[i] (w1a hi);rw[eb]at ru;cases ru;refine wpAny_truthy_bool ?_
  have e:decide (ys[i]?=some (V.bl true))=b:=by
   rw[w0b hi,eb];cases b<;>simp
  rw[<- e];exact hQ
 ·have e:(List.range its.toArray.size).all (fun i=>decide (ys[i]?=some (V.bl true)))=ys.all fun y=>decide (y=.bl true):=by
   rw[w2a,w1g,w1g];constructor
   ·intro hA y hy;obtain⟨i,hi,rfl⟩:=w4d hy;have z:=hA i (by rw[w1d,w0c,<- r'.length];exact hi);rw[w0b hi]at z
    simpa using z
   ·intro hA i hi;rw[w1d,w0c,<- r'.length]at hi;have z:=hA ys[i] (w1a hi);rw[w0b hi]
    simpa using z
  refine⟨.bl _,H,I.kept (t':=tk) fun b o hbo=>kp b o (fun z=>?_) (Heap.get?_push_of_some _ hbo),rfl,e ▸ q⟩
  rw[w1c]at z;exact absurd (Heap.lt_size hbo) (by rw[z];exact w2b _)
namespace RevT
open AutoSeq1 (wpAny_loadPart')
end RevT
open PySem PySem.Spec PyProof.Rows
variable{A:Around}{X:Cx}{e:Expr}{h:Heap}{H H':Hp}{es:List Expr}{ps:List Str}{P:Program}{K:PySem.W.Frag}{s:Shared}{EE:St->XK}{x:Str}{t:TA}{w:World}
structure ExcCls(K:PySem.W.Frag)(D:Addr):Prop where
 ga:findIn K (.ref D) "__getattribute__"=some (some (.builtin "BaseException.__getattribute__"))
 gt:findIn K (.ref D) "__getattr__"=some none
 cl:findIn K (.ref D) "__class__"=some (some (.builtin "object.__class__"))
 gs:specialIn K (.builtin "object.__class__") "__get__"=some (some (.builtin "getset_descriptor.__get__"))
 tk:takesIn K (.builtin "object.__class__")=some true
 mo:PySem.W.mroIn K D (.type "object")=some true
 mb:PySem.W.mroIn K D (.type "BaseException")=some true
 cd:(PySem.W.clsIn K D).isSome=true
noncomputable def excClsIn(K:PySem.W.Frag)(D:Addr):Bool:=
 findIn K (.ref D) "__getattribute__"==some (some (.builtin "BaseException.__getattribute__"))&&findIn K (.ref D) "__getattr__"==some none &&
 findIn K (.ref D) "__class__"==some (some (.builtin "object.__class__"))&&specialIn K (.builtin "object.__class__") "__get__"==some (some (.builtin "getset_descriptor.__get__")) &&
 takesIn K (.builtin "object.__class__")==some true&&PySem.W.mroIn K D (.type "object")==some true&&PySem.W.mroIn K D (.type "BaseException")==some true&&(PySem.W.clsIn K D).isSome
theorem ExcCls.of{D:Addr}(h:excClsIn K D=true):ExcCls K D:=by
 unfold excClsIn at h;simp only[w0g,beq_iff_eq]at h;obtain⟨⟨⟨⟨⟨⟨⟨h1,h2⟩,h3⟩,h4⟩,h5⟩,h6⟩,h7⟩,h8⟩:=h;exact⟨h1,h2,h3,h4,h5,h6,h7,h8⟩
def ExcAt(e D:Addr)(h:Heap):Prop:=∃o vs,h.get? e=some o/\o.cls=.ref D/\o.data=.fields vs
section
variable{prog:Program}{E:Value->Shared->Prop}{e D:Addr}
open PySem.W Builtin Builtin.ObjectAttr Builtin.Getset_descriptor
theorem x0v{M:Model}(p:ExcAt e D h):Looks M h (typeOf (.ref e)) (.ref D):=by
 obtain⟨o,vs,h1,h2,h3⟩:=p;exact h2 ▸ (Looks.ld h1).andThen .now
theorem y1p{M:Model}(X:K.In h)(C:ExcCls K D):Looks M h (find (.ref e) (.ref D) "__class__") (.bind (.builtin "getset_descriptor.__get__") (.builtin "object.__class__")):=by
 have L1:=looks_findIn (M:=M) X C.cl;have L2:Looks M h (getOf (some (.builtin "object.__class__"))) (some (.builtin "getset_descriptor.__get__")):=looks_specialIn X C.gs;have L3:=looks_takesIn (M:=M) X C.tk;refine L1.andThen (L2.andThen ?_);exact(show Looks M h (dataDescriptor? (some (.builtin "object.__class__")) (some (.builtin "getset_descriptor.__get__"))) (some (.builtin "getset_descriptor.__get__", .builtin "object.__class__"))from L3.andThen .now).andThen (Looks.tag .now)
theorem y4u{tp:Value}{R:Result->Shared->Prop}(X:K.In s.heap)(p:ExcAt e D s.heap)(hm:mroIn K D (.type "object")=some true)
  (h:R (.ok (.ret (.ref D))) s):codeAny (model prog w) A (.call (.builtin "getset_descriptor.__get__") ⟨[.builtin "object.__class__", .ref e,tp],[]⟩) R s:=by
 obtain⟨hh,g,dr,t,os⟩:=s;have L0:=x0v (M:=model prog w) p;have L1:=looks_mroIn (M:=model prog w) X hm;refine codeAny_call_builtin KF.slot_gs.plain KF.entry_gs (KF.slot_gs.check _ _ _ _ _ _ _ _ KF.type_class (KF.args_gs _ _ _) ?_);unfold Builtin.«getset_descriptor.__get__» descrGet;rw[dga_obj];refine wpAny_bind (wpAny_pure ?_);unfold descrGetter descrCheckInstance descrNameAndClass isInstance;simp only[KF.owner_class]
 repeat lk
 refine⟨Code.quiet_builtin _ (by decide +kernel),codeAny_builtin KF.entry_class ?_⟩;unfold Builtin.«object.__class__» shownTypeOf
 repeat lk
 exact h
theorem x8y{M:Model}{nameV:Value}{Q:Unit->Shared->Prop}{g:Array GenState}{d:Drawn}{t:Nat}{os:OsState}(X:K.In h)(p:ExcAt e D h)(hm:mroIn K D (.type "BaseException")=some true)(hq:Q () ⟨h,g,d,t,os⟩):
  wpAny M A (checkBuiltinCall "BaseException.__getattribute__" ⟨[.ref e,nameV],[]⟩) Q E ⟨h,g,d,t,os⟩:=by
 have hk:builtinKind "BaseException.__getattribute__"=some .slot:=by decide +kernel
 have hsplit:splitId "BaseException.__getattribute__"=some ("BaseException", "__getattribute__"):=by decide +kernel
 have L0:=x0v (M:=M) p;have L1:=looks_mroIn (M:=M) X hm;have LI:Looks M h (isInstance (.ref e) (.type "BaseException")) true:=L0.andThen L1;have ha:=PySem.F.args_bexc_ga (.ref e) nameV;simp only[checkBuiltinCall,hk,hsplit];refine wpAny_bind (LI.at ?_);rw[if_neg (by decide)];unfold argsOk at ha;split
 ·rename_i sig hs;rw[hs]at ha;exact wpAny_of_eq ha hq
 ·exact wpAny_pure hq
theorem x8z{Q:Option Value->Shared->Prop}(X:K.In s.heap)(p:ExcAt e D s.heap)(C:ExcCls K D)(h:Q (some (.ref D)) {s with toks:=s.toks+1}):wpAny (model prog w) A (getAttr? (.ref e) "__class__") Q E s:=by
 obtain⟨hh,g,d,t,os⟩:=s;have L0:=x0v (M:=model prog w) p;have L1:=looks_findIn (M:=model prog w) X C.ga;have L2:=looks_findIn (M:=model prog w) X C.gt;have L3:=y1p (M:=model prog w) (e:=e) X C;unfold getAttr? getAttrBy? getAttrBy;refine wpAny_bind (wpAny_mkText (wpAny_bind (wpAny_attempt (wpAny_holding (wpAny_bind (L0.at (wpAny_bind (L1.at ?_))))))));have hx2:(Value.builtin "BaseException.__getattribute__"==Value.builtin "object.__getattribute__")=false:=by decide +kernel
 have hx1:(onTheHeap (Value.ref D)&&Value.builtin "BaseException.__getattribute__"==Value.builtin "object.__getattribute__")=false:=by rw[hx2];rfl
 dsimp only;rw[if_neg (by rw[hx1];decide)];unfold getAttrByItsOwn hookBefore;rw[if_pos (by rfl)];refine wpAny_bind (L2.at ?_);refine wpAny_bind (wpAny_attempt (wpAny_holding ?_));unfold callGetattribute;rw[if_neg (by decide)];unfold boundAndCalled;have f3:=PySem.F.excAttr_ValueError.ga.bind (.ref e);refine wpAny_bind (wpAny_of_eq f3 ?_);refine wpAny_call (codeAny_call_builtin PySem.F.excAttr_ValueError.ga.plain F.entry_bexc_ga (x8y (K:=K) (D:=D) X p C.mb ?_));unfold Builtin.«object.__getattribute__»;refine wpAny_bind (wpAny_of_eq (a:=(Value.ref e,[Value.str (Str.ofString "__class__") t])) (by rfl) ?_);dsimp only;refine wpAny_bind (wpAny_of_eq (a:=Str.ofString "__class__") (by rfl) ?_);refine wpAny_bind (L0.at (wpAny_bind (L3.at ?_)));dsimp only;unfold bindTo;refine wpAny_bind (wpAny_holding (wpAny_call (y4u (K:=K) (D:=D) X p C.mo ?_)));dsimp only;refine wpAny_pure ?_;dsimp only;refine wpAny_of_eq (a:=Value.ref D) (by rfl) ?_;exact wpAny_pure h
theorem y1q(C:ExcCls K D):KitX K (.ref e) (.ref D) (ExcAt e D) where
 ty:=fun _ _ _ p=>x0v p
 it:=fun M h X p=>by
  have hcD:=C.cd;unfold clsIn at hcD;split at hcD
  ·rename_i c' d' cd' sl' ho;intro A' Q' E' s' k q;unfold isType loadHead;exact wpAny_bind (wpAny_loadPart (k _ _ (X _ _ ho)) (wpAny_pure q))
  ·cases hcD
 ne:=fun h tp dd its n sl X htp=>by
  refine w1z.mpr fun q=>?_
  have e1:D=tp:=Value.ref.inj (beq_iff_eq.mp q);subst e1;have hcD:=C.cd;unfold clsIn at hcD;split at hcD
  ·rename_i c' d' cd' sl' ho;have z:=(X _ _ ho).symm.trans htp;cases z
  ·cases hcD
 ca:=fun X p k=>x8z X p C k
end
def ClsV:V->Value->Prop
 |.ty n,c=>c=.type n
 |.ref a,c=>c=.ref a
 |_,_=>False
structure Cal(P:Program)(w:World)(K:PySem.W.Frag)(mg:Str->Option Value)(base:Heap)(k:Nat)(x:Str)(ps:List Str)(sp:Sp):Prop where
 ex:∃f fd,FnOk P w K mg base (CX1 P w) k f fd ps sp/\mg x=some (.ref f)/\keepIn K (.ref f)=true/\Binds K fd ps []
structure CalH(P:Program)(w:World)(K:PySem.W.Frag)(mg:Str->Option Value)(base:Heap)(k:Nat)(x:Str)(ps:List Str)(sp:Sp):Prop where
 ex:∃f fd,FnOkH P w K mg base k f fd ps sp/\mg x=some (.ref f)/\keepIn K (.ref f)=true/\Binds K fd ps []
structure At(K:PySem.W.Frag)(mg:Str->Option Value)(x:Str)(st:Stmt)(ps:List Str):Prop where
 ex:∃f fd,Fun K x x st f fd/\mg x=some (.ref f)/\Binds K fd ps []
section
variable{mg:Str->Option Value}{base:Heap}
theorem At.cal{st:Stmt}{N:List Str}{k:Nat}{sp:Sp}(F:At K mg x st ps)(S:FnScope N ps (defScope st))(len:∀vs H Q E,sp vs H Q E->vs.length=ps.length)
  (hbody:∀(f:Addr)(cdv:Value)(A:Around)(outer:List Env)(s:Shared)(H:Hp)(vs:List V)(Q:VK)(E:XK),Room k (A.deeper (envOfC x (defScope st) s.heap.objs.size f cdv))->sp vs H Q E ->
   ∃t,PSs (cxOf (CX1 P w) P w K mg base N x (defScope st) f cdv A outer s H E) (defBody st) t/\t {nx:=fun _ H'=>Q .non H',rt:=Q} (start N vs) H):Cal P w K mg base (k+1) x ps sp:=by
 obtain⟨f,fd,F,m,b⟩:=F.ex;exact⟨f,fd,F.okX S len (hbody f),m,F.kp,b⟩
end
section
variable{k:Nat}{sp:Sp}{p pos:Pos}
theorem x80(C:Cal X.prog X.w X.K X.mg X.base k x ps sp)(hr:Room k X.A)(hx:PassX (CX1 X.prog X.w) X EE)(ha:PA X (e::es) t)(hg:Gl X x:=by rfl)
  (hdb:(x==("__debug__":Str))=false:=by decide)(he:starEach (e::es) X.env=(false,eval e X.env)::starEach es X.env:=by rfl)(hpl:(backTo pos (starEach es X.env)).any (·.1)=false:=by rfl):
  PE X (.Call (.Name x p) (e::es) [] pos) (tCallX sp [] EE t):=by
 obtain⟨f,fd,F,m,kp,b⟩:=C.ex;exact y1m F hr hg m kp b .nil hx ha hdb he hpl
end
section
variable{te:TE}{pos pos' p:Pos}
theorem x7a(i:Nat)(hN:X.N.Nodup)(he:PE X e te)(hi:X.N[i]?=some x:=by rfl)(hx:Loc X.env.scope x:=by walk_at "3")(hs:swapsWith e (some (.Name x pos')) pos.line X.env=pure false:=by rfl)(hf:X.fn x=true\/X.env.scope.names.lookup x=some .local:=by walk_at "2"):
  PS X (.Assign [.Name x pos'] e pos) (tAsg te (gName i)):=y8o hN hi hx he hs hf
theorem q35(i:Nat)(hN:X.N.Nodup)(hi:X.N[i]?=some x:=by rfl)(hx:Loc X.env.scope x:=by walk_at "3")(hf:X.fn x=true\/X.env.scope.names.lookup x=some .local:=by walk_at "2"):PG X (.Name x pos) (gName i):=y4h hN hi hx hf
theorem y86{o:Expr}{to:TE}{apos:Pos}(ho:PE X o to)(ha:PA X (e::es) t)(hbase:attributeBase o "append" X.env (eval o X.env)=eval o X.env:=by rfl)
  (hfew:((backTo pos (starEach (e::es) X.env)).all (fun x=>!x.1)&&(backToKw pos (keywordEach [] X.env)).all (fun x=>x.1.isSome)&&decide ((e::es).length+([]:List Keyword).length+(if([]:List Keyword).isEmpty then 0 else 1)<30))=true:=by rfl)
  (hline:(apos.endLine==pos.line)=true:=by rfl)(hs:starEach (e::es) X.env=(false,eval e X.env)::starEach es X.env:=by rfl)(hplain:(backTo pos (starEach es X.env)).any (·.1)=false:=by rfl):
  PE X (.Call (.Attribute o "append" apos) (e::es) [] pos) (tBM X.K "list" rAppend to t):=y3v PySem.F.plainAttrs_list PySem.F.slot_list_append PySem.F.type_list_append q8k ho ha hbase hfew hline hs hplain
end
theorem q3h{p:Addr}(h:H p=none)(o:HO):Same H (upd H p o):=fun b u q=>by rw[q0f (q0r q h)];exact q
theorem y1r{H1 H2:Hp}{D:Addr}(h:H1 D=none)(e:Same H1 H2)(o:HO):Same H1 (upd H2 D o):=fun b u q=>by rw[q0f (q0r q h)];exact e b u q
theorem Same.tup{a:Addr}{xs:List V}(e:Same H H')(h:SqT K H a xs):SqT K H' a xs:=by
 rcases h with(h|⟨o,h⟩)|h
 ·exact .inl (.inl (e _ _ h))
 ·exact .inl (.inr ⟨o,e _ _ h⟩)
 ·exact .inr h
theorem comp_rng{lo:Int}{n:Nat}{js:List Nat}{te:TE}{σ:St}{H1:Hp}{Q:VK}(f:Nat->V)(hn:n<=10000)
  (he:∀i H2,i<n->Same H1 H2->∀QQ:VK,(∀H3,Same H2 H3->QQ (f i) H3)->te (some (.int (lo+i))::pj js σ) H2 QQ)
  (hq:∀D H2,Same H1 H2->H2 D=some (.lst ((List.range n).map f))->Q (.ref D) H2):
  ∀D,H1 D=none->∃W:Nat->Nat->Hp->Prop,(∃m,W 0 m (upd H1 D (.lst [])))/\∀i m H2,W i m H2 ->
   ((Itr lo n).stop i H2/\Q (.ref D) H2)\/((Itr lo n).go i H2/\∀x H3,(Itr lo n).yld i H2 x H3->gName 0 x (List.replicate 1 none++pj js σ) H3 fun σ4 H4=>Kp (List.replicate 1 none++pj js σ) σ4/\tYes σ4 H4 fun b H5=>
    if b=true then te σ4 H5 fun y H6=>∃ys,H6 D=some (.lst ys)/\ys.length<sizeLine/\∃m',m'<m/\W (i+1) m' (upd H6 D (.lst (ys++[y])))else ∃m',m'<m/\W (i+1) m' H5):=by
 intro D hD;refine⟨fun i m H2=>m=n-i/\i<=n/\Same H1 H2/\H2 D=some (.lst ((List.range i).map f)),⟨n,rfl,w1l _,q3h hD _,q0o⟩,?_⟩
 rintro i m H2 ⟨rfl,hi,e,d⟩
 by_cases hlt:i<n
 ·refine .inr ⟨hlt,?_⟩;rintro x H3 ⟨rfl,rfl⟩;refine⟨Kp.one,?_⟩;dsimp only[tYes];rw[if_pos rfl];refine he i _ hlt e _ fun H6 e6=>⟨_,e6 _ _ d,?_,n-(i+1),by omega,rfl,hlt,y1r hD (e.trans e6) _,?_⟩
  ·rw[w0r,List.length_range];exact w0l hlt (w0o hn (by decide))
  ·rw[q0o,List.range_succ,w0q];rfl
 ·have:i=n:=by omega
  subst this;exact .inl ⟨w0e _,hq D H2 e d⟩
noncomputable abbrev fnO(o:Obj)(q:Str)(c:Addr):HO:=.frz o (.tbl #[.bool false,.str q 0,.ref c])
noncomputable abbrev celO(o:Obj):HO:=.frz o (.ext fun _=>True)
noncomputable abbrev Cs:=List (Addr×Obj)
variable{cs:Cs}
structure LamScope(ps Nf:List Str)(sc:Scope):Prop where
 kind:sc.kind=.function
 co:sc.isCoroutine=false
 gen:sc.isGenerator=false
 nd:ps.Nodup
 nocell:∀y∈sc.names,y.2≠.cell
 par:∀x∈ps,sc.names.lookup x=some .local
 fr:∀y∈Nf,sc.names.lookup y=some .free
structure LamCells(cl:List (Str×Addr))(Nf:List Str)(sc:Scope)(zs:List V)(h:Heap)(cs:Cs):Prop where
 inj:∀x y c,cl.lookup x=some c->cl.lookup y=some c->x=y
 has:∀x,(x,NameKind.free)∈sc.names->∃c,cl.lookup x=some c
 all:∀x c,cl.lookup x=some c->∃o,cs.lookup c=some o
 cel:∀c o,cs.lookup c=some o->h.get? c=some o/\∃v,o.data=.cell v
 val:∀(i:Nat) y z,Nf[i]?=some y->zs[i]?=some z->∃c o u,cl.lookup y=some c/\cs.lookup c=some o/\o.data=.cell (some u)/\RelV z u
def BMain(h:Heap)(mg:Str->Option Value):Prop:=∃bm ob,mg "__builtins__"=some (.ref bm)/\bm≠builtinsNs/\h.get? bm=some ob/\ob.cls=.type "module" /\ ob.dict=some builtinsNs/\ob.data=.plain
structure Maker(X:Cx):Prop where
 ex:∃c P a,X.env.code=.ref c/\PySem.W.codeHdIn X.K c P=true/\(a,markO P (X.env.qual++"<lambda>"))∈X.K
 bm:BMain X.base X.mg
structure CellsOf(clos:List (Str×Addr))(Nf:List Str)(scope:Scope)(js:List Nat)(σ:St)(H:Hp)(cs:Cs):Prop where
 inj:∀x y c,clos.lookup x=some c->clos.lookup y=some c->x=y
 has:∀x,(x,NameKind.free)∈scope.names->∃c,clos.lookup x=some c
 all:∀x c,clos.lookup x=some c->∃o,cs.lookup c=some o
 cel:∀c o,cs.lookup c=some o->H c=none/\∃v,o.data=.cell v
 val:∀(i:Nat) y j z,Nf[i]?=some y->js[i]?=some j->σ[j]?=some (some z)->∃c o u,clos.lookup y=some c/\cs.lookup c=some o/\o.data=.cell (some u)/\RelV z u
end L2
set_option maxHeartbeats 1000000
namespace D
open PySem L2
variable{a:Addr}{X:Cx}{G G' G1 H H' H1:Hp}{es:List Expr}{vs xs:List V}{r:List V->Hp->VK->Prop}{i:Nat}{b:Option Nat}{p pos pos':Pos}{K:PySem.W.Frag}{σ:St}{EE:St->XK}{st:Stmt}{x:Str}{α:Type}{v:V}
noncomputable abbrev Sv:=Int ⊕ Bool
inductive Dd where
 |k (kvs:List (Key×Sv))
structure Lm where
 qual:Str
 params:Arguments
 body:Expr
 scope:Scope
 nf:List Str
set_option genInjectivity true in
inductive W where
 |non|bl (b:Bool)|int (i:Int)|str (x:Str)|tup (xs:List W)|lst (xs:List W)|exc (c:Value)|dic (kvs:Dd)|dw (fz:Bool) (sh:Sh) (ks:List Kx) (ws:List W)|fn (i:Nat) (l:Lm) (ws:List W)
variable{ws:List W}{w:W}{f:W->W->Option W}
inductive SK where
 |old (w:W)|new (w:W)|acc (ws:List W)|thro (us ws vs:List W)|tn (us:List W) (wss:List (List W))|pt (us ws:List W) (w:W)
inductive S where
 |no|fr (w:W)|own (io:Option Nat) (ws:List W)|dic (kvs:Dd)|thr (us ws vs:List W)|nest (wss:List (List W))|dw (sh:Sh) (ks:List Kx) (ws:List W)|x (k:SK)
variable{e e1:List S}{E:Value->List S->Prop}
noncomputable def SK.plain:SK->Option W
 |.old w=>some w
 |.new w=>some w
 |_=>none
noncomputable def SK.look:SK->Option W
 |.old w=>some w
 |.new w=>some w
 |.acc ws=>some (.lst ws)
 |_=>none
noncomputable def sV:Sv->V
 |.inl i=>.int i
 |.inr b=>.bl b
noncomputable def kvV{κ:Type}(kvs:List (κ×Sv)):List (κ×V):=kvs.map fun p=>(p.1,sV p.2)
noncomputable def dO:Dd->HO
 |.k kvs=>.dK (kvV kvs)
noncomputable def isDic:HO->Bool
 |.dK _=>true
 |_=>false
theorem q3i{d:Dd}{u:HO}(h:isDic u=false):dO d≠u:=fun z=>by
 subst z;cases d<;>cases h
def KeysG(G:Hp):List Kx->List Addr->Prop
 |[],[]=>True
 |k::ks,b::bs=>KRep G k (.ref b)/\KeysG G ks bs
 |[],_::_=>False
 |_::_,[]=>False
theorem KeysG.mono(e:Same G G'):∀{ks:List Kx}{bs:List Addr},KeysG G ks bs->KeysG G' ks bs
 |[],[],_=>trivial
 |k::ks,b::bs,h=>⟨KRep.keeps (fun _ _ _ z=>e _ _ z) k h.1,KeysG.mono e h.2⟩
 |[],_::_,h=>h.elim
 |_::_,[],h=>h.elim
def DAt(fz:Bool)(G:Hp)(a:Addr)(sh:Sh)(kvs:List (Kx×V))(kas:List Addr):Prop:=if fz=true then ∃o,G a=some (.frz o (.dT sh kvs kas))else G a=some (.dT sh kvs kas)
theorem DAt.mono{fz:Bool}{sh:Sh}{kvs:List (Kx×V)}{kas:List Addr}(e:Same G G')(h:DAt fz G a sh kvs kas):DAt fz G' a sh kvs kas:=by
 cases fz with
 |true=>obtain⟨o,h⟩:=h;exact⟨o,e _ _ h⟩
 |false=>exact e _ _ h
structure FnCells(G:Hp)(cl:List (Str×Addr))(l:Lm)(zs:List V)(cs:Cs):Prop where
 inj:∀x y c,cl.lookup x=some c->cl.lookup y=some c->x=y
 has:∀x,(x,NameKind.free)∈l.scope.names->∃c,cl.lookup x=some c
 all:∀x c,cl.lookup x=some c->∃o,cs.lookup c=some o
 cel:∀c o,cs.lookup c=some o->G c=some (celO o)/\∃v,o.data=.cell v
 val:∀(i:Nat) y z,l.nf[i]?=some y->zs[i]?=some z->∃c o u,cl.lookup y=some c/\cs.lookup c=some o/\o.data=.cell (some u)/\RelV z u
 len:zs.length=l.nf.length
theorem FnCells.mono{cl:List (Str×Addr)}{l:Lm}{zs:List V}{cs:Cs}(e:Same G G')(h:FnCells G cl l zs cs):FnCells G' cl l zs cs:=⟨h.inj,h.has,h.all,fun c o q=>⟨e _ _ (h.cel c o q).1,(h.cel c o q).2⟩,h.val,h.len⟩
def FnAtG(G:Hp)(l:Lm)(cl:List (Str×Addr))(f:Addr):Prop:=∃pm c' ctv,G f=some (fnO (PySem.W.kla_obj "<lambda>" l.qual l.params l.body l.scope cl pm c' ctv) l.qual c')
inductive RefTo(v:V)(P Q:Addr->List V->Prop):Prop where
 |mk (a:Addr) (xs:List V) (h:v=.ref a) (p:P a xs) (q:Q a xs):RefTo v P Q
inductive ConsOf(xs:List V)(P:V->Prop)(Q:List V->Prop):Prop where
 |mk (x:V) (r:List V) (h:xs=x::r) (p:P x) (q:Q r):ConsOf xs P Q
mutual
def Rep(K:PySem.W.Frag)(G:Hp):W->V->Prop
 |.non,v=>v=.non
 |.bl b,v=>v=.bl b
 |.int i,v=>v=.int i
 |.str x,v=>v=.str x
 |.tup ws,v=>RefTo v (SqT K G) fun _ xs=>Reps K G ws xs
 |.lst ws,v=>RefTo v (SqL K G) fun _ xs=>Reps K G ws xs
 |.exc c,v=>∃e,v=.ref e/\G e=some (excO e c)
 |.dic kvs,v=>∃e,v=.ref e/\G e=some (dO kvs)
 |.dw fz sh ks ws,v=>∃a kvs kas,v=.ref a/\DAt fz G a sh kvs kas/\kvs.map (·.1)=ks/\KeysG G ks kas/\Reps K G ws (kvs.map (·.2))
 |.fn _ l ws,v=>∃f cl zs cs,v=.ref f/\FnAtG G l cl f/\FnCells G cl l zs cs/\Reps K G ws zs
def Reps(K:PySem.W.Frag)(G:Hp):List W->List V->Prop
 |[],xs=>xs=[]
 |w::ws,xs=>ConsOf xs (Rep K G w) (Reps K G ws)
end
mutual
theorem Rep.mono{K:PySem.W.Frag}{G G':Hp}(e:Same G G'):∀(w:W){v:V},Rep K G w v->Rep K G' w v
 |.non,v,h=>h
 |.bl b,v,h=>h
 |.int i,v,h=>h
 |.str x,v,h=>h
 |.tup ws,v,h=>by
  obtain⟨a,xs,rfl,q,r⟩:=h;exact⟨a,xs,rfl,e.tup q,Reps.mono e ws r⟩
 |.lst ws,v,h=>by
  obtain⟨a,xs,rfl,q,r⟩:=h;exact⟨a,xs,rfl,e.seq q,Reps.mono e ws r⟩
 |.exc c,v,h=>by
  obtain⟨a,rfl,q⟩:=h;exact⟨a,rfl,e _ _ q⟩
 |.dic kvs,v,h=>by
  obtain⟨a,rfl,q⟩:=h;exact⟨a,rfl,e _ _ q⟩
 |.dw fz sh ks ws,v,h=>by
  obtain⟨a,kvs,kas,rfl,h1,h2,h3,h4⟩:=h;exact⟨a,kvs,kas,rfl,h1.mono e,h2,h3.mono e,Reps.mono e ws h4⟩
 |.fn i l ws,v,h=>by
  obtain⟨f,cl,zs,cs,rfl,⟨pm,c',ctv,h1⟩,h2,h3⟩:=h;exact⟨f,cl,zs,cs,rfl,⟨pm,c',ctv,e _ _ h1⟩,h2.mono e,Reps.mono e ws h3⟩
theorem Reps.mono{K:PySem.W.Frag}{G G':Hp}(e:Same G G'):∀(ws:List W){xs:List V},Reps K G ws xs->Reps K G' ws xs
 |[],xs,h=>h
 |w::ws,xs,h=>by
  obtain⟨x,r,rfl,h1,h2⟩:=h;exact⟨x,r,rfl,Rep.mono e w h1,Reps.mono e ws h2⟩
end
theorem Reps.length:∀{ws:List W}{xs:List V},Reps K G ws xs->xs.length=ws.length
 |[],xs,h=>by cases h;rfl
 |w::ws,xs,h=>by
  obtain⟨x,r,rfl,_,h2⟩:=h;simp[Reps.length h2]
theorem Reps.get:∀{ws:List W}{xs:List V}{i:Nat}{w:W},Reps K G ws xs->ws[i]?=some w->∃x,xs[i]?=some x/\Rep K G w x
 |[],xs,i,w,h,e=>by simp at e
 |w'::ws,xs,0,w,h,e=>by
  obtain⟨x,r,rfl,h1,h2⟩:=h;simp at e;subst e;exact⟨x,rfl,h1⟩
 |w'::ws,xs,i+1,w,h,e=>by
  obtain⟨x,r,rfl,h1,h2⟩:=h;obtain⟨y,e1,e2⟩:=Reps.get (i:=i) h2 (by simpa using e);exact⟨y,by simpa using e1,e2⟩
theorem Reps.getV:∀{ws:List W}{xs:List V}{i:Nat}{x:V},Reps K G ws xs->xs[i]?=some x->∃w,ws[i]?=some w/\Rep K G w x:=fun {ws xs i x} h e=>by
 have hl:=h.length;have hi:i<xs.length:=(w0a.mp e).1;have e2:ws[i]?=some ws[i]:=w0b (by omega);obtain⟨y,e3,r⟩:=h.get e2;rw[e]at e3;cases e3;exact⟨_,e2,r⟩
theorem Reps.append:∀{ws ws':List W}{xs xs':List V},Reps K G ws xs->Reps K G ws' xs'->Reps K G (ws++ws') (xs++xs')
 |[],ws',xs,xs',h,h'=>by cases h;exact h'
 |w::ws,ws',xs,xs',h,h'=>by
  obtain⟨x,r,rfl,h1,h2⟩:=h;exact⟨x,r++xs',rfl,h1,Reps.append h2 h'⟩
theorem Reps.one{x:V}(h:Rep K G w x):Reps K G [w] [x]:=⟨x,[],rfl,h,rfl⟩
theorem Reps.take:∀(n:Nat){ws:List W}{xs:List V},Reps K G ws xs->Reps K G (ws.take n) (xs.take n)
 |0,_,_,_=>rfl
 |n+1,[],_,h=>by cases h;rfl
 |n+1,w::ws,_,h=>by
  obtain⟨x,r,rfl,h1,h2⟩:=h;exact⟨x,r.take n,rfl,h1,Reps.take n h2⟩
theorem Reps.drop:∀(n:Nat){ws:List W}{xs:List V},Reps K G ws xs->Reps K G (ws.drop n) (xs.drop n)
 |0,_,_,h=>h
 |n+1,[],_,h=>by cases h;rfl
 |n+1,w::ws,_,h=>by
  obtain⟨x,r,rfl,h1,h2⟩:=h;exact Reps.drop n h2
theorem Reps.dropLast(h:Reps K G ws xs):Reps K G ws.dropLast xs.dropLast:=by
 rw[w3t,w3t,h.length];exact h.take _
theorem Reps.set:∀(i:Nat){ws:List W}{xs:List V}{w:W}{x:V},Reps K G ws xs->Rep K G w x->Reps K G (ws.set i w) (xs.set i x)
 |_,[],_,_,_,h,_=>by cases h;rfl
 |0,w'::ws,_,w,x,h,q=>by
  obtain⟨y,r,rfl,h1,h2⟩:=h;exact⟨x,r,rfl,q,h2⟩
 |i+1,w'::ws,_,w,x,h,q=>by
  obtain⟨y,r,rfl,h1,h2⟩:=h;exact⟨y,r.set i x,rfl,h1,Reps.set i h2 q⟩
structure Zt where
 H:Hp
 G:Hp
 io:List Addr
variable{Z Z':Zt}
def FzAt(Z:Zt)(G H:Hp)(l:Addr)(o:Obj)(ys:List V):Prop:=H l=some (.frz o (.lst ys))/\G l=none/\Z.H l=none
def NestIn(K:PySem.W.Frag)(Z:Zt)(G H:Hp):List Addr->List (List W)->Prop
 |[],[]=>True
 |l::ls,ws::wss=>(∃o ys,FzAt Z G H l o ys/\Reps K G ws ys)/\NestIn K Z G H ls wss
 |[],_::_=>False
 |_::_,[]=>False
inductive NestOk(K:PySem.W.Frag)(Z:Zt)(G H:Hp)(wss:List (List W))(v:Option V):Prop where
 |mk (a:Addr) (ls:List Addr) (h1:v=some (.ref a)) (h2:G a=some (.lst (ls.map V.ref))) (h3:ls.Nodup) (h4:NestIn K Z G H ls wss):NestOk K Z G H wss v
theorem NestIn.move(sg:Same G G')(hf:∀l o ys,H l=some (.frz o (.lst ys))->G l=none->Z.H l=none->H' l=some (.frz o (.lst ys))/\G' l=none/\Z'.H l=none):∀{ls:List Addr}{wss:List (List W)},NestIn K Z G H ls wss->NestIn K Z' G' H' ls wss
 |[],[],_=>trivial
 |l::ls,ws::wss,⟨⟨o,ys,⟨h1,h2,h3⟩,h4⟩,h⟩=>⟨⟨o,ys,hf l o ys h1 h2 h3,Reps.mono sg ws h4⟩,h.move sg hf⟩
 |[],_::_,h=>h.elim
 |_::_,[],h=>h.elim
theorem NestOk.move{wss:List (List W)}{v:Option V}(q:NestOk K Z G H wss v)(sg:Same G G')(hf:∀l o ys,H l=some (.frz o (.lst ys))->G l=none->Z.H l=none->H' l=some (.frz o (.lst ys))/\G' l=none/\Z'.H l=none):NestOk K Z' G' H' wss v:=by
 obtain⟨a,ls,h1,h2,h3,h4⟩:=q;exact⟨a,ls,h1,sg _ _ h2,h3,h4.move sg hf⟩
inductive DwOk(K:PySem.W.Frag)(Z:Zt)(G H:Hp)(sh:Sh)(ks:List Kx)(ws:List W)(v:Option V):Prop where
 |mk (a:Addr) (kvs:List (Kx×V)) (kas:List Addr) (h1:v=some (.ref a)) (h2:H a=some (.dT sh kvs kas)) (h3:G a=none) (h4:Z.H a=none) (h5:kvs.map (·.1)=ks) (h6:KeysG G ks kas) (h7:Reps K G ws (kvs.map (·.2))):DwOk K Z G H sh ks ws v
theorem DwOk.move{sh:Sh}{ks:List Kx}{v:Option V}(q:DwOk K Z G H sh ks ws v)(sg:Same G G')(hf:∀a kvs kas,H a=some (.dT sh kvs kas)->G a=none->Z.H a=none->H' a=some (.dT sh kvs kas)/\G' a=none/\Z'.H a=none):DwOk K Z' G' H' sh ks ws v:=by
 obtain⟨a,kvs,kas,h1,h2,h3,h4,h5,h6,h7⟩:=q;obtain⟨k1,k2,k3⟩:=hf a kvs kas h2 h3 h4;exact⟨a,kvs,kas,h1,k1,k2,k3,h5,h6.mono sg,Reps.mono sg ws h7⟩
mutual
def RepN(K:PySem.W.Frag)(Z:Zt)(G:Hp):W->V->Prop
 |.non,v=>v=.non
 |.bl b,v=>v=.bl b
 |.int i,v=>v=.int i
 |.str x,v=>v=.str x
 |.tup ws,v=>RefTo v (SqT K G) fun _ xs=>RepNs K Z G ws xs
 |.lst ws,v=>RefTo v (fun a xs=>G a=some (.lst xs)) fun a xs=>Z.H a=none/\RepNs K Z G ws xs
 |.exc _,_=>False
 |.dic _,_=>False
 |.dw _ _ _ _,_=>False
 |.fn _ _ _,_=>False
def RepNs(K:PySem.W.Frag)(Z:Zt)(G:Hp):List W->List V->Prop
 |[],xs=>xs=[]
 |w::ws,xs=>ConsOf xs (RepN K Z G w) (RepNs K Z G ws)
end
mutual
theorem RepN.rep{K:PySem.W.Frag}{Z:Zt}{G:Hp}:∀(w:W){v:V},RepN K Z G w v->Rep K G w v
 |.non,_,h=>h
 |.bl _,_,h=>h
 |.int _,_,h=>h
 |.str _,_,h=>h
 |.tup ws,_,⟨a,xs,e,q,r⟩=>⟨a,xs,e,q,RepNs.reps ws r⟩
 |.lst ws,_,⟨a,xs,e,q,_,r⟩=>⟨a,xs,e,.inl (.inl q),RepNs.reps ws r⟩
 |.exc _,_,h=>h.elim
 |.dic _,_,h=>h.elim
 |.dw _ _ _ _,_,h=>h.elim
 |.fn _ _ _,_,h=>h.elim
theorem RepNs.reps{K:PySem.W.Frag}{Z:Zt}{G:Hp}:∀(ws:List W){vs:List V},RepNs K Z G ws vs->Reps K G ws vs
 |[],_,h=>h
 |w::ws,_,⟨x,r,e,p,q⟩=>⟨x,r,e,RepN.rep w p,RepNs.reps ws q⟩
end
mutual
theorem RepN.move{K:PySem.W.Frag}{Z Z':Zt}{G G':Hp}(sg:Same G G')(hz:∀a xs,G a=some (.lst xs)->Z.H a=none->Z'.H a=none):∀(w:W){v:V},RepN K Z G w v->RepN K Z' G' w v
 |.non,_,h=>h
 |.bl _,_,h=>h
 |.int _,_,h=>h
 |.str _,_,h=>h
 |.tup ws,_,⟨a,xs,e,q,r⟩=>⟨a,xs,e,sg.tup q,RepNs.move sg hz ws r⟩
 |.lst ws,_,⟨a,xs,e,q,n,r⟩=>⟨a,xs,e,sg _ _ q,hz _ _ q n,RepNs.move sg hz ws r⟩
 |.exc _,_,h=>h.elim
 |.dic _,_,h=>h.elim
 |.dw _ _ _ _,_,h=>h.elim
 |.fn _ _ _,_,h=>h.elim
theorem RepNs.move{K:PySem.W.Frag}{Z Z':Zt}{G G':Hp}(sg:Same G G')(hz:∀a xs,G a=some (.lst xs)->Z.H a=none->Z'.H a=none):∀(ws:List W){vs:List V},RepNs K Z G ws vs->RepNs K Z' G' ws vs
 |[],_,h=>h
 |w::ws,_,⟨x,r,e,p,q⟩=>⟨x,r,e,RepN.move sg hz w p,RepNs.move sg hz ws q⟩
end
inductive AccOk(K:PySem.W.Frag)(Z:Zt)(G H:Hp)(ws:List W)(v:Option V):Prop where
 |mk (a:Addr) (o:Obj) (xs:List V) (h1:v=some (.ref a)) (h2:FzAt Z G H a o xs) (h3:RepNs K Z G ws xs):AccOk K Z G H ws v
inductive ThroOk(K:PySem.W.Frag)(Z:Zt)(G H:Hp)(us ws vs:List W)(v:Option V):Prop where
 |mk (t l:Addr) (o:Obj) (xs ys zs:List V) (h1:v=some (.ref t)) (h2:Z.G t=some (.tup (xs++.ref l::zs))) (h3:G t=some (.tup (xs++.ref l::zs))) (h4:FzAt Z G H l o ys) (h5:Reps K Z.G us xs/\Reps K Z.G ws ys/\Reps K Z.G vs zs) (h6:Reps K G us xs/\Reps K G ws ys/\Reps K G vs zs):ThroOk K Z G H us ws vs v
inductive TnOk(K:PySem.W.Frag)(Z:Zt)(G H:Hp)(us:List W)(wss:List (List W))(v:Option V):Prop where
 |mk (t l:Addr) (o:Obj) (ls:List Addr) (xs:List V) (h1:v=some (.ref t)) (h2:G t=some (.tup (xs++[.ref l]))) (h3:FzAt Z G H l o (ls.map V.ref)) (h4:ls.Nodup/\l∉ls) (h5:Reps K G us xs) (h6:NestIn K Z G H ls wss):TnOk K Z G H us wss v
inductive PtOk(K:PySem.W.Frag)(Z:Zt)(G H:Hp)(us ws:List W)(w:W)(v:Option V):Prop where
 |mk (p t l:Addr) (o:Obj) (xs ys:List V) (x:V) (h1:v=some (.ref p)) (h2:G p=some (.tup [.ref t,x])) (h3:G t=some (.tup (xs++[.ref l]))) (h4:FzAt Z G H l o ys) (h5:Reps K G us xs) (h6:Reps K G ws ys) (h7:Rep K G w x):PtOk K Z G H us ws w v
def XOk(K:PySem.W.Frag)(Z:Zt)(G H:Hp):SK->Option V->Prop
 |.old w,v=>∃u,v=some u/\Rep K Z.G w u/\Rep K G w u
 |.new w,v=>∃u,v=some u/\RepN K Z G w u
 |.acc ws,v=>AccOk K Z G H ws v
 |.thro us ws vs,v=>ThroOk K Z G H us ws vs v
 |.tn us wss,v=>TnOk K Z G H us wss v
 |.pt us ws w,v=>PtOk K Z G H us ws w v
theorem XOk.move{k:SK}{v:Option V}(q:XOk K Z G H k v)(sg:Same G G')(hf:∀l o ys,H l=some (.frz o (.lst ys))->G l=none->Z.H l=none->H' l=some (.frz o (.lst ys))/\G' l=none/\Z.H l=none):XOk K Z G' H' k v:=by
 cases k with
 |old w=>obtain⟨u,h1,h2,h3⟩:=q;exact⟨u,h1,h2,Rep.mono sg w h3⟩
 |new w=>obtain⟨u,h1,h2⟩:=q;exact⟨u,h1,RepN.move sg (fun _ _ _ z=>z) w h2⟩
 |acc ws=>obtain⟨a,o,xs,h1,⟨h2,h3,h4⟩,h5⟩:=q;exact⟨a,o,xs,h1,hf _ _ _ h2 h3 h4,RepNs.move sg (fun _ _ _ z=>z) ws h5⟩
 |tn us wss=>obtain⟨t,l,o,ls,xs,h1,h2,⟨h3,h4,h5⟩,h6,h7,h8⟩:=q;exact⟨t,l,o,ls,xs,h1,sg _ _ h2,hf _ _ _ h3 h4 h5,h6,Reps.mono sg us h7,h8.move sg hf⟩
 |pt us ws w=>obtain⟨p,t,l,o,xs,ys,x,h1,h2,h3,⟨h4,h5,h6⟩,h7,h8,h9⟩:=q;exact⟨p,t,l,o,xs,ys,x,h1,sg _ _ h2,sg _ _ h3,hf _ _ _ h4 h5 h6,Reps.mono sg us h7,Reps.mono sg ws h8,Rep.mono sg w h9⟩
 |thro us ws vs=>obtain⟨t,l,o,xs,ys,zs,h1,h2,h3,⟨h4,h5,h6⟩,h7,h8,h9,h10⟩:=q;exact⟨t,l,o,xs,ys,zs,h1,h2,sg _ _ h3,hf _ _ _ h4 h5 h6,h7,Reps.mono sg us h8,Reps.mono sg ws h9,Reps.mono sg vs h10⟩
def IoOk(Z:Zt):Option Nat->Addr->Prop
 |none,a=>Z.H a=none
 |some j,a=>Z.io[j]?=some a
theorem IoOk.io(h:IoOk Z b a):a∈Z.io\/Z.H a=none:=by
 cases b with
 |none=>exact .inr h
 |some j=>exact .inl (w1x h)
inductive OwnOk(K:PySem.W.Frag)(Z:Zt)(G H:Hp)(b:Option Nat)(ws:List W)(v:Option V):Prop where
 |mk (a:Addr) (xs:List V) (h1:v=some (.ref a)) (h2:H a=some (.lst xs)) (h3:G a=none) (h4:IoOk Z b a) (h5:Reps K G ws xs):OwnOk K Z G H b ws v
inductive DicOk(Z:Zt)(G H:Hp)(kvs:Dd)(v:Option V):Prop where
 |mk (a:Addr) (h1:v=some (.ref a)) (h2:H a=some (dO kvs)) (h3:G a=none) (h4:Z.H a=none):DicOk Z G H kvs v
inductive ThrOk(K:PySem.W.Frag)(Z:Zt)(G H:Hp)(us ws vs:List W)(v:Option V):Prop where
 |mk (t l:Addr) (o:Obj) (xs ys zs:List V) (h1:v=some (.ref t)) (h2:G t=some (.tup (xs++.ref l::zs))) (h3:H l=some (.frz o (.lst ys))) (h4:G l=none) (h5:Z.H l=none) (h6:Reps K G us xs/\Reps K G ws ys/\Reps K G vs zs):ThrOk K Z G H us ws vs v
def SlotOk(K:PySem.W.Frag)(Z:Zt)(G H:Hp):S->Option V->Prop
 |.no,_=>True
 |.fr w,v=>∃u,v=some u/\Rep K G w u
 |.own b ws,v=>OwnOk K Z G H b ws v
 |.dic kvs,v=>DicOk Z G H kvs v
 |.thr us ws vs,v=>ThrOk K Z G H us ws vs v
 |.nest wss,v=>NestOk K Z G H wss v
 |.dw sh ks ws,v=>DwOk K Z G H sh ks ws v
 |.x k,v=>XOk K Z G H k v
structure Rel(K:PySem.W.Frag)(Z:Zt)(G:Hp)(σ:St)(H:Hp)(e:List S):Prop where
 sub:Same G H
 slot:∀(i:Nat)(s:S),e[i]?=some s->SlotOk K Z G H s (σ[i]?.getD none)
 len:e.length=σ.length
 dis:∀(i j:Nat)(b b':Option Nat)(ws ws':List W)(a:Addr),e[i]?=some (.own b ws)->e[j]?=some (.own b' ws')->σ[i]?=some (some (.ref a))->σ[j]?=some (some (.ref a))->i=j
 ent:∀a o,Z.H a=some o->a∉Z.io->H a=some o
 ion:∀a∈Z.io,H a≠none
 gen:∀a,Z.H a≠none->G a=Z.G a
inductive AtG(K:PySem.W.Frag)(Z:Zt)(σ:St)(H:Hp)(P:Hp->List S->Prop):Prop where
 |mk (G:Hp) (e:List S) (r:Rel K Z G σ H e) (h:P G e):AtG K Z σ H P
structure Grow(G H G' H':Hp):Prop where
 hh:Same H H'
 gg:Same G G'
 sub:Same G' H'
 new:∀a,H a≠none->G' a=G a
theorem Grow.refl(s:Same G H):Grow G H G H:=⟨.refl _,.refl _,s,fun _ _=>rfl⟩
theorem x81(e:Same H H')(h:H a≠none):H' a≠none:=by
 cases q:H a with
 |none=>exact absurd q h
 |some o=>rw[e a o q];simp
theorem Grow.laid(s:Same G H){D:Addr}(h:H D=none)(o:HO):Grow G H (upd G D o) (upd H D o) where
 hh:=q3h h o
 gg:=q3h (s.free h) o
 sub:=fun b u e=>by
  by_cases hb:b=D
  ·subst hb;rw[q0o]at e |-;exact e
  ·rw[q0f hb]at e |-;exact s b u e
 new:=fun a ha=>by rw[q0f (fun z=>ha (by rw[z];exact h))]
theorem Grow.hid(s:Same G H){D:Addr}(h:H D=none)(o:HO):Grow G H G (upd H D o) where
 hh:=q3h h o
 gg:=.refl _
 sub:=fun b u e=>by
  have:=s b u e;rw[q0f (q0r this h)];exact this
 new:=fun a ha=>rfl
theorem Rel.grow(r:Rel K Z G σ H e)(g:Grow G H G' H'):Rel K Z G' σ H' e where
 sub:=g.sub
 slot:=fun i s h=>by
  have q:=r.slot i s h;cases s with
  |no=>trivial
  |fr w=>
   obtain⟨u,h1,h2⟩:=q;exact⟨u,h1,Rep.mono g.gg w h2⟩
  |own b ws=>
   obtain⟨a,xs,h1,h2,h3,h4,h5⟩:=q;exact⟨a,xs,h1,g.hh _ _ h2,by rw[g.new a (by rw[h2];simp)];exact h3,h4,Reps.mono g.gg ws h5⟩
  |dic kvs=>
   obtain⟨a,h1,h2,h3,h4⟩:=q;exact⟨a,h1,g.hh _ _ h2,by rw[g.new a (by rw[h2];simp)];exact h3,h4⟩
  |thr us ws vs=>
   obtain⟨t,l,o,xs,ys,zs,h1,h2,h3,h4,h5,h6,h7,h8⟩:=q;exact⟨t,l,o,xs,ys,zs,h1,g.gg _ _ h2,g.hh _ _ h3,by rw[g.new l (by rw[h3];simp)];exact h4,h5,Reps.mono g.gg us h6,Reps.mono g.gg ws h7,Reps.mono g.gg vs h8⟩
  |nest wss=>exact NestOk.move q g.gg fun l o ys h1 h2 h3=>⟨g.hh _ _ h1,by rw[g.new l (by rw[h1];simp)];exact h2,h3⟩
  |x k=>exact XOk.move q g.gg fun l o ys h1 h2 h3=>⟨g.hh _ _ h1,by rw[g.new l (by rw[h1];simp)];exact h2,h3⟩
  |dw sh ks ws=>exact DwOk.move q g.gg fun l o ys h1 h2 h3=>⟨g.hh _ _ h1,by rw[g.new l (by rw[h1];simp)];exact h2,h3⟩
 len:=r.len
 dis:=r.dis
 ent:=fun a o h n=>g.hh _ _ (r.ent a o h n)
 ion:=fun a h=>x81 g.hh (r.ion a h)
 gen:=fun a h=>by
  have:H a≠none:=by
   cases q:Z.H a with
   |none=>exact absurd q h
   |some o=>
    by_cases hi:a∈Z.io
    ·exact r.ion a hi
    ·rw[r.ent a o q hi];simp
  rw[g.new a this];exact r.gen a h
theorem Rel.own(r:Rel K Z G σ H e){i:Nat}(h:e[i]?=some (.own b ws)):∃a xs,σ[i]?=some (some (.ref a))/\H a=some (.lst xs)/\G a=none/\(IoOk Z b a)/\Reps K G ws xs:=by
 obtain⟨a,xs,h1,h2,h3,h4,h5⟩:=r.slot i _ h;refine⟨a,xs,?_,h2,h3,h4,h5⟩;cases q:σ[i]? with
 |none=>rw[q]at h1;cases h1
 |some z=>rw[q]at h1;rw[show z=some (V.ref a)from h1]
theorem Rel.fr(r:Rel K Z G σ H e)(h:e[i]?=some (.fr w)):∃v,σ[i]?=some (some v)/\Rep K G w v:=by
 obtain⟨v,h1,h2⟩:=r.slot i _ h;refine⟨v,?_,h2⟩;cases q:σ[i]? with
 |none=>rw[q]at h1;cases h1
 |some z=>rw[q]at h1;rw[show z=some v from h1]
theorem Rel.at(r:Rel K Z G σ H e){s:S}(h:e[i]?=some s)(hs:SlotOk K Z G H s (σ[i]?.getD none)->σ[i]?.getD none=some v):σ[i]?=some (some v):=by
 have h1:=hs (r.slot i _ h);cases q:σ[i]? with
 |none=>rw[q]at h1;cases h1
 |some z=>rw[q]at h1;rw[show z=some v from h1]
theorem Rel.plain(r:Rel K Z G σ H e){k:SK}(h:e[i]?=some (.x k))(hk:k.plain=some w):∃v,σ[i]?=some (some v)/\Rep K G w v:=by
 have q:=r.slot i _ h;cases k with
 |old w'=>cases hk;obtain⟨v,h1,_,h2⟩:=q;exact⟨v,r.at h fun _=>h1,h2⟩
 |new w'=>cases hk;obtain⟨v,h1,h2⟩:=q;exact⟨v,r.at h fun _=>h1,RepN.rep _ h2⟩
 |_=>cases hk
theorem Rel.mut(r:Rel K Z G σ H e){i:Nat}{ws':List W}{xs':List V}(h:e[i]?=some (.own b ws))(ha:σ[i]?=some (some (.ref a)))(q:Reps K G ws' xs'):Rel K Z G σ (upd H a (.lst xs')) (e.set i (.own b ws')):=by
 obtain⟨a',xs,h1,h2,h3,h4,h5⟩:=r.own h;rw[ha]at h1;cases h1;have hi:i<e.length:=(w0a.mp h).1;refine⟨fun c o z=>?_,fun j s z=>?_,by simpa using r.len,fun j k b1 b2 w1 w2 c z1 z2 z3 z4=>?_,fun c o z n=>?_,fun c z=>?_,r.gen⟩
 ·rw[q0f (q0r z h3)];exact r.sub c o z
 ·by_cases hj:j=i
  ·subst hj;rw[w0h hi]at z;cases z;exact⟨a,xs',by rw[ha];rfl,q0o,h3,h4,q⟩
  ·rw[w0f (fun z=>hj z.symm)]at z
   have y:=r.slot j s z;cases s with
   |no=>trivial
   |fr w=>exact y
   |own b2 w2=>
    obtain⟨c,ys,y1,y2,y3,y4,y5⟩:=y;refine⟨c,ys,y1,?_,y3,y4,y5⟩;rw[q0f];exact y2;rintro rfl;obtain⟨c',_,z1,_⟩:=r.own z;rw[z1]at y1;cases y1;exact hj (r.dis j i _ _ _ _ _ z h z1 ha)
   |dic kvs=>
    obtain⟨c,y1,y2,y3,y4⟩:=y;refine⟨c,y1,?_,y3,y4⟩;rw[q0f (q00 y2 h2 (q3i rfl))];exact y2
   |thr us w2 vs=>
    obtain⟨t,l,o,xs2,ys,zs,y1,y2,y3,y4,y5,y6⟩:=y;refine⟨t,l,o,xs2,ys,zs,y1,y2,?_,y4,y5,y6⟩;rw[q0f (q00 y3 h2 (fun z=>nomatch z))];exact y3
   |nest wss=>exact NestOk.move y (.refl _) fun l o ys k1 k2 k3=>⟨by rw[q0f (q00 k1 h2 (fun z=>nomatch z))];exact k1,k2,k3⟩
   |x k=>exact XOk.move y (.refl _) fun l o ys k1 k2 k3=>⟨by rw[q0f (q00 k1 h2 (fun z=>nomatch z))];exact k1,k2,k3⟩
   |dw sh ks ws=>exact DwOk.move y (.refl _) fun l o ys k1 k2 k3=>⟨by rw[q0f (q00 k1 h2 (fun z=>nomatch z))];exact k1,k2,k3⟩
 ·have old:∀(k:Nat)(bb:Option Nat)(ww:List W),(e.set i (S.own b ws'))[k]?=some (.own bb ww)->∃b' w',e[k]?=some (.own b' w'):=fun k bb ww z=>by
   by_cases hk:k=i
   ·subst hk;exact⟨_,_,h⟩
   ·rw[w0f (fun z=>hk z.symm)]at z;exact⟨_,_,z⟩
  obtain⟨_,_,q1⟩:=old _ _ _ z1;obtain⟨_,_,q2⟩:=old _ _ _ z2;exact r.dis _ _ _ _ _ _ _ q1 q2 z3 z4
 ·by_cases hc:c=a
  ·subst hc;exfalso;rcases h4.io with h4|h4
   ·exact n h4
   ·rw[h4]at z;cases z
  ·rw[q0f hc];exact r.ent c o z n
 ·by_cases hc:c=a
  ·subst hc;rw[q0o];simp
  ·rw[q0f hc];exact r.ion c z
theorem Rel.freeze(r:Rel K Z G σ H e)(h:e[i]?=some (.own none ws)):∃v G',σ[i]?=some (some v)/\Same G G'/\Rep K G' (.lst ws) v/\Rel K Z G' σ H (e.set i (.fr (.lst ws))):=by
 obtain⟨a,xs,h1,h2,h3,h4,h5⟩:=r.own h;have h4:Z.H a=none:=h4;have sg:Same G (upd G a (.lst xs)):=q3h h3 _;have hi:i<e.length:=(w0a.mp h).1;have rp:Rep K (upd G a (.lst xs)) (.lst ws) (.ref a):=⟨a,xs,rfl,SqL.of q0o,Reps.mono sg ws h5⟩;refine⟨.ref a,upd G a (.lst xs),h1,sg,rp,⟨fun c o z=>?_,fun j s z=>?_,by simpa using r.len,fun j k b1 b2 w1 w2 c z1 z2 z3 z4=>?_,r.ent,r.ion,fun c z=>?_⟩⟩
 ·by_cases hc:c=a
  ·subst hc;rw[q0o]at z;cases z;exact h2
  ·rw[q0f hc]at z;exact r.sub c o z
 ·by_cases hj:j=i
  ·subst hj;rw[w0h hi]at z;cases z;exact⟨.ref a,by rw[h1];rfl,rp⟩
  ·rw[w0f (fun z=>hj z.symm)]at z
   have y:=r.slot j s z;cases s with
   |no=>trivial
   |fr w=>
    obtain⟨u,y1,y2⟩:=y;exact⟨u,y1,Rep.mono sg w y2⟩
   |own b2 w2=>
    obtain⟨c,ys,y1,y2,y3,y4,y5⟩:=y;refine⟨c,ys,y1,y2,?_,y4,Reps.mono sg w2 y5⟩;rw[q0f];exact y3;rintro rfl;obtain⟨c',_,z1,_⟩:=r.own z;rw[z1]at y1;cases y1;exact hj (r.dis j i _ _ _ _ _ z h z1 h1)
   |dic kvs=>
    obtain⟨c,y1,y2,y3,y4⟩:=y;refine⟨c,y1,y2,?_,y4⟩;rw[q0f (q00 y2 h2 (q3i rfl))];exact y3
   |thr us w2 vs=>
    obtain⟨t,l,o,xs2,ys,zs,y1,y2,y3,y4,y5,y6,y7,y8⟩:=y;refine⟨t,l,o,xs2,ys,zs,y1,sg _ _ y2,y3,?_,y5,Reps.mono sg us y6,Reps.mono sg w2 y7,Reps.mono sg vs y8⟩;rw[q0f (q00 y3 h2 (fun z=>nomatch z))];exact y4
   |nest wss=>exact NestOk.move y sg fun l o ys k1 k2 k3=>⟨k1,by rw[q0f (q00 k1 h2 (fun z=>nomatch z))];exact k2,k3⟩
   |x k=>exact XOk.move y sg fun l o ys k1 k2 k3=>⟨k1,by rw[q0f (q00 k1 h2 (fun z=>nomatch z))];exact k2,k3⟩
   |dw sh ks ws=>exact DwOk.move y sg fun l o ys k1 k2 k3=>⟨k1,by rw[q0f (q00 k1 h2 (fun z=>nomatch z))];exact k2,k3⟩
 ·have old:∀(k:Nat)(bb:Option Nat)(ww:List W),(e.set i (S.fr (W.lst ws)))[k]?=some (.own bb ww)->e[k]?=some (.own bb ww):=fun k bb ww z=>by
   by_cases hk:k=i
   ·subst hk;rw[w0h hi]at z;cases z
   ·rw[w0f (fun z=>hk z.symm)]at z;exact z
  exact r.dis _ _ _ _ _ _ _ (old _ _ _ z1) (old _ _ _ z2) z3 z4
 ·by_cases hc:c=a
  ·subst hc;exact absurd h4 z
  ·rw[q0f hc];exact r.gen c z
def Free(σ:St)(e:List S)(a:Addr):Prop:=∀(j:Nat)(b:Option Nat)(ws:List W),e[j]?=some (.own b ws)->σ[j]?≠some (some (.ref a))
theorem Rel.set(r:Rel K Z G σ H e){v:V}(q:Rep K G w v):Rel K Z G (σ.set i (some v)) H (e.set i (.fr w)):=by
 refine⟨r.sub,fun j s z=>?_,by simpa using r.len,fun j k b1 b2 w1 w2 c z1 z2 z3 z4=>?_,r.ent,r.ion,r.gen⟩
 ·by_cases hj:j=i
  ·subst hj
   have hi:j<e.length:=by
    have:=(w0a.mp z).1;simpa using this
   rw[w0h hi]at z;cases z;rw[w0h (by rw[<- r.len];exact hi)];exact⟨v,rfl,q⟩
  ·rw[w0f (fun z=>hj z.symm)]at z |-
   exact r.slot j s z
 ·have old:∀(k:Nat)(bb:Option Nat)(ww:List W),(e.set i (S.fr w))[k]?=some (.own bb ww)->k≠i/\e[k]?=some (.own bb ww):=fun k bb ww z=>by
   by_cases hk:k=i
   ·subst hk
    have hi:k<e.length:=by
     have:=(w0a.mp z).1;simpa using this
    rw[w0h hi]at z;cases z
   ·rw[w0f (fun z=>hk z.symm)]at z;exact⟨hk,z⟩
  obtain⟨n1,q1⟩:=old _ _ _ z1;obtain⟨n2,q2⟩:=old _ _ _ z2;rw[w0f (fun z=>n1 z.symm)]at z3
  rw[w0f (fun z=>n2 z.symm)]at z4
  exact r.dis _ _ _ _ _ _ _ q1 q2 z3 z4
theorem Rel.setOwn(r:Rel K Z G σ H e)(h2:H a=some (.lst xs))(h3:G a=none)(h4:Z.H a=none)(hf:Free σ e a)(q:Reps K G ws xs):Rel K Z G (σ.set i (some (.ref a))) H (e.set i (.own none ws)):=by
 refine⟨r.sub,fun j s z=>?_,by simpa using r.len,fun j k b1 b2 w1 w2 c z1 z2 z3 z4=>?_,r.ent,r.ion,r.gen⟩
 ·by_cases hj:j=i
  ·subst hj
   have hi:j<e.length:=by
    have:=(w0a.mp z).1;simpa using this
   rw[w0h hi]at z;cases z;rw[w0h (by rw[<- r.len];exact hi)];exact⟨a,xs,rfl,h2,h3,h4,q⟩
  ·rw[w0f (fun z=>hj z.symm)]at z |-
   exact r.slot j s z
 ·have both:∀(k:Nat)(bb:Option Nat)(ww:List W),(e.set i (S.own none ws))[k]?=some (.own bb ww)->(σ.set i (some (.ref a)))[k]?=some (some (.ref c))->(k=i/\c=a)\/(k≠i/\e[k]?=some (.own bb ww)/\σ[k]?=some (some (.ref c))/\c≠a):=fun k bb ww z y=>by
   by_cases hk:k=i
   ·subst hk
    have hi:k<e.length:=by
     have:=(w0a.mp z).1;simpa using this
    rw[w0h (by rw[<- r.len];exact hi)]at y;cases y;exact .inl ⟨rfl,rfl⟩
   ·rw[w0f (fun z=>hk z.symm)]at z y
    exact .inr ⟨hk,z,y,fun e=>hf k bb ww z (by rw[y,e])⟩
  rcases both _ _ _ z1 z3 with⟨e1,c1⟩|⟨n1,q1,p1,c1⟩<;>rcases both _ _ _ z2 z4 with⟨e2,c2⟩|⟨n2,q2,p2,c2⟩
  ·rw[e1,e2]
  ·exact absurd c1 c2
  ·exact absurd c2 c1
  ·exact r.dis _ _ _ _ _ _ _ q1 q2 p1 p2
inductive R(α:Type) where
 |ok (a:α) (e:List S)|ex (c:Value) (e:List S)|no
noncomputable abbrev Den(α:Type):=List S->R α
variable{dA:Den (List W)}
noncomputable def R.bind{β:Type}:R α->(α->List S->R β)->R β
 |.ok a e,k=>k a e
 |.ex c e,_=>.ex c e
 |.no,_=>.no
def R.holds(r:R α)(P:α->List S->Prop)(E:Value->List S->Prop):Prop:=match r with
 |.ok a e=>P a e
 |.ex c e=>E c e
 |.no=>False
theorem R.holds_bind{β:Type}{r:R α}{k:α->List S->R β}{P:β->List S->Prop}:(r.bind k).holds P E↔r.holds (fun a e=>(k a e).holds P E) E:=by
 cases r<;>rfl
theorem R.holds.imp{r:R α}{P P':α->List S->Prop}{E':Value->List S->Prop}(h:r.holds P E)(p:∀a e,P a e->P' a e)(x:∀c e,E c e->E' c e):r.holds P' E':=by
 cases r with
 |ok a e=>exact p a e h
 |ex c e=>exact x c e h
 |no=>exact h
noncomputable def ofOpt(o:Option α)(e:List S):R α:=match o with
 |some a=>.ok a e
 |none=>.no
theorem ofOpt_holds{o:Option α}{P:α->List S->Prop}:(ofOpt o e).holds P E↔∃a,o=some a/\P a e:=by
 cases o with
 |none=>exact⟨fun h=>h.elim,fun⟨_,h,_⟩=>nomatch h⟩
 |some a=>exact⟨fun h=>⟨a,rfl,h⟩,fun⟨_,h,q⟩=>by cases h;exact q⟩
inductive SR where
 |nx (e:List S)|rt (s:S) (e:List S)|bk (e:List S)|ct (e:List S)|ex (c:Value) (e:List S)|no
section
variable(K:PySem.W.Frag)(Z:Zt)(EE:St->XK)
abbrev XH(σ:St)(G:Hp):Value->List S->Prop:=fun c e'=>∀G' H',Rel K Z G' σ H' e'->Same G G'->EE σ c none H'
def liftE(d:Den W):TE:=fun σ H Q=>AtG K Z σ H fun G e=>(d e).holds (fun w e'=>∀G' v H',Rel K Z G' σ H' e'->Same G G'->Rep K G' w v->Q v H') (XH K Z EE σ G)
def liftA(d:Den (List W)):TA:=fun σ H Q=>AtG K Z σ H fun G e=>(d e).holds (fun ws e'=>∀G' vs H',Rel K Z G' σ H' e'->Same G G'->Reps K G' ws vs->Q vs H') (XH K Z EE σ G)
def liftT(d:Den Bool):TT:=fun σ H Q=>AtG K Z σ H fun G e=>(d e).holds (fun b e'=>∀G' H',Rel K Z G' σ H' e'->Same G G'->Q b H') (XH K Z EE σ G)
def liftF(d:Den (List W)):TE:=fun σ H Q=>AtG K Z σ H fun G e=>(d e).holds (fun ws e'=>∀G' a xs H',Rel K Z G' σ H' e'->Same G G'->H' a=some (.lst xs)->G' a=none->Z.H a=none->Free σ e' a->Reps K G' ws xs->Q (.ref a) H') (XH K Z EE σ G)
def PostS(D:Ends)(G:Hp):SR->Prop
 |.nx e'=>∀G' σ' H',Rel K Z G' σ' H' e'->Same G G'->D.nx σ' H'
 |.bk e'=>∀G' σ' H',Rel K Z G' σ' H' e'->Same G G'->D.bk σ' H'
 |.ct e'=>∀G' σ' H',Rel K Z G' σ' H' e'->Same G G'->D.ct σ' H'
 |.rt s e'=>∀G' σ' v H',Rel K Z G' σ' H' e'->Same G G'->SlotOk K Z G' H' s (some v)->D.rt v H'
 |.ex c e'=>∀G' σ' H',Rel K Z G' σ' H' e'->Same G G'->EE σ' c none H'
 |.no=>False
def liftS(d:List S->SR):TS:=fun D σ H=>AtG K Z σ H fun G e=>PostS K Z EE D G (d e)
end
section
variable(Z:Zt)(X:Cx)(EE:St->XK)
def DE(e:Expr)(d:Den W):Prop:=PE X e (liftE X.K Z EE d)
def DF(e:Expr)(d:Den (List W)):Prop:=PE X e (liftF X.K Z EE d)
def DT(e:Expr)(d:Den Bool):Prop:=PT X e (liftT X.K Z EE d)
def DW(e:Expr)(d:Den Bool):Prop:=PW X e (liftT X.K Z EE d)
def DA(es:List Expr)(d:Den (List W)):Prop:=PA X es (liftA X.K Z EE d)
def DS(st:Stmt)(d:List S->SR):Prop:=PS X st (liftS X.K Z EE d)
def DSs(sts:List Stmt)(d:List S->SR):Prop:=PSs X sts (liftS X.K Z EE d)
end
theorem PE.mono{e:Expr}{t t':TE}(h:PE X e t)(i:∀σ H Q,t' σ H Q->t σ H Q):PE X e t':=fun pins s σ H Q I q=>h pins s σ H Q I (i σ H Q q)
theorem PT.mono{e:Expr}{t t':TT}(h:PT X e t)(i:∀σ H Q,t' σ H Q->t σ H Q):PT X e t':=fun pins s σ H Q I q=>h pins s σ H Q I (i σ H Q q)
theorem PW.mono{e:Expr}{t t':TT}(h:PW X e t)(i:∀σ H Q,t' σ H Q->t σ H Q):PW X e t':=fun wh pins s σ H Q I q=>h wh pins s σ H Q I (i σ H Q q)
theorem PA.mono{t t':TA}(h:PA X es t)(i:∀σ H Q,t' σ H Q->t σ H Q):PA X es t':=fun p pins s σ H Q I q=>h p pins s σ H Q I (i σ H Q q)
theorem PS.mono{t t':TS}(h:PS X st t)(i:∀D σ H,t' D σ H->t D σ H):PS X st t':=fun pins s σ H D I q=>h pins s σ H D I (i D σ H q)
theorem PSs.mono{st:List Stmt}{t t':TS}(h:PSs X st t)(i:∀D σ H,t' D σ H->t D σ H):PSs X st t':=fun pins s σ H D I q=>h pins s σ H D I (i D σ H q)
section
variable(K:PySem.W.Frag)
def Op2(r:R2)(f:W->W->Option W):Prop:=∀(G H:Hp)(x y:V)(wx wy w:W)(Q:VK),Same G H->Rep K G wx x->Rep K G wy y->f wx wy=some w->(∀G' v H',Grow G H G' H'->Rep K G' w v->Q v H')->r x y H Q
def Op1(r:V->Hp->VK->Prop)(f:W->Option W):Prop:=∀(G H:Hp)(x:V)(wx w:W)(Q:VK),Same G H->Rep K G wx x->f wx=some w->(∀G' v H',Grow G H G' H'->Rep K G' w v->Q v H')->r x H Q
def OpN(r:List V->Hp->VK->Prop)(f:List W->Option W):Prop:=∀(G H:Hp)(xs:List V)(ws:List W)(w:W)(Q:VK),Same G H->Reps K G ws xs->f ws=some w->(∀G' v H',Grow G H G' H'->Rep K G' w v->Q v H')->r xs H Q
end
noncomputable def dC(w:W):Den W:=fun e=>.ok w e
noncomputable def dVar(i:Nat):Den W:=fun e=>match e[i]? with
 |some (.fr w)=>.ok w e
 |some (.own none ws)=>.ok (.lst ws) (e.set i (.fr (.lst ws)))
 |some (.x k)=>match k.plain with
  |some w=>.ok w e
  |none=>.no
 |_=>.no
noncomputable def dOp(f:W->W->Option W)(da db:Den W):Den W:=fun e=>(da e).bind fun x e1=>(db e1).bind fun y e2=>ofOpt (f x y) e2
noncomputable def dUn(f:W->Option W)(da:Den W):Den W:=fun e=>(da e).bind fun x e1=>ofOpt (f x) e1
noncomputable def dTest(da:Den W):Den Bool:=fun e=>(da e).bind fun x e1=>match x with
 |.bl k=>.ok k e1
 |_=>.no
noncomputable def truW:W->Option Bool
 |.non=>some false
 |.bl b=>some b
 |.int i=>some (i != 0)
 |.str x=>if x.length<=16777216 then some ((x.length:Int) != 0)else none
 |.tup xs=>some (!xs.isEmpty)
 |.lst xs=>some (!xs.isEmpty)
 |.exc _=>none
 |.dic _=>none
 |.dw _ _ _ _=>none
 |.fn _ _ _=>none
noncomputable def dTru(da:Den W):Den Bool:=fun e=>(da e).bind fun x e1=>ofOpt (truW x) e1
noncomputable def dAnd(a b:Den Bool):Den Bool:=fun e=>(a e).bind fun x e1=>if x=true then b e1 else .ok false e1
noncomputable def dOr(a b:Den Bool):Den Bool:=fun e=>(a e).bind fun x e1=>if x=true then .ok true e1 else b e1
noncomputable def dNot(a:Den Bool):Den Bool:=fun e=>(a e).bind fun x e1=>.ok (!x) e1
noncomputable def dAndV(a b:Den W):Den W:=fun e=>(a e).bind fun x e1=>match x with
 |.bl true=>b e1
 |.bl false=>.ok (.bl false) e1
 |_=>.no
noncomputable def dOrV(a b:Den W):Den W:=fun e=>(a e).bind fun x e1=>match x with
 |.bl true=>.ok (.bl true) e1
 |.bl false=>b e1
 |_=>.no
noncomputable def dNotV(a:Den W):Den W:=fun e=>(a e).bind fun x e1=>match x with
 |.bl k=>.ok (.bl (!k)) e1
 |_=>.no
noncomputable def dIf(c:Den Bool)(a b:Den W):Den W:=fun e=>(c e).bind fun x e1=>if x=true then a e1 else b e1
noncomputable def dNil:Den (List W):=fun e=>.ok [] e
noncomputable def dCons(a:Den W)(r:Den (List W)):Den (List W):=fun e=>(a e).bind fun x e1=>(r e1).bind fun xs e2=>.ok (x::xs) e2
noncomputable def dTup(a:Den (List W)):Den W:=fun e=>(a e).bind fun xs e1=>if xs.length<=16777216 then .ok (.tup xs) e1 else .no
noncomputable def dLst(a:Den (List W)):Den (List W):=fun e=>(a e).bind fun xs e1=>if xs.length<=16777216 then .ok xs e1 else .no
noncomputable def dFz(a:Den (List W)):Den W:=fun e=>(a e).bind fun xs e1=>.ok (.lst xs) e1
noncomputable def dFn(f:List W->Option W)(a:Den (List W)):Den W:=fun e=>(a e).bind fun xs e1=>ofOpt (f xs) e1
section
variable{a b c e:Expr}{da db:Den W}{dc ta tb:Den Bool}
theorem XH.trans(s:Same G G1){c:Value}{e:List S}(h:XH K Z EE σ G c e):XH K Z EE σ G1 c e:=fun G' H' r q=>h G' H' r (s.trans q)
theorem q0b{i:Int}{j pos}:DE Z X EE (.Constant (.int i) j pos) (dC (.int i)):=PE.mono y8a fun σ H Q ⟨G,e,r,h⟩=>h G (.int i) H r (.refl _) rfl
theorem q3j{i:Bool}{j pos}:DE Z X EE (.Constant (.bool i) j pos) (dC (.bl i)):=PE.mono z2f fun σ H Q ⟨G,e,r,h⟩=>h G (.bl i) H r (.refl _) rfl
theorem x82{j pos}:DE Z X EE (.Constant .none j pos) (dC .non):=PE.mono y8b fun σ H Q ⟨G,e,r,h⟩=>h G .non H r (.refl _) rfl
theorem q0h{i:Str}{j pos}:DE Z X EE (.Constant (.str i) j pos) (dC (.str i)):=PE.mono y8c fun σ H Q ⟨G,e,r,h⟩=>h G (.str i) H r (.refl _) rfl
theorem y1s:∀σ H Q,liftE K Z EE (dVar i) σ H Q->tVar i σ H Q:=by
 rintro σ H Q ⟨G,e,r,h⟩;unfold dVar at h;split at h
 ·rename_i w hw;obtain⟨v,h1,h2⟩:=r.fr hw;exact⟨v,h1,h G v H r (.refl _) h2⟩
 ·rename_i ws hw;obtain⟨v,G',h1,h2,h3,h4⟩:=r.freeze hw;exact⟨v,h1,h G' v H h4 h2 h3⟩
 ·rename_i k hw;cases q:k.plain with
  |some w=>
   rw[q]at h;obtain⟨v,h1,h2⟩:=r.plain hw q;exact⟨v,h1,h G v H r (.refl _) h2⟩
  |none=>rw[q]at h;exact h.elim
 ·exact h.elim
theorem dv(i:Nat)(hN:X.N[i]?=some x:=by rfl)(hv:Vis X.env.scope x:=by walk_at "1")(hd:(x==("__debug__":Str))=false:=by decide)
  (hcd:(x==("__classdict__":Str))=false:=by decide):DE Z X EE (.Name x pos) (dVar i):=PE.mono (pv i hN hv hd hcd) y1s
theorem q5k{r:R2}(hf:Op2 K r f):∀σ H Q,liftE K Z EE (dOp f da db) σ H Q->tOp r (liftE K Z EE da) (liftE K Z EE db) σ H Q:=by
 rintro σ H Q ⟨G,e,rel,h⟩;simp only[dOp,R.holds_bind,ofOpt_holds]at h;refine⟨G,e,rel,h.imp (fun x e1 h G1 v1 H1 r1 s1 p1=>?_) fun _ _ h=>h⟩
 refine⟨G1,e1,r1,h.imp (fun y e2 h G2 v2 H2 r2 s2 p2=>?_) fun _ _ h=>XH.trans s1 h⟩
 obtain⟨w,hw,h⟩:=h;exact hf G2 H2 v1 v2 x y w Q r2.sub (Rep.mono s2 x p1) p2 hw fun G' v H' g p=>h G' v H' (r2.grow g) ((s1.trans s2).trans g.gg) p
theorem q9f{op:Operator}{r:R2}(ho:OpR X (binaryOp op) r)(hf:Op2 X.K r f)(ha:DE Z X EE a da)(hb:DE Z X EE b db):DE Z X EE (.BinOp a op b pos) (dOp f da db):=PE.mono (z2j ho ha hb) (q5k hf)
theorem q6g{op:CmpOp}{r:R2}(ho:OpR X (compareOp op) r)(hf:Op2 X.K r f)(ha:DE Z X EE a da)(hb:DE Z X EE b db)(hm:behindInMarks op b=false):DE Z X EE (.Compare a [op] [b] pos) (dOp f da db):=PE.mono (y4l ho ha hb hm) (q5k hf)
theorem x2h{Q:Bool->Hp->Prop}(h:liftT K Z EE (dTest da) σ H Q):liftE K Z EE da σ H (fun x H'=>∃k,x=.bl k/\Q k H'):=by
 obtain⟨G,e,rel,h⟩:=h;simp only[dTest,R.holds_bind]at h;refine⟨G,e,rel,h.imp (fun x e1 h G1 v1 H1 r1 s1 p1=>?_) fun _ _ h=>h⟩
 cases x with
 |bl k=>
  cases(show v1=V.bl k from p1);exact⟨k,rfl,h G1 H1 r1 s1⟩
 |_=>exact h.elim
theorem q6h{op:CmpOp}{r:R2}(ho:OpR X (compareOp op) r)(hf:Op2 X.K r f)(ha:DE Z X EE a da)(hb:DE Z X EE b db)(hm:behindInMarks op b=false):DT Z X EE (.Compare a [op] [b] pos) (dTest (dOp f da db)):=
 PT.mono (y4m ho ha hb hm) fun σ H Q h=>q5k hf σ H _ (x2h h)
theorem y4v{r:V->Hp->VK->Prop}{f:W->Option W}(hf:Op1 K r f):∀σ H Q,liftE K Z EE (dUn f da) σ H Q->tUn r (liftE K Z EE da) σ H Q:=by
 rintro σ H Q ⟨G,e,rel,h⟩;simp only[dUn,R.holds_bind,ofOpt_holds]at h;refine⟨G,e,rel,h.imp (fun x e1 h G1 v1 H1 r1 s1 p1=>?_) fun _ _ h=>h⟩
 obtain⟨w,hw,h⟩:=h;exact hf G1 H1 v1 x w Q r1.sub p1 hw fun G' v H' g p=>h G' v H' (r1.grow g) (s1.trans g.gg) p
theorem z2n{op:UnaryOp}{r:V->Hp->VK->Prop}{f:W->Option W}(ho:UnR X (unaryOp op) r)(hf:Op1 X.K r f)(ha:DE Z X EE a da):DE Z X EE (.UnaryOp op a pos) (dUn f da):=PE.mono (z2k ho ha) (y4v hf)
theorem y87(s:Same G H){k:Bool}(h:Rep K G w v)(e:truW w=some k):TruV K v H k:=by
 cases w with
 |non=>cases(show v=.non from h);cases e;rfl
 |bl b=>cases(show v=.bl b from h);cases e;rfl
 |int i=>cases(show v=.int i from h);cases e;rfl
 |str x=>
  cases(show v=.str x from h);simp only[truW]at e;split at e
  ·cases e;exact⟨by rw[sizeLine_eq];assumption,rfl⟩
  ·cases e
 |tup ws=>
  obtain⟨p,xs,rfl,q,r⟩:=h;cases e;refine .inr (.inl ⟨xs,s.tup q,?_⟩);have:=r.length;cases ws<;>cases xs<;>simp_all
 |lst ws=>
  obtain⟨p,xs,rfl,q,r⟩:=h;cases e;refine .inl ⟨xs,s.seq q,?_⟩;have:=r.length;cases ws<;>cases xs<;>simp_all
 |exc _=>cases e
 |dic _=>cases e
 |dw _ _ _ _=>cases e
 |fn _ _ _=>cases e
theorem q3q(ha:DE Z X EE a da)(he:∀whole,isTrue a X.env whole=(do let v <- whole;standAt a.pos;holding [v] (truthy v)):=by intro _;rfl):DT Z X EE a (dTru da):=by
 refine PT.mono (y1h ha he) ?_;rintro σ H Q ⟨G,e,rel,h⟩;simp only[dTru,R.holds_bind,ofOpt_holds]at h;refine⟨G,e,rel,h.imp (fun x e1 h G1 v1 H1 r1 s1 p1=>?_) fun _ _ h=>h⟩
 obtain⟨k,hk,h⟩:=h;exact⟨k,y87 r1.sub p1 hk,h G1 H1 r1 s1⟩
theorem y1t:∀σ H Q,liftT K Z EE (dAnd ta tb) σ H Q->tAnd (liftT K Z EE ta) (liftT K Z EE tb) σ H Q:=by
 rintro σ H Q ⟨G,e,rel,h⟩;simp only[dAnd,R.holds_bind]at h;refine⟨G,e,rel,h.imp (fun x e1 h G1 H1 r1 s1=>?_) fun _ _ h=>h⟩
 cases x with
 |true=>exact⟨G1,e1,r1,R.holds.imp (show(tb e1).holds _ _ from h) (fun y e2 h G2 H2 r2 s2=>h G2 H2 r2 (s1.trans s2)) fun _ _ h=>XH.trans s1 h⟩
 |false=>exact(show ∀G' H',_->_->Q false H' from h) G1 H1 r1 s1
theorem y4w:∀σ H Q,liftT K Z EE (dOr ta tb) σ H Q->tOr (liftT K Z EE ta) (liftT K Z EE tb) σ H Q:=by
 rintro σ H Q ⟨G,e,rel,h⟩;simp only[dOr,R.holds_bind]at h;refine⟨G,e,rel,h.imp (fun x e1 h G1 H1 r1 s1=>?_) fun _ _ h=>h⟩
 cases x with
 |false=>exact⟨G1,e1,r1,R.holds.imp (show(tb e1).holds _ _ from h) (fun y e2 h G2 H2 r2 s2=>h G2 H2 r2 (s1.trans s2)) fun _ _ h=>XH.trans s1 h⟩
 |true=>exact(show ∀G' H',_->_->Q true H' from h) G1 H1 r1 s1
theorem q60(ha:DT Z X EE a ta):DW Z X EE (.BoolOp .And [a] pos) ta:=y4e ha
theorem q49(ha:DT Z X EE a ta):DW Z X EE (.BoolOp .Or [a] pos) ta:=y8f ha
theorem q8n{rest:List Expr}(ha:DT Z X EE a ta)(hb:DW Z X EE (.BoolOp .And (b::rest) pos) tb):DW Z X EE (.BoolOp .And (a::b::rest) pos) (dAnd ta tb):=PW.mono (y8g ha hb) y1t
theorem q42{rest:List Expr}(ha:DT Z X EE a ta)(hb:DW Z X EE (.BoolOp .Or (b::rest) pos) tb):DW Z X EE (.BoolOp .Or (a::b::rest) pos) (dOr ta tb):=PW.mono (z2g ha hb) y4w
theorem dt_w(h:DW Z X EE a ta):DT Z X EE a ta:=PW.pt h
theorem q6i(ha:DT Z X EE a ta):DT Z X EE (.UnaryOp .Not a pos) (dNot ta):=by
 refine PT.mono (y8h ha) ?_;rintro σ H Q ⟨G,e,rel,h⟩;simp only[dNot,R.holds_bind]at h;exact⟨G,e,rel,h.imp (fun x e1 h G1 H1 r1 s1=>h G1 H1 r1 s1) fun _ _ h=>h⟩
theorem q4u{op}(h:DE Z X EE a da):DE Z X EE (.BoolOp op [a] pos) da:=y8i h
theorem q6j{rest:List Expr}(ha:DE Z X EE a da)(hb:DE Z X EE (.BoolOp .And (b::rest) pos) db):DE Z X EE (.BoolOp .And (a::b::rest) pos) (dAndV da db):=by
 refine PE.mono (y8j ha hb) ?_;rintro σ H Q ⟨G,e,rel,h⟩;simp only[dAndV,R.holds_bind]at h;refine⟨G,e,rel,h.imp (fun x e1 h G1 v1 H1 r1 s1 p1=>?_) fun _ _ h=>h⟩
 cases x with
 |bl k=>
  cases(show v1=V.bl k from p1);cases k with
  |true=>exact⟨true,rfl,⟨G1,e1,r1,R.holds.imp (show(db e1).holds _ _ from h) (fun y e2 h G2 v2 H2 r2 s2 p2=>h G2 v2 H2 r2 (s1.trans s2) p2) fun _ _ h=>XH.trans s1 h⟩⟩
  |false=>exact⟨false,rfl,(show ∀G' v H',_->_->v=V.bl false->Q v H' from h) G1 _ H1 r1 s1 rfl⟩
 |_=>exact h.elim
theorem x7b{rest:List Expr}(ha:DE Z X EE a da)(hb:DE Z X EE (.BoolOp .Or (b::rest) pos) db):DE Z X EE (.BoolOp .Or (a::b::rest) pos) (dOrV da db):=by
 refine PE.mono (z2h ha hb) ?_;rintro σ H Q ⟨G,e,rel,h⟩;simp only[dOrV,R.holds_bind]at h;refine⟨G,e,rel,h.imp (fun x e1 h G1 v1 H1 r1 s1 p1=>?_) fun _ _ h=>h⟩
 cases x with
 |bl k=>
  cases(show v1=V.bl k from p1);cases k with
  |false=>exact⟨false,rfl,⟨G1,e1,r1,R.holds.imp (show(db e1).holds _ _ from h) (fun y e2 h G2 v2 H2 r2 s2 p2=>h G2 v2 H2 r2 (s1.trans s2) p2) fun _ _ h=>XH.trans s1 h⟩⟩
  |true=>exact⟨true,rfl,(show ∀G' v H',_->_->v=V.bl true->Q v H' from h) G1 _ H1 r1 s1 rfl⟩
 |_=>exact h.elim
theorem x83(ha:DE Z X EE a da):DE Z X EE (.UnaryOp .Not a pos) (dNotV da):=by
 refine PE.mono (y8k ha) ?_;rintro σ H Q ⟨G,e,rel,h⟩;simp only[dNotV,R.holds_bind]at h;refine⟨G,e,rel,h.imp (fun x e1 h G1 v1 H1 r1 s1 p1=>?_) fun _ _ h=>h⟩
 cases x with
 |bl k=>
  cases(show v1=V.bl k from p1);exact⟨k,rfl,(show ∀G' v H',_->_->v=V.bl (!k)->Q v H' from h) G1 _ H1 r1 s1 rfl⟩
 |_=>exact h.elim
theorem z2o(hc:DT Z X EE c dc)(ha:DE Z X EE a da)(hb:DE Z X EE b db):DE Z X EE (.IfExp c a b pos) (dIf dc da db):=by
 refine PE.mono (y1d hc ha hb) ?_;rintro σ H Q ⟨G,e,rel,h⟩;simp only[dIf,R.holds_bind]at h;refine⟨G,e,rel,h.imp (fun x e1 h G1 H1 r1 s1=>?_) fun _ _ h=>h⟩
 cases x with
 |true=>exact⟨G1,e1,r1,R.holds.imp (show(da e1).holds _ _ from h) (fun y e2 h G2 v2 H2 r2 s2 p2=>h G2 v2 H2 r2 (s1.trans s2) p2) fun _ _ h=>XH.trans s1 h⟩
 |false=>exact⟨G1,e1,r1,R.holds.imp (show(db e1).holds _ _ from h) (fun y e2 h G2 v2 H2 r2 s2 p2=>h G2 v2 H2 r2 (s1.trans s2) p2) fun _ _ h=>XH.trans s1 h⟩
theorem q0c:DA Z X EE [] dNil:=PA.mono x30 fun σ H Q ⟨G,e,r,h⟩=>h G [] H r (.refl _) rfl
theorem q0a(ha:DE Z X EE e da)(hr:DA Z X EE es dA)(hs:starEach (e::es) X.env=(false,eval e X.env)::starEach es X.env:=by rfl):DA Z X EE (e::es) (dCons da dA):=by
 refine PA.mono (q55 ha hr hs) ?_;rintro σ H Q ⟨G,e,rel,h⟩;simp only[dCons,R.holds_bind]at h;refine⟨G,e,rel,h.imp (fun x e1 h G1 v1 H1 r1 s1 p1=>?_) fun _ _ h=>h⟩
 refine⟨G1,e1,r1,h.imp (fun xs e2 h G2 vs H2 r2 s2 p2=>?_) fun _ _ h=>XH.trans s1 h⟩
 exact h G2 (v1::vs) H2 r2 (s1.trans s2) ⟨v1,vs,rfl,Rep.mono s2 x p1,p2⟩
theorem q16{x1}(h:DA Z X EE es dA):DE Z X EE (.Tuple es x1 pos) (dTup dA):=by
 refine PE.mono (y8u h) ?_;rintro σ H Q ⟨G,e,rel,h⟩;simp only[dTup,R.holds_bind]at h;refine⟨G,e,rel,h.imp (fun ws e1 h G1 vs H1 r1 s1 p1=>?_) fun _ _ h=>h⟩
 split at h
 ·rename_i hl;refine⟨by rw[p1.length,sizeLine_eq];exact hl,fun p hp=>?_⟩
  have g:=Grow.laid r1.sub hp (.tup vs);exact(show ∀G' v H',_->_->Rep X.K G' (.tup ws) v->Q v H' from h) _ (.ref p) _ (r1.grow g) (s1.trans g.gg) ⟨p,vs,rfl,SqT.of q0o,Reps.mono g.gg ws p1⟩
 ·exact h.elim
theorem q97{e:List S}(r:Rel K Z G σ H e){p:Addr}(hp:H p=none):Free σ e p:=fun j b ws h q=>by
 obtain⟨a,xs,h1,h2,_⟩:=r.own h;rw[q]at h1;cases h1;rw[hp]at h2;cases h2
theorem q61{e:List S}(r:Rel K Z G σ H e){p:Addr}(hp:H p=none):Z.H p=none:=by
 cases q:Z.H p with
 |none=>rfl
 |some o=>
  by_cases hi:p∈Z.io
  ·exact absurd hp (r.ion p hi)
  ·rw[r.ent p o q hi]at hp;cases hp
theorem q98{e:List S}{Q:VK}{G0:Hp}(r:Rel K Z G σ H e)(s:Same G0 G)(p1:Reps K G ws vs)
  (h:∀G' a xs H',Rel K Z G' σ H' e->Same G0 G'->H' a=some (.lst xs)->G' a=none->Z.H a=none->Free σ e a->Reps K G' ws xs->Q (.ref a) H'):∀p,H p=none->Q (.ref p) (upd H p (.lst vs)):=fun p hp=>by
 have g:=Grow.hid r.sub hp (.lst vs);exact h G p vs _ (r.grow g) s q0o (r.sub.free hp) (q61 r hp) (q97 r hp) p1
theorem q17(h:DA Z X EE es dA):DF Z X EE (.List es pos) (dLst dA):=by
 refine PE.mono (y8v h) ?_;rintro σ H Q ⟨G,e,rel,h⟩;simp only[dLst,R.holds_bind]at h;refine⟨G,e,rel,h.imp (fun ws e1 h G1 vs H1 r1 s1 p1=>?_) fun _ _ h=>h⟩
 split at h
 ·rename_i hl;exact⟨by rw[p1.length,sizeLine_eq];exact hl,q98 r1 s1 p1 h⟩
 ·exact h.elim
theorem Rel.seen{e:List S}(r:Rel K Z G σ H e){a:Addr}(h:H a=some (.lst xs))(hg:G a=none)(hz:Z.H a=none)(hf:Free σ e a):Same G (upd G a (.lst xs))/\Rel K Z (upd G a (.lst xs)) σ H e:=by
 have sg:Same G (upd G a (.lst xs)):=q3h hg _;refine⟨sg,⟨fun c o z=>?_,fun j s z=>?_,r.len,r.dis,r.ent,r.ion,fun c z=>?_⟩⟩
 ·by_cases hc:c=a
  ·subst hc;rw[q0o]at z;cases z;exact h
  ·rw[q0f hc]at z;exact r.sub c o z
 ·have y:=r.slot j s z;cases s with
  |no=>trivial
  |fr w=>
   obtain⟨u,y1,y2⟩:=y;exact⟨u,y1,Rep.mono sg w y2⟩
  |own b2 w2=>
   obtain⟨c,ys,y1,y2,y3,y4,y5⟩:=y;refine⟨c,ys,y1,y2,?_,y4,Reps.mono sg w2 y5⟩;rw[q0f];exact y3;rintro rfl;obtain⟨c',_,z1,_⟩:=r.own z;rw[z1]at y1;cases y1;exact hf j b2 w2 z z1
  |dic kvs=>
   obtain⟨c,y1,y2,y3,y4⟩:=y;refine⟨c,y1,y2,?_,y4⟩;rw[q0f (q00 y2 h (q3i rfl))];exact y3
  |thr us w2 vs=>
   obtain⟨t,l,o,xs2,ys,zs,y1,y2,y3,y4,y5,y6,y7,y8⟩:=y;refine⟨t,l,o,xs2,ys,zs,y1,sg _ _ y2,y3,?_,y5,Reps.mono sg us y6,Reps.mono sg w2 y7,Reps.mono sg vs y8⟩;rw[q0f (q00 y3 h (fun z=>nomatch z))];exact y4
  |nest wss=>exact NestOk.move y sg fun l o ys k1 k2 k3=>⟨k1,by rw[q0f (q00 k1 h (fun z=>nomatch z))];exact k2,k3⟩
  |x k=>exact XOk.move y sg fun l o ys k1 k2 k3=>⟨k1,by rw[q0f (q00 k1 h (fun z=>nomatch z))];exact k2,k3⟩
  |dw sh ks ws=>exact DwOk.move y sg fun l o ys k1 k2 k3=>⟨k1,by rw[q0f (q00 k1 h (fun z=>nomatch z))];exact k2,k3⟩
 ·by_cases hc:c=a
  ·subst hc;exact absurd hz z
  ·rw[q0f hc];exact r.gen c z
theorem q20(h:DF Z X EE e dA):DE Z X EE e (dFz dA):=by
 refine PE.mono h ?_;rintro σ H Q ⟨G,e,rel,h⟩;simp only[dFz,R.holds_bind]at h;refine⟨G,e,rel,h.imp (fun ws e1 h G1 a xs H1 r1 s1 q1 q2 q3 q4 p1=>?_) fun _ _ h=>h⟩
 obtain⟨sg,rg⟩:=r1.seen q1 q2 q3 q4;exact(show ∀G' v H',_->_->Rep X.K G' (.lst ws) v->Q v H' from h) _ (.ref a) _ rg (s1.trans sg) ⟨a,xs,rfl,SqL.of q0o,Reps.mono sg ws p1⟩
theorem x6a{f:List W->Option W}(hf:OpN K r f):∀σ H Q,liftE K Z EE (dFn f dA) σ H Q->tCB r (liftA K Z EE dA) σ H Q:=by
 rintro σ H Q ⟨G,e,rel,h⟩;simp only[dFn,R.holds_bind,ofOpt_holds]at h;refine⟨G,e,rel,h.imp (fun ws e1 h G1 vs H1 r1 s1 p1=>?_) fun _ _ h=>h⟩
 obtain⟨w,hw,h⟩:=h;exact hf G1 H1 vs ws w Q r1.sub p1 hw fun G' v H' g p=>h G' v H' (r1.grow g) (s1.trans g.gg) p
theorem q8o{id:String}{f:List W->Option W}(hc:CallR X (.builtin id) r)(hf:OpN X.K r f)(hv:bootBuiltins x=some (.builtin id))(hm:X.mg x=none)(ha:DA Z X EE (e::es) dA)(hg:Gl X x:=by rfl)(hn:x≠"__name__":=by decide)(hdb:(x==("__debug__":Str))=false:=by decide)
  (he:starEach (e::es) X.env=(false,eval e X.env)::starEach es X.env:=by rfl)(hpl:(backTo pos (starEach es X.env)).any (·.1)=false:=by rfl):DE Z X EE (.Call (.Name x p) (e::es) [] pos) (dFn f dA):=
 PE.mono (q95 hc hg hm hv ha hn hdb he hpl) (x6a hf)
theorem x84{T:String}{f:List W->Option W}(hc:CallR X (.type T) r)(hf:OpN X.K r f)(hv:bootBuiltins x=some (.type T))(hm:X.mg x=none)(ha:DA Z X EE (e::es) dA)(hg:Gl X x:=by rfl)(hn:x≠"__name__":=by decide)(hdb:(x==("__debug__":Str))=false:=by decide)
  (he:starEach (e::es) X.env=(false,eval e X.env)::starEach es X.env:=by rfl)(hpl:(backTo pos (starEach es X.env)).any (·.1)=false:=by rfl):DE Z X EE (.Call (.Name x p) (e::es) [] pos) (dFn f dA):=
 PE.mono (x2b hc hg hm hv ha hn hdb he hpl) (x6a hf)
end
noncomputable def dNx:List S->SR:=fun e=>.nx e
noncomputable def dSeq(a b:List S->SR):List S->SR:=fun e=>match a e with
 |.nx e'=>b e'
 |r=>r
noncomputable def R.stm(r:R α)(k:α->List S->SR):SR:=match r with
 |.ok a e=>k a e
 |.ex c e=>.ex c e
 |.no=>.no
noncomputable def dDrop(d:Den W):List S->SR:=fun e=>(d e).stm fun _ e'=>.nx e'
noncomputable def dRet(d:Den W):List S->SR:=fun e=>(d e).stm fun w e'=>.rt (.fr w) e'
noncomputable def dRetO(i:Nat):List S->SR:=fun e=>match e[i]? with
 |some (.own none ws)=>.rt (.own none ws) e
 |some (.fr w)=>.rt (.fr w) e
 |_=>.no
noncomputable def dIfS(c:Den Bool)(a b:List S->SR):List S->SR:=fun e=>(c e).stm fun x e1=>if x=true then a e1 else b e1
noncomputable def dSet(i:Nat)(d:Den W):List S->SR:=fun e=>(d e).stm fun w e'=>.nx (e'.set i (.fr w))
noncomputable def dSetO(i:Nat)(d:Den (List W)):List S->SR:=fun e=>(d e).stm fun ws e'=>.nx (e'.set i (.own none ws))
noncomputable def forD(i:Nat)(b:List S->SR):List W->List S->SR
 |[],e=>.nx e
 |w::ws,e=>match b (e.set i (.fr w))with
  |.nx e'=>forD i b ws e'
  |.ct e'=>forD i b ws e'
  |.bk e'=>.nx e'
  |.rt s e'=>.rt s e'
  |.ex c e'=>.ex c e'
  |.no=>.no
noncomputable def whileD(c:Den Bool)(b:List S->SR):Nat->List S->SR
 |0,_=>.no
 |n+1,e=>(c e).stm fun x e1=>if x=true then(match b e1 with
  |.nx e'=>whileD c b n e'
  |.ct e'=>whileD c b n e'
  |.bk e'=>.nx e'
  |.rt s e'=>.rt s e'
  |.ex c e'=>.ex c e'
  |.no=>.no)else .nx e1
noncomputable def seqW:W->Option (List W)
 |.tup ws=>some ws
 |.lst ws=>some ws
 |_=>none
noncomputable def dFor(i:Nat)(d:Den W)(b:List S->SR):List S->SR:=fun e=>(d e).stm fun w e1=>match seqW w with
 |some ws=>forD i b ws e1
 |none=>.no
noncomputable def rangeW(lo hi:Int):List W:=(List.range (hi-lo).toNat).map fun k=>.int (lo+(k:Nat))
noncomputable def okI(j:Int):Bool:=Nat.ble j.natAbs 4611686018427387903
theorem q5a{j:Int}(h:okI j=true):-(2^62)<=j/\j<2^62:=by
 have z:j.natAbs<=4611686018427387903:=w3c h;have e:(2:Int)^62=4611686018427387904:=by decide
 rw[e];omega
theorem q62{j:Int}(h1:-1000000000<=j)(h2:j<=1000000000):okI j=true:=w3u (by omega)
noncomputable def rng1:List W->Option (List W)
 |[.int j]=>if okI j=true then some (rangeW 0 j)else none
 |_=>none
noncomputable def rng2:List W->Option (List W)
 |[.int i,.int j]=>if okI i=true/\okI j=true then some (rangeW i j)else none
 |_=>none
noncomputable def dForR(i:Nat)(g:List W->Option (List W))(d:Den (List W))(b:List S->SR):List S->SR:=fun e=>(d e).stm fun w e1=>match g w with
 |some ws=>forD i b ws e1
 |none=>.no
section
variable{a c e tg:Expr}{rest body:List Stmt}{d:Den W}{dc:Den Bool}{s1 s2:List S->SR}
theorem PostS.trans{D:Ends}(s:Same G G1):∀{r:SR},PostS K Z EE D G r->PostS K Z EE D G1 r
 |.nx e',h=>fun G' σ' H' r q=>h G' σ' H' r (s.trans q)
 |.bk e',h=>fun G' σ' H' r q=>h G' σ' H' r (s.trans q)
 |.ct e',h=>fun G' σ' H' r q=>h G' σ' H' r (s.trans q)
 |.rt w e',h=>fun G' σ' v H' r q=>h G' σ' v H' r (s.trans q)
 |.ex c e',h=>fun G' σ' H' r q=>h G' σ' H' r (s.trans q)
 |.no,h=>h
theorem q1b{D:Ends}{r:R α}{k:α->List S->SR}(h:PostS K Z EE D G (r.stm k)):r.holds (fun a e'=>PostS K Z EE D G (k a e')) (XH K Z EE σ G):=by
 cases r with
 |ok a e=>exact h
 |ex c e=>exact fun G' H' r q=>h G' σ H' r q
 |no=>exact h
theorem q0m:DSs Z X EE [] dNx:=PSs.mono y4f fun D σ H ⟨G,e,r,h⟩=>h G σ H r (.refl _)
theorem y1u:∀D σ H,liftS K Z EE (dSeq s1 s2) D σ H->tSeq (liftS K Z EE s1) (liftS K Z EE s2) D σ H:=by
 rintro D σ H ⟨G,e,rel,h⟩;refine⟨G,e,rel,?_⟩;unfold dSeq at h;cases q:s1 e with
 |nx e'=>rw[q]at h;exact fun G' σ' H' r s=>⟨G',e',r,PostS.trans s h⟩
 |bk e'=>rw[q]at h;exact h
 |ct e'=>rw[q]at h;exact h
 |rt w e'=>rw[q]at h;exact h
 |ex c e'=>rw[q]at h;exact h
 |no=>rw[q]at h;exact h
theorem q0d(h1:DS Z X EE st s1)(h2:DSs Z X EE rest s2):DSs Z X EE (st::rest) (dSeq s1 s2):=PSs.mono (y1e h1 h2) y1u
theorem q0e(h1:DS Z X EE st s1):DSs Z X EE [st] s1:=y4g h1
theorem x6b(he:DE Z X EE e d)(hs:swapsWith e none pos.line X.env=pure false:=by rfl):DS Z X EE (.Expr e pos) (dDrop d):=by
 refine PS.mono (x1i he hs) ?_;rintro D σ H ⟨G,e,rel,h⟩;exact⟨G,e,rel,(q1b h).imp (fun w e1 h G1 v1 H1 r1 s1 p1=>h G1 σ H1 r1 s1) fun _ _ h=>h⟩
theorem q0k(he:DE Z X EE e d):DS Z X EE (.Return (some e) pos) (dRet d):=by
 refine PS.mono (x3v he) ?_;rintro D σ H ⟨G,e,rel,h⟩;exact⟨G,e,rel,(q1b h).imp (fun w e1 h G1 v1 H1 r1 s1 p1=>h G1 σ v1 H1 r1 s1 ⟨v1,rfl,p1⟩) fun _ _ h=>h⟩
theorem y4x(i:Nat)(hN:X.N[i]?=some x:=by rfl)(hv:Vis X.env.scope x:=by walk_at "1")(hd:(x==("__debug__":Str))=false:=by decide)
  (hcd:(x==("__classdict__":Str))=false:=by decide):DS Z X EE (.Return (some (.Name x p)) pos) (dRetO i):=by
 refine PS.mono (x3v (pv i hN hv hd hcd)) ?_;rintro D σ H ⟨G,e,rel,h⟩;unfold dRetO at h;split at h
 ·rename_i ws hw;obtain⟨a,xs,h1,h2,h3,h4,h5⟩:=rel.own hw;exact⟨.ref a,h1,h G σ _ H rel (.refl _) ⟨a,xs,rfl,h2,h3,h4,h5⟩⟩
 ·rename_i w hw;obtain⟨v,h1,h2⟩:=rel.fr hw;exact⟨v,h1,h G σ _ H rel (.refl _) ⟨v,rfl,h2⟩⟩
 ·exact h.elim
theorem y1v:∀D σ H,liftS K Z EE (dIfS dc s1 s2) D σ H->tIfS (liftT K Z EE dc) (liftS K Z EE s1) (liftS K Z EE s2) D σ H:=by
 rintro D σ H ⟨G,e,rel,h⟩;refine⟨G,e,rel,(q1b h).imp (fun x e1 h G1 H1 r1 q1=>?_) fun _ _ h=>h⟩
 cases x with
 |true=>exact⟨G1,e1,r1,PostS.trans q1 h⟩
 |false=>exact⟨G1,e1,r1,PostS.trans q1 h⟩
theorem q0p{p q:List Stmt}(hc:DT Z X EE c dc)(ha:DSs Z X EE p s1)(hb:DSs Z X EE q s2):DS Z X EE (.If c p q pos) (dIfS dc s1 s2):=PS.mono (z2i hc ha hb) y1v
theorem q0l(i:Nat)(hN:X.N.Nodup)(he:DE Z X EE e d)(hi:X.N[i]?=some x:=by rfl)(hx:Loc X.env.scope x:=by walk_at "3")(hs:swapsWith e (some (.Name x pos')) pos.line X.env=pure false:=by rfl)(hf:X.fn x=true\/X.env.scope.names.lookup x=some .local:=by walk_at "2"):
  DS Z X EE (.Assign [.Name x pos'] e pos) (dSet i d):=by
 refine PS.mono (x7a i hN he hi hx hs hf) ?_;rintro D σ H ⟨G,e,rel,h⟩;exact⟨G,e,rel,(q1b h).imp (fun w e1 h G1 v1 H1 r1 q1 p1=>h G1 _ H1 (r1.set p1) q1) fun _ _ h=>h⟩
theorem q6k(i:Nat)(hN:X.N.Nodup)(he:DF Z X EE e dA)(hi:X.N[i]?=some x:=by rfl)(hx:Loc X.env.scope x:=by walk_at "3")(hs:swapsWith e (some (.Name x pos')) pos.line X.env=pure false:=by rfl)(hf:X.fn x=true\/X.env.scope.names.lookup x=some .local:=by walk_at "2"):
  DS Z X EE (.Assign [.Name x pos'] e pos) (dSetO i dA):=by
 refine PS.mono (x7a i hN he hi hx hs hf) ?_;rintro D σ H ⟨G,e,rel,h⟩;exact⟨G,e,rel,(q1b h).imp (fun w e1 h G1 a xs H1 r1 s1 q1 q2 q3 q4 p1=>h G1 _ H1 (r1.setOwn q1 q2 q3 q4 p1) s1) fun _ _ h=>h⟩
theorem q7o(n:Nat)(hp:PassesOwn (model X.prog X.w) X.A X.env X.xe)(hc:DT Z X EE c dc)(hb:DSs Z X EE body s1):DS Z X EE (.While c body [] pos) (whileD dc s1 n):=by
 refine PS.mono (y1f hp hc hb) ?_;rintro D σ H ⟨G,e,rel,h⟩;refine⟨fun m σ' H'=>∃G' e',Rel X.K Z G' σ' H' e'/\Same G G'/\PostS X.K Z EE D G (whileD dc s1 m e'),⟨n,G,e,rel,.refl _,h⟩,?_⟩
 rintro m σ1 H1 ⟨G1,e1,r1,q1,h⟩;cases m with
 |zero=>exact h.elim
 |succ m=>
  refine⟨G1,e1,r1,(q1b (σ:=σ1) h).imp (fun x e2 h G2 H2 r2 q2=>?_) fun _ _ h=>XH.trans q1 h⟩
  cases x with
  |false=>exact h G2 σ1 H2 r2 (q1.trans q2)
  |true=>
   refine⟨fun σ' H'=>∃G' e',Rel X.K Z G' σ' H' e'/\Same G G'/\PostS X.K Z EE D G (whileD dc s1 m e'),fun σ' H' q=>⟨m,Nat.lt_succ_self _,q⟩,⟨G2,e2,r2,?_⟩⟩
   have sg:=q1.trans q2;have h:PostS X.K Z EE D G (match s1 e2 with|.nx e'=>whileD dc s1 m e'|.ct e'=>whileD dc s1 m e'|.bk e'=>.nx e'|.rt s e'=>.rt s e'|.ex c e'=>.ex c e'|.no=>.no):=h;cases q:s1 e2 with
   |nx e'=>rw[q]at h;exact fun G' σ' H' r s=>⟨G',e',r,sg.trans s,h⟩
   |ct e'=>rw[q]at h;exact fun G' σ' H' r s=>⟨G',e',r,sg.trans s,h⟩
   |bk e'=>rw[q]at h;exact fun G' σ' H' r s=>h G' σ' H' r (sg.trans s)
   |rt w e'=>rw[q]at h;exact fun G' σ' v H' r s=>h G' σ' v H' r (sg.trans s)
   |ex c e'=>rw[q]at h;exact fun G' σ' H' r s=>h G' σ' H' r (sg.trans s)
   |no=>rw[q]at h;exact h
theorem y1w{D:Ends}{x:V}{N:St->Hp->Prop}(r1:Rel K Z G1 σ H e1)(q1:Same G G1)(p:Rep K G1 w x)(h:PostS K Z EE D G (forD i s1 (w::ws) e1))
  (hN:∀G' σ' H' e',Rel K Z G' σ' H' e'->Same G G'->PostS K Z EE D G (forD i s1 ws e')->N σ' H'):gName i x σ H fun σ2 H2=>liftS K Z EE s1 {D with nx:=N,ct:=N,bk:=D.nx} σ2 H2:=by
 refine⟨G1,e1.set i (.fr w),r1.set p,?_⟩;unfold forD at h;cases q:s1 (e1.set i (.fr w))with
 |nx e'=>rw[q]at h;exact fun G' σ' H' r s=>hN G' σ' H' e' r (q1.trans s) h
 |ct e'=>rw[q]at h;exact fun G' σ' H' r s=>hN G' σ' H' e' r (q1.trans s) h
 |bk e'=>rw[q]at h;exact fun G' σ' H' r s=>h G' σ' H' r (q1.trans s)
 |rt w e'=>rw[q]at h;exact fun G' σ' v H' r s=>h G' σ' v H' r (q1.trans s)
 |ex c e'=>rw[q]at h;exact fun G' σ' H' r s=>h G' σ' H' r (q1.trans s)
 |no=>rw[q]at h;exact h
def iSeq(K:PySem.W.Frag)(tl:TE):TI:=fun σ H R=>tl σ H fun x H1=>∃a,x=.ref a/\(((∃xs,SqL K H1 a xs)/\R (Itl K a) H1)\/((∃xs,SqT K H1 a xs)/\R (Itt K a) H1))
theorem x0w{l:Expr}{tl:TE}(hl:PE X l tl):PI X tg l (iSeq X.K tl):=by
 intro pins s σ H R I h;refine thn (hl pins s σ H _ I h) fun v s1 ⟨x,H1,I1,r1,q1⟩=>?_
 obtain⟨a,e,q⟩:=q1;subst e;cases r1;rcases q with⟨⟨xs,hq⟩,q⟩|⟨⟨xs,hq⟩,q⟩
 ·obtain⟨its,rv,p,hz⟩:=I1.list hq;refine wpAny_pyIter_list p.isList ?_;refine⟨s1.heap.objs.size,[s1.heap.objs.size],_,_,H1,rfl,I1.kept (t':=s1.toks) fun b o e=>Heap.get?_push_of_some _ e,x8k a _,⟨_,Heap.get?_push_size _ rfl,rfl,rfl⟩,fun b hb=>?_,q⟩
  have e:b=s1.heap.objs.size:=by simpa using hb
  subst e;exact I1.fpOk (w0e _) (I1.hok.fresh (w0e _))
 ·obtain⟨its,rv,p,hz⟩:=I1.tuple hq;refine wpAny_pyIter_tuple (show s1.heap.IsTuple a its.toArray from p) ?_;refine⟨s1.heap.objs.size,[s1.heap.objs.size],_,_,H1,rfl,I1.kept (t':=s1.toks) fun b o e=>Heap.get?_push_of_some _ e,x62 a _,⟨_,Heap.get?_push_size _ rfl,rfl,rfl⟩,fun b hb=>?_,q⟩
  have e:b=s1.heap.objs.size:=by simpa using hb
  subst e;exact I1.fpOk (w0e _) (I1.hok.fresh (w0e _))
theorem x2i{ws:List α}{k:Nat}{w:α}(h:ws[k]?=some w):ws.drop k=w::ws.drop (k+1):=by
 obtain⟨hk,rfl⟩:=w0a.mp h;exact w1n hk
theorem x1l{i:Nat}{D:Ends}(r1:Rel K Z G1 σ H1 e1)(rp:Reps K G1 ws xs)(h:PostS K Z EE D G1 (forD i s1 ws e1))(SQ:Hp->Prop)(hSQ:∀G' H',Same G1 G'->Same G' H'->SQ H'):
  ∃Pv:Nat->St->Hp->Prop,Pv 0 σ H1/\(∀j σ H,j<=xs.length->Pv j σ H->SQ H)/\(∀(j:Nat) x σ H,xs[j]?=some x->Pv j σ H->gName i x σ H fun σ2 H2=>liftS K Z EE s1 {D with nx:=Pv (j+1),ct:=Pv (j+1),bk:=D.nx} σ2 H2)/\∀σ H,Pv xs.length σ H->D.nx σ H:=by
 refine⟨fun j σ' H'=>∃G' e',Rel K Z G' σ' H' e'/\Same G1 G'/\PostS K Z EE D G1 (forD i s1 (ws.drop j) e'),⟨G1,e1,r1,.refl _,h⟩,?_,?_,?_⟩
 ·rintro j σ' H' _ ⟨G',e',r',s',_⟩;exact hSQ G' H' s' r'.sub
 ·rintro j x σ' H' hx ⟨G',e',r',s',h⟩;obtain⟨w,hw,pw⟩:=rp.getV hx;rw[x2i hw]at h;exact y1w r' s' (Rep.mono s' w pw) h fun G'' σ'' H'' e'' r'' s'' h''=>⟨G'',e'',r'',s'',h''⟩
 ·rintro σ' H' ⟨G',e',r',s',h⟩;rw[rp.length,w3n]at h;exact h G' σ' H' r' s'
theorem x85(i:Nat)(hN:X.N.Nodup)(hp:PassesOwn (model X.prog X.w) X.A X.env X.xe)(hc:X.calm=true)(hl:DE Z X EE e d)(hb:DSs Z X EE body s1)
  (hi:X.N[i]?=some x:=by rfl)(hx:Loc X.env.scope x:=by walk_at "3")(hf:X.fn x=true\/X.env.scope.names.lookup x=some .local:=by walk_at "2")(hs:∀x,foldedSetIterable e X.env x=pure x:=by intro _;rfl):
  DS Z X EE (.For (.Name x pos') e body [] pos) (dFor i d s1):=by
 refine PS.mono (x0q hp hc (x0w hl) (q35 i hN hi hx hf) hb hs) ?_;rintro D σ H ⟨G,e,rel,h⟩;refine⟨G,e,rel,(q1b h).imp (fun w e1 h G1 v1 H1 r1 q1 p1=>?_) fun _ _ h=>h⟩
 have key:=fun ws xs (rp:Reps X.K G1 ws xs) (h:PostS X.K Z EE D G (forD i s1 ws e1))=>x1l (i:=i) (D:=D) r1 rp (PostS.trans q1 h)
 cases w with
 |tup ws=>
  obtain⟨a,xs,rfl,hq,rp⟩:=p1;refine⟨a,rfl,.inr ⟨⟨xs,r1.sub.tup hq⟩,?_⟩⟩;obtain⟨Pv,h0,h1,h2,h3⟩:=key ws xs rp h (fun H'=>SqT X.K H' a xs) (fun G' H' s s'=>Same.tup s' (Same.tup s hq))
  exact y4j Pv h0 h1 h2 h3
 |lst ws=>
  obtain⟨a,xs,rfl,hq,rp⟩:=p1;refine⟨a,rfl,.inl ⟨⟨xs,r1.sub.seq hq⟩,?_⟩⟩;obtain⟨Pv,h0,h1,h2,h3⟩:=key ws xs rp h (fun H'=>SqL X.K H' a xs) (fun G' H' s s'=>Same.seq s' (Same.seq s hq))
  exact y1g Pv h0 h1 h2 h3
 |_=>exact h.elim
theorem q7p{lo hi:Int}:Reps K G (rangeW lo hi) ((List.range (hi-lo).toNat).map fun k=>V.int (lo+(k:Nat))):=by
 unfold rangeW;generalize List.range (hi-lo).toNat=l
 induction l with
 |nil=>rfl
 |cons k l ih=>exact⟨_,_,rfl,rfl,ih⟩
theorem y4y{i:Nat}{D:Ends}{lo hi:Int}(r1:Rel K Z G1 σ H1 e1)(h:PostS K Z EE D G1 (forD i s1 (rangeW lo hi) e1)):
  ∃W:Nat->Nat->St->Hp->Prop,(∃m,W 0 m σ H1)/\∀j m σ H,W j m σ H ->
   ((Itr lo (hi-lo).toNat).stop j H/\D.nx σ H)\/((Itr lo (hi-lo).toNat).go j H/\∃N:St->Hp->Prop,(∀σ' H',N σ' H'->∃m',m'<m/\W (j+1) m' σ' H')/\∀x H',(Itr lo (hi-lo).toNat).yld j H x H'->gName i x σ H' fun σ2 H2=>liftS K Z EE s1 {D with nx:=N,ct:=N,bk:=D.nx} σ2 H2):=by
 obtain⟨Pv,h0,h1,h2,h3⟩:=x1l (i:=i) (D:=D) r1 (q7p (lo:=lo) (hi:=hi)) h (fun _=>True) (fun _ _ _ _=>trivial)
 refine x8n Pv h0 (fun j σ' H' hj p=>h2 j _ σ' H' ?_ p) (fun σ' H' p=>h3 σ' H' (by simpa using p))
 simp[hj]
theorem x6c(i:Nat){p1 p2:Pos}(hN:X.N.Nodup)(hp:PassesOwn (model X.prog X.w) X.A X.env X.xe)(hc:X.calm=true)(hm:X.mg "range"=none)(ha:DA Z X EE [a] dA)(hb:DSs Z X EE body s1)
  (hi:X.N[i]?=some x:=by rfl)(hx:Loc X.env.scope x:=by walk_at "3")(hf:X.fn x=true\/X.env.scope.names.lookup x=some .local:=by walk_at "2")(hg:Gl X "range":=by rfl)(hs1:starEach [a] X.env=[(false,eval a X.env)]:=by rfl)(hs:∀x,foldedSetIterable (.Call (.Name "range" p1) [a] [] p2) X.env x=pure x:=by intro _;rfl):
  DS Z X EE (.For (.Name x p) (.Call (.Name "range" p1) [a] [] p2) body [] pos) (dForR i rng1 dA s1):=by
 refine PS.mono (x0q hp hc (q8j hg hm ha hs1) (q35 i hN hi hx hf) hb hs) ?_;rintro D σ H ⟨G,e,rel,h⟩;refine⟨G,e,rel,(q1b h).imp (fun ws e1 h G1 vs H1 r1 q1 p1=>?_) fun _ _ h=>h⟩
 unfold rng1 at h;split at h
 ·rename_i hh;split at hh
  ·rename_i j;split at hh
   ·rename_i hj;cases hh;obtain⟨y,r,rfl,e1,e2⟩:=p1;cases(show y=V.int j from e1);cases(show r=[]from e2);refine⟨j,rfl,(q5a hj).1,(q5a hj).2,?_⟩;have z:=y4y (i:=i) (D:=D) r1 (PostS.trans q1 h)
    rwa [w4m]at z
   ·cases hh
  ·cases hh
 ·exact h.elim
end
open PyProof.Rows (envOfC)
inductive FR where
 |ok (s:S)|ex (c:Value)|no
variable{F:List W->FR}
noncomputable def spF(K:PySem.W.Frag)(F:List W->FR):Sp:=fun vs H Q E=>∃G ws,Same G H/\Reps K G ws vs/\match F ws with
 |.ok s=>∀G' H' v,Grow G H G' H'->SlotOk K ⟨H,G,[]⟩ G' H' s (some v)->Q v H'
 |.ex c=>∀H',Same H H'->E c none H'
 |.no=>False
noncomputable def SR.fn:SR->FR
 |.nx _=>.ok (.fr .non)
 |.rt s _=>.ok s
 |.ex c _=>.ex c
 |_=>.no
noncomputable def init(n:Nat)(ws:List W):List S:=ws.map .fr++List.replicate (n-ws.length) .no
theorem x35{N:List Str}(s:Same G H)(r:Reps K G ws vs):Rel K ⟨H,G,[]⟩ G (L2.start N vs) H (init N.length ws):=by
 have hl:=r.length
 have hfr:∀(i:Nat)(s:S),(init N.length ws)[i]?=some s->(s=.no)\/∃w,s=.fr w/\ws[i]?=some w:=fun i s h=>by
  unfold init at h;rw[w4b]at h;split at h
  ·rw[w0v]at h;obtain⟨w,h1,rfl⟩:=w0d.mp h;exact .inr ⟨w,rfl,h1⟩
  ·rw[w2d]at h;split at h
   ·cases h;exact .inl rfl
   ·cases h
 refine⟨s,fun i t h=>?_,?_,fun i j b b' w1 w2 a h1 h2 _ _=>?_,fun a o h _=>h,(fun a h=>nomatch h),fun a _=>rfl⟩
 ·rcases hfr i t h with rfl|⟨w,rfl,h1⟩
  ·trivial
  ·obtain⟨v,h2,h3⟩:=r.get h1;refine⟨v,?_,h3⟩;have hi:i<vs.length:=(w0a.mp h2).1;unfold L2.start;rw[w1w (by simpa using hi),w0v,h2];rfl
 ·unfold init L2.start;simp[hl]
 ·rcases hfr i _ h1 with z|⟨w,z,_⟩<;>cases z
theorem Rel.toGrow(r:Rel K ⟨H,G,[]⟩ G' σ H' e)(s:Same G G'):Grow G H G' H':=
 ⟨fun a o h=>r.ent a o h (by simp),s,r.sub,fun a h=>r.gen a h⟩
section
variable{P:Program}{w:World}{mg:Str->Option Value}{base:Heap}
theorem x36{Q:VK}{E:XK}(h:spF K F vs H Q E):∃G ws,F ws≠.no/\Reps K G ws vs:=by
 obtain⟨G,ws,_,r,h⟩:=h;refine⟨G,ws,fun z=>?_,r⟩
 rw[z]at h;exact h
theorem x6d{Q:VK}{E:XK}{r:SR}(he:r.fn=F ws)(h:match F ws with
  |.ok s=>∀G' H' v,Grow G H G' H'->SlotOk K ⟨H,G,[]⟩ G' H' s (some v)->Q v H'
  |.ex c=>∀H',Same H H'->E c none H'
  |.no=>False):PostS K ⟨H,G,[]⟩ (fun _=>E) {nx:=fun _ H'=>Q .non H',rt:=Q} G r:=by
 rw[<- he]at h;cases r with
 |nx e=>exact fun G' σ' H' r s=>h G' H' .non (r.toGrow s) ⟨.non,rfl,rfl⟩
 |rt s e=>exact fun G' σ' v H' r q p=>h G' H' v (r.toGrow q) p
 |ex c e=>exact fun G' σ' H' r s=>h H' (r.toGrow s).hh
 |bk e=>exact h.elim
 |ct e=>exact h.elim
 |no=>exact h.elim
theorem con{N ps:List Str}{k:Nat}(A:At K mg x st ps)(sc:FnScope N ps (defScope st))(len:∀ws,F ws≠.no->ws.length=ps.length)
  (hb:∀ws,F ws≠.no->∀(f:Addr)(cdv:Value)(A:Around)(outer:List Env)(s:Shared)(H:Hp)(E:XK)(Z:Zt),Room k (A.deeper (envOfC x (defScope st) s.heap.objs.size f cdv)) ->
   ∃d,DSs Z (cxOf (CX1 P w) P w K mg base N x (defScope st) f cdv A outer s H E) (fun _=>E) (defBody st) d/\(d (init N.length ws)).fn=F ws):Cal P w K mg base (k+1) x ps (spF K F):=by
 refine A.cal sc (fun vs H Q E h=>?_) (fun f cdv A outer s H vs Q E hr h=>?_)
 ·obtain⟨G,ws,hn,r⟩:=x36 h;rw[r.length];exact len ws hn
 ·have hn0:=h;obtain⟨G,ws,sg,rp,h⟩:=h;have hn:F ws≠.no:=fun z=>by rw[z]at h;exact h
  obtain⟨d,hd,he⟩:=hb ws hn f cdv A outer s H E ⟨H,G,[]⟩ hr;exact⟨_,hd,G,init N.length ws,x35 sg rp,x6d he h⟩
end
noncomputable def dCall(F:List W->FR)(dA:Den (List W)):Den W:=fun e=>(dA e).bind fun ws e1=>match F ws with
 |.ok (.fr w)=>.ok w e1
 |.ok (.own none ws')=>.ok (.lst ws') e1
 |.ok (.dic kvs)=>.ok (.dic kvs) e1
 |.ok (.thr us ws vs)=>.ok (.tup (us++.lst ws::vs)) e1
 |.ok (.x (.new w))=>.ok w e1
 |.ok (.x (.tn us wss))=>.ok (.tup (us++[.lst (wss.map .lst)])) e1
 |.ex c=>.ex c e1
 |_=>.no
section
variable{e:Expr}{k:Nat}{ps:List Str}
theorem x37{s:S}(r1:Rel K Z G1 σ H1 e1)(g:Grow G1 H1 G' H')(q:SlotOk K ⟨H1,G1,[]⟩ G' H' s (some v))(hs:s=.fr w\/∃ws,s=.own none ws/\w=.lst ws):
  ∃G'',Rel K Z G'' σ H' e1/\Same G1 G''/\Rep K G'' w v:=by
 rcases hs with rfl|⟨ws,rfl,rfl⟩
 ·obtain⟨u,h1,h2⟩:=q;cases h1;exact⟨G',r1.grow g,g.gg,h2⟩
 ·obtain⟨a,xs,h1,h2,h3,h4,h5⟩:=q;cases h1;have hn:H1 a=none:=h4;obtain⟨sg,rg⟩:=(r1.grow g).seen h2 h3 (q61 r1 hn) (q97 r1 hn);exact⟨_,rg,g.gg.trans sg,⟨a,xs,rfl,SqL.of q0o,Reps.mono sg ws h5⟩⟩
theorem x86{kvs:Dd}(r1:Rel K Z G1 σ H1 e1)(g:Grow G1 H1 G' H')(q:SlotOk K ⟨H1,G1,[]⟩ G' H' (.dic kvs) (some v)):
  ∃G'',Rel K Z G'' σ H' e1/\Same G1 G''/\Rep K G'' (.dic kvs) v:=by
 obtain⟨a,h1,h2,h3,h4⟩:=q;cases h1;have hn:H1 a=none:=h4;have r:=r1.grow g;have sg:Same G' (upd G' a (dO kvs)):=q3h h3 _;refine⟨upd G' a (dO kvs),⟨fun c o z=>?_,fun j s z=>?_,r.len,r.dis,r.ent,r.ion,fun c z=>?_⟩,g.gg.trans sg,⟨a,rfl,q0o⟩⟩
 ·by_cases hc:c=a
  ·subst hc;rw[q0o]at z;cases z;exact h2
  ·rw[q0f hc]at z;exact r.sub c o z
 ·have y:=r.slot j s z;have y1:=r1.slot j s z;cases s with
  |no=>trivial
  |fr w=>
   obtain⟨u,y1,y2⟩:=y;exact⟨u,y1,Rep.mono sg w y2⟩
  |own b2 w2=>
   obtain⟨c,ys,x1,x2,x3,x4,x5⟩:=y;refine⟨c,ys,x1,x2,?_,x4,Reps.mono sg w2 x5⟩;rw[q0f (q00 x2 h2 (fun z=>q3i rfl z.symm))];exact x3
  |dic kv=>
   obtain⟨c,x1,x2,x3,x4⟩:=y;obtain⟨c',w1,w2,_⟩:=y1;rw[x1]at w1;cases w1;refine⟨c,x1,x2,?_,x4⟩;rw[q0f (q0r w2 hn)];exact x3
  |thr us w2 vs=>
   obtain⟨t,l,o,xs2,ys,zs,x1,x2,x3,x4,x5,x6,x7,x8⟩:=y;refine⟨t,l,o,xs2,ys,zs,x1,sg _ _ x2,x3,?_,x5,Reps.mono sg us x6,Reps.mono sg w2 x7,Reps.mono sg vs x8⟩;rw[q0f (q00 x3 h2 (fun z=>q3i rfl z.symm))];exact x4
  |nest wss=>exact NestOk.move y sg fun l o ys k1 k2 k3=>⟨k1,by rw[q0f (q00 k1 h2 (fun z=>q3i rfl z.symm))];exact k2,k3⟩
  |x k=>exact XOk.move y sg fun l o ys k1 k2 k3=>⟨k1,by rw[q0f (q00 k1 h2 (fun z=>q3i rfl z.symm))];exact k2,k3⟩
  |dw sh ks ws=>exact DwOk.move y sg fun l o ys k1 k2 k3=>⟨k1,by rw[q0f (q00 k1 h2 (fun z=>q3i rfl z.symm))];exact k2,k3⟩
 ·by_cases hc:c=a
  ·subst hc;exact absurd (q61 r1 hn) z
  ·rw[q0f hc];exact r.gen c z
theorem x87{us vs:List W}(r1:Rel K Z G1 σ H1 e1)(g:Grow G1 H1 G' H')(q:SlotOk K ⟨H1,G1,[]⟩ G' H' (.thr us ws vs) (some v)):
  ∃G'',Rel K Z G'' σ H' e1/\Same G1 G''/\Rep K G'' (.tup (us++.lst ws::vs)) v:=by
 obtain⟨t,l,o,xs,ys,zs,h1,h2,h3,h4,h5,h6,h7,h8⟩:=q;cases h1;have hn:H1 l=none:=h5;have r:=r1.grow g;have sg:Same G' (upd G' l (.frz o (.lst ys))):=q3h h4 _;refine⟨upd G' l (.frz o (.lst ys)),⟨fun c u z=>?_,fun j s z=>?_,r.len,r.dis,r.ent,r.ion,fun c z=>?_⟩,g.gg.trans sg,⟨t,_,rfl,SqT.of (sg _ _ h2),(Reps.mono sg us h6).append ⟨.ref l,zs,rfl,⟨l,ys,rfl,.inl (.inr ⟨o,q0o⟩),Reps.mono sg ws h7⟩,Reps.mono sg vs h8⟩⟩⟩
 ·by_cases hc:c=l
  ·subst hc;rw[q0o]at z;cases z;exact h3
  ·rw[q0f hc]at z;exact r.sub c u z
 ·have y:=r.slot j s z;have y1:=r1.slot j s z;cases s with
  |no=>trivial
  |fr w=>
   obtain⟨u,y1,y2⟩:=y;exact⟨u,y1,Rep.mono sg w y2⟩
  |own b2 w2=>
   obtain⟨c,ys,x1,x2,x3,x4,x5⟩:=y;refine⟨c,ys,x1,x2,?_,x4,Reps.mono sg w2 x5⟩;rw[q0f (q00 x2 h3 (fun z=>nomatch z))];exact x3
  |dic kv=>
   obtain⟨c,x1,x2,x3,x4⟩:=y;refine⟨c,x1,x2,?_,x4⟩;rw[q0f (q00 x2 h3 (q3i rfl))];exact x3
  |thr us w2 vs=>
   obtain⟨t1,l1,o1,xs1,ys1,zs1,w1,w2',w3,w4,w5,w6,w7,w8⟩:=y1;have sg2:=g.gg.trans sg;refine⟨t1,l1,o1,xs1,ys1,zs1,w1,sg2 _ _ w2',g.hh _ _ w3,?_,w5,Reps.mono sg2 us w6,Reps.mono sg2 w2 w7,Reps.mono sg2 vs w8⟩;rw[q0f (q0r w3 hn),g.new l1 (by rw[w3];simp)];exact w4
  |nest wss=>exact NestOk.move y1 (g.gg.trans sg) fun l1 o ys k1 k2 k3=>⟨g.hh _ _ k1,by rw[q0f (q0r k1 hn),g.new l1 (by rw[k1];simp)];exact k2,k3⟩
  |x k=>exact XOk.move y1 (g.gg.trans sg) fun l1 o ys k1 k2 k3=>⟨g.hh _ _ k1,by rw[q0f (q0r k1 hn),g.new l1 (by rw[k1];simp)];exact k2,k3⟩
  |dw sh ks ws=>exact DwOk.move y1 (g.gg.trans sg) fun l1 o ys k1 k2 k3=>⟨g.hh _ _ k1,by rw[q0f (q0r k1 hn),g.new l1 (by rw[k1];simp)];exact k2,k3⟩
 ·by_cases hc:c=l
  ·subst hc;exact absurd (q61 r1 hn) z
  ·rw[q0f hc];exact r.gen c z
theorem NestIn.mem0:∀{ls:List Addr}{wss:List (List W)},NestIn K Z G H ls wss->∀l∈ls,∃o ys,FzAt Z G H l o ys
 |[],_,_,_,hl=>nomatch hl
 |l::ls,ws::wss,⟨⟨o,ys,h1,_⟩,h⟩,c,hc=>by
  rcases w0m.mp hc with rfl|hc
  ·exact⟨o,ys,h1⟩
  ·exact h.mem0 c hc
 |_::_,[],h,_,_=>h.elim
theorem NestIn.reps0(sg:Same G G'):∀{ls:List Addr}{wss:List (List W)},(∀l∈ls,G' l=H l)->NestIn K Z G H ls wss->Reps K G' (wss.map W.lst) (ls.map V.ref)
 |[],[],_,_=>rfl
 |l::ls,ws::wss,hf,⟨⟨o,ys,h1,h4⟩,h⟩=>⟨.ref l,ls.map V.ref,rfl,⟨l,ys,rfl,.inl (.inr ⟨o,by rw[hf l (by simp)];exact h1.1⟩),Reps.mono sg ws h4⟩,h.reps0 sg fun c hc=>hf c (by simp[hc])⟩
 |[],_::_,_,h=>h.elim
 |_::_,[],_,h=>h.elim
theorem Rel.addNew(r1:Rel K Z G1 σ H1 e1)(g:Grow G1 H1 G' H')(As:List Addr) [DecidablePred (·∈As)](hA:∀c∈As,(∃o ys,H' c=some (.frz o (.lst ys)))/\G' c=none/\H1 c=none):
  Same G' (fun c=>if c∈As then H' c else G' c)/\Rel K Z (fun c=>if c∈As then H' c else G' c) σ H' e1:=by
 have sg:Same G' (fun c=>if c∈As then H' c else G' c):=fun c o z=>by
  show(if c∈As then H' c else G' c)=some o;rw[if_neg (fun m=>by rw[(hA c m).2.1]at z;cases z)];exact z
 refine⟨sg,r1.grow ⟨g.hh,g.gg.trans sg,fun c o z=>?_,fun c hc=>?_⟩⟩
 ·have z:(if c∈As then H' c else G' c)=some o:=z;split at z
  ·exact z
  ·exact g.sub c o z
 ·show(if c∈As then H' c else G' c)=G1 c;rw[if_neg (fun m=>hc (hA c m).2.2)];exact g.new c hc
theorem y1x{us:List W}{wss:List (List W)}(r1:Rel K Z G1 σ H1 e1)(g:Grow G1 H1 G' H')(q:SlotOk K ⟨H1,G1,[]⟩ G' H' (.x (.tn us wss)) (some v)):
  ∃G'',Rel K Z G'' σ H' e1/\Same G1 G''/\Rep K G'' (.tup (us++[.lst (wss.map .lst)])) v:=by
 classical
 obtain⟨t,l,o,ls,xs,h1,h2,⟨h3,h4,h5⟩,⟨h6,h7⟩,h8,h9⟩:=q;cases h1
 obtain⟨sg,r2⟩:=r1.addNew g (l::ls) fun c hc=>by
  rcases w0m.mp hc with rfl|hc
  ·exact⟨⟨o,_,h3⟩,h4,h5⟩
  ·obtain⟨o',ys,k1,k2,k3⟩:=h9.mem0 c hc;exact⟨⟨o',ys,k1⟩,k2,k3⟩
 refine⟨_,r2,g.gg.trans sg,t,_,rfl,SqT.of (sg _ _ h2),(Reps.mono sg us h8).append ⟨.ref l,[],rfl,⟨l,_,rfl,.inl (.inr ⟨o,?_⟩),h9.reps0 sg fun c hc=>if_pos (w0x _ hc)⟩,rfl⟩⟩
 show(if l∈l::ls then H' l else G' l)=_;rw[if_pos (w1j ..)];exact h3
theorem z2p{c:Value}(r1:Rel K Z G1 σ H1 e1)(s1:Same G G1)(h:XH K Z EE σ G c e1):∀H',Same H1 H'->EE σ c none H':=fun H' sh=>
 h G1 H' (r1.grow ⟨sh,.refl _,r1.sub.trans sh,fun _ _=>rfl⟩) s1
theorem q0i(C:Cal X.prog X.w X.K X.mg X.base k x ps (spF X.K F))(hr:Room k X.A)(hx:PassX (CX1 X.prog X.w) X EE)(ha:DA Z X EE (e::es) dA)(hg:Gl X x:=by rfl)
  (hdb:(x==("__debug__":Str))=false:=by decide)(he:starEach (e::es) X.env=(false,eval e X.env)::starEach es X.env:=by rfl)(hpl:(backTo pos (starEach es X.env)).any (·.1)=false:=by rfl):
  DE Z X EE (.Call (.Name x p) (e::es) [] pos) (dCall F dA):=by
 refine PE.mono (x80 C hr hx ha hg hdb he hpl) ?_;rintro σ H Q ⟨G,e,rel,h⟩;simp only[dCall,R.holds_bind]at h;refine⟨G,e,rel,h.imp (fun ws e1 h G1 vs H1 r1 s1 p1=>?_) fun _ _ h=>h⟩
 refine⟨G1,ws,r1.sub,by rw[w1s];exact p1,?_⟩;cases q:F ws with
 |ok s=>
  rw[q]at h;intro G' H' v g sl;cases s with
  |no=>exact h.elim
  |fr w=>
   obtain⟨G'',r2,s2,p2⟩:=x37 r1 g sl (.inl rfl);exact(show ∀G' v H',_->_->Rep X.K G' w v->Q v H' from h) G'' v H' r2 (s1.trans s2) p2
  |own b ws'=>
   cases b with
   |some _=>exact h.elim
   |none=>
    obtain⟨G'',r2,s2,p2⟩:=x37 r1 g sl (.inr ⟨ws',rfl,rfl⟩);exact(show ∀G' v H',_->_->Rep X.K G' (.lst ws') v->Q v H' from h) G'' v H' r2 (s1.trans s2) p2
  |dic kvs=>
   obtain⟨G'',r2,s2,p2⟩:=x86 r1 g sl;exact(show ∀G' v H',_->_->Rep X.K G' (.dic kvs) v->Q v H' from h) G'' v H' r2 (s1.trans s2) p2
  |thr us ws' vs'=>
   obtain⟨G'',r2,s2,p2⟩:=x87 r1 g sl;exact(show ∀G' v H',_->_->Rep X.K G' (.tup (us++.lst ws'::vs')) v->Q v H' from h) G'' v H' r2 (s1.trans s2) p2
  |nest _=>exact h.elim
  |x k=>
   cases k with
   |new w=>
    obtain⟨u,h1,h2⟩:=sl;cases h1;exact(show ∀G' v H',_->_->Rep X.K G' w v->Q v H' from h) G' _ H' (r1.grow g) (s1.trans g.gg) (RepN.rep _ h2)
   |tn us wss=>
    obtain⟨G'',r2,s2,p2⟩:=y1x r1 g sl;exact(show ∀G' v H',_->_->Rep X.K G' (.tup (us++[.lst (wss.map .lst)])) v->Q v H' from h) G'' v H' r2 (s1.trans s2) p2
   |_=>exact h.elim
  |dw _ _ _=>exact h.elim
 |ex c=>
  rw[q]at h;exact z2p r1 s1 h
 |no=>rw[q]at h;exact h.elim
noncomputable def dRaise(C:Addr)(d:Den (List W)):List S->SR:=fun e=>(d e).stm fun ws e1=>if ws.length<=16777216 then .ex (.ref C) e1 else .no
theorem q7q{C Ac:Addr}{np cpos:Pos}(hx:RaisX X EE)(hC:excIn X.K C Ac=true)(hm:X.mg x=some (.ref C))(hc:X.calm=true)(ha:DA Z X EE (e::es) dA)(hg:Gl X x:=by rfl)
  (hdb:(x==("__debug__":Str))=false:=by decide)(he:starEach (e::es) X.env=(false,eval e X.env)::starEach es X.env:=by rfl)(hpl:(backTo cpos (starEach es X.env)).any (·.1)=false:=by rfl):
  DS Z X EE (.Raise (some (.Call (.Name x np) (e::es) [] cpos)) none pos) (dRaise C dA):=by
 refine PS.mono (y1n hx hc hg hm hC ha hdb he hpl) ?_;rintro D σ H ⟨G,e,rel,h⟩;refine⟨G,e,rel,(q1b h).imp (fun ws e1 h G1 vs H1 r1 s1 p1=>?_) fun _ _ h=>h⟩
 split at h
 ·rename_i hl;exact⟨by rw[p1.length,sizeLine_eq];exact hl,h G1 σ H1 r1 s1⟩
 ·exact h.elim
end
end D
namespace L2
open PySem PySem.Spec PyProof.Rows
section
variable{X:Cx}{elt target iter:Expr}{ifs:List Expr}{scope:Scope}{pos:Pos}{wi:TI}{g:TG}{tc:TT}{te:TE}
theorem y1y{Nl Nf:List Str}{js:List Nat}{y:Str}{py spos:Pos}{gy:TG}(hc:X.calm=true)(hi:PI X target iter wi)
  (hk:scope.kind=.function)(hcell:∀y∈scope.names,y.2≠.cell)(hnames:∀x∈scope.names,x.2=.local->scope.names.lookup x.1=some .local)
  (hfree:∀x∈scope.names,x.2=.free->X.env.kindOf x.1=some .cell\/X.env.kindOf x.1=some .free)
  (hj:∀(i j:Nat) y,Nf[i]?=some y->js[i]?=some j->X.N[j]?=some y)(hlen:js.length=Nf.length)
  (hNf:∀y∈Nf,(y,NameKind.free)∈scope.names/\Vis X.env.scope y/\X.env.kindOf y≠some .local)
  (hvis:∀y∈Nf,(relabel scope X.env).names.lookup y=some .cell\/(relabel scope X.env).names.lookup y=some .free)
  (hg:∀cl C s₀ H₀ ex,PG (X.cp (Nl++Nf) scope cl C s₀ H₀ ex) target g)(ht:∀cl C s₀ H₀ ex,PTs (X.cp (Nl++Nf) scope cl C s₀ H₀ ex) ifs tc)(he:∀cl C s₀ H₀ ex,PE (X.cp (Nl++Nf) scope cl C s₀ H₀ ex) elt te)
  (hgy:PG X (.Name y py) gy)(hsw:swapsWith (.ListComp elt [⟨target,iter,ifs,0⟩] scope pos) (some (.Name y py)) spos.line X.env=pure true)
  (hs:∀x,foldedSetIterable iter X.env x=pure x:=by intro _;rfl):
  PS X (.Assign [.Name y py] (.ListComp elt [⟨target,iter,ifs,0⟩] scope pos) spos) (tAsg (tComp wi Nl.length js g tc te) gy):=by
 intro pins s σ H D I h;obtain⟨cl,hclos,hcl,hcf⟩:=x0u (scope:=scope) (env:=X.env) fun x hx hf=>I.ok.has x.1 (hfree x hx hf)
 rw[exec_Assign_Name_used _ _ _ _ hsw];refine wpAny_bind (wpAny_standAt (wpAny_bind ?_));show wpAny _ _ (do let _ <- comprehension _ _ _ _ _ _ _ _) _ _ _;refine wpAny_bind (wpAny_comprehension_free (Q:=fun _ s''=>wpAny (model X.prog X.w) X.A (pure ()) (fun _ s3=>wpAny (model X.prog X.w) X.A (pure Flow.next) (SP X pins D) X.xe s3) X.xe s'') (use:=some (assign (.Name y py) X.env)) rfl hs hclos hk hnames (thn (hi pins s σ H _ I h) fun v s1 h1=>thn h1 fun itv s2 h2=>?_))
 obtain⟨it,fp,tn,J,H2,e,I2,T,st2,f2,rd⟩:=h2;subst e;refine wpAny_newObj_type (wpAny_newFunctionEnv hcell (by intro y hy;simp at hy) (fun h₁ hns₁ hsb₁=>?_) hk)
 dsimp only at hns₁ hsb₁ |-
 have szp:(s2.heap.push {cls:=.type "list", dict:=none,data:=.seq ([]:List Value).toArray}).objs.size=s2.heap.objs.size+1:=Heap.size_push ..;rw[szp]at hns₁ hsb₁ |-
 have fD:H2 s2.heap.objs.size=none:=I2.hok.fresh (w0e _);obtain⟨W,⟨m0,w0⟩,turn⟩:=rd s2.heap.objs.size fD;have obj2:=T.obj 0 s2.heap st2;have IS:=x34 (Nl:=Nl) (Nf:=Nf) (js:=js) (cl:=cl) (tk:=s2.toks+([]:List (Str×Value)).length) I2 f2 obj2 hk hcell hcl hcf hj hlen hNf hvis hns₁ hsb₁
 have upS:∀b u,s2.heap.get? b=some u->h₁.get? b=some u:=fun b u q=>by
  have hlt:=Heap.lt_size q;exact(hsb₁.2 b (w0p (w2y hlt))).trans (Heap.get?_push_of_some _ (Heap.get?_push_of_some _ q))
 have stS:tn 0 h₁:=T.keep 0 s2.heap h₁ st2 fun b hb o q=>upS b o q
 have noD:∀b∈fp,upd H2 s2.heap.objs.size (.lst []) b=none:=fun b hb=>by
  obtain⟨o,q,_⟩:=obj2 b hb;rw[q0f (w0p (Heap.lt_size q))];exact(f2 b hb).1
 have stat:∀{H':Hp},(∀b∈fp,H' b=none)->∀b∈fp,FpOk (X.cp (Nl++Nf) scope cl (s2.heap.objs.size+1) {s2 with heap:=s2.heap.push {cls:=.type "list", dict:=none,data:=.seq ([]:List Value).toArray}} (upd H2 s2.heap.objs.size (.lst [])) fp) [] H' b:=fun hn b hb=>by
  refine⟨hn b hb,(IS.ok.exf b hb).1,IS.ok.exfs b hb,.inl hb,(IS.ok.exf b hb).2,fun p hp=>(by cases hp)⟩
 have loop:∀s4:Shared,s4={s2 with heap:=h₁,toks:=s2.toks+([]:List (Str×Value)).length} ->
   codeAny (model X.prog X.w) X.A (.compLoop (.ListComp elt [⟨target,iter,ifs,0⟩] scope pos) 0 (.ref it) (.ref s2.heap.objs.size) (compEnvC scope cl (s2.heap.objs.size+1) X.env))
    (compPost (model X.prog X.w) X.A X.xe (some (assign (.Name y py) X.env)) (fun _ s''=>wpAny (model X.prog X.w) X.A (pure ()) (fun _ s3=>wpAny (model X.prog X.w) X.A (pure Flow.next) (SP X pins D) X.xe s3) X.xe s'') (.ref s2.heap.objs.size) (s2.heap.objs.size+1)) s4:=by
  rintro s4 rfl;refine x2g (fun n s'=>∃i H',Inv (X.cp (Nl++Nf) scope cl (s2.heap.objs.size+1) {s2 with heap:=s2.heap.push {cls:=.type "list", dict:=none,data:=.seq ([]:List Value).toArray}} (upd H2 s2.heap.objs.size (.lst [])) fp) [] (List.replicate Nl.length none++pj js σ) H' s'/\tn i s'.heap/\(∀b∈fp,H' b=none)/\W i n H') ?_ m0 ⟨0,_,IS,stS,noD,w0⟩
  rintro n s3 ⟨i,H3,I3,st3,fr3,w3⟩;rcases turn i n H3 w3 with⟨stop,qn⟩|⟨go,step⟩
  ·refine thn (T.done (X.cp (Nl++Nf) scope cl (s2.heap.objs.size+1) {s2 with heap:=s2.heap.push {cls:=.type "list", dict:=none,data:=.seq ([]:List Value).toArray}} (upd H2 s2.heap.objs.size (.lst [])) fp) rfl rfl rfl hc i [] s3 _ H3 _ I3 (stat fr3) st3 stop) fun r s5 ⟨hr,I5⟩=>?_
   subst hr;obtain⟨m5,hn5,_⟩:=I5.loc;obtain⟨o5,es5,ep5,ho5,hd5,hk5,hf5⟩:=id hn5;have J5:Inv X pins σ H3 s5:=x8x I2 f2 I5 (h':=s5.heap) ⟨rfl,fun _ _=>rfl⟩
   have fC:FpOk X pins H3 (s2.heap.objs.size+1):=I2.fpOk (Nat.le_succ _) I5.free;have f1:∀b∈[s2.heap.objs.size+1],FpOk X pins H3 b:=fun b hb=>by rw[w1c.mp hb];exact fC
   have J6:=J5.pinned f1 (fun b hb=>by rw[w1c.mp hb];exact⟨o5,ho5,fun v z=>by rw[hd5]at z;cases z⟩)
   refine thn (hgy _ s5 σ H3 (.ref s2.heap.objs.size) _ _ J6 rfl qn) fun _ s6 ⟨σ6,H6,I6,q6⟩=>?_
   have pC:=I6.pin (s2.heap.objs.size+1,o5) (w0i _ (w0i _ (q3g (w1c.mpr rfl) ho5)));refine⟨m5,⟨o5,es5,ep5,pC.1,hd5,hk5,hf5⟩,fun h' hs'=>wpAny_pure (wpAny_pure ⟨σ6,H6,?_,q6⟩)⟩
   obtain⟨g0,g1,g2,g3,g4,g5⟩:=fC;exact I6.unpinned.turned (t':=s6.toks) (fun b o hb e=>(hs'.2 b hb).trans e) pC.2.1 g1 g3 g4 g5
  ·refine thn (T.item (X.cp (Nl++Nf) scope cl (s2.heap.objs.size+1) {s2 with heap:=s2.heap.push {cls:=.type "list", dict:=none,data:=.seq ([]:List Value).toArray}} (upd H2 s2.heap.objs.size (.lst [])) fp) rfl rfl rfl hc i [] s3 _ H3 _ I3 (stat fr3) st3 go) fun r s5 ⟨u,hr,h5⟩=>?_
   subst hr;refine thn h5 fun _ s6 ⟨x,H6,I6,r6,y6,st6,fr6⟩=>?_
   have I6':=I6.pinned (stat fr6) (T.obj _ _ st6);refine thn (hg _ _ _ _ _ _ s6 _ H6 x u _ I6' r6 (step x H6 y6)) fun _ s7 ⟨σ7,H7,I7,kp,q7⟩=>?_
   refine thn (ht _ _ _ _ _ _ s7 σ7 H7 _ I7 q7) fun ok s8 ⟨H8,I8,q8⟩=>?_
   have again:∀{σ9:St}{H9:Hp}{s9:Shared},Inv (X.cp (Nl++Nf) scope cl (s2.heap.objs.size+1) {s2 with heap:=s2.heap.push {cls:=.type "list", dict:=none,data:=.seq ([]:List Value).toArray}} (upd H2 s2.heap.objs.size (.lst [])) fp) ([]++pinsAt fp s6.heap) σ9 H9 s9 ->
     Kp (List.replicate Nl.length none++pj js σ) σ9->(∃m',m'<n/\W (i+1) m' H9)->∃m,m<n/\∃i H',Inv (X.cp (Nl++Nf) scope cl (s2.heap.objs.size+1) {s2 with heap:=s2.heap.push {cls:=.type "list", dict:=none,data:=.seq ([]:List Value).toArray}} (upd H2 s2.heap.objs.size (.lst [])) fp) [] (List.replicate Nl.length none++pj js σ) H' s9/\tn i s9.heap/\(∀b∈fp,H' b=none)/\W i m H':=fun {σ9 H9 s9} I9 hw ⟨m',hm,w9⟩=>by
    refine⟨m',hm,i+1,H9,I9.unpinned.weak (by rw[I9.len,<- IS.len]) hw,T.keep _ _ _ st6 fun b hb o q=>(I9.pin (b,o) (w0i _ (w0i _ (q3g hb q)))).1,fun b hb=>?_,w9⟩
    obtain⟨o,q,d⟩:=T.obj _ _ st6 b hb;exact(I9.pin (b,o) (w0i _ (w0i _ (q3g hb q)))).2.1
   cases ok with
   |false=>exact again I8 kp (by simpa using q8)
   |true=>
    have q8':=by simpa only[if_true]using q8
    refine thn (he _ _ _ _ _ _ s8 σ7 H8 _ I8 q8') fun y s9 ⟨yv,H9,I9,r9,ys,hD,hz,q9⟩=>?_
    refine thn (q8k _ s9 σ7 H9 (.ref s2.heap.objs.size) [yv] (.ref s2.heap.objs.size) [y] (fun v H'=>v=.non/\H'=upd H9 s2.heap.objs.size (.lst (ys++[yv]))) I9 rfl (.cons r9 .nil) ⟨_,ys,yv,rfl,rfl,hD,hz,rfl,rfl⟩) fun _ s10 ⟨_,H10,I10,_,_,e10⟩=>?_
    subst e10;exact again I10 kp q9
 exact codeAny_compStart_list (loop _ rfl) (T.self X.A 0 _ _ _ stS (loop _ rfl))
end
variable{X:Cx}
theorem x2j{y:Str}{py spos:Pos}{gy:TG}{elt target iter:Expr}{ifs:List Expr}{scope sc:Scope}{pos:Pos}{wi:TI}{g:TG}{tc:TT}{te:TE}{Nl Nf N:List Str}{js:List Nat}(hc:X.calm=true)(hi:PI X target iter wi)
  (ok:compOk sc scope N Nf js=true)
  (hg:∀cl C s₀ H₀ ex,PG (X.cp (Nl++Nf) scope cl C s₀ H₀ ex) target g)(ht:∀cl C s₀ H₀ ex,PTs (X.cp (Nl++Nf) scope cl C s₀ H₀ ex) ifs tc)(he:∀cl C s₀ H₀ ex,PE (X.cp (Nl++Nf) scope cl C s₀ H₀ ex) elt te)
  (hgy:PG X (.Name y py) gy)(hsw:swapsWith (.ListComp elt [⟨target,iter,ifs,0⟩] scope pos) (some (.Name y py)) spos.line X.env=pure true)
  (hsc:X.env.scope=sc:=by rfl)(hN:X.N=N:=by rfl)(hs:∀x,foldedSetIterable iter X.env x=pure x:=by intro _;rfl):
  PS X (.Assign [.Name y py] (.ListComp elt [⟨target,iter,ifs,0⟩] scope pos) spos) (tAsg (tComp wi Nl.length js g tc te) gy):=by
 unfold compOk at ok;simp only[w0g,w1g,beq_iff_eq,bne_iff_ne,Bool.or_eq_true,w1d]at ok;obtain⟨⟨⟨⟨⟨⟨k1,k2⟩,k3⟩,k4⟩,k5⟩,k6⟩,k7⟩:=ok;have kind:∀x,X.env.kindOf x=sc.names.lookup x:=fun x=>by rw[<- hsc];rfl
 refine y1y hc hi k1 k2 (fun x hx hl=>(k3 x hx).resolve_left fun z=>z hl) (fun x hx hf=>?_) (fun i j y e1 e2=>?_) k5 (fun y hy=>?_) (fun y hy=>?_) hg ht he hgy hsw hs
 ·rw[kind];rcases k4 x hx with(z|z)|z
  ·exact absurd hf z
  ·exact .inl z
  ·exact .inr z
 ·have hlt:i<js.length:=(w0a.mp e2).1;have z:=k6 i hlt;rw[e1,e2]at z;rw[hN]
  simpa using z
 ·obtain⟨z1,z2⟩:=k7 y hy;refine⟨PySem.mem_of_lookup z1,?_,?_⟩
  ·rw[hsc];rcases z2 with z|z
   ·exact .inr (.inl z)
   ·exact .inr (.inr z)
  ·rw[kind];rcases z2 with z|z<;>(rw[z];decide)
 ·exact q6f (k7 y hy).1
def rCatS(K:PySem.W.Frag):R2:=fun x y H Q=>∃l b xs zs,x=.ref l/\y=.ref b/\SqL K H l xs/\SqL K H b zs/\xs.length+zs.length<=sizeLine/\∀p,H p=none->Q (.ref p) (upd H p (.lst (xs++zs)))
theorem y4z:OpR X (binaryOp .Add) (rCatS X.K):=by
 intro pins s σ H x y v u Q I rx ry h;obtain⟨l,b,xs,zs,rfl,rfl,h1,h2,hz,q⟩:=h;cases rx;cases ry;obtain⟨its,r1,p1,_⟩:=I.list h1;obtain⟨its2,r2,p2,_⟩:=I.list h2;obtain⟨⟨cls,dd,data,sl⟩,ho,hc,n,hd⟩:=id p1.isList;obtain⟨⟨cls2,dd2,data2,sl2⟩,ho2,hc2,n2,hd2⟩:=id p2.isList;simp only at hc hd hc2 hd2;subst hc hd hc2 hd2;have l1:=r1.length;have l2:=r2.length;refine concat_meets ⟨_,ho,rfl⟩ ⟨_,ho2,rfl⟩ noFill_list_add seq_list_add PySem.F.slot_list_add PySem.F.entry_list_add (PySem.F.args_list_add_2 _ _) (list_addW l b its.toArray its2.toArray n n2 dd dd2 sl sl2 (by simp only[w0c];omega)) ⟨ho,ho2,?_⟩;have ea:its.toArray++its2.toArray=(its++its2).toArray:=by simp
 rw[ea];exact⟨.ref _,_,I.lnew (t':=s.toks) (r1.append r2) (by rw[w0k];omega),rfl,q _ I.fresh⟩
end L2
namespace D
open PySem L2
variable{a:Addr}{A:Around}{X:Cx}{dA p:Den (List W)}{c cc:Den Bool}{d da db dk:Den W}{G G1 H:Hp}{hi lo:Int}{pins:List (Addr×Obj)}{ps:List (W×W)}{es:List Expr}{js:List Nat}{e:List S}{q s1:List S->SR}{xs:List V}{ws:List W}{F:List W->FR}{f:List W->Option W}{i j kt n:Nat}{b:Option Nat}{apos cpos p1 p2 pn pos:Pos}{K:PySem.W.Frag}{s:Shared}{σ:St}{EE:St->XK}{x y:Str}{T:String}{α:Type}{v v':V}{cv u u':Value}{w w':W}{Z:Zt}
noncomputable def addW:W->W->Option W
 |.int i,.int j=>some (.int (i+j))
 |.str x,.str y=>if x.length+y.length<=16777216 then some (.str (x++y))else none
 |.tup xs,.tup ys=>if xs≠[]/\xs.length+ys.length<=16777216 then some (.tup (xs++ys))else none
 |.lst xs,.lst ys=>if xs.length+ys.length<=16777216 then some (.lst (xs++ys))else none
 |_,_=>none
noncomputable def subW:W->W->Option W
 |.int i,.int j=>some (.int (i-j))
 |_,_=>none
noncomputable def mulW:W->W->Option W
 |.int i,.int j=>if(-(2^64)<i/\i<2^64)\/(-(2^64)<j/\j<2^64)then some (.int (i*j))else none
 |_,_=>none
noncomputable def fdivW:W->W->Option W
 |.int i,.int j=>if 0<j/\j<1073741824 then some (.int (i / j))else none
 |_,_=>none
noncomputable def modW:W->W->Option W
 |.int i,.int j=>if 0<j then some (.int (i%j))else none
 |_,_=>none
noncomputable def ltW:W->W->Option W
 |.int i,.int j=>some (.bl (decide (i<j)))
 |_,_=>none
noncomputable def gtW:W->W->Option W
 |.int i,.int j=>some (.bl (decide (j<i)))
 |_,_=>none
noncomputable def geW:W->W->Option W
 |.int i,.int j=>some (.bl (decide (j<=i)))
 |_,_=>none
noncomputable def negW:W->Option W
 |.int i=>some (.int (-i))
 |_=>none
theorem x88:Op2 K (fun x y H Q=>rI0 (fun i j=>.int (i+j)) x y H Q\/((∃i j,x=.str i/\y=.str j/\i.length+j.length<=sizeLine/\Q (.str (i++j)) H)\/(rCatT K x y H Q\/rCatS K x y H Q))) addW:=by
 intro G H x y wx wy w Q s px py hf h;unfold addW at hf;split at hf
 ·cases hf;cases px;cases py;exact .inl ⟨_,_,rfl,rfl,h G _ H (.refl s) rfl⟩
 ·split at hf
  ·rename_i hl;cases hf;cases px;cases py;exact .inr (.inl ⟨_,_,rfl,rfl,by rw[sizeLine_eq];exact hl,h G _ H (.refl s) rfl⟩)
  ·cases hf
 ·rename_i us ws;split at hf
  ·rename_i hl;cases hf;obtain⟨a,xs,rfl,ha,ra⟩:=px;obtain⟨b,ys,rfl,hb,rb⟩:=py;have l1:=ra.length;have l2:=rb.length;refine .inr (.inr (.inl ⟨a,b,xs,ys,rfl,rfl,s.tup ha,s.tup hb,fun z=>hl.1 ?_,by rw[l1,l2,sizeLine_eq];exact hl.2,fun z=>?_,fun z p hp=>?_⟩))
   ·subst z;cases us with
    |nil=>rfl
    |cons _ _=>simp at l1
   ·subst z
    have:ws=[]:=by cases ws with
     |nil=>rfl
     |cons _ _=>simp at l2
    subst this;exact h G _ H (.refl s) ⟨a,xs,rfl,ha,by simpa using ra⟩
   ·have g:=Grow.laid s hp (.tup (xs++ys));exact h _ _ _ g ⟨p,_,rfl,SqT.of q0o,Reps.append (Reps.mono g.gg _ ra) (Reps.mono g.gg _ rb)⟩
  ·cases hf
 ·split at hf
  ·rename_i hl;cases hf;obtain⟨a,xs,rfl,ha,ra⟩:=px;obtain⟨b,ys,rfl,hb,rb⟩:=py;have l1:=ra.length;have l2:=rb.length;refine .inr (.inr (.inr ⟨a,b,xs,ys,rfl,rfl,s.seq ha,s.seq hb,by rw[l1,l2,sizeLine_eq];exact hl,fun p hp=>?_⟩))
   have g:=Grow.laid s hp (.lst (xs++ys));exact h _ _ _ g ⟨p,_,rfl,SqL.of q0o,Reps.append (Reps.mono g.gg _ ra) (Reps.mono g.gg _ rb)⟩
  ·cases hf
 ·cases hf
theorem y88:Op2 K (rI0 fun i j=>.int (i-j)) subW:=by
 intro G H x y wx wy w Q s px py hf h;unfold subW at hf;split at hf
 ·cases hf;cases px;cases py;exact⟨_,_,rfl,rfl,h G _ H (.refl s) rfl⟩
 ·cases hf
theorem y89:Op2 K (rI CMul fun i j=>.int (i*j)) mulW:=by
 intro G H x y wx wy w Q s px py hf h;unfold mulW at hf;split at hf
 ·split at hf
  ·rename_i hc;cases hf;cases px;cases py;exact⟨_,_,rfl,rfl,hc,h G _ H (.refl s) rfl⟩
  ·cases hf
 ·cases hf
theorem y40:Op2 K (rI CDiv fun i j=>.int (i / j)) fdivW:=by
 intro G H x y wx wy w Q s px py hf h;unfold fdivW at hf;split at hf
 ·split at hf
  ·rename_i hc;cases hf;cases px;cases py;exact⟨_,_,rfl,rfl,hc,h G _ H (.refl s) rfl⟩
  ·cases hf
 ·cases hf
theorem y9a:Op2 K (rI (fun _ j=>0<j) fun i j=>.int (i%j)) modW:=by
 intro G H x y wx wy w Q s px py hf h;unfold modW at hf;split at hf
 ·split at hf
  ·rename_i hc;cases hf;cases px;cases py;exact⟨_,_,rfl,rfl,hc,h G _ H (.refl s) rfl⟩
  ·cases hf
 ·cases hf
theorem y3w:Op2 K (rI0 fun i j=>.bl (decide (i<j))) ltW:=by
 intro G H x y wx wy w Q s px py hf h;unfold ltW at hf;split at hf
 ·cases hf;cases px;cases py;exact⟨_,_,rfl,rfl,h G _ H (.refl s) rfl⟩
 ·cases hf
theorem y3x:Op2 K (rI0 fun i j=>.bl (decide (j<i))) gtW:=by
 intro G H x y wx wy w Q s px py hf h;unfold gtW at hf;split at hf
 ·cases hf;cases px;cases py;exact⟨_,_,rfl,rfl,h G _ H (.refl s) rfl⟩
 ·cases hf
theorem z2q:Op2 K (rI0 fun i j=>.bl (decide (j<=i))) geW:=by
 intro G H x y wx wy w Q s px py hf h;unfold geW at hf;split at hf
 ·cases hf;cases px;cases py;exact⟨_,_,rfl,rfl,h G _ H (.refl s) rfl⟩
 ·cases hf
theorem y9b:Op1 K (rU fun i=>.int (-i)) negW:=by
 intro G H x wx w Q s px hf h;unfold negW at hf;split at hf
 ·cases hf;cases px;exact⟨_,rfl,h G _ H (.refl s) rfl⟩
 ·cases hf
mutual
noncomputable def eqW:W->W->Option Bool
 |.non,.non=>some true
 |.non,.bl _=>some false|.non,.int _=>some false|.non,.str _=>some false|.non,.tup _=>some false|.non,.lst _=>some false
 |.bl a,.bl b=>some (a==b)
 |.bl a,.int b=>some ((if a then 1 else 0)==b)
 |.bl _,.non=>some false|.bl _,.str _=>some false|.bl _,.tup _=>some false|.bl _,.lst _=>some false
 |.int a,.int b=>some (a==b)
 |.int a,.bl b=>some (a==(if b then 1 else 0))
 |.int _,.non=>some false|.int _,.str _=>some false|.int _,.tup _=>some false|.int _,.lst _=>some false
 |.str a,.str b=>some (a==b)
 |.str _,.non=>some false|.str _,.bl _=>some false|.str _,.int _=>some false|.str _,.tup _=>some false|.str _,.lst _=>some false
 |.tup _,.non=>some false|.tup _,.bl _=>some false|.tup _,.int _=>some false|.tup _,.str _=>some false|.tup _,.lst _=>some false
 |.lst _,.non=>some false|.lst _,.bl _=>some false|.lst _,.int _=>some false|.lst _,.str _=>some false|.lst _,.tup _=>some false
 |.tup xs,.tup ys=>eqWs xs ys
 |.lst xs,.lst ys=>eqWs xs ys
 |.exc _,_=>none
 |_,.exc _=>none
 |.dic _,_=>none
 |_,.dic _=>none
 |.dw _ _ _ _,_=>none
 |.fn _ _ _,_=>none
 |_,.dw _ _ _ _=>none
 |_,.fn _ _ _=>none
noncomputable def eqWs:List W->List W->Option Bool
 |[],[]=>some true
 |[],_::_=>some false
 |_::_,[]=>some false
 |x::xs,y::ys=>match eqW x y,eqWs xs ys with
  |some a,some b=>some (a&&b)
  |_,_=>none
end
noncomputable def ixW:W->W->Option W
 |.tup ws,.int i=>atI ws i
 |.lst ws,.int i=>atI ws i
 |.str z,.int i=>if z.length<=16777216 then(atI z.cps.toList i).map fun c=>.str ⟨#[c]⟩else none
 |_,_=>none
theorem Reps.atI{i:Int}(r:Reps K G ws xs)(h:L2.atI ws i=some w):∃x,L2.atI xs i=some x/\Rep K G w x:=by
 unfold L2.atI at h |-
 rw[r.length];cases q:ixN ws.length i with
 |none=>rw[q]at h;cases h
 |some j=>
  rw[q]at h;exact r.get h
theorem y3y:Op2 K (rIx K) ixW:=by
 intro G H x y wx wy w Q s px py hf h;unfold ixW at hf;split at hf
 ·obtain⟨a,xs,rfl,ha,ra⟩:=px;cases py;obtain⟨v,hv,rv⟩:=ra.atI hf;exact .inr (.inl ⟨a,xs,_,v,rfl,rfl,s.tup ha,hv,h G v H (.refl s) rv⟩)
 ·obtain⟨a,xs,rfl,ha,ra⟩:=px;cases py;obtain⟨v,hv,rv⟩:=ra.atI hf;exact .inl ⟨a,xs,_,v,rfl,rfl,s.seq ha,hv,h G v H (.refl s) rv⟩
 ·cases px;cases py;split at hf
  ·rename_i hl;obtain⟨c,hc,rfl⟩:=w0d.mp hf;exact .inr (.inr ⟨_,_,c,rfl,rfl,by rw[sizeLine_eq];exact hl,hc,h G _ H (.refl s) rfl⟩)
  ·cases hf
 ·cases hf
noncomputable def S.look:S->Option W
 |.fr w=>some w
 |.own _ ws=>some (.lst ws)
 |.no=>none
 |.dic _=>none
 |.thr _ _ _=>none
 |.nest _=>none
 |.x k=>k.look
 |.dw _ _ _=>none
noncomputable def dIxV(i:Nat)(d:Den W):Den W:=fun e=>match e[i]?.bind S.look with
 |none=>.no
 |some _=>(d e).bind fun k e1=>match e1[i]?.bind S.look with
  |none=>.no
  |some w=>ofOpt (ixW w k) e1
noncomputable def lenW:W->Option W
 |.str z=>if z.length<=16777216 then some (.int z.length)else none
 |.tup ws=>some (.int ws.length)
 |.lst ws=>some (.int ws.length)
 |_=>none
noncomputable def len1:List W->Option W
 |[w]=>lenW w
 |_=>none
theorem x89:OpN K (fun xs H Q=>∃x n,xs=[x]/\LenV K x H n/\Q (.int n) H) len1:=by
 intro G H xs ws w Q s pr hf h;unfold len1 at hf;split at hf
 ·obtain⟨x,r,rfl,px,pr⟩:=pr;cases(show r=[]from pr);unfold lenW at hf;split at hf
  ·split at hf
   ·rename_i hl;cases hf;cases px;exact⟨_,_,rfl,⟨by rw[sizeLine_eq];exact hl,rfl⟩,h G _ H (.refl s) rfl⟩
   ·cases hf
  ·cases hf;obtain⟨a,xs,rfl,ha,ra⟩:=px;exact⟨_,_,rfl,.inr ⟨xs,s.tup ha,rfl⟩,h G _ H (.refl s) (by rw[ra.length];rfl)⟩
  ·cases hf;obtain⟨a,xs,rfl,ha,ra⟩:=px;exact⟨_,_,rfl,.inl ⟨xs,s.seq ha,rfl⟩,h G _ H (.refl s) (by rw[ra.length];rfl)⟩
  ·cases hf
 ·cases hf
noncomputable def scalW:W->Bool
 |.non=>true|.bl _=>true|.int _=>true|.str _=>true|_=>false
theorem y1z{G':Hp}(h:scalW w=true)(p:Rep K G w v):Rep K G' w v:=by
 cases w with
 |non=>exact p
 |bl b=>exact p
 |int i=>exact p
 |str x=>exact p
 |_=>cases h
noncomputable def dFnV(i:Nat)(f:List W->Option W):Den W:=fun e=>match e[i]?.bind S.look with
 |none=>.no
 |some w=>match f [w]with
  |none=>.no
  |some v=>match e[i]? with
   |some (.fr _)=>.ok v e
   |_=>if scalW v=true then .ok v e else .no
section
variable{a b e:Expr}{p:Pos}
theorem q0n(ha:DE Z X EE a d)(hb:DE Z X EE b db)(hs:PlainIx b:=by intro _ _;rfl):DE Z X EE (.Subscript a b pos) (dOp ixW d db):=PE.mono (x67 x8s ha hb hs) (q5k y3y)
theorem Rel.look{e:List S}(r:Rel K Z G σ H e)(h:e[i]?.bind S.look=some w):∃v,σ[i]?=some (some v) /\
  (Rep K G w v\/∃ws a xs u,(∀z,e[i]?≠some (.fr z))/\w=.lst ws/\v=.ref a/\H a=some u/\(u=.lst xs\/∃o,u=.frz o (.lst xs))/\G a=none/\Reps K G ws xs):=by
 obtain⟨s,h1,h2⟩:=w0s.mp h;cases s with
 |no=>cases h2
 |dic _=>cases h2
 |thr _ _ _=>cases h2
 |nest _=>cases h2
 |dw _ _ _=>cases h2
 |fr w'=>
  cases h2;obtain⟨v,h3,h4⟩:=r.fr h1;exact⟨v,h3,.inl h4⟩
 |x k=>
  have q:=r.slot i _ h1;cases k with
  |old w'=>cases h2;obtain⟨v,h1',h3⟩:=r.plain h1 rfl;exact⟨v,h1',.inl h3⟩
  |new w'=>cases h2;obtain⟨v,h1',h3⟩:=r.plain h1 rfl;exact⟨v,h1',.inl h3⟩
  |acc ws=>cases h2;obtain⟨a,o,xs,k1,⟨k2,k3,_⟩,k5⟩:=q;exact⟨.ref a,r.at h1 fun _=>k1,.inr ⟨ws,a,xs,_,(fun z y=>by rw[h1]at y;cases y),rfl,rfl,k2,.inr ⟨o,rfl⟩,k3,RepNs.reps _ k5⟩⟩
  |_=>cases h2
 |own b ws=>
  cases h2;obtain⟨a,xs,h3,h4,h5,h6,h7⟩:=r.own h1;exact⟨.ref a,h3,.inr ⟨ws,a,xs,_,(fun z y=>by rw[h1]at y;cases y),rfl,rfl,h4,.inl rfl,h5,h7⟩⟩
theorem x9a{K:PySem.W.Frag}{a:Addr}{u:HO}(s:Same G H)(h:H a=some u)(hg:G a=none):Same G (upd G a u)/\Same (upd G a u) H:=
 ⟨q3h hg _,fun c o z=>by
  by_cases hc:c=a
  ·subst hc;rw[q0o]at z;cases z;exact h
  ·rw[q0f hc]at z;exact s c o z⟩
theorem x38(i:Nat)(hb:DE Z X EE b d)(hN:X.N[i]?=some x:=by rfl)(hv:Vis X.env.scope x:=by walk_at "1")(hd:(x==("__debug__":Str))=false:=by decide)
  (hcd:(x==("__classdict__":Str))=false:=by decide)(hs:PlainIx b:=by intro _ _;rfl):DE Z X EE (.Subscript (.Name x p) b pos) (dIxV i d):=by
 refine PE.mono (x67 x8s (pv i hN hv hd hcd) hb hs) ?_;rintro σ H Q ⟨G,e,rel,h⟩;unfold dIxV at h;split at h
 ·exact h.elim
 ·rename_i w0 hw0;obtain⟨v,hv,_⟩:=rel.look hw0;refine⟨v,hv,G,e,rel,(R.holds_bind.mp h).imp (fun k e1 h G1 u H1 r1 s1 p1=>?_) fun _ _ h=>h⟩
  split at h
  ·exact h.elim
  ·rename_i w hw;obtain⟨w',hf,h2⟩:=ofOpt_holds.mp h;obtain⟨v',hv',q⟩:=r1.look hw;rw[hv]at hv';cases hv';rcases q with q|⟨ws,a,xs,u,he,rfl,rfl,q1,qu,q2,q3⟩
   ·exact y3y G1 H1 v u w k w' Q r1.sub q p1 hf fun G' v H' g p=>h2 G' v H' (r1.grow g) (s1.trans g.gg) p
   ·-- an item of one's own list
    unfold ixW at hf;split at hf
    ·rename_i heq;cases heq
    ·rename_i heq;cases heq;cases p1;obtain⟨y,hy,ry⟩:=q3.atI hf;refine .inl ⟨a,xs,_,y,rfl,rfl,?_,hy,h2 G1 y H1 r1 s1 ry⟩;rcases qu with rfl|⟨o,rfl⟩
     ·exact SqL.of q1
     ·exact .inl (.inr ⟨o,q1⟩)
    ·rename_i heq;cases heq
    ·cases hf
theorem y9c{r:List V->Hp->VK->Prop}(i:Nat){id:String}{fn:Str}(hc:CallR X (.builtin id) r)(hf:OpN X.K r f)(hv:bootBuiltins fn=some (.builtin id))(hm:X.mg fn=none)
  (hN:X.N[i]?=some x:=by rfl)(hvis:Vis X.env.scope x:=by walk_at "1")(hd:(x==("__debug__":Str))=false:=by decide)(hcd:(x==("__classdict__":Str))=false:=by decide)
  (hg:Gl X fn:=by rfl)(hn:fn≠"__name__":=by decide)(hdb:(fn==("__debug__":Str))=false:=by decide)(hs:starEach [.Name x p] X.env=(false,eval (.Name x p) X.env)::starEach [] X.env:=by rfl)(hpl:(backTo pos (starEach [] X.env)).any (·.1)=false:=by rfl):
  DE Z X EE (.Call (.Name fn pn) [.Name x p] [] pos) (dFnV i f):=by
 refine PE.mono (q95 hc hg hm hv (q55 (pv i hN hvis hd hcd) x30 hs) hn hdb hs hpl) ?_;rintro σ H Q ⟨G,e,rel,h⟩;unfold dFnV at h;split at h
 ·exact h.elim
 ·rename_i w hw;split at h
  ·exact h.elim
  ·rename_i y hy;obtain⟨v,hv,q⟩:=rel.look hw;refine⟨v,hv,?_⟩;rcases q with q|⟨ws,a,xs,u,he,rfl,rfl,q1,qu,q2,q3⟩
   ·refine hf G H [v] [w] y Q rel.sub (.one q) hy fun G' v H' g p=>?_
    split at h
    ·exact h G' v H' (rel.grow g) g.gg p
    ·split at h
     ·exact h G' v H' (rel.grow g) g.gg p
     ·exact h.elim
   ·split at h
    ·rename_i hz;exact absurd hz (he _)
    split at h
    ·rename_i hsc;obtain⟨s1,s2⟩:=x9a (K:=X.K) rel.sub q1 q2
     have hsq:SqL X.K (upd G a u) a xs:=by
      rcases qu with rfl|⟨o,rfl⟩
      ·exact SqL.of q0o
      ·exact .inl (.inr ⟨o,q0o⟩)
     refine hf (upd G a u) H [.ref a] [.lst ws] y Q s2 (.one ⟨a,xs,rfl,hsq,Reps.mono s1 ws q3⟩) hy fun G' v H' g p=>?_
     have g':Grow G H G H':=⟨g.hh,.refl _,rel.sub.trans g.hh,fun _ _=>rfl⟩
     exact(show ∀G' v H',_->_->Rep X.K G' y v->Q v H' from h) G v H' (rel.grow g') (.refl _) (y1z hsc p)
    ·exact h.elim
noncomputable def dApp(i:Nat)(d:Den (List W)):List S->SR:=fun e=>match e[i]? with
 |some (.own _ _)=>(d e).stm fun ws e1=>match ws,e1[i]? with
  |[w],some (.own b xs)=>if xs.length<16777216 then .nx (e1.set i (.own b (xs++[w])))else .no
  |_,_=>.no
 |_=>.no
theorem q37(i:Nat)(ha:DA Z X EE (e::es) dA)(hN:X.N[i]?=some x:=by rfl)(hv:Vis X.env.scope x:=by walk_at "1")(hd:(x==("__debug__":Str))=false:=by decide)(hcd:(x==("__classdict__":Str))=false:=by decide)
  (hbase:attributeBase (.Name x p) "append" X.env (eval (.Name x p) X.env)=eval (.Name x p) X.env:=by rfl)
  (hfew:((backTo cpos (starEach (e::es) X.env)).all (fun x=>!x.1)&&(backToKw cpos (keywordEach [] X.env)).all (fun x=>x.1.isSome)&&decide ((e::es).length+([]:List Keyword).length+(if([]:List Keyword).isEmpty then 0 else 1)<30))=true:=by rfl)
  (hline:(apos.endLine==cpos.line)=true:=by rfl)(hs:starEach (e::es) X.env=(false,eval e X.env)::starEach es X.env:=by rfl)(hplain:(backTo cpos (starEach es X.env)).any (·.1)=false:=by rfl)
  (hsw:swapsWith (.Call (.Attribute (.Name x p) "append" apos) (e::es) [] cpos) none pos.line X.env=pure false:=by rfl):
  DS Z X EE (.Expr (.Call (.Attribute (.Name x p) "append" apos) (e::es) [] cpos) pos) (dApp i dA):=by
 refine PS.mono (x1i (y86 (pv i hN hv hd hcd) ha hbase hfew hline hs hplain) hsw) ?_;rintro D σ H ⟨G,e,rel,h⟩;unfold dApp at h;split at h
 ·rename_i b0 ws0 he0;obtain⟨a,xs,h1,h2,h3,h4,h5⟩:=rel.own he0;refine⟨.ref a,h1,.inl ⟨rfl,xs,SqL.of h2⟩,G,e,rel,(q1b h).imp (fun ws e1 h G1 vs H1 r1 s1 p1=>?_) fun _ _ h=>h⟩
  split at h
  ·rename_i w b ys he1;obtain⟨a',zs,g1,g2,g3,g4,g5⟩:=r1.own he1;rw[h1]at g1;cases g1;obtain⟨y,r,rfl,py,pr⟩:=p1;cases(show r=[]from pr);split at h
   ·rename_i hl;refine⟨a,zs,y,rfl,rfl,g2,by rw[g5.length,sizeLine_eq];exact hl,?_⟩;exact h G1 σ _ (r1.mut he1 h1 (g5.append (.one py))) s1
   ·exact h.elim
  ·exact h.elim
 ·exact h.elim
noncomputable def dPop(i:Nat):Den W:=fun e=>match e[i]? with
 |some (.own b ws)=>match ws[ws.length-1]? with
  |some w=>.ok w (e.set i (.own b ws.dropLast))
  |none=>.no
 |_=>.no
theorem q5b(i:Nat)(hN:X.N[i]?=some x:=by rfl)(hv:Vis X.env.scope x:=by walk_at "1")(hd:(x==("__debug__":Str))=false:=by decide)(hcd:(x==("__classdict__":Str))=false:=by decide)
  (hbase:attributeBase (.Name x p) "pop" X.env (eval (.Name x p) X.env)=eval (.Name x p) X.env:=by rfl)(hline:(apos.endLine==cpos.line)=true:=by rfl):DE Z X EE (.Call (.Attribute (.Name x p) "pop" apos) [] [] cpos) (dPop i):=by
 refine PE.mono (y80 PySem.F.plainAttrs_list PySem.F.slot_list_pop PySem.F.type_list_pop y81 (pv i hN hv hd hcd) hbase hline) ?_;rintro σ H Q ⟨G,e,rel,h⟩;unfold dPop at h;split at h
 ·rename_i b ws he;obtain⟨a,xs,h1,h2,h3,h4,h5⟩:=rel.own he;split at h
  ·rename_i w hw;obtain⟨y,hy,ry⟩:=h5.get hw;refine⟨.ref a,h1,.inl ⟨rfl,xs,SqL.of h2⟩,a,xs,y,rfl,rfl,h2,by rw[h5.length];exact hy,?_⟩;exact h G y _ (rel.mut he h1 h5.dropLast) (.refl _) ry
  ·exact h.elim
 ·exact h.elim
end
noncomputable def compD(c:Den Bool)(d:Den W)(pe:List S):List W->Option (List W)
 |[]=>some []
 |w::ws=>match c (.fr w::pe)with
  |.ok true e1=>match d e1 with
   |.ok y _=>(compD c d pe ws).map (y::·)
   |_=>none
  |.ok false _=>compD c d pe ws
  |_=>none
noncomputable def frz1(e:List S)(j:Nat):List S:=match e[j]? with
 |some (.own none ws)=>e.set j (.fr (.lst ws))
 |_=>e
noncomputable def frzs(js:List Nat)(e:List S):List S:=js.foldl frz1 e
noncomputable def pj1(e:List S)(j:Nat):S:=match e[j]? with
 |some (.fr w)=>.fr w
 |_=>.no
noncomputable def pjS(js:List Nat)(e:List S):List S:=js.map (pj1 e)
noncomputable def compK(js:List Nat)(c:Den Bool)(d:Den W)(ws:List W)(e1:List S):R (List W):=
 if ws.length<=16777216 then(match compD c d (pjS js (frzs js e1)) ws with
  |some out=>.ok out (frzs js e1)
  |none=>.no)else .no
noncomputable def dComp(js:List Nat)(di:Den W)(c:Den Bool)(d:Den W):Den (List W):=fun e=>(di e).bind fun w e1=>match seqW w with
 |some ws=>compK js c d ws e1
 |none=>.no
noncomputable def dCompR(g:List W->Option (List W))(js:List Nat)(di:Den (List W))(c:Den Bool)(d:Den W):Den (List W):=fun e=>(di e).bind fun w e1=>match g w with
 |some ws=>compK js c d ws e1
 |none=>.no
noncomputable def dYes:Den Bool:=fun e=>.ok true e
section
variable{H1:Hp}{e1:List S}
theorem Rel.frzs(r:Rel K Z G σ H e):∀(js:List Nat),∃G',Same G G'/\Rel K Z G' σ H (frzs js e):=by
 intro js
 induction js generalizing G e with
 |nil=>exact⟨G,.refl _,r⟩
 |cons j js ih=>
  have one:∃G',Same G G'/\Rel K Z G' σ H (frz1 e j):=by
   unfold frz1;split
   ·rename_i ws hw;obtain⟨v,G',_,s,_,r'⟩:=r.freeze hw;exact⟨G',s,r'⟩
   ·exact⟨G,.refl _,r⟩
  obtain⟨G1,s1,r1⟩:=one;obtain⟨G2,s2,r2⟩:=ih r1;exact⟨G2,s1.trans s2,r2⟩
theorem Rel.block(r:Rel K Z G σ H e)(js:List Nat){x:V}(p:Rep K G w x):Rel K ⟨H,G,[]⟩ G (some x::pj js σ) H (.fr w::pjS js e):=by
 have hfr:∀(i:Nat)(s:S),(S.fr w::pjS js e)[i]?=some s->s=.no\/∃u,s=.fr u/\((i=0/\u=w)\/∃k j,i=k+1/\js[k]?=some j/\e[j]?=some (.fr u)):=fun i s h=>by
  cases i with
  |zero=>cases h;exact .inr ⟨w,rfl,.inl ⟨rfl,rfl⟩⟩
  |succ k=>
   rw[w2e]at h;unfold pjS at h;rw[w0v]at h;obtain⟨j,h1,h2⟩:=w0d.mp h;unfold pj1 at h2;split at h2
   ·rename_i u hu;subst h2;exact .inr ⟨u,rfl,.inr ⟨k,j,rfl,h1,hu⟩⟩
   ·subst h2;exact .inl rfl
 refine⟨r.sub,fun i s h=>?_,?_,fun i j b b' w1 w2 a h1 h2 _ _=>?_,fun a o h _=>h,(fun a h=>nomatch h),fun a _=>rfl⟩
 ·rcases hfr i s h with rfl|⟨u,rfl,⟨rfl,rfl⟩|⟨k,j,rfl,h1,h2⟩⟩
  ·trivial
  ·exact⟨x,rfl,p⟩
  ·obtain⟨v,h3,h4⟩:=r.fr h2;refine⟨v,?_,h4⟩;rw[w2e];unfold pj;rw[w0v,h1];simp[h3]
 ·simp[pjS,pj]
 ·rcases hfr i _ h1 with z|⟨u,z,_⟩<;>cases z
theorem Rel.mutFree(r:Rel K Z G σ H e){o:HO}(hg:G a=none)(hz:Z.H a=none)(hi:a∉Z.io)(hf:Free σ e a){ls:List V}(hls:H a=some (.lst ls)):Rel K Z G σ (upd H a o) e:=by
 refine⟨fun c u z=>?_,fun j s z=>?_,r.len,r.dis,fun c u z n=>?_,fun c z=>?_,r.gen⟩
 ·rw[q0f (q0r z hg)];exact r.sub c u z
 ·have y:=r.slot j s z;cases s with
  |no=>trivial
  |fr w=>exact y
  |own b2 w2=>
   obtain⟨c,ys,y1,y2,y3,y4,y5⟩:=y;refine⟨c,ys,y1,?_,y3,y4,y5⟩;rw[q0f];exact y2;rintro rfl;obtain⟨c',_,z1,_⟩:=r.own z;rw[z1]at y1;cases y1;exact hf j b2 w2 z z1
  |dic kvs=>
   obtain⟨c,y1,y2,y3,y4⟩:=y;refine⟨c,y1,?_,y3,y4⟩;rw[q0f (q00 y2 hls (q3i rfl))];exact y2
  |thr us w2 vs=>
   obtain⟨t,l,o,xs2,ys,zs,y1,y2,y3,y4,y5,y6⟩:=y;refine⟨t,l,o,xs2,ys,zs,y1,y2,?_,y4,y5,y6⟩;rw[q0f (q00 y3 hls (fun z=>nomatch z))];exact y3
  |nest wss=>exact NestOk.move y (.refl _) fun l o ys k1 k2 k3=>⟨by rw[q0f (q00 k1 hls (fun z=>nomatch z))];exact k1,k2,k3⟩
  |x k=>exact XOk.move y (.refl _) fun l o ys k1 k2 k3=>⟨by rw[q0f (q00 k1 hls (fun z=>nomatch z))];exact k1,k2,k3⟩
  |dw sh ks ws=>exact DwOk.move y (.refl _) fun l o ys k1 k2 k3=>⟨by rw[q0f (q00 k1 hls (fun z=>nomatch z))];exact k1,k2,k3⟩
 ·rw[q0f (q0r z hz)];exact r.ent c u z n
 ·by_cases hc:c=a
  ·subst hc;exact absurd z hi
  ·rw[q0f hc];exact r.ion c z
structure Walk(J:It)(xs:List V)(SQ:Hp->Prop):Prop where
 go:∀i H,SQ H->i<xs.length->J.go i H
 yld:∀i H x H',SQ H->J.yld i H x H'->i<xs.length->H'=H/\xs[i]?=some x
 stop:∀i H,SQ H->xs.length<=i->J.stop i H
theorem x9b:Walk (Itl K a) xs (fun H=>SqL K H a xs):=
 ⟨fun i H q h=>⟨xs,xs[i],q,by simp[h]⟩,fun i H x H' q ⟨e,y⟩ h=>⟨e,y xs q⟩,fun i H q h=>⟨xs,q,h⟩⟩
theorem x9c:Walk (Itt K a) xs (fun H=>SqT K H a xs):=
 ⟨fun i H q h=>⟨xs,xs[i],q,by simp[h]⟩,fun i H x H' q ⟨e,y⟩ h=>⟨e,y xs q⟩,fun i H q h=>⟨xs,q,h⟩⟩
theorem x9d:Walk (Itr lo n) ((List.range n).map fun k=>V.int (lo+(k:Nat))) (fun _=>True):=
 ⟨fun i H q h=>show i<n by simpa using h,fun i H x H' q ⟨e,y⟩ h=>⟨e,by simp at h;simp[h,y]⟩,fun i H q h=>show n<=i by simpa using h⟩
theorem q63{J:It}{SQ:Hp->Prop}{out:List W}{Q:VK}{G0:Hp}(W0:Walk J xs SQ)(r1:Rel K Z G1 σ H1 e1)(s1:Same G0 G1)(rp:Reps K G1 ws xs)(hSQ:∀G' H',Same G1 G'->Same G' H'->SQ H')(hl:ws.length<=16777216)
  (hz:∀p,H1 p=none->p∉Z.io)(hc:compD c d (pjS js e1) ws=some out)
  (h:∀G' a xs H',Rel K Z G' σ H' e1->Same G0 G'->H' a=some (.lst xs)->G' a=none->Z.H a=none->Free σ e1 a->Reps K G' out xs->Q (.ref a) H'):
  ∀D,H1 D=none->∃W:Nat->Nat->Hp->Prop,(∃m,W 0 m (upd H1 D (.lst [])))/\∀i m H2,W i m H2 ->
   (J.stop i H2/\Q (.ref D) H2)\/(J.go i H2/\∀x H3,J.yld i H2 x H3->gName 0 x (List.replicate 1 none++pj js σ) H3 fun σ4 H4=>Kp (List.replicate 1 none++pj js σ) σ4/\(fun σ H Q=>∃Z',liftT K Z' (fun _=>E0) c σ H Q) σ4 H4 fun b H5=>
    if b=true then(fun σ H Q=>∃Z',AtG K Z' σ H fun G e=>(d e).holds (fun w e'=>∀G' v H',Rel K Z' G' σ H' e'->Same G G'->Rep K G' w v->Q v H') (XH K Z' (fun _=>E0) σ G)) σ4 H5 fun y H6=>∃ys,H6 D=some (.lst ys)/\ys.length<sizeLine/\∃m',m'<m/\W (i+1) m' (upd H6 D (.lst (ys++[y])))else ∃m',m'<m/\W (i+1) m' H5):=by
 intro D hD;have hlen:=rp.length
 refine⟨fun i m H2=>m=ws.length-i/\i<=ws.length/\∃G2 ys done rest,Rel K Z G2 σ H2 e1/\Same G1 G2/\H2 D=some (.lst ys)/\G2 D=none/\Reps K G2 done ys/\done.length<=i/\compD c d (pjS js e1) (ws.drop i)=some rest/\done++rest=out,
  ⟨ws.length,by omega,w1l _,G1,[],[],out,r1.grow (Grow.hid r1.sub hD _),.refl _,q0o,r1.sub.free hD,rfl,w0e _,hc,rfl⟩,?_⟩
 rintro i m H2 ⟨rfl,hi,G2,ys,done,rest,r2,s2,hd2,hg2,rp2,hdl,hc2,ho⟩;have hfree:Free σ e1 D:=q97 r1 hD;have hzh:Z.H D=none:=q61 r1 hD
 by_cases hlt:i<ws.length
 ·refine .inr ⟨W0.go i H2 (hSQ G2 H2 s2 r2.sub) (by omega),fun x H3 hy=>?_⟩
  obtain⟨rfl,hx⟩:=W0.yld i H2 x H3 (hSQ G2 H2 s2 r2.sub) hy (by omega);obtain⟨w,hw,pw⟩:=rp.getV hx;rw[x2i hw]at hc2;refine⟨Kp.one,⟨H3,G2,[]⟩,G2,.fr w::pjS js e1,r2.block js (Rep.mono s2 w pw),?_⟩;unfold compD at hc2;cases qc:c (.fr w::pjS js e1)with
  |no=>rw[qc]at hc2;cases hc2
  |ex _ _=>rw[qc]at hc2;cases hc2
  |ok k e2=>
   rw[qc]at hc2;intro G3 H5 r3 s3;have g3:=r3.toGrow s3;cases k with
   |false=>
    exact⟨ws.length-(i+1),by omega,rfl,hlt,G3,ys,done,rest,r2.grow g3,s2.trans s3,g3.hh _ _ hd2,by rw[g3.new D (by rw[hd2];simp)];exact hg2,Reps.mono s3 _ rp2,by omega,hc2,ho⟩
   |true=>
    refine⟨⟨H3,G2,[]⟩,G3,e2,r3,?_⟩;dsimp only at hc2;cases qd:d e2 with
    |no=>rw[qd]at hc2;cases hc2
    |ex _ _=>rw[qd]at hc2;cases hc2
    |ok y e3=>
     rw[qd]at hc2;intro G4 v H6 r4 s4 p4;have g4:=r4.toGrow (s3.trans s4);obtain⟨rest',hr,rfl⟩:=w0d.mp hc2;have hd6:H6 D=some (.lst ys):=g4.hh _ _ hd2;have hg6:G4 D=none:=by rw[g4.new D (by rw[hd2];simp)];exact hg2
     refine⟨ys,hd6,?_,ws.length-(i+1),by omega,rfl,hlt,G4,ys++[v],done++[y],rest',(r2.grow g4).mutFree hg6 hzh (hz D hD) hfree hd6,s2.trans (s3.trans s4),q0o,hg6,(Reps.mono (s3.trans s4) _ rp2).append (.one p4),by simp;omega,hr,by rw[w1b];exact ho⟩;rw[rp2.length,sizeLine_eq];omega
 ·have:i=ws.length:=by omega
  subst this;rw[w3n]at hc2;cases hc2;rw[w1s]at ho;subst ho;exact .inl ⟨W0.stop _ H2 (hSQ G2 H2 s2 r2.sub) (by omega),h G2 D ys H2 r2 (s1.trans s2) hd2 hg2 hzh hfree rp2⟩
end
section
variable{elt iter a b:Expr}{ifs:List Expr}{scope sc:Scope}{pt:Pos}{Nf N:List Str}{di:Den W}
def DTs(Z:Zt)(X:Cx)(EE:St->XK)(ifs:List Expr)(c:Den Bool):Prop:=PTs X ifs (liftT X.K Z EE c)
theorem q5l:DTs Z X EE [] dYes:=fun pins s σ H Q I ⟨G,e,r,h⟩=>y4r pins s σ H Q I (h G H r (.refl _))
def cT(K:PySem.W.Frag)(c:Den Bool):TT:=fun σ H Q=>∃Z',liftT K Z' (fun _=>E0) c σ H Q
def cE(K:PySem.W.Frag)(d:Den W):TE:=fun σ H Q=>∃Z',AtG K Z' σ H fun G e=>(d e).holds (fun w e'=>∀G' v H',Rel K Z' G' σ H' e'->Same G G'->Rep K G' w v->Q v H') (XH K Z' (fun _=>E0) σ G)
theorem x2k{D:Ends}{r:R (List W)}{k:W->List S->SR}(h:PostS K Z EE D G ((r.bind fun ws e'=>.ok (.lst ws) e').stm k)):r.holds (fun ws e'=>PostS K Z EE D G (k (.lst ws) e')) (XH K Z EE σ G):=by
 cases r with
 |ok a e=>exact h
 |ex c e=>exact fun G' H' r q=>h G' σ H' r q
 |no=>exact h
theorem q9g{Y:List Str}(ht:∀Z' cl C s₀ H₀ ex,DTs Z' (X.cp Y scope cl C s₀ H₀ ex) (fun _=>E0) ifs c):∀cl C s₀ H₀ ex,PTs (X.cp Y scope cl C s₀ H₀ ex) ifs (cT X.K c):=fun cl C s₀ H₀ ex pins s σ H Q I ⟨Z',h⟩=>ht Z' cl C s₀ H₀ ex pins s σ H Q I h
theorem q9h{Y:List Str}(he:∀Z' cl C s₀ H₀ ex,DE Z' (X.cp Y scope cl C s₀ H₀ ex) (fun _=>E0) elt d):∀cl C s₀ H₀ ex,PE (X.cp Y scope cl C s₀ H₀ ex) elt (cE X.K d):=fun cl C s₀ H₀ ex pins s σ H Q I ⟨Z',h⟩=>he Z' cl C s₀ H₀ ex pins s σ H Q I h
theorem ionone(r:Rel K Z G σ H e):∀p,H p=none->p∉Z.io:=fun p hp hi=>r.ion p hi hp
theorem x2l:∀σ H Q,liftF K Z EE (dComp js di c d) σ H Q->tComp (iSeq K (liftE K Z EE di)) 1 js (gName 0) (cT K c) (cE K d) σ H Q:=by
 rintro σ H Q ⟨G,e,rel,h⟩;simp only[dComp,R.holds_bind]at h;refine⟨G,e,rel,h.imp (fun w e1 h G1 v1 H1 r1 s1 p1=>?_) fun _ _ h=>h⟩
 split at h
 ·rename_i ws hw;unfold compK at h;split at h
  ·rename_i hl;split at h
   ·rename_i out ho;obtain⟨G2,s2,r2⟩:=r1.frzs js;have p2:=Rep.mono s2 w p1;have io:=ionone r2;cases w with
    |tup us=>
     cases hw;obtain⟨a,xs,rfl,hq,rp⟩:=p2;exact⟨a,rfl,.inr ⟨⟨xs,r2.sub.tup hq⟩,q63 x9c r2 (s1.trans s2) rp (fun G' H' s s'=>Same.tup s' (Same.tup s hq)) hl io ho h⟩⟩
    |lst us=>
     cases hw;obtain⟨a,xs,rfl,hq,rp⟩:=p2;exact⟨a,rfl,.inl ⟨⟨xs,r2.sub.seq hq⟩,q63 x9b r2 (s1.trans s2) rp (fun G' H' s s'=>Same.seq s' (Same.seq s hq)) hl io ho h⟩⟩
    |_=>cases hw
   ·exact h.elim
  ·exact h.elim
 ·exact h.elim
theorem y41(hc:X.calm=true)(hi:DE Z X EE iter di)(ok:compOk sc scope N Nf js=true)
  (ht:∀Z' cl C s₀ H₀ ex,DTs Z' (X.cp ([x]++Nf) scope cl C s₀ H₀ ex) (fun _=>E0) ifs c)(he:∀Z' cl C s₀ H₀ ex,DE Z' (X.cp ([x]++Nf) scope cl C s₀ H₀ ex) (fun _=>E0) elt d)
  (hg:∀cl C s₀ H₀ ex,PG (X.cp ([x]++Nf) scope cl C s₀ H₀ ex) (.Name x pt) (gName 0))
  (hsc:X.env.scope=sc:=by rfl)(hN:X.N=N:=by rfl)(hs:∀x,foldedSetIterable iter X.env x=pure x:=by intro _;rfl):
  DF Z X EE (.ListComp elt [⟨.Name x pt,iter,ifs,0⟩] scope pos) (dComp js di c d):=by
 exact PE.mono (q7n (Nl:=[x]) (tc:=cT X.K c) (te:=cE X.K d) hc (x0w hi) ok hg (q9g ht) (q9h he) hsc hN hs) x2l
theorem x7c(i:Nat){py spos:Pos}(hNd:X.N.Nodup)(hc:X.calm=true)(hi:DE Z X EE iter di)(ok:compOk sc scope N Nf js=true)
  (ht:∀Z' cl C s₀ H₀ ex,DTs Z' (X.cp ([x]++Nf) scope cl C s₀ H₀ ex) (fun _=>E0) ifs c)(he:∀Z' cl C s₀ H₀ ex,DE Z' (X.cp ([x]++Nf) scope cl C s₀ H₀ ex) (fun _=>E0) elt d)
  (hg:∀cl C s₀ H₀ ex,PG (X.cp ([x]++Nf) scope cl C s₀ H₀ ex) (.Name x pt) (gName 0))
  (hsc:X.env.scope=sc:=by rfl)(hN:X.N=N:=by rfl)(hs:∀x,foldedSetIterable iter X.env x=pure x:=by intro _;rfl)(hiy:X.N[i]?=some y:=by rfl)(hxy:Loc X.env.scope y:=by walk_at "3")(hfy:X.fn y=true\/X.env.scope.names.lookup y=some .local:=by walk_at "2")(hsw:swapsWith (.ListComp elt [⟨.Name x pt,iter,ifs,0⟩] scope pos) (some (.Name y py)) spos.line X.env=pure true:=by rfl):
  DS Z X EE (.Assign [.Name y py] (.ListComp elt [⟨.Name x pt,iter,ifs,0⟩] scope pos) spos) (dSet i (dFz (dComp js di c d))):=by
 refine PS.mono (x2j (Nl:=[x]) (tc:=cT X.K c) (te:=cE X.K d) hc (x0w hi) ok hg (q9g ht) (q9h he) (q35 i hNd hiy hxy hfy) hsw hsc hN hs) ?_;rintro D σ H ⟨G,e,rel,h⟩;refine x2l σ H _ ⟨G,e,rel,?_⟩;refine(x2k h).imp (fun w e1 h G1 a xs H1 r1 s1 q1 q2 q3 q4 p1=>?_) fun _ _ h=>h
 obtain⟨sg,rg⟩:=r1.seen q1 q2 q3 q4;exact h _ _ H1 (rg.set (v:=.ref a) ⟨a,xs,rfl,SqL.of q0o,Reps.mono sg w p1⟩) (s1.trans sg)
theorem x0x:∀σ H Q,liftF K Z EE (dCompR rng1 js dA c d) σ H Q->tComp (iRng1 (liftA K Z EE dA)) 1 js (gName 0) (cT K c) (cE K d) σ H Q:=by
 rintro σ H Q ⟨G,e,rel,h⟩;simp only[dCompR,R.holds_bind]at h;refine⟨G,e,rel,h.imp (fun ws e1 h G1 vs H1 r1 s1 p1=>?_) fun _ _ h=>h⟩
 unfold rng1 at h;split at h
 ·rename_i us hh;split at hh
  ·rename_i j;split at hh
   ·rename_i hj;cases hh;obtain⟨y,r,rfl,e1,e2⟩:=p1;cases(show y=V.int j from e1);cases(show r=[]from e2);refine⟨j,rfl,(q5a hj).1,(q5a hj).2,?_⟩;unfold compK at h;split at h
    ·rename_i hl;split at h
     ·rename_i out ho;obtain⟨G2,s2,r2⟩:=r1.frzs js;have z:=q63 (J:=Itr 0 (j-0).toNat) x9d r2 (s1.trans s2) (q7p (lo:=0) (hi:=j)) (fun _ _ _ _=>trivial) hl (ionone r2) ho h
      rwa [w4m]at z
     ·exact h.elim
    ·exact h.elim
   ·cases hh
  ·cases hh
 ·exact h.elim
theorem x39(hc:X.calm=true)(hm:X.mg "range"=none)(ha:DA Z X EE [a] dA)(ok:compOk sc scope N Nf js=true)
  (ht:∀Z' cl C s₀ H₀ ex,DTs Z' (X.cp ([x]++Nf) scope cl C s₀ H₀ ex) (fun _=>E0) ifs c)(he:∀Z' cl C s₀ H₀ ex,DE Z' (X.cp ([x]++Nf) scope cl C s₀ H₀ ex) (fun _=>E0) elt d)
  (hg:∀cl C s₀ H₀ ex,PG (X.cp ([x]++Nf) scope cl C s₀ H₀ ex) (.Name x pt) (gName 0))
  (hgr:Gl X "range":=by rfl)(hs1:starEach [a] X.env=[(false,eval a X.env)]:=by rfl)(hsc:X.env.scope=sc:=by rfl)(hN:X.N=N:=by rfl)(hs:∀x,foldedSetIterable (.Call (.Name "range" p1) [a] [] p2) X.env x=pure x:=by intro _;rfl):
  DF Z X EE (.ListComp elt [⟨.Name x pt,.Call (.Name "range" p1) [a] [] p2,ifs,0⟩] scope pos) (dCompR rng1 js dA c d):=by
 exact PE.mono (q7n (Nl:=[x]) (tc:=cT X.K c) (te:=cE X.K d) hc (q8j hgr hm ha hs1) ok hg (q9g ht) (q9h he) hsc hN hs) x0x
theorem x5l(i:Nat){py spos:Pos}(hNd:X.N.Nodup)(hc:X.calm=true)(hm:X.mg "range"=none)(ha:DA Z X EE [a] dA)(ok:compOk sc scope N Nf js=true)
  (ht:∀Z' cl C s₀ H₀ ex,DTs Z' (X.cp ([x]++Nf) scope cl C s₀ H₀ ex) (fun _=>E0) ifs c)(he:∀Z' cl C s₀ H₀ ex,DE Z' (X.cp ([x]++Nf) scope cl C s₀ H₀ ex) (fun _=>E0) elt d)
  (hg:∀cl C s₀ H₀ ex,PG (X.cp ([x]++Nf) scope cl C s₀ H₀ ex) (.Name x pt) (gName 0))
  (hgr:Gl X "range":=by rfl)(hs1:starEach [a] X.env=[(false,eval a X.env)]:=by rfl)(hsc:X.env.scope=sc:=by rfl)(hN:X.N=N:=by rfl)(hs:∀x,foldedSetIterable (.Call (.Name "range" p1) [a] [] p2) X.env x=pure x:=by intro _;rfl)(hiy:X.N[i]?=some y:=by rfl)(hxy:Loc X.env.scope y:=by walk_at "3")(hfy:X.fn y=true\/X.env.scope.names.lookup y=some .local:=by walk_at "2")(hsw:swapsWith (.ListComp elt [⟨.Name x pt,.Call (.Name "range" p1) [a] [] p2,ifs,0⟩] scope pos) (some (.Name y py)) spos.line X.env=pure true:=by rfl):
  DS Z X EE (.Assign [.Name y py] (.ListComp elt [⟨.Name x pt,.Call (.Name "range" p1) [a] [] p2,ifs,0⟩] scope pos) spos) (dSet i (dFz (dCompR rng1 js dA c d))):=by
 refine PS.mono (x2j (Nl:=[x]) (tc:=cT X.K c) (te:=cE X.K d) hc (q8j hgr hm ha hs1) ok hg (q9g ht) (q9h he) (q35 i hNd hiy hxy hfy) hsw hsc hN hs) ?_;rintro D σ H ⟨G,e,rel,h⟩;refine x0x σ H _ ⟨G,e,rel,?_⟩;refine(x2k h).imp (fun w e1 h G1 a xs H1 r1 s1 q1 q2 q3 q4 p1=>?_) fun _ _ h=>h
 obtain⟨sg,rg⟩:=r1.seen q1 q2 q3 q4;exact h _ _ H1 (rg.set (v:=.ref a) ⟨a,xs,rfl,SqL.of q0o,Reps.mono sg w p1⟩) (s1.trans sg)
theorem x7d:∀σ H Q,liftF K Z EE (dCompR rng2 js dA c d) σ H Q->tComp (iRng2 (liftA K Z EE dA)) 1 js (gName 0) (cT K c) (cE K d) σ H Q:=by
 rintro σ H Q ⟨G,e,rel,h⟩;simp only[dCompR,R.holds_bind]at h;refine⟨G,e,rel,h.imp (fun ws e1 h G1 vs H1 r1 s1 p1=>?_) fun _ _ h=>h⟩
 unfold rng2 at h;split at h
 ·rename_i us hh;split at hh
  ·rename_i j k;split at hh
   ·rename_i hj;cases hh;obtain⟨y,r,rfl,e1,y2,r2',rfl,e2,e3⟩:=p1;cases(show y=V.int j from e1);cases(show y2=V.int k from e2);cases(show r2'=[]from e3);refine⟨j,k,rfl,⟨(q5a hj.1).1,(q5a hj.1).2,(q5a hj.2).1,(q5a hj.2).2⟩,?_⟩;unfold compK at h;split at h
    ·rename_i hl;split at h
     ·rename_i out ho;obtain⟨G2,s2,r2⟩:=r1.frzs js;exact q63 (J:=Itr j (k-j).toNat) x9d r2 (s1.trans s2) (q7p (lo:=j) (hi:=k)) (fun _ _ _ _=>trivial) hl (ionone r2) ho h
     ·exact h.elim
    ·exact h.elim
   ·cases hh
  ·cases hh
 ·exact h.elim
theorem y10(hc:X.calm=true)(hm:X.mg "range"=none)(ha:DA Z X EE [a,b] dA)(ok:compOk sc scope N Nf js=true)
  (ht:∀Z' cl C s₀ H₀ ex,DTs Z' (X.cp ([x]++Nf) scope cl C s₀ H₀ ex) (fun _=>E0) ifs c)(he:∀Z' cl C s₀ H₀ ex,DE Z' (X.cp ([x]++Nf) scope cl C s₀ H₀ ex) (fun _=>E0) elt d)
  (hg:∀cl C s₀ H₀ ex,PG (X.cp ([x]++Nf) scope cl C s₀ H₀ ex) (.Name x pt) (gName 0))
  (hgr:Gl X "range":=by rfl)(hs1:starEach [a,b] X.env=[(false,eval a X.env),(false,eval b X.env)]:=by rfl)(hs2:starEach [b] X.env=[(false,eval b X.env)]:=by rfl)(hsc:X.env.scope=sc:=by rfl)(hN:X.N=N:=by rfl)(hs:∀x,foldedSetIterable (.Call (.Name "range" p1) [a,b] [] p2) X.env x=pure x:=by intro _;rfl):
  DF Z X EE (.ListComp elt [⟨.Name x pt,.Call (.Name "range" p1) [a,b] [] p2,ifs,0⟩] scope pos) (dCompR rng2 js dA c d):=by
 exact PE.mono (q7n (Nl:=[x]) (tc:=cT X.K c) (te:=cE X.K d) hc (x8l hgr hm ha hs1 hs2) ok hg (q9g ht) (q9h he) hsc hN hs) x7d
end
mutual
noncomputable def depW:W->Nat
 |.tup ws=>depWs ws+1
 |.lst ws=>depWs ws+1
 |_=>0
noncomputable def depWs:List W->Nat
 |[]=>0
 |w::ws=>max (depW w) (depWs ws)
end
mutual
theorem x1m(I:Inv X pins σ H s)(sg:Same G H):∀(w:W){w':W}{v:V}{k:Bool},Rep X.K G w v->Rep X.K G w' v->eqW w w'=some k->k=true
 |.non,w',v,k,h,h',e=>by
  cases(show v=.non from h);cases w'<;>first|(cases e;done)|(cases h';cases e;rfl)|(exfalso;obtain⟨_,_,z,_⟩:=h';first|done|cases z)|(exfalso;obtain⟨_,z,_⟩:=h';first|done|cases z)
 |.bl b,w',v,k,h,h',e=>by
  cases(show v=.bl b from h);cases w'<;>first|(cases e;done)|(cases h';cases e;exact beq_self_eq_true _)|(exfalso;obtain⟨_,_,z,_⟩:=h';first|done|cases z)|(exfalso;obtain⟨_,z,_⟩:=h';first|done|cases z)
 |.int b,w',v,k,h,h',e=>by
  cases(show v=.int b from h);cases w'<;>first|(cases e;done)|(cases h';cases e;exact beq_self_eq_true _)|(exfalso;obtain⟨_,_,z,_⟩:=h';first|done|cases z)|(exfalso;obtain⟨_,z,_⟩:=h';first|done|cases z)
 |.str b,w',v,k,h,h',e=>by
  cases(show v=.str b from h);cases w'<;>first|(cases e;done)|(cases h';cases e;exact beq_self_eq_true _)|(exfalso;obtain⟨_,_,z,_⟩:=h';first|done|cases z)|(exfalso;obtain⟨_,z,_⟩:=h';first|done|cases z)
 |.tup ws,w',v,k,h,h',e=>by
  obtain⟨a,xs,rfl,q,r⟩:=h;cases w' with
  |tup ws'=>
   obtain⟨a',xs',z,q',r'⟩:=h';cases z;have:=I.tuple_inj (sg.tup q) (sg.tup q');subst this;exact q99 I sg ws r r' (e)
  |lst ws'=>
   obtain⟨a',xs',z,q',r'⟩:=h';cases z;obtain⟨its,_,p1,_⟩:=I.tuple (sg.tup q);obtain⟨its2,_,p2,_⟩:=I.list (sg.seq q');exact absurd rfl (SeqAt.ne_of_list_tuple p2.isList (show s.heap.IsTuple a _ from p1))
  |non=>cases h'
  |bl _=>cases h'
  |int _=>cases h'
  |str _=>cases h'
  |exc _=>cases e
  |dic _=>cases e
  |dw _ _ _ _=>cases e
  |fn _ _ _=>cases e
 |.lst ws,w',v,k,h,h',e=>by
  obtain⟨a,xs,rfl,q,r⟩:=h;cases w' with
  |lst ws'=>
   obtain⟨a',xs',z,q',r'⟩:=h';cases z;have:=I.list_inj (sg.seq q) (sg.seq q');subst this;exact q99 I sg ws r r' (e)
  |tup ws'=>
   obtain⟨a',xs',z,q',r'⟩:=h';cases z;obtain⟨its,_,p1,_⟩:=I.tuple (sg.tup q');obtain⟨its2,_,p2,_⟩:=I.list (sg.seq q);exact absurd rfl (SeqAt.ne_of_list_tuple p2.isList (show s.heap.IsTuple a _ from p1))
  |non=>cases h'
  |bl _=>cases h'
  |int _=>cases h'
  |str _=>cases h'
  |exc _=>cases e
  |dic _=>cases e
  |dw _ _ _ _=>cases e
  |fn _ _ _=>cases e
 |.exc c,w',v,k,h,h',e=>by cases w'<;>cases e
 |.dic c,w',v,k,h,h',e=>by cases w'<;>cases e
 |.dw _ _ _ _,w',v,k,h,h',e=>by cases w'<;>cases e
 |.fn _ _ _,w',v,k,h,h',e=>by cases w'<;>cases e
theorem q99(I:Inv X pins σ H s)(sg:Same G H):∀(ws:List W){ws':List W}{vs:List V}{k:Bool},Reps X.K G ws vs->Reps X.K G ws' vs->eqWs ws ws'=some k->k=true
 |[],ws',vs,k,h,h',e=>by
  cases h;cases ws' with
  |nil=>cases e;rfl
  |cons _ _=>obtain⟨_,_,z,_⟩:=h';cases z
 |w::ws,ws',vs,k,h,h',e=>by
  obtain⟨x,r,rfl,h1,h2⟩:=h;cases ws' with
  |nil=>cases h'
  |cons w' ws'=>
   obtain⟨x',r',z,h1',h2'⟩:=h';cases z;have e:(match eqW w w',eqWs ws ws' with|some a,some b=>some (a&&b)|_,_=>none)=some k:=e;cases q1:eqW w w' with
   |none=>rw[q1]at e;cases e
   |some b1=>
    cases q2:eqWs ws ws' with
    |none=>rw[q1,q2]at e;cases e
    |some b2=>
     rw[q1,q2]at e;rw[x1m I sg w h1 h1' q1,q99 I sg ws h2 h2' q2]at e;cases e;rfl
end
theorem q5m:∀{xs ys:List W}{b:Bool},eqWs xs ys=some b->(∀(j:Nat) x y,xs[j]?=some x->ys[j]?=some y->∃k,eqW x y=some k)/\b=((List.range (min xs.length ys.length)).all (fun j=>((eqW (xs.getD j .non) (ys.getD j .non)).getD false))&&xs.length==ys.length):=by
 intro xs
 induction xs with
 |nil=>
  intro ys b h;refine⟨fun j x y hx=>by simp at hx,?_⟩
  cases ys<;>(cases h;simp)
 |cons x xs ih=>
  intro ys b h;cases ys with
  |nil=>refine⟨fun j x y hx hy=>by simp at hy,?_⟩;cases h;simp
  |cons y ys=>
   have h:(match eqW x y,eqWs xs ys with|some a,some b=>some (a&&b)|_,_=>none)=some b:=h;cases q1:eqW x y with
   |none=>rw[q1]at h;cases h
   |some b1=>
    cases q2:eqWs xs ys with
    |none=>rw[q1,q2]at h;cases h
    |some b2=>
     rw[q1,q2]at h;cases h;obtain⟨h1,h2⟩:=ih q2;refine⟨fun j x' y' hx hy=>?_,?_⟩
     ·cases j with
      |zero=>simp at hx hy;subst hx hy;exact⟨_,q1⟩
      |succ j=>exact h1 j x' y' (by simpa using hx) (by simpa using hy)
     ·rw[h2];simp only[w0j,Nat.succ_min_succ,List.range_succ_eq_map,w2u,List.all_map]
      have e0:(eqW ((x::xs).getD 0 .non) ((y::ys).getD 0 .non)).getD false=b1:=by
       show(eqW x y).getD false=b1;rw[q1];rfl
      rw[e0,Bool.and_assoc];congr 1;congr 1;simp
theorem q8p:∀{xs:List W}{j:Nat}{x:W},xs[j]?=some x->depW x<=depWs xs
 |[],_,_,h=>by simp at h
 |y::ys,0,x,h=>by simp at h;subst h;simp only[depWs];omega
 |y::ys,j+1,x,h=>by
  have:=q8p (xs:=ys) (j:=j) (by simpa using h);simp only[depWs];omega
theorem q9i{xs:List α}{x d:α}(h:xs[j]?=some x):xs.getD j d=x:=by
 simp[List.getD,h]
theorem x4a(I:Inv X pins σ H s)(sg:Same G H){b:Bool}(hu:A.units<cLine)(n1:∀ws,w=.tup ws->∀ws',w'≠.tup ws')(n2:∀ws,w=.lst ws->∀ws',w'≠.lst ws')(h:Rep X.K G w v)(h':Rep X.K G w' v')(r:RelV v u)(r':RelV v' u')(e:eqW w w'=some b):SeqAt.RcAt A s u u' b:=by
 have tl:∀{ws:List W}{v:V}{u:Value},Rep X.K G (.lst ws) v->RelV v u->∃l items,u=.ref l/\s.heap.IsList l items:=fun h r=>by
  obtain⟨a,xs,rfl,q,_⟩:=h;cases r;obtain⟨its,_,p,_⟩:=I.list (sg.seq q);exact⟨a,_,rfl,p.isList⟩
 have tt:∀{ws:List W}{v:V}{u:Value},Rep X.K G (.tup ws) v->RelV v u->∃l items,u=.ref l/\s.heap.IsTuple l items:=fun h r=>by
  obtain⟨a,xs,rfl,q,_⟩:=h;cases r;obtain⟨its,_,p,_⟩:=I.tuple (sg.tup q);exact⟨a,_,rfl,p⟩
 have tn:∀{v:V}{u:Value},Rep X.K G .non v->RelV v u->u=.none:=fun h r=>by cases h;exact r
 have tb:∀{k:Bool}{v:V}{u:Value},Rep X.K G (.bl k) v->RelV v u->u=.bool k:=fun h r=>by cases h;exact r
 have ti:∀{k:Int}{v:V}{u:Value},Rep X.K G (.int k) v->RelV v u->∃t,u=.int k t:=fun h r=>by cases h;exact r
 have ts:∀{k:Str}{v:V}{u:Value},Rep X.K G (.str k) v->RelV v u->∃t,u=.str k t:=fun h r=>by cases h;exact r
 cases w with
 |non=>
  obtain rfl:=tn h r;cases w' with
  |non=>obtain rfl:=tn h' r';cases e;exact .none_none
  |bl k=>obtain rfl:=tb h' r';cases e;exact .none_bool k
  |int k=>obtain⟨t,rfl⟩:=ti h' r';cases e;exact .none_int k t
  |str k=>obtain⟨t,rfl⟩:=ts h' r';cases e;exact .none_str k t
  |tup k=>obtain⟨l,it,rfl,p⟩:=tt h' r';cases e;exact .none_tuple p hu
  |lst k=>obtain⟨l,it,rfl,p⟩:=tl h' r';cases e;exact .none_list p hu
  |exc k=>cases e
  |dic k=>cases e
  |dw _ _ _ _=>cases e
  |fn _ _ _=>cases e
 |bl j=>
  obtain rfl:=tb h r;cases w' with
  |non=>obtain rfl:=tn h' r';cases e;exact .bool_none j
  |bl k=>obtain rfl:=tb h' r';cases e;exact .bool_bool j k
  |int k=>obtain⟨t,rfl⟩:=ti h' r';cases e;exact .bool_int j k t
  |str k=>obtain⟨t,rfl⟩:=ts h' r';cases e;exact .bool_str j k t
  |tup k=>obtain⟨l,it,rfl,p⟩:=tt h' r';cases e;exact .bool_tuple j p hu
  |lst k=>obtain⟨l,it,rfl,p⟩:=tl h' r';cases e;exact .bool_list j p hu
  |exc k=>cases e
  |dic k=>cases e
  |dw _ _ _ _=>cases e
  |fn _ _ _=>cases e
 |int j=>
  obtain⟨t1,rfl⟩:=ti h r;cases w' with
  |non=>obtain rfl:=tn h' r';cases e;exact .int_none j t1
  |bl k=>obtain rfl:=tb h' r';cases e;exact .int_bool j t1 k
  |int k=>obtain⟨t,rfl⟩:=ti h' r';cases e;exact .int_int j t1 k t
  |str k=>obtain⟨t,rfl⟩:=ts h' r';cases e;exact .int_str j t1 k t
  |tup k=>obtain⟨l,it,rfl,p⟩:=tt h' r';cases e;exact .int_tuple j t1 p hu
  |lst k=>obtain⟨l,it,rfl,p⟩:=tl h' r';cases e;exact .int_list j t1 p hu
  |exc k=>cases e
  |dic k=>cases e
  |dw _ _ _ _=>cases e
  |fn _ _ _=>cases e
 |str j=>
  obtain⟨t1,rfl⟩:=ts h r;cases w' with
  |non=>obtain rfl:=tn h' r';cases e;exact .str_none j t1
  |bl k=>obtain rfl:=tb h' r';cases e;exact .str_bool j t1 k
  |int k=>obtain⟨t,rfl⟩:=ti h' r';cases e;exact .str_int j t1 k t
  |str k=>obtain⟨t,rfl⟩:=ts h' r';cases e;exact .str_str j t1 k t
  |tup k=>obtain⟨l,it,rfl,p⟩:=tt h' r';cases e;exact .str_tuple j t1 p hu
  |lst k=>obtain⟨l,it,rfl,p⟩:=tl h' r';cases e;exact .str_list j t1 p hu
  |exc k=>cases e
  |dic k=>cases e
  |dw _ _ _ _=>cases e
  |fn _ _ _=>cases e
 |tup j=>
  obtain⟨l1,it1,rfl,p1⟩:=tt h r;cases w' with
  |non=>obtain rfl:=tn h' r';cases e;exact .tuple_none p1 hu
  |bl k=>obtain rfl:=tb h' r';cases e;exact .tuple_bool k p1 hu
  |int k=>obtain⟨t,rfl⟩:=ti h' r';cases e;exact .tuple_int k t p1 hu
  |str k=>obtain⟨t,rfl⟩:=ts h' r';cases e;exact .tuple_str k t p1 hu
  |tup k=>exact absurd rfl (n1 j rfl k)
  |lst k=>obtain⟨l,it,rfl,p⟩:=tl h' r';cases e;exact .tuple_list p1 p hu
  |exc k=>cases e
  |dic k=>cases e
  |dw _ _ _ _=>cases e
  |fn _ _ _=>cases e
 |lst j=>
  obtain⟨l1,it1,rfl,p1⟩:=tl h r;cases w' with
  |non=>obtain rfl:=tn h' r';cases e;exact .list_none p1 hu
  |bl k=>obtain rfl:=tb h' r';cases e;exact .list_bool k p1 hu
  |int k=>obtain⟨t,rfl⟩:=ti h' r';cases e;exact .list_int k t p1 hu
  |str k=>obtain⟨t,rfl⟩:=ts h' r';cases e;exact .list_str k t p1 hu
  |lst k=>exact absurd rfl (n2 j rfl k)
  |tup k=>obtain⟨l,it,rfl,p⟩:=tt h' r';cases e;exact .list_tuple p1 p hu
  |exc k=>cases e
  |dic k=>cases e
  |dw _ _ _ _=>cases e
  |fn _ _ _=>cases e
 |exc j=>cases w'<;>cases e
 |dic j=>cases w'<;>cases e
 |dw _ _ _ _=>cases w'<;>cases e
 |fn _ _ _=>cases w'<;>cases e
theorem x6e(I:Inv X pins σ H s)(sg:Same G H){b:Bool}(hd:depW w<=0)(hu:A.units<cLine)(h:Rep X.K G w v)(h':Rep X.K G w' v')(r:RelV v u)(r':RelV v' u')(e:eqW w w'=some b):SeqAt.RcAt A s u u' b:=
 x4a I sg hu (fun ws z=>by subst z;simp[depW]at hd) (fun ws z=>by subst z;simp[depW]at hd) h h' r r' e
theorem x4b(h:Rep K G w v):∀x,v≠.flt x:=fun x z=>by
 subst z;cases w with
 |tup ws=>obtain⟨_,_,z,_⟩:=h;cases z
 |lst ws=>obtain⟨_,_,z,_⟩:=h;cases z
 |exc c=>obtain⟨_,z,_⟩:=h;cases z
 |dic c=>obtain⟨_,z,_⟩:=h;cases z
 |dw _ _ _ _=>obtain⟨_,_,_,z,_⟩:=h;cases z
 |fn _ _ _=>obtain⟨_,_,_,_,z,_⟩:=h;cases z
 |_=>cases h
theorem x4c{b:Bool}(rv:RelV v u)(hf:∀x,v≠.flt x)(h:SeqAt.RcAt A s u u' b)(hs:u=u'->b=true):SeqAt.EqAt A s u u' b:=fun prog w E Q hq=>by
 unfold eqBool;refine wpAny_holding ?_;refine wpAny_ite_split (fun hab=>?_) (fun _=>?_)
 ·have hb:=hs (eq_of_beq hab);subst hb;exact wpAny_bind (wpAny_rule (wpAny_pure hq))
 ·have z:=wpAny_bind (h prog w E (fun a s'=>wpAny (model prog w) A (truthOfDropped a) Q E s') (wpAny_truthy_bool hq))
  cases v with
  |flt x=>exact absurd rfl (hf x)
  |non=>cases rv;exact z
  |bl _=>cases rv;exact z
  |int _=>obtain⟨t,rfl⟩:=rv;exact z
  |str _=>obtain⟨t,rfl⟩:=rv;exact z
  |byt _=>obtain⟨t,rfl⟩:=rv;exact z
  |ref _=>cases rv;exact z
  |ty _=>cases rv;exact z
theorem y3z(I:Inv X pins σ H s)(sg:Same G H):∀(n:Nat){w w':W}{v v':V}{u u':Value}{b:Bool}{A:Around},depW w<=n->A.units+n<cLine->Rep X.K G w v->Rep X.K G w' v'->RelV v u->RelV v' u'->eqW w w'=some b->SeqAt.RcAt A s u u' b:=by
 intro n
 induction n with
 |zero=>
  intro w w' v v' u u' b A hd hu h h' r r' e;exact x6e I sg hd (by omega) h h' r r' e
 |succ n ih=>
  intro w w' v v' u u' b A hd hu h h' r r' e
  have items:∀{ws ws':List W}{xs xs':List V}{its its':List Value}{k:Bool},depWs ws<=n->Reps X.K G ws xs->Reps X.K G ws' xs'->Vals xs its->Vals xs' its'->eqWs ws ws'=some k ->
    ∀j (h1:j<its.toArray.size) (h2:j<its'.toArray.size),SeqAt.EqAt A.in1 s its.toArray[j] its'.toArray[j] ((eqW (ws.getD j .non) (ws'.getD j .non)).getD false):=by
   intro ws ws' xs xs' its its' k hd r1 r2 v1 v2 he j h1 h2;have l1:=r1.length;have l2:=r2.length;have m1:=v1.length;have m2:=v2.length;have i1:j<xs.length:=by rw[m1];simpa using h1
   have i2:j<xs'.length:=by rw[m2];simpa using h2
   obtain⟨u1,e1,ru1⟩:=v1.get (w0b i1);obtain⟨u2,e2,ru2⟩:=v2.get (w0b i2);obtain⟨w1,f1,p1⟩:=r1.getV (w0b i1);obtain⟨w2,f2,p2⟩:=r2.getV (w0b i2);obtain⟨b',hb'⟩:=(q5m he).1 j w1 w2 f1 f2;rw[q9i f1,q9i f2,hb']
   have g1:its.toArray[j]=u1:=by
    obtain⟨_,z⟩:=w0a.mp e1
    simpa using z
   have g2:its'.toArray[j]=u2:=by
    obtain⟨_,z⟩:=w0a.mp e2
    simpa using z
   rw[g1,g2];have hdw:depW w1<=n:=w0o (q8p f1) hd
   have hun:A.in1.units+n<cLine:=by
    have:A.in1.units=A.units+1:=rfl;omega
   refine x4c ru1 (x4b p1) (ih hdw hun p1 p2 ru1 ru2 hb') fun z=>?_
   subst z;have:=ru1.inj ru2;rw[this]at p1;exact x1m I sg w1 p1 p2 hb'
  cases w with
  |tup ws=>
   cases w' with
   |tup ws'=>
    obtain⟨a,xs,rfl,q1,r1⟩:=h;obtain⟨a',xs',rfl,q2,r2⟩:=h';cases r;cases r';obtain⟨its,v1,p1,_⟩:=I.tuple (sg.tup q1);obtain⟨its',v2,p2,_⟩:=I.tuple (sg.tup q2);have e:eqWs ws ws'=some b:=e;have z:=SeqAt.RcAt.tuples (show s.heap.IsTuple a _ from p1) (show s.heap.IsTuple a' _ from p2) (show A.units<cLine by omega) (items (by simp only[depW]at hd;omega) r1 r2 v1 v2 e);have l1:=r1.length;have l2:=r2.length;have m1:=v1.length;have m2:=v2.length;have eb:=(q5m e).2;have n1:its.length=ws.length:=by omega
    have n2:its'.length=ws'.length:=by omega
    rw[eb];simp only[w0c,n1,n2]at z;exact z
   |_=>exact x4a I sg (by omega) (by intro ws';simp) (by intro ws';simp) h h' r r' e
  |lst ws=>
   cases w' with
   |lst ws'=>
    obtain⟨a,xs,rfl,q1,r1⟩:=h;obtain⟨a',xs',rfl,q2,r2⟩:=h';cases r;cases r';obtain⟨its,v1,p1,_⟩:=I.list (sg.seq q1);obtain⟨its',v2,p2,_⟩:=I.list (sg.seq q2);have e:eqWs ws ws'=some b:=e;have l1:=r1.length;have l2:=r2.length;have m1:=v1.length;have m2:=v2.length;have eb:=(q5m e).2;have n1:its.length=ws.length:=by omega
    have n2:its'.length=ws'.length:=by omega
    by_cases hl:ws.length=ws'.length
    ·have z:=SeqAt.RcAt.lists p1.isList p2.isList (by simp only[w0c];omega) (show A.units<cLine by omega) (items (by simp only[depW]at hd;omega) r1 r2 v1 v2 e);rw[eb,hl];simp only[w0c,n1,hl,Nat.min_self,beq_self_eq_true,w3l]at z |-
     exact z
    ·have z:=SeqAt.RcAt.lists_lengths (A:=A) p1.isList p2.isList (by simp only[w0c,bne_iff_ne];omega) (show A.units<cLine by omega)
     have:b=false:=by
      rw[eb];have:(ws.length==ws'.length)=false:=by simp[hl]
      rw[this,Bool.and_false]
     rw[this];exact z
   |_=>exact x4a I sg (by omega) (by intro ws';simp) (by intro ws';simp) h h' r r' e
  |_=>exact x6e I sg (by simp[depW]) (by omega) h h' r r' e
theorem x0a(I:Inv X pins σ H s)(sg:Same G H){b:Bool}(hu:A.units<cLine)(n1:∀ws,w=.tup ws->∀ws',w'≠.tup ws')(n2:∀ws,w=.lst ws->∀ws',w'≠.lst ws')(h:Rep X.K G w v)(h':Rep X.K G w' v')(r:RelV v u)(r':RelV v' u')(e:eqW w w'=some b):SeqAt.RcNeAt A s u u' (!b):=by
 have tl:∀{ws:List W}{v:V}{u:Value},Rep X.K G (.lst ws) v->RelV v u->∃l items,u=.ref l/\s.heap.IsList l items:=fun h r=>by
  obtain⟨a,xs,rfl,q,_⟩:=h;cases r;obtain⟨its,_,p,_⟩:=I.list (sg.seq q);exact⟨a,_,rfl,p.isList⟩
 have tt:∀{ws:List W}{v:V}{u:Value},Rep X.K G (.tup ws) v->RelV v u->∃l items,u=.ref l/\s.heap.IsTuple l items:=fun h r=>by
  obtain⟨a,xs,rfl,q,_⟩:=h;cases r;obtain⟨its,_,p,_⟩:=I.tuple (sg.tup q);exact⟨a,_,rfl,p⟩
 have tn:∀{v:V}{u:Value},Rep X.K G .non v->RelV v u->u=.none:=fun h r=>by cases h;exact r
 have tb:∀{k:Bool}{v:V}{u:Value},Rep X.K G (.bl k) v->RelV v u->u=.bool k:=fun h r=>by cases h;exact r
 have ti:∀{k:Int}{v:V}{u:Value},Rep X.K G (.int k) v->RelV v u->∃t,u=.int k t:=fun h r=>by cases h;exact r
 have ts:∀{k:Str}{v:V}{u:Value},Rep X.K G (.str k) v->RelV v u->∃t,u=.str k t:=fun h r=>by cases h;exact r
 cases w with
 |non=>
  obtain rfl:=tn h r;cases w' with
  |non=>obtain rfl:=tn h' r';cases e;exact .none_none
  |bl k=>obtain rfl:=tb h' r';cases e;exact .none_bool k
  |int k=>obtain⟨t,rfl⟩:=ti h' r';cases e;exact .none_int k t
  |str k=>obtain⟨t,rfl⟩:=ts h' r';cases e;exact .none_str k t
  |tup k=>obtain⟨l,it,rfl,p⟩:=tt h' r';cases e;exact .none_tuple p hu
  |lst k=>obtain⟨l,it,rfl,p⟩:=tl h' r';cases e;exact .none_list p hu
  |exc k=>cases e
  |dic k=>cases e
  |dw _ _ _ _=>cases e
  |fn _ _ _=>cases e
 |bl j=>
  obtain rfl:=tb h r;cases w' with
  |non=>obtain rfl:=tn h' r';cases e;exact .bool_none j
  |bl k=>obtain rfl:=tb h' r';cases e;exact .bool_bool j k
  |int k=>obtain⟨t,rfl⟩:=ti h' r';cases e;exact .bool_int j k t
  |str k=>obtain⟨t,rfl⟩:=ts h' r';cases e;exact .bool_str j k t
  |tup k=>obtain⟨l,it,rfl,p⟩:=tt h' r';cases e;exact .bool_tuple j p hu
  |lst k=>obtain⟨l,it,rfl,p⟩:=tl h' r';cases e;exact .bool_list j p hu
  |exc k=>cases e
  |dic k=>cases e
  |dw _ _ _ _=>cases e
  |fn _ _ _=>cases e
 |int j=>
  obtain⟨t1,rfl⟩:=ti h r;cases w' with
  |non=>obtain rfl:=tn h' r';cases e;exact .int_none j t1
  |bl k=>obtain rfl:=tb h' r';cases e;exact .int_bool j t1 k
  |int k=>obtain⟨t,rfl⟩:=ti h' r';cases e;exact .int_int j t1 k t
  |str k=>obtain⟨t,rfl⟩:=ts h' r';cases e;exact .int_str j t1 k t
  |tup k=>obtain⟨l,it,rfl,p⟩:=tt h' r';cases e;exact .int_tuple j t1 p hu
  |lst k=>obtain⟨l,it,rfl,p⟩:=tl h' r';cases e;exact .int_list j t1 p hu
  |exc k=>cases e
  |dic k=>cases e
  |dw _ _ _ _=>cases e
  |fn _ _ _=>cases e
 |str j=>
  obtain⟨t1,rfl⟩:=ts h r;cases w' with
  |non=>obtain rfl:=tn h' r';cases e;exact .str_none j t1
  |bl k=>obtain rfl:=tb h' r';cases e;exact .str_bool j t1 k
  |int k=>obtain⟨t,rfl⟩:=ti h' r';cases e;exact .str_int j t1 k t
  |str k=>obtain⟨t,rfl⟩:=ts h' r';cases e;exact .str_str j t1 k t
  |tup k=>obtain⟨l,it,rfl,p⟩:=tt h' r';cases e;exact .str_tuple j t1 p hu
  |lst k=>obtain⟨l,it,rfl,p⟩:=tl h' r';cases e;exact .str_list j t1 p hu
  |exc k=>cases e
  |dic k=>cases e
  |dw _ _ _ _=>cases e
  |fn _ _ _=>cases e
 |tup j=>
  obtain⟨l1,it1,rfl,p1⟩:=tt h r;cases w' with
  |non=>obtain rfl:=tn h' r';cases e;exact .tuple_none p1 hu
  |bl k=>obtain rfl:=tb h' r';cases e;exact .tuple_bool k p1 hu
  |int k=>obtain⟨t,rfl⟩:=ti h' r';cases e;exact .tuple_int k t p1 hu
  |str k=>obtain⟨t,rfl⟩:=ts h' r';cases e;exact .tuple_str k t p1 hu
  |tup k=>exact absurd rfl (n1 j rfl k)
  |lst k=>obtain⟨l,it,rfl,p⟩:=tl h' r';cases e;exact .tuple_list p1 p hu
  |exc k=>cases e
  |dic k=>cases e
  |dw _ _ _ _=>cases e
  |fn _ _ _=>cases e
 |lst j=>
  obtain⟨l1,it1,rfl,p1⟩:=tl h r;cases w' with
  |non=>obtain rfl:=tn h' r';cases e;exact .list_none p1 hu
  |bl k=>obtain rfl:=tb h' r';cases e;exact .list_bool k p1 hu
  |int k=>obtain⟨t,rfl⟩:=ti h' r';cases e;exact .list_int k t p1 hu
  |str k=>obtain⟨t,rfl⟩:=ts h' r';cases e;exact .list_str k t p1 hu
  |lst k=>exact absurd rfl (n2 j rfl k)
  |tup k=>obtain⟨l,it,rfl,p⟩:=tt h' r';cases e;exact .list_tuple p1 p hu
  |exc k=>cases e
  |dic k=>cases e
  |dw _ _ _ _=>cases e
  |fn _ _ _=>cases e
 |exc j=>cases w'<;>cases e
 |dic j=>cases w'<;>cases e
 |dw _ _ _ _=>cases w'<;>cases e
 |fn _ _ _=>cases w'<;>cases e
theorem x9e(I:Inv X pins σ H s)(sg:Same G H){b:Bool}(hd:depW w<=0)(hu:A.units<cLine)(h:Rep X.K G w v)(h':Rep X.K G w' v')(r:RelV v u)(r':RelV v' u')(e:eqW w w'=some b):SeqAt.RcNeAt A s u u' (!b):=
 x0a I sg hu (fun ws z=>by subst z;simp[depW]at hd) (fun ws z=>by subst z;simp[depW]at hd) h h' r r' e
theorem x4d(I:Inv X pins σ H s)(sg:Same G H)(hu:A.units+(n+1)<cLine){ws':List W}{xs':List V}{its its':List Value}{k:Bool}(hd:depWs ws<=n)(r1:Reps X.K G ws xs)(r2:Reps X.K G ws' xs')(v1:Vals xs its)(v2:Vals xs' its')(he:eqWs ws ws'=some k):
  ∀j (h1:j<its.toArray.size) (h2:j<its'.toArray.size),SeqAt.EqAt A.in1 s its.toArray[j] its'.toArray[j] ((eqW (ws.getD j .non) (ws'.getD j .non)).getD false):=by
 intro j h1 h2;have l1:=r1.length;have l2:=r2.length;have m1:=v1.length;have m2:=v2.length;have i1:j<xs.length:=by rw[m1];simpa using h1
 have i2:j<xs'.length:=by rw[m2];simpa using h2
 obtain⟨u1,e1,ru1⟩:=v1.get (w0b i1);obtain⟨u2,e2,ru2⟩:=v2.get (w0b i2);obtain⟨w1,f1,p1⟩:=r1.getV (w0b i1);obtain⟨w2,f2,p2⟩:=r2.getV (w0b i2);obtain⟨b',hb'⟩:=(q5m he).1 j w1 w2 f1 f2;rw[q9i f1,q9i f2,hb']
 have g1:its.toArray[j]=u1:=by
  obtain⟨_,z⟩:=w0a.mp e1
  simpa using z
 have g2:its'.toArray[j]=u2:=by
  obtain⟨_,z⟩:=w0a.mp e2
  simpa using z
 rw[g1,g2];have hdw:depW w1<=n:=w0o (q8p f1) hd
 have hun:A.in1.units+n<cLine:=by
  have:A.in1.units=A.units+1:=rfl;omega
 refine x4c ru1 (x4b p1) (y3z I sg n hdw hun p1 p2 ru1 ru2 hb') fun z=>?_
 subst z;have:=ru1.inj ru2;rw[this]at p1;exact x1m I sg w1 p1 p2 hb'
theorem y42(I:Inv X pins σ H s)(sg:Same G H)(n:Nat){b:Bool}(hd:depW w<=n+1)(hu:A.units+(n+1)<cLine)(h:Rep X.K G w v)(h':Rep X.K G w' v')(r:RelV v u)(r':RelV v' u')(e:eqW w w'=some b):SeqAt.RcNeAt A s u u' (!b):=by
 cases w with
 |tup ws=>
  cases w' with
  |tup ws'=>
   obtain⟨a,xs,rfl,q1,r1⟩:=h;obtain⟨a',xs',rfl,q2,r2⟩:=h';cases r;cases r';obtain⟨its,v1,p1,_⟩:=I.tuple (sg.tup q1);obtain⟨its',v2,p2,_⟩:=I.tuple (sg.tup q2);have e:eqWs ws ws'=some b:=e;have z:=SeqAt.RcNeAt.tuples (show s.heap.IsTuple a _ from p1) (show s.heap.IsTuple a' _ from p2) (show A.units<cLine by omega) (x4d I sg hu (by simp only[depW]at hd;omega) r1 r2 v1 v2 e);have l1:=r1.length;have l2:=r2.length;have m1:=v1.length;have m2:=v2.length;have eb:=(q5m e).2;have n1:its.length=ws.length:=by omega
   have n2:its'.length=ws'.length:=by omega
   rw[eb];simp only[w0c,n1,n2]at z;exact z
  |_=>exact x0a I sg (by omega) (by intro ws';simp) (by intro ws';simp) h h' r r' e
 |lst ws=>
  cases w' with
  |lst ws'=>
   obtain⟨a,xs,rfl,q1,r1⟩:=h;obtain⟨a',xs',rfl,q2,r2⟩:=h';cases r;cases r';obtain⟨its,v1,p1,_⟩:=I.list (sg.seq q1);obtain⟨its',v2,p2,_⟩:=I.list (sg.seq q2);have e:eqWs ws ws'=some b:=e;have l1:=r1.length;have l2:=r2.length;have m1:=v1.length;have m2:=v2.length;have eb:=(q5m e).2;have n1:its.length=ws.length:=by omega
   have n2:its'.length=ws'.length:=by omega
   by_cases hl:ws.length=ws'.length
   ·have z:=SeqAt.RcNeAt.lists p1.isList p2.isList (by simp only[w0c];omega) (show A.units<cLine by omega) (x4d I sg hu (by simp only[depW]at hd;omega) r1 r2 v1 v2 e);rw[eb,hl];simp only[w0c,n1,hl,Nat.min_self,beq_self_eq_true,w3l]at z |-
    exact z
   ·have z:=SeqAt.RcNeAt.lists_lengths (A:=A) p1.isList p2.isList (by simp only[w0c,bne_iff_ne];omega) (show A.units<cLine by omega)
    have:b=false:=by
     rw[eb];have:(ws.length==ws'.length)=false:=by simp[hl]
     rw[this,Bool.and_false]
    rw[this];exact z
  |_=>exact x0a I sg (by omega) (by intro ws';simp) (by intro ws';simp) h h' r r' e
 |_=>exact x9e I sg (by simp[depW]) (by omega) h h' r r' e
noncomputable def eq2(x y:W):Option W:=if depW x<=150 then(eqW x y).map .bl else none
def rEqD(K:PySem.W.Frag):R2:=fun x y H Q=>∃G wx wy b,Same G H/\depW wx<=150/\Rep K G wx x/\Rep K G wy y/\eqW wx wy=some b/\Q (.bl b) H
theorem x9f(hu:X.A.units+150<cLine):OpR X (compareOp .Eq) (rEqD X.K):=by
 intro pins s σ H x y v u Q I rx ry h;obtain⟨G,wx,wy,b,sg,hd,hx,hy,e,q⟩:=h;exact y3z I sg 150 hd hu hx hy rx ry e _ _ _ _ ⟨.bl b,H,I,rfl,q⟩
theorem y30:Op2 K (rEqD K) eq2:=by
 intro G H x y wx wy w Q s px py hf h;unfold eq2 at hf;split at hf
 ·rename_i hd;obtain⟨b,hb,rfl⟩:=w0d.mp hf;exact⟨G,wx,wy,b,s,hd,px,py,hb,h G _ H (.refl s) rfl⟩
 ·cases hf
noncomputable def ne2(x y:W):Option W:=if depW x<=150 then(eqW x y).map fun b=>.bl (!b)else none
def rNeD(K:PySem.W.Frag):R2:=fun x y H Q=>∃G wx wy b,Same G H/\depW wx<=150/\Rep K G wx x/\Rep K G wy y/\eqW wx wy=some b/\Q (.bl (!b)) H
theorem x9g(hu:X.A.units+150<cLine):OpR X (compareOp .NotEq) (rNeD X.K):=by
 intro pins s σ H x y v u Q I rx ry h;obtain⟨G,wx,wy,b,sg,hd,hx,hy,e,q⟩:=h;exact y42 I sg 149 hd hu hx hy rx ry e _ _ _ _ ⟨.bl (!b),H,I,rfl,q⟩
theorem y31:Op2 K (rNeD K) ne2:=by
 intro G H x y wx wy w Q s px py hf h;unfold ne2 at hf;split at hf
 ·rename_i hd;obtain⟨b,hb,rfl⟩:=w0d.mp hf;exact⟨G,wx,wy,b,s,hd,px,py,hb,h G _ H (.refl s) rfl⟩
 ·cases hf
noncomputable def isW:W->W->Option W
 |.non,.non=>some (.bl true)
 |_,.non=>some (.bl false)
 |.bl a,.bl b=>some (.bl (a==b))
 |_,.bl _=>some (.bl false)
 |_,_=>none
noncomputable def nisW:W->W->Option W
 |.non,.non=>some (.bl false)
 |_,.non=>some (.bl true)
 |.bl a,.bl b=>some (.bl (!(a==b)))
 |_,.bl _=>some (.bl true)
 |_,_=>none
def rIs:R2:=fun x y H Q=>(y=.non\/∃b,y=.bl b)/\Q (.bl (decide (x=y))) H
def rNis:R2:=fun x y H Q=>(y=.non\/∃b,y=.bl b)/\Q (.bl (!decide (x=y))) H
theorem x4e{x y:V}{v:Value}(rx:RelV x v)(ry:RelV y u)(h:y=.non\/∃b,y=.bl b):plainIs v u=true/\(v==u)=decide (x=y):=by
 rcases h with rfl|⟨b,rfl⟩
 ·cases ry
  cases x<;>first
   |(cases rx;exact⟨rfl,by first|rfl|(rw[w2a];simp)⟩)
   |(obtain⟨t,rfl⟩:=rx;exact⟨rfl,by rw[w2a];simp⟩)
 ·cases ry
  cases x<;>first
   |(cases rx;exact⟨rfl,by first|rfl|(rw[w2a];simp)⟩)
   |(obtain⟨t,rfl⟩:=rx;exact⟨rfl,by rw[w2a];simp⟩)
theorem y9d:OpR X (compareOp .Is) rIs:=by
 intro pins s σ H x y v u Q I rx ry h;obtain⟨hy,q⟩:=h;obtain⟨h1,h2⟩:=x4e rx ry hy;exact wpAny_is_plain h1 (x3y I q h2.symm)
theorem y43:OpR X (compareOp .IsNot) rNis:=by
 intro pins s σ H x y v u Q I rx ry h;obtain⟨hy,q⟩:=h;obtain⟨h1,h2⟩:=x4e rx ry hy;exact wpAny_isNot_plain h1 (x3y I q (by rw[h2]))
theorem z2r{x y:V}{wx wy:W}(px:Rep K G wx x)(py:Rep K G wy y)(h:isW wx wy=some w):(y=.non\/∃b,y=.bl b)/\w=.bl (decide (x=y)):=by
 cases wy with
 |non=>
  cases(show y=.non from py);refine⟨.inl rfl,?_⟩;cases wx with
  |tup ws=>obtain⟨_,_,rfl,_⟩:=px;cases h;simp
  |lst ws=>obtain⟨_,_,rfl,_⟩:=px;cases h;simp
  |exc c=>obtain⟨_,rfl,_⟩:=px;cases h;simp
  |dic c=>obtain⟨_,rfl,_⟩:=px;cases h;simp
  |dw _ _ _ _=>obtain⟨_,_,_,rfl,_⟩:=px;cases h;simp
  |fn _ _ _=>obtain⟨_,_,_,_,rfl,_⟩:=px;cases h;simp
  |_=>cases px;cases h;simp
 |bl b=>
  cases(show y=.bl b from py);refine⟨.inr ⟨b,rfl⟩,?_⟩;cases wx with
  |tup ws=>obtain⟨_,_,rfl,_⟩:=px;cases h;simp
  |lst ws=>obtain⟨_,_,rfl,_⟩:=px;cases h;simp
  |exc c=>obtain⟨_,rfl,_⟩:=px;cases h;simp
  |dic c=>obtain⟨_,rfl,_⟩:=px;cases h;simp
  |dw _ _ _ _=>obtain⟨_,_,_,rfl,_⟩:=px;cases h;simp
  |fn _ _ _=>obtain⟨_,_,_,_,rfl,_⟩:=px;cases h;simp
  |bl k=>cases px;cases h;cases k<;>cases b<;>rfl
  |_=>cases px;cases h;simp
 |_=>cases wx<;>cases h
theorem y9e{x y:V}{wx wy:W}(px:Rep K G wx x)(py:Rep K G wy y)(h:nisW wx wy=some w):(y=.non\/∃b,y=.bl b)/\w=.bl (!decide (x=y)):=by
 cases wy with
 |non=>
  cases(show y=.non from py);refine⟨.inl rfl,?_⟩;cases wx with
  |tup ws=>obtain⟨_,_,rfl,_⟩:=px;cases h;simp
  |lst ws=>obtain⟨_,_,rfl,_⟩:=px;cases h;simp
  |exc c=>obtain⟨_,rfl,_⟩:=px;cases h;simp
  |dic c=>obtain⟨_,rfl,_⟩:=px;cases h;simp
  |dw _ _ _ _=>obtain⟨_,_,_,rfl,_⟩:=px;cases h;simp
  |fn _ _ _=>obtain⟨_,_,_,_,rfl,_⟩:=px;cases h;simp
  |_=>cases px;cases h;simp
 |bl b=>
  cases(show y=.bl b from py);refine⟨.inr ⟨b,rfl⟩,?_⟩;cases wx with
  |tup ws=>obtain⟨_,_,rfl,_⟩:=px;cases h;simp
  |lst ws=>obtain⟨_,_,rfl,_⟩:=px;cases h;simp
  |exc c=>obtain⟨_,rfl,_⟩:=px;cases h;simp
  |dic c=>obtain⟨_,rfl,_⟩:=px;cases h;simp
  |dw _ _ _ _=>obtain⟨_,_,_,rfl,_⟩:=px;cases h;simp
  |fn _ _ _=>obtain⟨_,_,_,_,rfl,_⟩:=px;cases h;simp
  |bl k=>cases px;cases h;cases k<;>cases b<;>rfl
  |_=>cases px;cases h;simp
 |_=>cases wx<;>cases h
theorem z2s:Op2 K rIs isW:=by
 intro G H x y wx wy w Q s px py hf h;obtain⟨h1,rfl⟩:=z2r px py hf;exact⟨h1,h G _ H (.refl s) rfl⟩
theorem y9f:Op2 K rNis nisW:=by
 intro G H x y wx wy w Q s px py hf h;obtain⟨h1,rfl⟩:=y9e px py hf;exact⟨h1,h G _ H (.refl s) rfl⟩
section
variable{a b c e:Expr}{p:Pos}
theorem q8q(ha:DE Z X EE a da)(hb:DE Z X EE b db):DE Z X EE (.BinOp a .Sub b pos) (dOp subW da db):=q9f y8p y88 ha hb
theorem q5t(ha:DE Z X EE a da)(hb:DE Z X EE b db):DE Z X EE (.BinOp a .Mult b pos) (dOp mulW da db):=q9f y8q y89 ha hb
theorem q44(ha:DE Z X EE a da)(hb:DE Z X EE b db):DE Z X EE (.BinOp a .FloorDiv b pos) (dOp fdivW da db):=q9f y4k y40 ha hb
theorem q2q(ha:DE Z X EE a da)(hb:DE Z X EE b db):DE Z X EE (.BinOp a .Mod b pos) (dOp modW da db):=q9f y8r y9a ha hb
theorem y9g(ha:DE Z X EE a da):DE Z X EE (.UnaryOp .USub a pos) (dUn negW da):=z2n y8s y9b ha
theorem z2t(ha:DE Z X EE a da)(hb:DE Z X EE b db):DE Z X EE (.Compare a [.Lt] [b] pos) (dOp ltW da db):=q6g y3t y3w ha hb (nomark _)
theorem z2u(ha:DE Z X EE a da)(hb:DE Z X EE b db):DE Z X EE (.Compare a [.Gt] [b] pos) (dOp gtW da db):=q6g y3u y3x ha hb (nomark _)
theorem q5c(hu:X.A.units+150<cLine)(ha:DE Z X EE a da)(hb:DE Z X EE b db):DE Z X EE (.Compare a [.Eq] [b] pos) (dOp eq2 da db):=q6g (x9f hu) y30 ha hb (nomark _)
theorem x7e(hu:X.A.units+150<cLine)(ha:DE Z X EE a da)(hb:DE Z X EE b db):DE Z X EE (.Compare a [.NotEq] [b] pos) (dOp ne2 da db):=q6g (x9g hu) y31 ha hb (nomark _)
theorem z2v(ha:DE Z X EE a da)(hb:DE Z X EE b db):DE Z X EE (.Compare a [.Is] [b] pos) (dOp isW da db):=q6g y9d z2s ha hb (nomark _)
theorem q7r(ha:DE Z X EE a da)(hb:DE Z X EE b db):DT Z X EE (.Compare a [.Lt] [b] pos) (dTest (dOp ltW da db)):=q6h y3t y3w ha hb (nomark _)
theorem q5p(ha:DE Z X EE a da)(hb:DE Z X EE b db):DT Z X EE (.Compare a [.Gt] [b] pos) (dTest (dOp gtW da db)):=q6h y3u y3x ha hb (nomark _)
theorem y32(ha:DE Z X EE a da)(hb:DE Z X EE b db):DT Z X EE (.Compare a [.GtE] [b] pos) (dTest (dOp geW da db)):=q6h z2l z2q ha hb (nomark _)
theorem q0s(hu:X.A.units+150<cLine)(ha:DE Z X EE a da)(hb:DE Z X EE b db):DT Z X EE (.Compare a [.Eq] [b] pos) (dTest (dOp eq2 da db)):=q6h (x9f hu) y30 ha hb (nomark _)
theorem x3n(hu:X.A.units+150<cLine)(ha:DE Z X EE a da)(hb:DE Z X EE b db):DT Z X EE (.Compare a [.NotEq] [b] pos) (dTest (dOp ne2 da db)):=q6h (x9g hu) y31 ha hb (nomark _)
theorem y9h(ha:DE Z X EE a da)(hb:DE Z X EE b db):DT Z X EE (.Compare a [.IsNot] [b] pos) (dTest (dOp nisW da db)):=q6h y43 y9f ha hb (nomark _)
theorem q0g{k:Nat}(h:Room k A):A.units+150<cLine:=by have:=h.un;omega
noncomputable def cutW(xs:List W)(lo hi:Option Int):List W:=(xs.drop (HT.sIx xs.length 0 lo)).take (HT.sIx xs.length xs.length hi-HT.sIx xs.length 0 lo)
theorem Reps.cut(r:Reps K G ws xs)(lo hi:Option Int):Reps K G (cutW ws lo hi) (cutV xs lo hi):=by
 unfold cutW cutV;rw[r.length];exact(r.drop _).take _
def DO(Z:Zt)(X:Cx)(EE:St->XK)(e:Option Expr)(d:Den (Option Int)):Prop:=PO X e (fun σ H Q=>∃G e,Rel X.K Z G σ H e/\(d e).holds (fun o e'=>∀G' H',Rel X.K Z G' σ H' e'->Same G G'->Q o H') (XH X.K Z EE σ G))
noncomputable def dNoPart:Den (Option Int):=fun e=>.ok none e
noncomputable def dPart(d:Den W):Den (Option Int):=fun e=>(d e).bind fun w e1=>match w with
 |.int i=>.ok (some i) e1
 |_=>.no
theorem PO.mono{e:Option Expr}{t t':TO}(h:PO X e t)(i:∀σ H Q,t' σ H Q->t σ H Q):PO X e t':=fun pins s σ H Q I q=>h pins s σ H Q I (i σ H Q q)
theorem q64:DO Z X EE none dNoPart:=PO.mono y4n fun σ H Q ⟨G,e,r,h⟩=>h G H r (.refl _)
theorem q4q(h:DE Z X EE e da):DO Z X EE (some e) (dPart da):=by
 refine PO.mono (y4o h) ?_;rintro σ H Q ⟨G,e,rel,h⟩;simp only[dPart,R.holds_bind]at h;refine⟨G,e,rel,h.imp (fun x e1 h G1 v1 H1 r1 s1 p1=>?_) fun _ _ h=>h⟩
 cases x with
 |int i=>cases(show v1=V.int i from p1);exact⟨i,rfl,h G1 H1 r1 s1⟩
 |_=>exact h.elim
noncomputable def slW:W->Option Int->Option Int->Option W
 |.lst ws,lo,hi=>some (.lst (cutW ws lo hi))
 |.tup ws,lo,hi=>if ¬(HT.sIx ws.length 0 lo=0/\HT.sIx ws.length ws.length hi=ws.length)then some (.tup (cutW ws lo hi))else none
 |_,_,_=>none
noncomputable def tyW:W->Value
 |.non=>.type "NoneType"
 |.bl _=>.type "bool"
 |.int _=>.type "int"
 |.str _=>.type "str"
 |.tup _=>.type "tuple"
 |.lst _=>.type "list"
 |.exc c=>c
 |.dic _=>.type "dict"
 |.dw _ _ _ _=>.type "dict"
 |.fn _ _ _=>.type "dict"
noncomputable def isiW(K:PySem.W.Frag)(cv:Value):W->Option W
 |.exc (.ref D)=>if excClsIn K D=true then(kitOne K (.ref D) cv).map .bl else none
 |.exc _=>none
 |.dic _=>none
 |.dw _ _ _ _=>none
 |.fn _ _ _=>none
 |w=>(kitOne K (tyW w) cv).map .bl
theorem y44{b:Bool}{Q:VK}(I:Inv X pins σ H s)(sg:Same G H)(p:Rep X.K G w v)(r:RelV v u)(h:isiW X.K cv w=some (.bl b))(q:Q (.bl b) H):
  wpAny (model X.prog X.w) X.A (call (.builtin "isinstance") [u,cv]) (EP X pins σ Q) X.xe s:=by
 have fin:∀tk,EP X pins σ Q (.bool b) {s with toks:=tk}:=fun tk=>⟨.bl b,H,I.tok _,rfl,q⟩
 have kit:∀{t:Value},(kitOne X.K t cv).map W.bl=some (.bl b)->kitOne X.K t cv=some b:=fun z=>by
  obtain⟨y,h1,h2⟩:=w0d.mp z;cases h2;exact h1
 cases w with
 |non=>cases p;cases r;exact kia_one PySem.W.kitx_none I.kIn True.intro (kit h) (fun z=>nomatch z) fin
 |bl y=>cases p;cases r;exact kia_one PySem.W.kitx_bool I.kIn True.intro (kit h) (fun z=>nomatch z) fin
 |int y=>cases p;obtain⟨t,rfl⟩:=r;exact kia_one PySem.W.kitx_int I.kIn True.intro (kit h) (fun z=>nomatch z) fin
 |str y=>cases p;obtain⟨t,rfl⟩:=r;exact kia_one PySem.W.kitx_str I.kIn True.intro (kit h) (fun z=>nomatch z) fin
 |tup ws=>
  obtain⟨a,xs,rfl,hq,_⟩:=p;cases r;obtain⟨its,_,⟨o,h1,h2,_⟩,_⟩:=I.tuple (sg.tup hq);exact kia_one PySem.W.kitx_tuple I.kIn ⟨o,h1,h2⟩ (kit h) (fun z=>nomatch z) fin
 |lst ws=>
  obtain⟨a,xs,rfl,hq,_⟩:=p;cases r;obtain⟨its,_,⟨o,n,h1,h2,_⟩,_⟩:=I.list (sg.seq hq);exact kia_one PySem.W.kitx_list I.kIn ⟨o,h1,h2⟩ (kit h) (fun z=>nomatch z) fin
 |dic c=>simp[isiW]at h
 |dw _ _ _ _=>simp[isiW]at h
 |fn _ _ _=>simp[isiW]at h
 |exc c=>
  obtain⟨e,rfl,he⟩:=p;cases r;unfold isiW at h;split at h
  ·rename_i D heq;cases heq;split at h
   ·rename_i hC;obtain⟨⟨o,vs,h1,h2,h3⟩,_⟩:=(show ObjOk X.prog X.w H s.heap e (excO e (.ref D))from I.hok e _ (sg _ _ he));exact kia_one (y1q (ExcCls.of hC)) I.kIn ⟨o,vs,h1,h2,h3⟩ (kit h) (fun z=>nomatch z) fin
   ·cases h
  all_goals first|(cases h;done)|(rename_i h1 h2 h3 h4 h5;exact absurd rfl (h2 c))|(rename_i h1 h2 h3 h4;exact absurd rfl (h2 c))|(rename_i h1 h2 h3;exact absurd rfl (h2 c))|(rename_i h1 h2;exact absurd rfl (h2 c))
noncomputable def dIsi(K:PySem.W.Frag)(cv:Value)(d:Den W):Den W:=fun e=>(d e).bind fun w e1=>match isiW K cv w with
 |some (.bl b)=>.ok (.bl b) e1
 |_=>.no
theorem x9h{c:V}(hc:ClsV c cv):CallR X (.builtin "isinstance") (fun xs H Q=>∃x G w b,xs=[x,c]/\Same G H/\Rep X.K G w x/\isiW X.K cv w=some (.bl b)/\Q (.bl b) H):=by
 intro pins s σ H xs us Q I r h;obtain⟨x,G,w,b,rfl,sg,p,hi,q⟩:=h;obtain⟨u,u2,rfl,rx,rc⟩:=vals2 r
 have ec:u2=cv:=by
  cases c with
  |ty n=>exact(show u2=Value.type n from rc).trans (show cv=Value.type n from hc).symm
  |ref a=>exact(show u2=Value.ref a from rc).trans (show cv=Value.ref a from hc).symm
  |_=>exact hc.elim
 subst ec;exact y44 I sg p rx hi q
theorem q65{c0:V}(hc:ClsV c0 cv)(hcl:PE X c (tC c0))(hm:X.mg "isinstance"=none)(he:DE Z X EE e da)(hg:Gl X "isinstance":=by rfl)(hs:starEach [e,c] X.env=(false,eval e X.env)::starEach [c] X.env:=by rfl)(hs2:starEach [c] X.env=(false,eval c X.env)::starEach [] X.env:=by rfl)(hpl:(backTo pos (starEach [c] X.env)).any (·.1)=false:=by rfl):
  DE Z X EE (.Call (.Name "isinstance" p) [e,c] [] pos) (dIsi X.K cv da):=by
 refine PE.mono (q95 (x9h hc) hg hm PyProof.Rows.Boot.«isinstance» (q55 he (q55 hcl x30 hs2) hs) (by decide) (by decide) hs hpl) ?_;rintro σ H Q ⟨G,e,rel,h⟩;simp only[dIsi,R.holds_bind]at h;refine⟨G,e,rel,h.imp (fun w e1 h G1 v1 H1 r1 s1 p1=>?_) fun _ _ h=>h⟩
 split at h
 ·rename_i b hb;exact⟨v1,G1,w,b,rfl,r1.sub,p1,hb,h G1 _ H1 r1 s1 rfl⟩
 ·exact h.elim
theorem q57{n:Str}(hv:bootBuiltins n=some (.type T))(hm:X.mg n=none)(hg:Gl X n:=by rfl)(hn:n≠"__name__":=by decide)(hd:(n==("__debug__":Str))=false:=by decide):PE X (.Name n pos) (tC (.ty T)):=y4d (v:=.ty T) hg hm hv rfl hn hd
noncomputable def tup1:List W->Option W
 |[.lst ws]=>some (.tup ws)
 |[.tup ws]=>some (.tup ws)
 |_=>none
theorem y9i:OpN K (fun xs H Q=>∃p ys,xs=[.ref p]/\((SqL K H p ys/\∀l,H l=none->Q (.ref l) (upd H l (.tup ys)))\/(SqT K H p ys/\Q (.ref p) H))) tup1:=by
 intro G H xs ws w Q s pr hf h;unfold tup1 at hf;split at hf
 ·cases hf;obtain⟨x,r,rfl,px,pr⟩:=pr;cases(show r=[]from pr);obtain⟨a,ys,rfl,ha,ra⟩:=px;refine⟨a,ys,rfl,.inl ⟨s.seq ha,fun l hl=>?_⟩⟩
  have g:=Grow.laid s hl (.tup ys);exact h _ _ _ g ⟨l,ys,rfl,SqT.of q0o,Reps.mono g.gg _ ra⟩
 ·cases hf;obtain⟨x,r,rfl,px,pr⟩:=pr;cases(show r=[]from pr);obtain⟨a,ys,rfl,ha,ra⟩:=px;exact⟨a,ys,rfl,.inr ⟨s.tup ha,h G _ H (.refl s) ⟨a,ys,rfl,ha,ra⟩⟩⟩
 ·cases hf
theorem x4f(hm:X.mg "tuple"=none)(ha:DA Z X EE [e] dA)(hg:Gl X "tuple":=by rfl)(he:starEach [e] X.env=(false,eval e X.env)::starEach [] X.env:=by rfl)(hpl:(backTo pos (starEach [] X.env)).any (·.1)=false:=by rfl):DE Z X EE (.Call (.Name "tuple" p) [e] [] pos) (dFn tup1 dA):=
 x84 x25 y9i PyProof.Rows.Boot.«tuple» hm ha hg (by decide) (by decide) he hpl
theorem q3r(hm:X.mg "len"=none)(ha:DA Z X EE [e] dA)(hg:Gl X "len":=by rfl)(he:starEach [e] X.env=(false,eval e X.env)::starEach [] X.env:=by rfl)(hpl:(backTo pos (starEach [] X.env)).any (·.1)=false:=by rfl):DE Z X EE (.Call (.Name "len" p) [e] [] pos) (dFn len1 dA):=
 q8o x3z x89 PySem.boot_len hm ha hg (by decide) (by decide) he hpl
theorem q58(i:Nat)(hm:X.mg "len"=none)(hN:X.N[i]?=some x:=by rfl)(hvis:Vis X.env.scope x:=by walk_at "1")(hd:(x==("__debug__":Str))=false:=by decide)(hcd:(x==("__classdict__":Str))=false:=by decide)
  (hg:Gl X "len":=by rfl)(hs:starEach [.Name x p] X.env=(false,eval (.Name x p) X.env)::starEach [] X.env:=by rfl)(hpl:(backTo pos (starEach [] X.env)).any (·.1)=false:=by rfl):DE Z X EE (.Call (.Name "len" pn) [.Name x p] [] pos) (dFnV i len1):=
 y9c i x3z x89 PySem.boot_len hm hN hvis hd hcd hg (by decide) (by decide) hs hpl
noncomputable def lst1:List W->Option (List W)
 |[.lst ws]=>some ws
 |[.tup ws]=>some ws
 |_=>none
noncomputable def dList(dA:Den (List W)):Den (List W):=fun e=>(dA e).bind fun ws e1=>ofOpt (lst1 ws) e1
theorem y45(hm:X.mg "list"=none)(ha:DA Z X EE [e] dA)(hg:Gl X "list":=by rfl)(he:starEach [e] X.env=(false,eval e X.env)::starEach [] X.env:=by rfl)(hpl:(backTo pos (starEach [] X.env)).any (·.1)=false:=by rfl):DF Z X EE (.Call (.Name "list" p) [e] [] pos) (dList dA):=by
 refine PE.mono (x2b x33 hg hm PyProof.Rows.Boot.«list» ha (by decide) (by decide) he hpl) ?_;rintro σ H Q ⟨G,e,rel,h⟩;simp only[dList,R.holds_bind,ofOpt_holds]at h;refine⟨G,e,rel,h.imp (fun ws e1 h G1 vs H1 r1 s1 p1=>?_) fun _ _ h=>h⟩
 obtain⟨out,hf,h⟩:=h;unfold lst1 at hf;split at hf
 ·cases hf;obtain⟨y,r,rfl,py,pr⟩:=p1;cases(show r=[]from pr);obtain⟨a,ys,rfl,hq,rq⟩:=py;exact⟨a,ys,rfl,.inl (r1.sub.seq hq),q98 r1 s1 rq h⟩
 ·cases hf;obtain⟨y,r,rfl,py,pr⟩:=p1;cases(show r=[]from pr);obtain⟨a,ys,rfl,hq,rq⟩:=py;exact⟨a,ys,rfl,.inr (r1.sub.tup hq),q98 r1 s1 rq h⟩
 ·cases hf
end
section
variable{P:Program}{w:World}{mg:Str->Option Value}{base:Heap}
theorem x9i(hF:∀ws,F ws=.no){vs:List V}{Q:VK}{E:XK}(h:spF K F vs H Q E):False:=by
 obtain⟨G,ws,hn,_⟩:=x36 h;exact hn (hF ws)
theorem conF{st:Stmt}{N ps:List Str}{k:Nat}{f:Addr}{fd:FuncData}(A:Fun K x x st f fd)(sc:FnScope N ps (defScope st))(len:∀ws,F ws≠.no->ws.length=ps.length)
  (hb:∀ws,F ws≠.no->∀(cdv:Value)(A:Around)(outer:List Env)(s:Shared)(H:Hp)(E:XK)(Z:Zt),Room k (A.deeper (PyProof.Rows.envOfC x (defScope st) s.heap.objs.size f cdv)) ->
   ∃d,DSs Z (cxOf (CX1 P w) P w K mg base N x (defScope st) f cdv A outer s H E) (fun _=>E) (defBody st) d/\(d (init N.length ws)).fn=F ws):FnOk P w K mg base (CX1 P w) (k+1) f fd ps (spF K F):=by
 refine A.okX sc (fun vs H Q E h=>?_) (fun cdv A outer s H vs Q E hr h=>?_)
 ·obtain⟨G,ws,hn,r⟩:=x36 h;rw[r.length];exact len ws hn
 ·obtain⟨G,ws,sg,rp,h⟩:=h;have hn:F ws≠.no:=fun z=>by rw[z]at h;exact h
  obtain⟨d,hd,he⟩:=hb ws hn cdv A outer s H E ⟨H,G,[]⟩ hr;exact⟨_,hd,G,init N.length ws,x35 sg rp,x6d he h⟩
noncomputable def spLaw(K:PySem.W.Frag):Sp:=fun vs H Q _=>∃(a:Addr)(ns:List Int),vs=[.ref a]/\SqL K H a (ns.map V.int)/\ns.length<=63/\∀H',Q (.bl true) H'
theorem x2m:∀(ns:List Int),Reps K G (ns.map W.int) (ns.map V.int)
 |[]=>rfl
 |n::ns=>⟨_,_,rfl,rfl,x2m ns⟩
theorem y11(hF:∀ns:List Int,ns.length<=63->F [.lst (ns.map .int)]=.ok (.fr (.bl true))){vs:List V}{Q:VK}{E:XK}(h:spLaw K vs H Q E):spF K F vs H Q E:=by
 obtain⟨a,ns,rfl,hS,hl,q⟩:=h;refine⟨fun b=>if b=a then H a else none,[.lst (ns.map .int)],fun b o z=>?_,⟨.ref a,[],rfl,⟨a,ns.map V.int,rfl,?_,x2m ns⟩,rfl⟩,?_⟩
 ·by_cases hb:b=a
  ·subst hb;simpa using z
  ·simp[hb]at z
 ·rcases hS with(h|⟨o,h⟩)|h
  ·exact .inl (.inl (by simpa using h))
  ·exact .inl (.inr ⟨o,by simpa using h⟩)
  ·exact .inr h
 ·rw[hF ns hl];intro G' H' v g sl;obtain⟨u,h1,h2⟩:=sl;cases h1;cases(show v=V.bl true from h2);exact q H'
theorem y9j{P:Program}{w:World}{e:Value}{s':Shared}(z:CX1 P w [] H s (fun _ _ _=>False) e s'):False:=by
 obtain⟨_,_,_,_,_,_,_,_,_,_,h⟩:=z;exact h
theorem con0{st:Stmt}{ps:List Str}(A:At K mg x st ps)(hF:∀ws,F ws=.no:=by intro _;rfl):Cal P w K mg base 0 x ps (spF K F):=by
 obtain⟨f,fd,F0,m,b⟩:=A.ex;exact⟨f,fd,⟨fun vs H Q E h=>(x9i hF h).elim,fun A outer s H args us vs Q E _ _ _ _ h=>(x9i hF h).elim⟩,m,F0.kp,b⟩
end
noncomputable def fmtW:W->Option Str
 |.int i=>if i.natAbs.log2<1000 then some (Str.ofString (toString i))else none
 |.str z=>if z.length<=1000000 then some z else none
 |_=>none
noncomputable def fNil:Den Str:=fun e=>.ok Str.empty e
noncomputable def fTxt(x:Str)(d:Den Str):Den Str:=fun e=>(d e).bind fun y e1=>.ok (x++y) e1
noncomputable def fVal(d:Den W)(r:Den Str):Den Str:=fun e=>(d e).bind fun w e1=>match fmtW w with
 |some x=>(r e1).bind fun y e2=>.ok (x++y) e2
 |none=>.no
noncomputable def dFstr(d:Den Str):Den W:=fun e=>(d e).bind fun x e1=>.ok (.str x) e1
theorem q52(x y z:Str):x++(y++z)=(x++y)++z:=by
 show Str.mk _=Str.mk _;congr 1;exact(w4h).symm
theorem x26(x:Str):x++Str.empty=x:=by
 show Str.mk _=x;have:x.cps++Str.empty.cps=x.cps:=w4i;rw[this]
section
variable{e:Expr}{d:Den Str}
def DFm(Z:Zt)(X:Cx)(EE:St->XK)(n:Nat)(es:List Expr)(d:Den Str):Prop:=PF X es (fun acc σ H Q=>acc.length+n*1000001<=16777216/\∃G e,Rel X.K Z G σ H e/\(d e).holds (fun y e'=>∀G' H',Rel X.K Z G' σ H' e'->Same G G'->Q (acc++y) H') (XH X.K Z EE σ G))
theorem PF.mono{t t':TF}(h:PF X es t)(i:∀acc σ H Q,t' acc σ H Q->t acc σ H Q):PF X es t':=fun acc pins s σ H Q I q=>h acc pins s σ H Q I (i acc σ H Q q)
theorem q66:DFm Z X EE 0 [] fNil:=PF.mono y83 fun acc σ H Q ⟨hl,G,e,r,h⟩=>⟨by rw[sizeLine_eq];omega,by
 have z:=h G H r (.refl _)
 rwa [x26]at z⟩
theorem q4v{j pos}(r:DFm Z X EE n es d)(hx:x.length<=1000000:=by decide +kernel):DFm Z X EE (n+1) (.Constant (.str x) j pos::es) (fTxt x d):=by
 refine PF.mono (y84 r) ?_;rintro acc σ H Q ⟨hl,G,e,rel,h⟩;unfold fTxt at h;have e1:(acc++x).length=acc.length+x.length:=PySem.Str.length_append _ _;refine⟨by rw[e1,sizeLine_eq];omega,by omega,G,e,rel,(R.holds_bind.mp h).imp (fun y e1 h G1 H1 r1 s1=>?_) fun _ _ h=>h⟩
 have z:=h G1 H1 r1 s1
 rwa [q52]at z
theorem y46(h:fmtW w=some x):x.length<=1000000:=by
 unfold fmtW at h;split at h
 ·split at h
  ·rename_i hl;cases h;have:=PySem.int_text_length_le (k:=1000) (by decide) hl;rw[PySem.ofString_length];omega
  ·cases h
 ·split at h
  ·cases h;assumption
  ·cases h
 ·cases h
theorem z2w(h:fmtW w=some x)(p:Rep K G w v):FmtV v x:=by
 unfold fmtW at h;split at h
 ·split at h
  ·cases h;cases p;exact⟨by omega,rfl⟩
  ·cases h
 ·split at h
  ·cases h;cases p;exact⟨by rw[sizeLine_eq];omega,rfl⟩
  ·cases h
 ·cases h
theorem q6l(he:DE Z X EE e da)(r:DFm Z X EE n es d):DFm Z X EE (n+1) (.FormattedValue e (-1) none pos::es) (fVal da d):=by
 refine PF.mono (y85 he r) ?_;rintro acc σ H Q ⟨hl,G,e,rel,h⟩;simp only[fVal,R.holds_bind]at h;refine⟨G,e,rel,h.imp (fun w e1 h G1 v1 H1 r1 s1 p1=>?_) fun _ _ h=>h⟩
 split at h
 ·rename_i x hx;have hx2:=y46 hx;have e1':(acc++x).length=acc.length+x.length:=PySem.Str.length_append _ _;refine⟨x,z2w hx p1,by rw[e1',sizeLine_eq];omega,by omega,G1,e1,r1,(R.holds_bind.mp h).imp (fun y e2 h G2 H2 r2 s2=>?_) fun _ _ h=>XH.trans s1 h⟩
  have z:=h G2 H2 r2 (s1.trans s2)
  rwa [q52]at z
 ·exact h.elim
theorem q59{v1 v2:Expr}{rest:List Expr}(h:DFm Z X EE n (v1::v2::rest) d)(hn:n*1000001<=16777216):DE Z X EE (.JoinedStr (v1::v2::rest) pos) (dFstr d):=by
 refine PE.mono (y4t h) ?_;rintro σ H Q ⟨G,e,rel,h⟩;simp only[dFstr,R.holds_bind]at h;refine⟨by show 0+_<=_;omega,G,e,rel,h.imp (fun y e1 h G1 H1 r1 s1=>?_) fun _ _ h=>h⟩
 have e0:Str.empty++y=y:=by
  show Str.mk _=y;have:Str.empty.cps++y.cps=y.cps:=Array.empty_append;rw[this]
 rw[e0];exact h G1 _ H1 r1 s1 rfl
end
section
variable{β:Type}{c:Prop} [Decidable c]{a:α}{e':List S}{k:α->List S->R β}{ks:α->List S->SR}{x y:R α}{s t:SR}{v:Value}{st:S}
theorem y47:(R.ok a e).bind k=k a e:=rfl
theorem y48:(R.ex v e:R α).bind k=.ex v e:=rfl
theorem y49:(R.no:R α).bind k=.no:=rfl
theorem y12:(if c then x else y).bind k=if c then x.bind k else y.bind k:=by split<;>rfl
theorem y9k:(R.ok a e).stm ks=ks a e:=rfl
theorem y9l:(R.ex v e:R α).stm ks=.ex v e:=rfl
theorem y9m:(R.no:R α).stm ks=.no:=rfl
theorem y5a:(if c then x else y).stm ks=if c then x.stm ks else y.stm ks:=by split<;>rfl
noncomputable def SR.seq:SR->(List S->SR)->SR
 |.nx e,b=>b e
 |r,_=>r
theorem y9n{p:List S->SR}:dSeq p q e=(p e).seq q:=by
 unfold dSeq SR.seq;cases p e<;>rfl
theorem y9o:(SR.nx e).seq q=q e:=rfl
theorem y9p:(SR.rt st e).seq q=.rt st e:=rfl
theorem y9q:(SR.ex v e).seq q=.ex v e:=rfl
theorem y9r:(SR.bk e).seq q=.bk e:=rfl
theorem y9s:(SR.ct e).seq q=.ct e:=rfl
theorem y9t:(SR.no).seq q=.no:=rfl
theorem y5b:(if c then s else t).seq q=if c then s.seq q else t.seq q:=by split<;>rfl
theorem z2x:(SR.nx e).fn=.ok (.fr .non):=rfl
theorem z2y:(SR.rt st e).fn=.ok st:=rfl
theorem z2z:(SR.ex v e).fn=.ex v:=rfl
theorem z20:(SR.no).fn=.no:=rfl
theorem y9u:(if c then s else t).fn=if c then s.fn else t.fn:=by split<;>rfl
theorem x7f:ofOpt (some a) e=.ok a e:=rfl
theorem x7g:ofOpt (none:Option α) e=.no:=rfl
theorem x9j{o p:Option α}:ofOpt (if c then o else p) e=if c then ofOpt o e else ofOpt p e:=by split<;>rfl
noncomputable def varS(i:Nat)(e:List S):Option S->R W
 |some (.fr w)=>.ok w e
 |some (.own none ws)=>.ok (.lst ws) (e.set i (.fr (.lst ws)))
 |some (.x k)=>match k.plain with
  |some w=>.ok w e
  |none=>.no
 |_=>.no
theorem y9v:dVar i e=varS i e e[i]?:=by
 unfold dVar varS;cases e[i]? with
 |none=>rfl
 |some s=>cases s with
  |own b ws=>cases b<;>rfl
  |_=>rfl
theorem y9w:varS i e (some (.fr w))=.ok w e:=rfl
theorem y5c:varS i e (some (.own none ws))=.ok (.lst ws) (e.set i (.fr (.lst ws))):=rfl
theorem dC_s:dC w e=.ok w e:=rfl
theorem z21{f:W->W->Option W}:dOp f da db e=(da e).bind fun x e1=>(db e1).bind fun y e2=>ofOpt (f x y) e2:=rfl
theorem z22{f:W->Option W}:dUn f da e=(da e).bind fun x e1=>ofOpt (f x) e1:=rfl
noncomputable def testW(e:List S):W->R Bool
 |.bl k=>.ok k e
 |_=>.no
theorem y5d:dTest da e=(da e).bind fun x e1=>testW e1 x:=rfl
theorem y5e{b:Bool}:testW e (.bl b)=.ok b e:=rfl
theorem y9x:dTru da e=(da e).bind fun x e1=>ofOpt (truW x) e1:=rfl
theorem y9y{p q:Den Bool}:dAnd p q e=(p e).bind fun x e1=>if x=true then q e1 else .ok false e1:=rfl
theorem z23{p q:Den Bool}:dOr p q e=(p e).bind fun x e1=>if x=true then .ok true e1 else q e1:=rfl
theorem y9z{p:Den Bool}:dNot p e=(p e).bind fun x e1=>.ok (!x) e1:=rfl
noncomputable def andK(q:Den W)(e:List S):W->R W
 |.bl true=>q e
 |.bl false=>.ok (.bl false) e
 |_=>.no
theorem y5f{p q:Den W}:dAndV p q e=(p e).bind fun x e1=>andK q e1 x:=rfl
theorem y90{q:Den W}{b:Bool}:andK q e (.bl b)=if b=true then q e else .ok (.bl false) e:=by cases b<;>rfl
noncomputable def orK(q:Den W)(e:List S):W->R W
 |.bl true=>.ok (.bl true) e
 |.bl false=>q e
 |_=>.no
theorem y91{p q:Den W}:dOrV p q e=(p e).bind fun x e1=>orK q e1 x:=rfl
theorem z24{q:Den W}{b:Bool}:orK q e (.bl b)=if b=true then .ok (.bl true) e else q e:=by cases b<;>rfl
noncomputable def notK(e:List S):W->R W
 |.bl k=>.ok (.bl (!k)) e
 |_=>.no
theorem y5g{p:Den W}:dNotV p e=(p e).bind fun x e1=>notK e1 x:=rfl
theorem y92{b:Bool}:notK e (.bl b)=.ok (.bl (!b)) e:=rfl
theorem z25{p:Den Bool}{q q':Den W}:dIf p q q' e=(p e).bind fun x e1=>if x=true then q e1 else q' e1:=rfl
theorem y93:dNil e=.ok [] e:=rfl
theorem y5h{p:Den W}{q:Den (List W)}:dCons p q e=(p e).bind fun x e1=>(q e1).bind fun xs e2=>.ok (x::xs) e2:=rfl
theorem y94:dTup p e=(p e).bind fun xs e1=>if xs.length<=16777216 then .ok (.tup xs) e1 else .no:=rfl
theorem y95:dLst p e=(p e).bind fun xs e1=>if xs.length<=16777216 then .ok xs e1 else .no:=rfl
theorem z26:dFz p e=(p e).bind fun xs e1=>.ok (.lst xs) e1:=rfl
theorem z27:dFn f p e=(p e).bind fun xs e1=>ofOpt (f xs) e1:=rfl
theorem y5i:dList p e=(p e).bind fun xs e1=>ofOpt (lst1 xs) e1:=rfl
theorem z28:dNx e=.nx e:=rfl
theorem y5j:dDrop d e=(d e).stm fun _ e'=>.nx e':=rfl
theorem y96:dRet d e=(d e).stm fun w e'=>.rt (.fr w) e':=rfl
noncomputable def retS(e:List S):Option S->SR
 |some (.own none ws)=>.rt (.own none ws) e
 |some (.fr w)=>.rt (.fr w) e
 |_=>.no
theorem y5k:dRetO i e=retS e e[i]?:=by
 unfold dRetO retS;cases e[i]? with
 |none=>rfl
 |some s=>cases s with
  |own b ws=>cases b<;>rfl
  |_=>rfl
theorem y5l:retS e (some (.own none ws))=.rt (.own none ws) e:=rfl
theorem y97:retS e (some (.fr w))=.rt (.fr w) e:=rfl
theorem y98{p:Den Bool}{q':List S->SR}:dIfS p q q' e=(p e).stm fun x e1=>if x=true then q e1 else q' e1:=rfl
theorem y99:dSet i d e=(d e).stm fun w e'=>.nx (e'.set i (.fr w)):=rfl
theorem y5m{d:Den (List W)}:dSetO i d e=(d e).stm fun w e'=>.nx (e'.set i (.own none w)):=rfl
noncomputable def callR(e:List S):FR->R W
 |.ok (.fr w)=>.ok w e
 |.ok (.own none ws)=>.ok (.lst ws) e
 |.ok (.dic kvs)=>.ok (.dic kvs) e
 |.ok (.thr us ws vs)=>.ok (.tup (us++.lst ws::vs)) e
 |.ok (.x (.new w))=>.ok w e
 |.ok (.x (.tn us wss))=>.ok (.tup (us++[.lst (wss.map .lst)])) e
 |.ex c=>.ex c e
 |_=>.no
theorem y13{kvs:Dd}:callR e (.ok (.dic kvs))=.ok (.dic kvs) e:=rfl
theorem y5n{d:Den (List W)}:dCall F d e=(d e).bind fun ws e1=>callR e1 (F ws):=by
 unfold dCall;congr 1
theorem y5o:callR e (.ok (.fr w))=.ok w e:=rfl
theorem y14:callR e (.ok (.own none ws))=.ok (.lst ws) e:=rfl
theorem y5p:callR e (.ex v)=.ex v e:=rfl
theorem y5q:callR e .no=.no:=rfl
theorem y15{f g:FR}:callR e (if c then f else g)=if c then callR e f else callR e g:=by split<;>rfl
noncomputable def callF(e:List S):FR->R (List W)
 |.ok (.own none ws)=>.ok ws e
 |.ex c=>.ex c e
 |_=>.no
theorem x9k:callF e (.ok (.own none ws))=.ok ws e:=rfl
theorem y16:callF e (.ex v)=.ex v e:=rfl
theorem x9l{f g:FR}:callF e (if c then f else g)=if c then callF e f else callF e g:=by split<;>rfl
noncomputable def forW(i:Nat)(b:List S->SR)(e:List S):Option (List W)->SR
 |some ws=>forD i b ws e
 |none=>.no
theorem z0a{b:List S->SR}:dFor i d b e=(d e).stm fun w e1=>forW i b e1 (seqW w):=by
 unfold dFor;congr 1
theorem y5r{g:List W->Option (List W)}{d:Den (List W)}{b:List S->SR}:dForR i g d b e=(d e).stm fun w e1=>forW i b e1 (g w):=by
 unfold dForR;congr 1
theorem x9m{b:List S->SR}:forW i b e (some ws)=forD i b ws e:=rfl
theorem y5s{b:List S->SR}:forD i b [] e=.nx e:=rfl
noncomputable def SR.turn:SR->(List S->SR)->SR
 |.nx e,k=>k e
 |.ct e,k=>k e
 |.bk e,_=>.nx e
 |.rt s e,_=>.rt s e
 |.ex c e,_=>.ex c e
 |.no,_=>.no
theorem q6m{b:List S->SR}:forD i b (w::ws) e=(b (e.set i (.fr w))).turn (forD i b ws):=by
 show(match b (e.set i (.fr w))with|.nx e'=>forD i b ws e'|.ct e'=>forD i b ws e'|.bk e'=>.nx e'|.rt s e'=>.rt s e'|.ex c e'=>.ex c e'|.no=>.no)=_;cases b (e.set i (.fr w))<;>rfl
theorem q6a:(SR.nx e).turn q=q e:=rfl
theorem y5t:(SR.ct e).turn q=q e:=rfl
theorem y5u:(SR.bk e).turn q=.nx e:=rfl
theorem y5v:(SR.rt st e).turn q=.rt st e:=rfl
theorem y5w:(SR.ex v e).turn q=.ex v e:=rfl
theorem y5x:(SR.no).turn q=.no:=rfl
theorem y17:(if c then s else t).turn q=if c then s.turn q else t.turn q:=by split<;>rfl
theorem q6b{p:Den Bool}{b:List S->SR}:whileD p b (n+1) e=(p e).stm fun x e1=>if x=true then(b e1).turn (whileD p b n)else .nx e1:=by
 show(p e).stm _=_;congr 1;funext x e1
 split
 ·cases b e1<;>rfl
 ·rfl
noncomputable def look1(k:W->R W):Option W->R W
 |none=>.no
 |some w=>k w
theorem z0b:dIxV i d e=look1 (fun _=>(d e).bind fun k e1=>look1 (fun w=>ofOpt (ixW w k) e1) (e1[i]?.bind S.look)) (e[i]?.bind S.look):=by
 unfold dIxV look1;cases e[i]?.bind S.look with
 |none=>rfl
 |some w=>
  dsimp only;try congr 1
theorem x9n{k:W->R W}:look1 k (some w)=k w:=rfl
theorem z29:S.look (.fr w)=some w:=rfl
theorem z0c:S.look (.own b ws)=some (.lst ws):=rfl
noncomputable def fnV2(e:List S)(y:Option W):Option S->R W
 |some (.fr _)=>ofOpt y e
 |_=>match y with
  |none=>.no
  |some v=>if scalW v=true then .ok v e else .no
theorem z0d:dFnV i f e=look1 (fun w=>fnV2 e (f [w]) e[i]?) (e[i]?.bind S.look):=by
 unfold dFnV look1;cases q:e[i]? with
 |none=>rfl
 |some s=>
  cases s with
  |no=>rfl
  |dic _=>rfl
  |thr _ _ _=>rfl
  |nest _=>rfl
  |x k=>
   show(match k.look with|none=>R.no|some w=>match f [w]with|none=>R.no|some v=>if scalW v=true then R.ok v e else R.no)=look1 (fun w=>fnV2 e (f [w]) (some (.x k))) k.look
   cases k.look with
   |none=>rfl
   |some w=>
    show(match f [w]with|none=>R.no|some v=>if scalW v=true then R.ok v e else R.no)=fnV2 e (f [w]) (some (.x k));generalize f [w]=y;cases y<;>rfl
  |dw _ _ _=>rfl
  |fr w=>
   show(match f [w]with|none=>R.no|some v=>R.ok v e)=fnV2 e (f [w]) (some (.fr w));generalize f [w]=y;cases y<;>rfl
  |own b ws=>
   show(match f [W.lst ws]with|none=>R.no|some v=>if scalW v=true then R.ok v e else R.no)=fnV2 e (f [W.lst ws]) (some (.own b ws));generalize f [W.lst ws]=y;cases y<;>rfl
theorem z0e{y:Option W}:fnV2 e y (some (.fr w))=ofOpt y e:=rfl
theorem y5y{v:W}:fnV2 e (some v) (some (.own b ws))=if scalW v=true then .ok v e else .no:=rfl
noncomputable def appK(i:Nat)(e:List S):List W->Option S->SR
 |[w],some (.own b xs)=>if xs.length<16777216 then .nx (e.set i (.own b (xs++[w])))else .no
 |_,_=>.no
noncomputable def ownQ(k:SR):Option S->SR
 |some (.own _ _)=>k
 |_=>.no
theorem z0f{d:Den (List W)}:dApp i d e=ownQ ((d e).stm fun ws e1=>appK i e1 ws e1[i]?) e[i]?:=by
 unfold dApp ownQ;cases e[i]? with
 |none=>rfl
 |some s=>cases s with
  |own b xs=>
   dsimp only;try congr 1
  |_=>rfl
theorem z3a{k:SR}:ownQ k (some (.own b ws))=k:=rfl
theorem z3b{xs:List W}:appK i e [w] (some (.own b xs))=if xs.length<16777216 then .nx (e.set i (.own b (xs++[w])))else .no:=rfl
noncomputable def popK(i:Nat)(e:List S)(b:Option Nat)(ws:List W):Option W->R W
 |some w=>.ok w (e.set i (.own b ws.dropLast))
 |none=>.no
noncomputable def popS(i:Nat)(e:List S):Option S->R W
 |some (.own b ws)=>popK i e b ws ws[ws.length-1]?
 |_=>.no
theorem z0g:dPop i e=popS i e e[i]?:=by
 unfold dPop popS;cases e[i]? with
 |none=>rfl
 |some s=>cases s with
  |own b ws=>
   show(match ws[ws.length-1]? with|some w=>_|none=>_)=popK i e b ws ws[ws.length-1]?;cases ws[ws.length-1]?<;>rfl
  |_=>rfl
theorem y5z:popS i e (some (.own b (ws++[w])))=.ok w (e.set i (.own b ws)):=by
 show popK i e b (ws++[w]) (ws++[w])[(ws++[w]).length-1]?=_;have:(ws++[w])[(ws++[w]).length-1]?=some w:=by simp
 rw[this];show R.ok w (e.set i (.own b (ws++[w]).dropLast))=_;rw[List.dropLast_concat]
theorem y18{C:Addr}{d:Den (List W)}:dRaise C d e=(d e).stm fun ws e1=>if ws.length<=16777216 then .ex (.ref C) e1 else .no:=rfl
theorem x9o:dNoPart e=.ok none e:=rfl
noncomputable def partK(e:List S):W->R (Option Int)
 |.int i=>.ok (some i) e
 |_=>.no
theorem y50:dPart d e=(d e).bind fun w e1=>partK e1 w:=rfl
theorem y19{i:Int}:partK e (.int i)=.ok (some i) e:=rfl
noncomputable def isiK(e:List S):Option W->R W
 |some (.bl b)=>.ok (.bl b) e
 |_=>.no
theorem z0h:dIsi K cv d e=(d e).bind fun w e1=>isiK e1 (isiW K cv w):=by
 unfold dIsi;congr 1
theorem z0i{b:Bool}:isiK e (some (.bl b))=.ok (.bl b) e:=rfl
theorem y2a{b k:Bool}(h:kitOne K (.type "bool") cv=some k):isiW K cv (.bl b)=some (.bl k):=by show(kitOne K (.type "bool") cv).map W.bl=_;rw[h];rfl
theorem x6f{b:Int}{k:Bool}(h:kitOne K (.type "int") cv=some k):isiW K cv (.int b)=some (.bl k):=by show(kitOne K (.type "int") cv).map W.bl=_;rw[h];rfl
theorem q67{b:Str}{k:Bool}(h:kitOne K (.type "str") cv=some k):isiW K cv (.str b)=some (.bl k):=by show(kitOne K (.type "str") cv).map W.bl=_;rw[h];rfl
theorem q9j{b:List W}{k:Bool}(h:kitOne K (.type "tuple") cv=some k):isiW K cv (.tup b)=some (.bl k):=by show(kitOne K (.type "tuple") cv).map W.bl=_;rw[h];rfl
noncomputable def compR(e:List S):Option (List W)->R (List W)
 |some out=>.ok out e
 |none=>.no
theorem y51:compK js cc d ws e=if ws.length<=16777216 then compR (frzs js e) (compD cc d (pjS js (frzs js e)) ws)else .no:=by
 unfold compK compR;split
 ·cases compD cc d (pjS js (frzs js e)) ws<;>rfl
 ·rfl
noncomputable def compW(js:List Nat)(cc:Den Bool)(d:Den W)(e:List S):Option (List W)->R (List W)
 |some ws=>compK js cc d ws e
 |none=>.no
theorem y52{di:Den W}:dComp js di cc d e=(di e).bind fun w e1=>compW js cc d e1 (seqW w):=by
 unfold dComp;congr 1
theorem y2b{g:List W->Option (List W)}{di:Den (List W)}:dCompR g js di cc d e=(di e).bind fun w e1=>compW js cc d e1 (g w):=by
 unfold dCompR;congr 1
theorem x7h:compW js cc d e (some ws)=compK js cc d ws e:=rfl
theorem x7i{out:List W}:compR e (some out)=.ok out e:=rfl
theorem z0j:dYes e=.ok true e:=rfl
theorem x1n(h:e[j]?=some (.fr w)):frz1 e j=e:=by unfold frz1;rw[h]
theorem y2c:frzs [] e=e:=rfl
theorem x9p:frzs (j::js) e=frzs js (frz1 e j):=rfl
theorem y53:pjS [] e=[]:=rfl
theorem y2d:pjS (j::js) e=pj1 e j::pjS js e:=rfl
theorem x4g(h:e[j]?=some (.fr w)):pj1 e j=.fr w:=by unfold pj1;rw[h]
theorem q5n{d:Den W}{pe:List S}{g:W->W}:∀(ws:List W),(∀w∈ws,∃e',d (.fr w::pe)=.ok (g w) e')->compD dYes d pe ws=some (ws.map g)
 |[],_=>rfl
 |w::ws,h=>by
  obtain⟨e',he⟩:=h w (by simp);show(match d (.fr w::pe)with|.ok y _=>(compD dYes d pe ws).map (y::·)|_=>none)=_;rw[he,q5n ws fun u hu=>h u (by simp[hu])]
  rfl
end
section
variable{i j:Int}{b c:Bool}{us:List W}
theorem z0k:addW (.int i) (.int j)=some (.int (i+j)):=rfl
theorem z0l:addW (.str x) (.str y)=if x.length+y.length<=16777216 then some (.str (x++y))else none:=rfl
theorem z0m:addW (.lst ws) (.lst us)=if ws.length+us.length<=16777216 then some (.lst (ws++us))else none:=rfl
theorem z0n:subW (.int i) (.int j)=some (.int (i-j)):=rfl
theorem z0o:mulW (.int i) (.int j)=if(-18446744073709551616<i/\i<18446744073709551616)\/(-18446744073709551616<j/\j<18446744073709551616)then some (.int (i*j))else none:=rfl
theorem y54:fdivW (.int i) (.int j)=if 0<j/\j<1073741824 then some (.int (i / j))else none:=rfl
theorem z0p:modW (.int i) (.int j)=if 0<j then some (.int (i%j))else none:=rfl
theorem z3c:ltW (.int i) (.int j)=some (.bl (decide (i<j))):=rfl
theorem z3d:gtW (.int i) (.int j)=some (.bl (decide (j<i))):=rfl
theorem z3e:geW (.int i) (.int j)=some (.bl (decide (j<=i))):=rfl
theorem z3f:negW (.int i)=some (.int (-i)):=rfl
theorem z3g:eq2 (.int i) (.int j)=some (.bl (decide (i=j))):=by
 show some (W.bl (i==j))=_;congr 2
theorem z3h:eq2 (.str x) (.str y)=some (.bl (decide (x=y))):=by
 show some (W.bl (x==y))=_;congr 2
theorem z3i:eq2 (.bl b) (.bl c)=some (.bl (decide (b=c))):=by
 show some (W.bl (b==c))=_;congr 2
theorem z3j:ne2 (.int i) (.int j)=some (.bl (!decide (i=j))):=by
 show some (W.bl (!(i==j)))=_;congr 2
theorem z3k:ne2 (.str x) (.str y)=some (.bl (!decide (x=y))):=by
 show some (W.bl (!(x==y)))=_;congr 2
theorem z3l:ne2 (.bl b) (.bl c)=some (.bl (!decide (b=c))):=by
 show some (W.bl (!(b==c)))=_;congr 2
theorem z3m:isW (.bl b) (.bl c)=some (.bl (decide (b=c))):=by
 show some (W.bl (b==c))=_;congr 2
theorem z3n:isW .non .non=some (.bl true):=rfl
theorem z3o:isW (.bl b) .non=some (.bl false):=rfl
theorem z3p:isW (.int i) .non=some (.bl false):=rfl
theorem z3q:isW (.str x) .non=some (.bl false):=rfl
theorem z3r:isW (.tup ws) .non=some (.bl false):=rfl
theorem z3s:isW (.lst ws) .non=some (.bl false):=rfl
theorem z0q:nisW (.bl b) (.bl c)=some (.bl (!decide (b=c))):=by
 show some (W.bl (!(b==c)))=_;congr 2
theorem z0r:nisW .non .non=some (.bl false):=rfl
theorem z0s:nisW (.bl b) .non=some (.bl true):=rfl
theorem z0t:nisW (.int i) .non=some (.bl true):=rfl
theorem z0u:nisW (.str x) .non=some (.bl true):=rfl
theorem z0v:nisW (.tup ws) .non=some (.bl true):=rfl
theorem z0w:nisW (.lst ws) .non=some (.bl true):=rfl
theorem ix_t:ixW (.tup ws) (.int i)=atI ws i:=rfl
theorem ix_l:ixW (.lst ws) (.int i)=atI ws i:=rfl
theorem z3t:len1 [.tup ws]=some (.int ws.length):=rfl
theorem z3u:len1 [.lst ws]=some (.int ws.length):=rfl
theorem y33:len1 [.str x]=if x.length<=16777216 then some (.int x.length)else none:=rfl
theorem z3v:tup1 [.lst ws]=some (.tup ws):=rfl
theorem z3w:tup1 [.tup ws]=some (.tup ws):=rfl
theorem z3x:lst1 [.lst ws]=some ws:=rfl
theorem z3y:lst1 [.tup ws]=some ws:=rfl
theorem z3z:truW (.bl b)=some b:=rfl
theorem z30:truW (.int i)=some (i != 0):=rfl
theorem z31:truW .non=some false:=rfl
theorem z32:truW (.tup ws)=some (!ws.isEmpty):=rfl
theorem z33:truW (.lst ws)=some (!ws.isEmpty):=rfl
theorem z34:seqW (.tup ws)=some ws:=rfl
theorem z35:seqW (.lst ws)=some ws:=rfl
theorem sc_i:scalW (.int i)=true:=rfl
theorem sc_b:scalW (.bl b)=true:=rfl
theorem sc_s:scalW (.str x)=true:=rfl
theorem sc_n:scalW .non=true:=rfl
theorem sl_l{lo hi:Option Int}:slW (.lst ws) lo hi=some (.lst (cutW ws lo hi)):=rfl
theorem at0{xs:List α}:atI xs 0=xs[0]?:=by
 cases xs with
 |nil=>rfl
 |cons a l=>exact q56 (j:=0) rfl
theorem at1{xs:List α}:atI xs 1=xs[1]?:=by
 cases xs with
 |nil=>rfl
 |cons a l=>
  cases l with
  |nil=>rfl
  |cons b l=>exact q56 (j:=1) rfl
theorem at2{xs:List α}:atI xs 2=xs[2]?:=by
 cases xs with
 |nil=>rfl
 |cons a l=>
  cases l with
  |nil=>rfl
  |cons b l=>
   cases l with
   |nil=>rfl
   |cons c l=>exact q56 (j:=2) rfl
theorem x0y{xs:List α}{k:Int}(h0:0<=k):atI xs k=xs[k.toNat]?:=by
 unfold atI ixN;rw[if_pos h0]
 by_cases h:k<xs.length
 ·rw[if_pos h];rfl
 ·rw[if_neg h];exact(w1o (by omega)).symm
theorem q8r{a b:String}(h:Str.ofString a=Str.ofString b):a=b:=by
 rw[Str.ofString_eq_toList,Str.ofString_eq_toList]at h;have h1:(a.toList.map Char.toNat).toArray=(b.toList.map Char.toNat).toArray:=congrArg Str.cps h;have h2:a.toList.map Char.toNat=b.toList.map Char.toNat:=by simpa using congrArg Array.toList h1
 have h3:a.toList=b.toList:=by
  have inj:∀c d:Char,c.toNat=d.toNat->c=d:=fun c d e=>by
   apply Char.ext;exact UInt32.toNat_inj.mp e
  exact(List.map_inj_right inj).mp h2
 exact String.toList_inj.mp h3
theorem z0x{a b:String}:(Str.ofString a=Str.ofString b)=(a=b):=propext ⟨q8r,fun h=>by rw[h]⟩
end
noncomputable def tuprevW:W->Option W
 |.lst ws=>some (.tup ws.reverse)
 |_=>none
noncomputable def boolsW:List W->Option (List Bool)
 |[]=>some []
 |.bl b::ws=>(boolsW ws).map (b::·)
 |_=>none
noncomputable def all1:List W->Option W
 |[.lst ws]=>(boolsW ws).map fun bs=>.bl (bs.all id)
 |_=>none
noncomputable def max2:List W->Option W
 |[.int i,.int j]=>some (.int (if j>i then j else i))
 |_=>none
noncomputable def min2:List W->Option W
 |[.int i,.int j]=>some (.int (if j<i then j else i))
 |_=>none
noncomputable def int1:List W->Option W
 |[.int i]=>some (.int i)
 |[.bl b]=>some (.int (if b then 1 else 0))
 |_=>none
noncomputable def eqS(y x:W):Bool:=(eqW y x).getD false
noncomputable def inW:W->W->Option W
 |x,.tup ws=>if scalW x=true/\ws.all scalW=true then some (.bl (ws.any fun y=>eqS y x))else none
 |x,.lst ws=>if scalW x=true/\ws.all scalW=true then some (.bl (ws.any fun y=>eqS y x))else none
 |_,_=>none
theorem q8s(h:scalW w=true)(p:Rep K G w v):flatV v=true:=by
 cases w with
 |non=>cases p;rfl
 |bl b=>cases p;rfl
 |int b=>cases p;rfl
 |str b=>cases p;rfl
 |_=>cases h
theorem y55{u:W}{x:V}(h:scalW w=true)(h':scalW u=true)(p:Rep K G w v)(q:Rep K G u x):eqV v x=eqS w u:=by
 cases w<;>cases u<;>first|(cases p;cases q;rfl)|exact absurd (show false=true from h') w0t|exact absurd (show false=true from h) w0t
theorem x0b{u:W}{x:V}(hu:scalW u=true)(q:Rep K G u x):∀{ws:List W}{xs:List V},ws.all scalW=true->Reps K G ws xs->xs.all flatV=true/\inV x xs=ws.any fun y=>eqS y u
 |[],xs,_,r=>by cases r;exact⟨rfl,rfl⟩
 |w::ws,xs,h,r=>by
  obtain⟨y,r',rfl,p,r⟩:=r;rw[w2u,w0g]at h;obtain⟨i1,i2⟩:=x0b hu q h.2 r;refine⟨by rw[w2u,q8s h.1 p,i1];rfl,?_⟩;show(eqV y x||inV x r')=(eqS w u||ws.any _);rw[y55 h.1 hu p q,i2]
theorem y34:Op2 K (rIn K false) inW:=by
 intro G H x y wx wy w Q s px py hf h;cases wy with
 |tup ws=>
  simp only[inW]at hf;split at hf
  ·rename_i hc;cases hf;obtain⟨a,xs,rfl,ha,ra⟩:=py;obtain⟨i1,i2⟩:=x0b hc.1 px hc.2 ra;refine⟨a,xs,rfl,.inr (s.tup ha),q8s hc.1 px,i1,?_⟩;rw[i2];exact h G _ H (.refl s) rfl
  ·cases hf
 |lst ws=>
  simp only[inW]at hf;split at hf
  ·rename_i hc;cases hf;obtain⟨a,xs,rfl,ha,ra⟩:=py;obtain⟨i1,i2⟩:=x0b hc.1 px hc.2 ra;refine⟨a,xs,rfl,.inl (s.seq ha),q8s hc.1 px,i1,?_⟩;rw[i2];exact h G _ H (.refl s) rfl
  ·cases hf
 |_=>simp[inW]at hf
theorem q7s:∀{ws:List W}{bs:List Bool},boolsW ws=some bs->ws=bs.map .bl
 |[],bs,h=>by cases h;rfl
 |.bl b::ws,bs,h=>by
  obtain⟨cs,h1,rfl⟩:=w0d.mp (show(boolsW ws).map (b::·)=some bs from h);rw[q7s h1];rfl
 |.non::ws,bs,h=>by cases h
 |.int _::ws,bs,h=>by cases h
 |.str _::ws,bs,h=>by cases h
 |.tup _::ws,bs,h=>by cases h
 |.lst _::ws,bs,h=>by cases h
 |.exc _::ws,bs,h=>by cases h
theorem q8t:∀(bs:List Bool),boolsW (bs.map .bl)=some bs
 |[]=>rfl
 |b::bs=>by
  show(boolsW (bs.map W.bl)).map (b::·)=_;rw[q8t bs];rfl
theorem q7t:∀{bs:List Bool}{xs:List V},Reps K G (bs.map W.bl) xs->xs=bs.map V.bl
 |[],xs,h=>h
 |b::bs,xs,h=>by
  obtain⟨x,r,rfl,h1,h2⟩:=h;rw[q7t h2,show x=V.bl b from h1];rfl
theorem z0y:OpN K (fun xs H Q=>∃p ys,xs=[.ref p]/\SqL K H p ys/\(∀y∈ys,∃b,y=.bl b)/\Q (.bl (ys.all fun y=>decide (y=.bl true))) H) all1:=by
 intro G H xs ws w Q s pr hf h;unfold all1 at hf;split at hf
 ·obtain⟨bs,hb,rfl⟩:=w0d.mp hf;have:=q7s hb;subst this;obtain⟨x,r,rfl,px,pr⟩:=pr;cases(show r=[]from pr);obtain⟨a,ys,rfl,ha,ra⟩:=px;have:=q7t ra;subst this;refine⟨a,_,rfl,s.seq ha,fun y hy=>?_,h G _ H (.refl s) ?_⟩
  ·obtain⟨b,_,rfl⟩:=w1i.mp hy;exact⟨b,rfl⟩
  ·show V.bl _=V.bl _;congr 1;rw[List.all_map];congr 1;funext b
   cases b<;>rfl
 ·cases hf
theorem z0z:OpN K (fun xs H Q=>∃i j,xs=[.int i,.int j]/\Q (.int (if j>i then j else i)) H) max2:=by
 intro G H xs ws w Q s pr hf h;unfold max2 at hf;split at hf
 ·cases hf;obtain⟨x,r,rfl,px,y,r2,rfl,py,pr⟩:=pr;cases(show r2=[]from pr);cases px;cases py;exact⟨_,_,rfl,h G _ H (.refl s) rfl⟩
 ·cases hf
theorem z00:OpN K (fun xs H Q=>∃i j,xs=[.int i,.int j]/\Q (.int (if j<i then j else i)) H) min2:=by
 intro G H xs ws w Q s pr hf h;unfold min2 at hf;split at hf
 ·cases hf;obtain⟨x,r,rfl,px,y,r2,rfl,py,pr⟩:=pr;cases(show r2=[]from pr);cases px;cases py;exact⟨_,_,rfl,h G _ H (.refl s) rfl⟩
 ·cases hf
theorem z01:OpN K (fun xs H Q=>(∃i,xs=[.int i]/\Q (.int i) H)\/∃k,xs=[.bl k]/\Q (.int (if k then 1 else 0)) H) int1:=by
 intro G H xs ws w Q s pr hf h;unfold int1 at hf;split at hf
 ·cases hf;obtain⟨x,r,rfl,px,pr⟩:=pr;cases(show r=[]from pr);cases px;exact .inl ⟨_,rfl,h G _ H (.refl s) rfl⟩
 ·cases hf;obtain⟨x,r,rfl,px,pr⟩:=pr;cases(show r=[]from pr);cases px;exact .inr ⟨_,rfl,h G _ H (.refl s) rfl⟩
 ·cases hf
section
variable{a b c e:Expr}{p pos1 pos2:Pos}
theorem x3o(hu:X.A.units+150<cLine)(ha:DE Z X EE a da)(hb:DE Z X EE b db)(hm:behindInMarks .In b=false:=by with_unfolding_all rfl):DE Z X EE (.Compare a [.In] [b] pos) (dOp inW da db):=q6g x2c y34 ha hb hm
theorem y35(hu:X.A.units+150<cLine)(ha:DE Z X EE a da)(hb:DE Z X EE b db)(hm:behindInMarks .In b=false:=by with_unfolding_all rfl):DT Z X EE (.Compare a [.In] [b] pos) (dTest (dOp inW da db)):=q6h x2c y34 ha hb hm
theorem z02(hc:X.calm=true)(hm:X.mg "all"=none)(ha:DA Z X EE [e] dA)(hg:Gl X "all":=by rfl)(he:starEach [e] X.env=(false,eval e X.env)::starEach [] X.env:=by rfl)(hpl:(backTo pos (starEach [] X.env)).any (·.1)=false:=by rfl):DE Z X EE (.Call (.Name "all" p) [e] [] pos) (dFn all1 dA):=
 q8o (y1o hc) z0y PyProof.Rows.Boot.«all» hm ha hg (by decide) (by decide) he hpl
theorem x6g(hc:X.calm=true)(hm:X.mg "max"=none)(ha:DA Z X EE [a,b] dA)(hg:Gl X "max":=by rfl)(he:starEach [a,b] X.env=(false,eval a X.env)::starEach [b] X.env:=by rfl)(hpl:(backTo pos (starEach [b] X.env)).any (·.1)=false:=by rfl):DE Z X EE (.Call (.Name "max" p) [a,b] [] pos) (dFn max2 dA):=
 q8o (x8o hc) z0z PyProof.Rows.Boot.«max» hm ha hg (by decide) (by decide) he hpl
theorem y56(hc:X.calm=true)(hm:X.mg "min"=none)(ha:DA Z X EE [a,b] dA)(hg:Gl X "min":=by rfl)(he:starEach [a,b] X.env=(false,eval a X.env)::starEach [b] X.env:=by rfl)(hpl:(backTo pos (starEach [b] X.env)).any (·.1)=false:=by rfl):DE Z X EE (.Call (.Name "min" p) [a,b] [] pos) (dFn min2 dA):=
 q8o (x8p hc) z00 PyProof.Rows.Boot.«min» hm ha hg (by decide) (by decide) he hpl
theorem x6h(hm:X.mg "int"=none)(ha:DA Z X EE [e] dA)(hg:Gl X "int":=by rfl)(he:starEach [e] X.env=(false,eval e X.env)::starEach [] X.env:=by rfl)(hpl:(backTo pos (starEach [] X.env)).any (·.1)=false:=by rfl):DE Z X EE (.Call (.Name "int" p) [e] [] pos) (dFn int1 dA):=
 x84 x8q z01 PyProof.Rows.Boot.«int» hm ha hg (by decide) (by decide) he hpl
end
theorem y2e:tuprevW (.lst ws)=some (.tup ws.reverse):=rfl
theorem z36{bs:List Bool}:all1 [.lst (bs.map .bl)]=some (.bl (bs.all id)):=by
 show(boolsW (bs.map W.bl)).map _=_;rw[q8t];rfl
theorem z03{i j:Int}:max2 [.int i,.int j]=some (.int (if j>i then j else i)):=rfl
theorem z04{i j:Int}:min2 [.int i,.int j]=some (.int (if j<i then j else i)):=rfl
theorem z37{i:Int}:int1 [.int i]=some (.int i):=rfl
theorem z38{b:Bool}:int1 [.bl b]=some (.int (if b then 1 else 0)):=rfl
theorem cast0:((0:Nat):Int)=0:=rfl
theorem cast1:((1:Nat):Int)=1:=rfl
theorem z05:fNil e=.ok Str.empty e:=rfl
theorem z06{d:Den Str}:fTxt x d e=(d e).bind fun y e1=>.ok (x++y) e1:=rfl
noncomputable def fmtK(r:Den Str)(e:List S):Option Str->R Str
 |some x=>(r e).bind fun y e2=>.ok (x++y) e2
 |none=>.no
theorem z07{r:Den Str}:fVal d r e=(d e).bind fun w e1=>fmtK r e1 (fmtW w):=by
 unfold fVal;congr 1
theorem x9q{r:Den Str}:fmtK r e (some x)=(r e).bind fun y e2=>.ok (x++y) e2:=rfl
theorem y57{d:Den Str}:dFstr d e=(d e).bind fun x e1=>.ok (.str x) e1:=rfl
theorem x9r{b:List S->SR}(I:Nat->List S->Prop):∀(ws:List W)(k:Nat)(e:List S),I k e->(∀(j:Nat)(w:W)(e:List S),ws[j]?=some w->I (k+j) e->∃e',b (e.set i (.fr w))=.nx e'/\I (k+j+1) e')->∃e',forD i b ws e=.nx e'/\I (k+ws.length) e'
 |[],k,e,h0,_=>⟨e,rfl,h0⟩
 |w::ws,k,e,h0,h=>by
  obtain⟨e1,h1,h2⟩:=h 0 w e rfl h0
  obtain⟨e2,h3,h4⟩:=x9r I ws (k+1) e1 h2 fun j u e hu hI=>by
   have z:=h (j+1) u e (by simpa using hu) (by rw[show k+(j+1)=k+1+j by omega];exact hI);rw[show k+(j+1)+1=k+1+j+1 by omega]at z;exact z
  refine⟨e2,?_,?_⟩
  ·rw[q6m,h1,q6a,h3]
  ·rw[w0j,show k+(ws.length+1)=k+1+ws.length by omega];exact h4
theorem mem_range(h:w∈rangeW lo hi):∃k:Nat,w=.int (lo+k)/\(k:Int)<hi-lo:=by
 unfold rangeW at h;obtain⟨k,h1,rfl⟩:=w1i.mp h;rw[w1d]at h1;exact⟨k,rfl,by omega⟩
theorem len_range:(rangeW lo hi).length=(hi-lo).toNat:=by simp[rangeW]
theorem x9s(h:(rangeW lo hi)[j]?=some w):w=.int (lo+j)/\j<(hi-lo).toNat:=by
 unfold rangeW at h;rw[w0v]at h;obtain⟨k,h1,rfl⟩:=w0d.mp h;obtain⟨h2,h3⟩:=w0a.mp h1;simp at h2 h3;subst h3;exact⟨rfl,by omega⟩
theorem x7j{i:Nat}{b:List S->SR}(n:Nat)(hn:(hi-lo).toNat=n)(I:Nat->List S->Prop)(e:List S)(h0:I 0 e)(h:∀(j:Nat)(e:List S),j<n->I j e->∃e',b (e.set i (.fr (.int (lo+j))))=.nx e'/\I (j+1) e'):∃e',forD i b (rangeW lo hi) e=.nx e'/\I n e':=by
 obtain⟨e',h1,h2⟩:=x9r (b:=b) (i:=i) I (rangeW lo hi) 0 e h0 fun j w e hw hI=>by
  obtain⟨rfl,hj⟩:=x9s hw;rw[w3i]at hI |-
  exact h j e (by omega) hI
 rw[len_range,hn,w3i]at h2;exact⟨e',h1,h2⟩
mutual
noncomputable def conIn(K:PySem.W.Frag):W->Value->Bool
 |.non,u=>match u with|.none=>true|_=>false
 |.bl b,u=>match u with|.bool c=>b==c|_=>false
 |.int i,u=>match u with|.int j _=>decide (i=j)|_=>false
 |.str x,u=>match u with|.str y _=>decide (x=y)|_=>false
 |.tup ws,u=>match u with
  |.ref a=>match K.lookup a with
   |some o=>(o.cls==.type "tuple"&&o.dict.isNone)&&(match o.data with|.seq its _=>Nat.ble its.size 1000000&&consIn K ws its.toList|_=>false)
   |none=>false
  |_=>false
 |.lst _,_=>false
 |.exc _,_=>false
 |.dic _,_=>false
 |.dw _ _ _ _,_=>false
 |.fn _ _ _,_=>false
noncomputable def consIn(K:PySem.W.Frag):List W->List Value->Bool
 |[],us=>us.isEmpty
 |w::ws,us=>match us with
  |u::us=>conIn K w u&&consIn K ws us
  |[]=>false
end
mutual
theorem x6i{K:PySem.W.Frag}:∀(w:W){u:Value},conIn K w u=true->∃v,RelV v u/\∀G,Rep K G w v
 |.non,u,h=>by
  unfold conIn at h;split at h
  ·exact⟨.non,rfl,fun _=>rfl⟩
  ·cases h
 |.bl b,u,h=>by
  unfold conIn at h;split at h
  ·rename_i c;have:b=c:=by simpa using h
   exact⟨.bl b,by rw[this];rfl,fun _=>rfl⟩
  ·cases h
 |.int i,u,h=>by
  unfold conIn at h;split at h
  ·rename_i j t;have:i=j:=by simpa using h
   exact⟨.int i,⟨t,by rw[this]⟩,fun _=>rfl⟩
  ·cases h
 |.str x,u,h=>by
  unfold conIn at h;split at h
  ·rename_i y t;have:x=y:=by simpa using h
   exact⟨.str x,⟨t,by rw[this]⟩,fun _=>rfl⟩
  ·cases h
 |.tup ws,u,h=>by
  unfold conIn at h;split at h
  ·rename_i a;split at h
   ·rename_i o ho;rw[w0g]at h;obtain⟨h1,h2⟩:=h;split at h2
    ·rename_i its n hd;rw[w0g]at h2;obtain⟨h3,h4⟩:=h2;obtain⟨xs,r,q⟩:=x4h ws h4;exact⟨.ref a,rfl,fun G=>⟨a,xs,rfl,.inr ⟨o,its,n,ho,by simpa using ((w0g _ _).mp h1).1,Option.isNone_iff_eq_none.mp ((w0g _ _).mp h1).2,hd,by rw[sizeLine_eq];have:=w3c h3;omega,r⟩,q G⟩⟩
    ·cases h2
   ·cases h
  ·cases h
 |.lst _,u,h=>by unfold conIn at h;cases h
 |.exc _,u,h=>by unfold conIn at h;cases h
 |.dic _,u,h=>by unfold conIn at h;cases h
 |.dw _ _ _ _,u,h=>by unfold conIn at h;cases h
 |.fn _ _ _,u,h=>by unfold conIn at h;cases h
theorem x4h{K:PySem.W.Frag}:∀(ws:List W){us:List Value},consIn K ws us=true->∃xs,Vals xs us/\∀G,Reps K G ws xs
 |[],us,h=>by
  unfold consIn at h;cases us with
  |nil=>exact⟨[],.nil,fun _=>rfl⟩
  |cons _ _=>cases h
 |w::ws,us,h=>by
  unfold consIn at h;cases us with
  |nil=>cases h
  |cons u us=>
   rw[w0g]at h;obtain⟨v,r,q⟩:=x6i w h.1;obtain⟨xs,r',q'⟩:=x4h ws h.2;exact⟨v::xs,.cons r r',fun G=>⟨v,xs,rfl,q G,q' G⟩⟩
end
theorem q5d(hm:X.mg x=some u)(hc:conIn X.K w u=true)(hg:Gl X x:=by rfl)(hd:(x==("__debug__":Str))=false:=by decide):DE Z X EE (.Name x pos) (dC w):=by
 obtain⟨v,r,q⟩:=x6i w hc;exact PE.mono (x1h hg hm r hd) fun σ H Q ⟨G,e,rel,h⟩=>h G v H rel (.refl _) (q G)
noncomputable def dPut(i:Nat)(dv dk:Den W):List S->SR:=fun e=>(dv e).stm fun w e1=>match e1[i]? with
 |some (.own _ _)=>(dk e1).stm fun k e2=>match k,e2[i]? with
  |.int k,some (.own b ws)=>match ixN ws.length k with
   |some j=>.nx (e2.set i (.own b (ws.set j w)))
   |none=>.no
  |_,_=>.no
 |_=>.no
section
variable{e k:Expr}{p tpos:Pos}
theorem z08(i:Nat)(he:DE Z X EE e d)(hk:DE Z X EE k dk)(hN:X.N[i]?=some x:=by rfl)(hv:Vis X.env.scope x:=by walk_at "1")(hd:(x==("__debug__":Str))=false:=by decide)(hcd:(x==("__classdict__":Str))=false:=by decide)
  (ha:∀v,assign (.Subscript (.Name x p) k tpos) X.env v=(do
   let ov <- holding [v] (eval (.Name x p) X.env)
   let iv <- holding [v,ov] (eval k X.env)
   standAt tpos
   holding [v,ov,iv] (setItem ov iv v)
   release [v,ov,iv] []):=by intro _;rfl)
  (hs:swapsWithSole [.Subscript (.Name x p) k tpos] e pos.line X.env=pure false:=by rfl)(hw:swappedStores [.Subscript (.Name x p) k tpos] e X.env=pure none:=by rfl)
  (h1:(assignEach [.Subscript (.Name x p) k tpos] X.env).map (·.2)=[assign (.Subscript (.Name x p) k tpos) X.env]:=by rfl):
  DS Z X EE (.Assign [.Subscript (.Name x p) k tpos] e pos) (dPut i d dk):=by
 refine PS.mono (y8n he (y8m (pv i hN hv hd hcd) hk y1k ha) hs hw h1) ?_;rintro D σ H ⟨G,e,rel,h⟩;refine⟨G,e,rel,(q1b h).imp (fun w e1 h G1 v1 H1 r1 s1 p1=>?_) fun _ _ h=>h⟩
 split at h
 ·rename_i b0 ws0 he0;obtain⟨a,xs,q1,q2,q3,q4,q5⟩:=r1.own he0;refine⟨.ref a,q1,G1,e1,r1,(q1b (σ:=σ) h).imp (fun kw e2 h G2 v2 H2 r2 s2 p2=>?_) fun _ _ h G' H' r s=>h G' H' r (s1.trans s)⟩
  ·split at h
   ·rename_i kk b ws he2;obtain⟨a',zs,g1,g2,g3,g4,g5⟩:=r2.own he2;rw[q1]at g1;cases g1;cases p2;split at h
    ·rename_i j hj;refine⟨a,zs,_,j,rfl,rfl,g2,by rw[g5.length];exact hj,?_⟩;exact h G2 σ _ (r2.mut he2 q1 (g5.set j (Rep.mono s2 w p1))) (s1.trans s2)
    ·exact h.elim
   ·exact h.elim
 ·exact h.elim
end
noncomputable def ltS:W->W->Option W
 |.str i,.str j=>some (.bl (decide (i.cps.toList<j.cps.toList)))
 |_,_=>none
noncomputable def leS:W->W->Option W
 |.str i,.str j=>some (.bl (!decide (j.cps.toList<i.cps.toList)))
 |_,_=>none
section
variable{a b:Expr}
def rSS(f:Str->Str->Bool):R2:=fun x y H Q=>∃i j,x=.str i/\y=.str j/\Q (.bl (f i j)) H
theorem z09:OpR X (compareOp .LtE) (rSS fun i j=>!decide (j.cps.toList<i.cps.toList)):=by
 intro pins s σ H x y v u Q I rx ry h;obtain⟨i,j,rfl,rfl,q⟩:=h;obtain⟨t,rfl⟩:=rx;obtain⟨t',rfl⟩:=ry;exact PySem.P.le_str (x3y I q rfl)
theorem z1a:Op2 K (rSS fun i j=>!decide (j.cps.toList<i.cps.toList)) leS:=by
 intro G H x y wx wy w Q s px py hf h;unfold leS at hf;split at hf
 ·cases hf;cases px;cases py;exact⟨_,_,rfl,rfl,h G _ H (.refl s) rfl⟩
 ·cases hf
theorem x9t(ha:DE Z X EE a da)(hb:DE Z X EE b db):DE Z X EE (.Compare a [.LtE] [b] pos) (dOp leS da db):=q6g z09 z1a ha hb (nomark _)
end
def OpM(K:PySem.W.Frag)(r:V->List V->Hp->VK->Prop)(f:W->List W->Option W):Prop:=∀(G H:Hp)(x:V)(xs:List V)(wx:W)(ws:List W)(w:W)(Q:VK),Same G H->Rep K G wx x->Reps K G ws xs->f wx ws=some w->(∀G' v H',Grow G H G' H'->Rep K G' w v->Q v H')->r x xs H Q
noncomputable def kindW(T:String):W->Bool
 |.str _=>T=="str"
 |.lst _=>T=="list"
 |_=>false
noncomputable def dMeth(T:String)(f:W->List W->Option W)(d:Den W)(dA:Den (List W)):Den W:=fun e=>(d e).bind fun x e1=>if kindW T x=true then(dA e1).bind fun ws e2=>ofOpt (f x ws) e2 else .no
section
variable{o e:Expr}{p:Pos}
theorem y58{id:String}{name:Str}{r:V->List V->Hp->VK->Prop}{f:W->List W->Option W}(pa:PlainAttrs T)(slot:Slot T name id)(hty:typeOf (.builtin id)=pure (.type "method_descriptor"))(hm:MtR X id r)(hf:OpM X.K r f)(ho:DE Z X EE o d)(ha:DA Z X EE (e::es) dA)
  (hbase:attributeBase o name X.env (eval o X.env)=eval o X.env:=by rfl)
  (hfew:((backTo cpos (starEach (e::es) X.env)).all (fun x=>!x.1)&&(backToKw cpos (keywordEach [] X.env)).all (fun x=>x.1.isSome)&&decide ((e::es).length+([]:List Keyword).length+(if([]:List Keyword).isEmpty then 0 else 1)<30))=true:=by rfl)
  (hline:(apos.endLine==cpos.line)=true:=by rfl)(hs:starEach (e::es) X.env=(false,eval e X.env)::starEach es X.env:=by rfl)(hplain:(backTo cpos (starEach es X.env)).any (·.1)=false:=by rfl):
  DE Z X EE (.Call (.Attribute o name apos) (e::es) [] cpos) (dMeth T f d dA):=by
 refine PE.mono (y3v pa slot hty hm ho ha hbase hfew hline hs hplain) ?_;rintro σ H Q ⟨G,e,rel,h⟩;simp only[dMeth,R.holds_bind]at h;refine⟨G,e,rel,h.imp (fun wx e1 h G1 v1 H1 r1 s1 p1=>?_) fun _ _ h=>h⟩
 split at h
 ·rename_i hk;refine⟨?_,G1,e1,r1,(R.holds_bind.mp h).imp (fun ws e2 h G2 vs H2 r2 s2 p2=>?_) fun _ _ h=>XH.trans s1 h⟩
  ·cases wx with
   |str z=>cases p1;exact(by simpa [kindW]using hk:T="str")
   |lst ws=>
    obtain⟨a,xs,rfl,q,_⟩:=p1;exact .inl ⟨by simpa [kindW]using hk,xs,r1.sub.seq q⟩
   |_=>cases hk
  ·obtain⟨w,hw,h⟩:=ofOpt_holds.mp h;exact hf G2 H2 v1 vs wx ws w Q r2.sub (Rep.mono s2 wx p1) p2 hw fun G' v H' g p=>h G' v H' (r2.grow g) ((s1.trans s2).trans g.gg) p
 ·exact h.elim
end
noncomputable def strsW:List W->Option (List Str)
 |[]=>some []
 |.str x::r=>(strsW r).map (x::·)
 |_=>none
noncomputable def joinOk(sep:Str)(ys:List Str):Bool:=Nat.ble ((ys.map fun x=>x.length).sum+ys.length*sep.length) 16777216
noncomputable def joinW:W->List W->Option W
 |.str sep,[w]=>match seqW w with
  |some ws=>match strsW ws with
   |some ys=>if joinOk sep ys=true then some (.str (Txt.join sep ys))else none
   |none=>none
  |none=>none
 |_,_=>none
def rJoin(K:PySem.W.Frag):V->List V->Hp->VK->Prop:=fun x vs H Q=>∃sep b zs ys,x=.str sep/\vs=[.ref b]/\(SqL K H b zs\/SqT K H b zs)/\zs=ys.map V.str/\joinOk sep ys=true/\Q (.str (Txt.join sep ys)) H
theorem x0c:∀{ys:List Str}{its:List Value},Vals (ys.map V.str) its->PyProof.Rows.StrsAre its ys
 |[],its,h=>by cases h;exact .nil
 |y::ys,its,h=>by
  cases h with
  |cons r t=>
   obtain⟨k,rfl⟩:=r;exact .cons y k (x0c t)
theorem y59:MtR X "str.join" (rJoin X.K):=by
 intro pins s σ H x vs v us Q I rx rv h;obtain⟨sep,b,zs,ys,rfl,rfl,hB,rfl,hz,q⟩:=h;obtain⟨t,rfl⟩:=rx;obtain⟨u,rfl,ru⟩:=rv.one;cases ru;have hz':=w3c hz;have fin:∀(t':Tok)(k:Nat),EP X pins σ Q (Value.str (Txt.join sep ys) t') {s with toks:=k}:=fun t' k=>⟨.str _,H,I.tok k,⟨t',rfl⟩,q⟩
 rcases hB with hB|hB
 ·obtain⟨its,r,pl,_⟩:=I.list hB;exact PyProof.Rows.join_list pl.isList (by simpa using x0c r) hz' fin
 ·obtain⟨its,r,pl,_⟩:=I.tuple hB;exact PyProof.Rows.join_tuple pl (by simpa using x0c r) hz' fin
theorem x4i:∀{ws:List W}{ys:List Str}{xs:List V},strsW ws=some ys->Reps K G ws xs->xs=ys.map V.str
 |[],ys,xs,h,r=>by cases h;exact r
 |.str x::ws,ys,xs,h,r=>by
  unfold strsW at h;obtain⟨zs,h1,rfl⟩:=w0d.mp h;obtain⟨v,t,rfl,p,q⟩:=r;cases p;rw[x4i h1 q];rfl
 |.non::ws,_,_,h,_=>by cases h
 |.bl _::ws,_,_,h,_=>by cases h
 |.int _::ws,_,_,h,_=>by cases h
 |.tup _::ws,_,_,h,_=>by cases h
 |.lst _::ws,_,_,h,_=>by cases h
 |.exc _::ws,_,_,h,_=>by cases h
theorem y6a:OpM K (rJoin K) joinW:=by
 intro G H x xs wx ws w Q s px pr hf h;unfold joinW at hf;split at hf
 ·rename_i sep w0;obtain⟨y,r,rfl,py,pr⟩:=pr;cases(show r=[]from pr);cases px;split at hf
  ·rename_i us hu;split at hf
   ·rename_i ys hy;split at hf
    ·rename_i ho;cases hf
     have step:∀c cs,y=.ref c->(SqL K G c cs\/SqT K G c cs)->Reps K G us cs->rJoin K (.str sep) [y] H Q:=fun c cs hc hq hr=>by
      subst hc;refine⟨sep,c,cs,ys,rfl,rfl,?_,x4i hy hr,ho,h G _ H (.refl s) rfl⟩;rcases hq with q|q
      ·exact .inl (s.seq q)
      ·exact .inr (s.tup q)
     unfold seqW at hu;split at hu
     ·cases hu;obtain⟨c,cs,hc,q,hr⟩:=py;exact step c cs hc (.inr q) hr
     ·cases hu;obtain⟨c,cs,hc,q,hr⟩:=py;exact step c cs hc (.inl q) hr
     ·cases hu
    ·cases hf
   ·cases hf
  ·cases hf
 ·cases hf
section
variable{o e:Expr}
theorem x6j(ho:DE Z X EE o d)(ha:DA Z X EE [e] dA)
  (hbase:attributeBase o "join" X.env (eval o X.env)=eval o X.env:=by rfl)
  (hfew:((backTo cpos (starEach [e] X.env)).all (fun x=>!x.1)&&(backToKw cpos (keywordEach [] X.env)).all (fun x=>x.1.isSome)&&decide ([e].length+([]:List Keyword).length+(if([]:List Keyword).isEmpty then 0 else 1)<30))=true:=by rfl)
  (hline:(apos.endLine==cpos.line)=true:=by rfl)(hs:starEach [e] X.env=(false,eval e X.env)::starEach [] X.env:=by rfl)(hplain:(backTo cpos (starEach [] X.env)).any (·.1)=false:=by rfl):
  DE Z X EE (.Call (.Attribute o "join" apos) [e] [] cpos) (dMeth "str" joinW d dA):=
 y58 PySem.F.plainAttrs_str PySem.F.slot_str_join PySem.F.type_str_join y59 y6a ho ha hbase hfew hline hs hplain
end
noncomputable def SR.turnT(r:SR)(k:List S->SR):SR:=match r with
 |.nx e'=>k e'
 |.ct e'=>k e'
 |.bk e'=>.nx e'
 |.rt s e'=>.rt s e'
 |.ex c e'=>.ex c e'
 |.no=>.no
noncomputable def idxS(x:Str):List Str->Option Nat
 |[]=>none
 |y::ys=>if y=x then some 0 else(idxS x ys).map (·+1)
structure TabK(P:Program)(w:World)(K:PySem.W.Frag)(d:Addr)(tb:List (Str×Int)):Prop where
 tab:∀h,K.In h->PyProof.Rows.StrTab P w h d (PySem.W.kdpD tb)
 obj:∃o,K.lookup d=some o/\o.cls=.type "dict" /\ o.dict=none
noncomputable def tabW(tb:List (Str×Int)):W->Option W
 |.str s=>if PySem.W.kdpHas tb s=true then some (.int (kdpLook tb s 0))else none
 |_=>none
noncomputable def tabGet(tb:List (Str×Int)):List W->Option W
 |[.str s,.int e]=>some (.int (kdpLook tb s e))
 |_=>none
section
variable{e k:Expr}{p:Pos}{d:Addr}{tb:List (Str×Int)}
def rTab(d:Addr)(tb:List (Str×Int)):R2:=fun x y H Q=>∃s,x=.ref d/\y=.str s/\PySem.W.kdpHas tb s=true/\Q (.int (kdpLook tb s 0)) H
theorem z1b(T:TabK X.prog X.w X.K d tb):IxR X (rTab d tb):=by
 intro value slice pins s σ H x y v u Q I rx ry h hs;obtain⟨z,rfl,rfl,hh,q⟩:=h;cases rx;obtain⟨t,rfl⟩:=ry;obtain⟨o,h1,h2,h3⟩:=T.obj;exact PyProof.Rows.tail_any ⟨o,I.kIn d o h1,h2⟩ F.slot_dict_getitem.lookup (PySem.W.kdp_getItem (T.tab s.heap I.kIn) hh fun t'=>⟨.int _,H,I.tok _,⟨t',rfl⟩,q⟩) hs
theorem y2f(T:TabK X.prog X.w X.K d tb)(hm:X.mg x=some (.ref d))(hk:DE Z X EE k dk)(hg:Gl X x:=by rfl)(hd:(x==("__debug__":Str))=false:=by decide)(hs:PlainIx k:=by intro _ _;rfl):
  DE Z X EE (.Subscript (.Name x p) k pos) (dUn (tabW tb) dk):=by
 refine PE.mono (x67 (z1b T) (x1h (v:=.ref d) hg hm rfl hd) hk hs) ?_;rintro σ H Q ⟨G,e,rel,h⟩;simp only[dUn,R.holds_bind,ofOpt_holds]at h;refine⟨G,e,rel,h.imp (fun w e1 h G1 v1 H1 r1 s1 p1=>?_) fun _ _ h=>h⟩
 obtain⟨w',hw,h⟩:=h;unfold tabW at hw;split at hw
 ·split at hw
  ·rename_i hh;cases hw;cases p1;exact⟨_,rfl,rfl,hh,h G1 _ H1 r1 s1 rfl⟩
  ·cases hw
 ·cases hw
theorem z1c{id:String}{name:Str}{r:V->List V->Hp->VK->Prop}{o:Expr}{ob:Obj}{t:TA}(pa:PlainAttrs T)(slot:Slot T name id)(hty:typeOf (.builtin id)=pure (.type "method_descriptor"))(hm:MtR X id r)(ho:PE X o (tC (.ref d)))
  (hK:X.K.lookup d=some ob)(hc:ob.cls=.type T)(hdn:ob.dict=none)(ha:PA X (e::es) t)
  (hbase:attributeBase o name X.env (eval o X.env)=eval o X.env:=by rfl)
  (hfew:((backTo cpos (starEach (e::es) X.env)).all (fun x=>!x.1)&&(backToKw cpos (keywordEach [] X.env)).all (fun x=>x.1.isSome)&&decide ((e::es).length+([]:List Keyword).length+(if([]:List Keyword).isEmpty then 0 else 1)<30))=true:=by rfl)
  (hline:(apos.endLine==cpos.line)=true:=by rfl)(hs:starEach (e::es) X.env=(false,eval e X.env)::starEach es X.env:=by rfl)(hplain:(backTo cpos (starEach es X.env)).any (·.1)=false:=by rfl):
  PE X (.Call (.Attribute o name apos) (e::es) [] cpos) (fun σ H Q=>t σ H fun xs H2=>r (.ref d) xs H2 Q):=by
 intro pins s σ H Q I h;refine wpAny_Call_method_late hbase hfew hline rfl (thn (ho pins s σ H (fun x H1=>x=.ref d/\t σ H1 fun xs H2=>r (.ref d) xs H2 Q) I ⟨rfl,h⟩) fun v s1 ⟨x,H1,I1,r1,hx,q1⟩=>?_)
 subst hx;cases r1;refine⟨T,id,pa,slot,hty,⟨ob,I1.kIn d ob hK,hc⟩,fun a ea=>?_,?_⟩
 ·cases ea;exact⟨ob,I1.kIn _ ob hK,hdn⟩
 have hA:=ha cpos pins s1 σ H1 _ I1 q1;rw[hs]at hA |-
 refine Calls.callWith_builtin (by show(false||(backTo cpos (starEach es X.env)).any (·.1))=false;rw[hplain]<;>rfl) (Calls.evalArgs_plain ?_);exact thn hA fun us s2 ⟨vs,H2,I2,r2,q2⟩=>hm pins s2 σ H2 (.ref d) vs (.ref d) us Q I2 rfl r2 q2
def rTabGet(d:Addr)(tb:List (Str×Int)):V->List V->Hp->VK->Prop:=fun x vs H Q=>∃s e,x=.ref d/\vs=[.str s,.int e]/\Q (.int (kdpLook tb s e)) H
theorem x9u(T:TabK X.prog X.w X.K d tb):MtR X "dict.get" (rTabGet d tb):=by
 intro pins s σ H x vs v us Q I rx rv h;obtain⟨z,e,rfl,rfl,q⟩:=h;cases rx;cases rv with
 |cons r1 rv=>
  obtain⟨u,rfl,r2⟩:=Vals.one rv;obtain⟨t1,rfl⟩:=r1;obtain⟨t2,rfl⟩:=r2;exact PySem.W.kdp_get2 (T.tab s.heap I.kIn) fun t'=>⟨.int _,H,I.tok _,⟨t',rfl⟩,q⟩
theorem x9v(T:TabK X.prog X.w X.K d tb)(hm:X.mg x=some (.ref d))(ha:DA Z X EE (e::es) dA)(hg:Gl X x:=by rfl)(hd:(x==("__debug__":Str))=false:=by decide)
  (hbase:attributeBase (.Name x p) "get" X.env (eval (.Name x p) X.env)=eval (.Name x p) X.env:=by rfl)
  (hfew:((backTo cpos (starEach (e::es) X.env)).all (fun x=>!x.1)&&(backToKw cpos (keywordEach [] X.env)).all (fun x=>x.1.isSome)&&decide ((e::es).length+([]:List Keyword).length+(if([]:List Keyword).isEmpty then 0 else 1)<30))=true:=by rfl)
  (hline:(apos.endLine==cpos.line)=true:=by rfl)(hs:starEach (e::es) X.env=(false,eval e X.env)::starEach es X.env:=by rfl)(hplain:(backTo cpos (starEach es X.env)).any (·.1)=false:=by rfl):
  DE Z X EE (.Call (.Attribute (.Name x p) "get" apos) (e::es) [] cpos) (dFn (tabGet tb) dA):=by
 obtain⟨ob,h1,h2,h3⟩:=T.obj;refine PE.mono (z1c PySem.F.plainAttrs_dict PySem.F.slot_dict_get PySem.F.type_dict_get (x9u T) (x1h (v:=.ref d) hg hm rfl hd) h1 h2 h3 ha hbase hfew hline hs hplain) ?_;rintro σ H Q ⟨G,e,rel,h⟩;simp only[dFn,R.holds_bind,ofOpt_holds]at h;refine⟨G,e,rel,h.imp (fun ws e1 h G1 vs H1 r1 s1 p1=>?_) fun _ _ h=>h⟩
 obtain⟨w',hw,h⟩:=h;unfold tabGet at hw;split at hw
 ·cases hw;obtain⟨y1,q1,rfl,e1,y2,q2,rfl,e2,rfl⟩:=p1;cases e1;cases e2;exact⟨_,_,rfl,rfl,h G1 _ H1 r1 s1 rfl⟩
 ·cases hw
end
noncomputable def putC(i:Nat)(e:List S)(b:Option Nat)(ws:List W)(w:W):Option Nat->SR
 |some j=>.nx (e.set i (.own b (ws.set j w)))
 |none=>.no
noncomputable def putB(i:Nat)(e:List S)(w:W):W->Option S->SR
 |.int k,some (.own b ws)=>putC i e b ws w (ixN ws.length k)
 |_,_=>.no
noncomputable def putA(i:Nat)(dk:Den W)(w:W)(e:List S):Option S->SR
 |some (.own _ _)=>(dk e).stm fun k e2=>putB i e2 w k e2[i]?
 |_=>.no
theorem z1d{dv:Den W}:dPut i dv dk e=(dv e).stm fun w e1=>putA i dk w e1 e1[i]?:=by
 unfold dPut;congr 1
theorem y2g:putA i dk w e (some (.own b ws))=(dk e).stm fun k e2=>putB i e2 w k e2[i]?:=rfl
theorem y2h{k:Int}:putB i e w (.int k) (some (.own b ws))=putC i e b ws w (ixN ws.length k):=rfl
theorem x9w:putC i e b ws w (some j)=.nx (e.set i (.own b (ws.set j w))):=rfl
theorem y6b{f:W->List W->Option W}:dMeth T f d dA e=(d e).bind fun x e1=>if kindW T x=true then(dA e1).bind fun ws e2=>ofOpt (f x ws) e2 else .no:=rfl
theorem z1e{z:Str}:kindW "str" (.str z)=true:=rfl
theorem z1f:kindW "list" (.lst ws)=true:=rfl
theorem z1g{i j:Str}:ltS (.str i) (.str j)=some (.bl (decide (i.cps.toList<j.cps.toList))):=rfl
theorem le_str{i j:Str}:leS (.str i) (.str j)=some (.bl (!decide (j.cps.toList<i.cps.toList))):=rfl
noncomputable def forP(i j:Nat)(b:List S->SR):List (W×W)->List S->SR
 |[],e=>.nx e
 |p::ps,e=>(b ((e.set i (.fr p.1)).set j (.fr p.2))).turnT (forP i j b ps)
noncomputable def dForP(i j:Nat)(d:Den (List (W×W)))(b:List S->SR):List S->SR:=fun e=>(d e).stm fun ps e1=>forP i j b ps e1
structure Walk2(K:PySem.W.Frag)(G1:Hp)(J:It)(ps:List (W×W)):Prop where
 go:∀(i:Nat)(G H:Hp),Same G1 G->Same G H->i<ps.length->J.go i H
 yld:∀(i:Nat)(G H:Hp)(x:V)(H':Hp),Same G1 G->Same G H->J.yld i H x H'->∀u v,ps[i]?=some (u,v) ->
  Grow G H G H'/\∀(m n:Nat)(σ:St)(Q:St->Hp->Prop),(∀y z,Rep K G u y->Rep K G v z->Q ((σ.set m (some y)).set n (some z)) H')->gTup K 2 (gCons (gName m) (gCons (gName n) gNil)) x σ H' Q
 stop:∀(i:Nat)(G H:Hp),Same G1 G->Same G H->ps.length<=i->J.stop i H
def liftI(K:PySem.W.Frag)(Z:Zt)(EE:St->XK)(d:Den (List (W×W))):TI:=fun σ H R=>AtG K Z σ H fun G e=>(d e).holds (fun ps e1=>∀G1 H1 J,Rel K Z G1 σ H1 e1->Same G G1->Walk2 K G1 J ps->R J H1) (XH K Z EE σ G)
def DI(Z:Zt)(X:Cx)(EE:St->XK)(tg iter:Expr)(d:Den (List (W×W))):Prop:=PI X tg iter (liftI X.K Z EE d)
theorem PI.mono{tg iter:Expr}{wi wi':TI}(h:PI X tg iter wi)(m:∀σ H R,wi' σ H R->wi σ H R):PI X tg iter wi':=fun pins s σ H R I q=>h pins s σ H R I (m σ H R q)
theorem x9x{D:Ends}{Pv:St->Hp->Prop}{G':Hp}{p:W×W}{x y:V}(r:Rel K Z G' σ H e)(s:Same G1 G')(pu:Rep K G' p.1 x)(pv:Rep K G' p.2 y)
  (h:PostS K Z EE D G1 (forP i j s1 (p::ps) e))(hP:∀G'' σ'' H'' e'',Rel K Z G'' σ'' H'' e''->Same G1 G''->PostS K Z EE D G1 (forP i j s1 ps e'')->Pv σ'' H''):
  liftS K Z EE s1 {D with nx:=Pv,ct:=Pv,bk:=D.nx} ((σ.set i (some x)).set j (some y)) H:=by
 refine⟨G',_,(r.set pu).set pv,?_⟩;unfold forP at h;cases q:s1 ((e.set i (.fr p.1)).set j (.fr p.2))with
 |nx e'=>rw[q]at h;exact fun G'' σ'' H'' r'' s''=>hP G'' σ'' H'' e' r'' (s.trans s'') h
 |ct e'=>rw[q]at h;exact fun G'' σ'' H'' r'' s''=>hP G'' σ'' H'' e' r'' (s.trans s'') h
 |bk e'=>rw[q]at h;exact fun G'' σ'' H'' r'' s''=>h G'' σ'' H'' r'' (s.trans s'')
 |rt t e'=>rw[q]at h;exact fun G'' σ'' v H'' r'' s'' p=>h G'' σ'' v H'' r'' (s.trans s'') p
 |ex c e'=>rw[q]at h;exact fun G'' σ'' H'' r'' s''=>h G'' σ'' H'' r'' (s.trans s'')
 |no=>rw[q]at h;exact h
theorem x7k{k:Nat}{p:W×W}(h:ps[k]?=some p):ps.drop k=p::ps.drop (k+1):=by
 obtain⟨h1,h2⟩:=w0a.mp h;rw[w1n h1,h2]
section
variable{elt iter e a:Expr}{body:List Stmt}{ifs:List Expr}{scope sc:Scope}{pt p3:Pos}{Nf N:List Str}{di:Den (List (W×W))}{d0:Den W}
theorem x1o(i j:Nat)(hN:X.N.Nodup)(hp:PassesOwn (model X.prog X.w) X.A X.env X.xe)(hc:X.calm=true)(hl:DI Z X EE (.Tuple [.Name x p1,.Name y p2] kt p3) e di)(hb:DSs Z X EE body s1)
  (hi:X.N[i]?=some x:=by rfl)(hx:Loc X.env.scope x:=by walk_at "3")(hf:X.fn x=true\/X.env.scope.names.lookup x=some .local:=by walk_at "2")
  (hj:X.N[j]?=some y:=by rfl)(hy:Loc X.env.scope y:=by walk_at "3")(hf':X.fn y=true\/X.env.scope.names.lookup y=some .local:=by walk_at "2")
  (hn:(assignEach [.Name x p1,.Name y p2] X.env).length=2:=by rfl)(hst:(assignEach [.Name x p1,.Name y p2] X.env).findIdx? (·.1)=none:=by rfl)
  (g1:(assignEach [.Name x p1,.Name y p2] X.env).map (·.2)=assign (.Name x p1) X.env::(assignEach [.Name y p2] X.env).map (·.2):=by rfl)(g2:(assignEach [.Name y p2] X.env).map (·.2)=assign (.Name y p2) X.env::(assignEach [] X.env).map (·.2):=by rfl)
  (hs:∀x,foldedSetIterable e X.env x=pure x:=by intro _;rfl):
  DS Z X EE (.For (.Tuple [.Name x p1,.Name y p2] kt p3) e body [] pos) (dForP i j di s1):=by
 refine PS.mono (x0q hp hc hl (y8l hc (x3w (q35 i hN hi hx hf) (x3w (q35 j hN hj hy hf') y4i g2) g1) hn hst) hb hs) ?_;rintro D σ H ⟨G,e,rel,h⟩;refine⟨G,e,rel,(q1b h).imp (fun ps e1 h G1 H1 J r1 q1 W0=>?_) fun _ _ h=>h⟩
 have h:=PostS.trans q1 h;refine⟨fun k m σ' H'=>m=ps.length-k/\k<=ps.length/\∃G' e',Rel X.K Z G' σ' H' e'/\Same G1 G'/\PostS X.K Z EE D G1 (forP i j s1 (ps.drop k) e'),⟨ps.length,by omega,w1l _,G1,e1,r1,.refl _,h⟩,?_⟩
 rintro k m σ' H' ⟨rfl,hk,G',e',r',s',h'⟩
 by_cases hlt:k<ps.length
 ·refine .inr ⟨W0.go k G' H' s' r'.sub hlt,fun σ'' H''=>∃G' e',Rel X.K Z G' σ'' H'' e'/\Same G1 G'/\PostS X.K Z EE D G1 (forP i j s1 (ps.drop (k+1)) e'),?_,fun v H2 hy=>?_⟩
  ·rintro σ'' H'' ⟨G'',e'',r'',s'',h''⟩;exact⟨ps.length-(k+1),by omega,rfl,hlt,G'',e'',r'',s'',h''⟩
  ·have hp:ps[k]?=some ((ps[k]).1,(ps[k]).2):=by rw[w0b hlt]
   obtain⟨g3,hgo⟩:=W0.yld k G' H' v H2 s' r'.sub hy _ _ hp;rw[x7k hp]at h';exact hgo i j σ' _ fun y z py pz=>x9x (p:=((ps[k]).1,(ps[k]).2)) (r'.grow g3) s' py pz h' fun G'' σ'' H'' e'' r'' s'' h''=>⟨G'',e'',r'',s'',h''⟩
 ·have:k=ps.length:=by omega
  subst this;rw[w3n]at h';exact .inl ⟨W0.stop _ G' H' s' r'.sub (by omega),h' G' σ' H' r' s'⟩
noncomputable def pairsW:List W->Option (List (W×W))
 |[]=>some []
 |.tup [u,v]::ws=>(pairsW ws).map ((u,v)::·)
 |_=>none
noncomputable def srcP(d:Den W):Den (List (W×W)):=fun e=>(d e).bind fun w e1=>match seqW w with
 |some ws=>ofOpt (pairsW ws) e1
 |none=>.no
theorem x2n:∀{ws:List W}{ps:List (W×W)},pairsW ws=some ps->ws.length=ps.length/\∀(i:Nat) u v,ps[i]?=some (u,v)->ws[i]?=some (.tup [u,v])
 |[],ps,h=>by cases h;exact⟨rfl,fun i u v z=>by simp at z⟩
 |w::ws,ps,h=>by
  unfold pairsW at h;split at h
  ·rename_i z;cases z
  ·rename_i u v ws' z;cases z;obtain⟨q,hq,rfl⟩:=w0d.mp h;obtain⟨h1,h2⟩:=x2n hq;refine⟨by simp[h1],fun i u' v' z=>?_⟩
   cases i with
   |zero=>simp at z;simp[z.1,z.2]
   |succ i=>simp only[w2e]at z |-;exact h2 i _ _ z
  ·cases h
theorem x2o{J:It}{SQ:Hp->Prop}(W0:Walk J xs SQ)(rp:Reps K G1 ws xs)(hp:pairsW ws=some ps)(hSQ:∀G' H',Same G1 G'->Same G' H'->SQ H'):Walk2 K G1 J ps:=by
 obtain⟨hl,hg⟩:=x2n hp;have hx:=rp.length;refine⟨fun i G H a b h=>W0.go i H (hSQ G H a b) (by omega),fun i G H x H' a b hy u v h=>?_,fun i G H a b h=>W0.stop i H (hSQ G H a b) (by omega)⟩
 have hlt:i<ps.length:=(w0a.mp h).1;obtain⟨rfl,hx'⟩:=W0.yld i H x H' (hSQ G H a b) hy (by omega);refine⟨Grow.refl b,fun m n σ Q hQ=>?_⟩
 obtain⟨w,hw,pw⟩:=rp.getV hx';rw[hg i u v h]at hw;cases hw;have pw:=Rep.mono a _ pw;obtain⟨c,ys,rfl,hq,y1,q1,rfl,p1,y2,q2,rfl,p2,rfl⟩:=pw;exact⟨c,[y1,y2],rfl,b.tup hq,rfl,y1,[y2],rfl,y2,[],rfl,rfl,hQ y1 y2 p1 p2⟩
theorem x4j{tg l:Expr}(hl:DE Z X EE l d0):DI Z X EE tg l (srcP d0):=by
 refine PI.mono (x0w hl) ?_;rintro σ H RR ⟨G,e,rel,h⟩;simp only[srcP,R.holds_bind]at h;refine⟨G,e,rel,h.imp (fun w e1 h G1 v1 H1 r1 s1 p1=>?_) fun _ _ h=>h⟩
 split at h
 ·rename_i ws hw;obtain⟨ps,hp,h⟩:=ofOpt_holds.mp h;cases w with
  |tup us=>
   cases hw;obtain⟨a,xs,rfl,hq,rp⟩:=p1;exact⟨a,rfl,.inr ⟨⟨xs,r1.sub.tup hq⟩,h _ _ _ r1 s1 (x2o x9c rp hp fun G' H' s s'=>Same.tup s' (Same.tup s hq))⟩⟩
  |lst us=>
   cases hw;obtain⟨a,xs,rfl,hq,rp⟩:=p1;exact⟨a,rfl,.inl ⟨⟨xs,r1.sub.seq hq⟩,h _ _ _ r1 s1 (x2o x9b rp hp fun G' H' s s'=>Same.seq s' (Same.seq s hq))⟩⟩
  |_=>cases hw
 ·exact h.elim
noncomputable def enumL:Nat->List W->List (W×W)
 |_,[]=>[]
 |k,w::ws=>(.int k,w)::enumL (k+1) ws
theorem x2p:∀(k:Nat)(ws:List W),(enumL k ws).length=ws.length
 |_,[]=>rfl
 |k,w::ws=>by simp[enumL,x2p (k+1) ws]
theorem x2q:∀(k:Nat)(ws:List W)(i:Nat)(u v:W),(enumL k ws)[i]?=some (u,v)->u=.int ((k+i:Nat):Int)/\ws[i]?=some v
 |_,[],i,u,v,h=>by simp[enumL]at h
 |k,w::ws,i,u,v,h=>by
  cases i with
  |zero=>
   have e:(W.int k,w)=(u,v):=Option.some.inj h;cases e;exact⟨rfl,rfl⟩
  |succ i=>
   have h:(enumL (k+1) ws)[i]?=some (u,v):=h;obtain⟨h1,h2⟩:=x2q (k+1) ws i u v h;exact⟨by rw[h1];congr 2;omega,h2⟩
theorem x9y{h':Heap}{t':Nat}{fp:List Addr}{b:Addr}{o:HO}(I:Inv X pins σ H s)(k:∀b o,b∉fp->s.heap.get? b=some o->h'.get? b=some o)(hf:∀b∈fp,FpOk X pins H b)(hp:s.heap.objs.size<=b)(new:ObjOk X.prog X.w (upd H b o) h' b o):Inv X pins σ (upd H b o) {s with heap:=h',toks:=t'}:=by
 have hn:H b=none:=I.hok.fresh hp;have ne:∀c u,H c=some u->c≠b:=fun c u e=>q0r e hn
 have nfp:∀c u,H c=some u->c∉fp:=fun c u e z=>by rw[(hf c z).1]at e;cases e
 have lt:∀c o,s.heap.get? c=some o->c≠b:=fun c o e=>w0p (w0l (Heap.lt_size e) hp)
 refine I.step (g':=s.gens) (d':=s.drawn) (ch:=fp) (fun c hc=>?_) (fun c o _ _ hc e _=>k c o hc e) (fun c o _ _ hc e _=>⟨o.slots,k c o hc e⟩) (fun c o _ e n=>by rw[q0f (lt c o e)];exact n)
  (fun c o hc e=>⟨o,k c o hc e⟩) (fun c xs e=>by rw[q0f (ne c _ e)];exact e) (fun c o u e=>by rw[q0f (ne c _ e)];exact e) (fun c ps e=>⟨#[],by rw[q0f (ne c _ e),e];simp⟩) (fun m hm=>?_) (fun c u e=>?_) I.bare
 ·obtain⟨f0,f1,f2,f3,f4,f5⟩:=hf c hc;exact⟨f3,f1,f4,f5⟩
 ·obtain⟨o,es,ep,ho,r⟩:=hm;exact⟨o,es,ep,k _ o (fun z=>(hf _ z).2.1 rfl) ho,r⟩
 ·by_cases hb:c=b
  ·subst hb;rw[q0o]at e;cases e;exact new
  ·rw[q0f hb]at e;refine(I.hok c u e).stay (fun d v hd q=>k d v ?_ q) (fun d q=>by rw[q0f (ne d _ q)];exact q) fun d xs _ q=>by rw[q0f (ne d _ q)];exact q
   rcases hd with z|z
   ·rw[z];exact nfp c u e
   ·exact nfp d _ z
end
section
variable{di:Den (List (W×W))}{b:List S->SR}{c:Prop} [Decidable c]{s t:SR}{k:List S->SR}{v:Value}{st:S}
theorem y6c:dForP i j di b e=(di e).stm fun ps e1=>forP i j b ps e1:=rfl
theorem q5u{p:W×W}:forP i j b (p::ps) e=(b ((e.set i (.fr p.1)).set j (.fr p.2))).turnT (forP i j b ps):=rfl
theorem q2i:(SR.nx e).turnT k=k e:=rfl
theorem y2i:(SR.ct e).turnT k=k e:=rfl
theorem y2j:(SR.bk e).turnT k=.nx e:=rfl
theorem y2k:(SR.rt st e).turnT k=.rt st e:=rfl
theorem x4k:(SR.ex v e).turnT k=.ex v e:=rfl
theorem y2l:(SR.no).turnT k=.no:=rfl
theorem x9z:(if c then s else t).turnT k=if c then s.turnT k else t.turnT k:=by split<;>rfl
noncomputable def srcPW(e:List S):Option (List W)->R (List (W×W))
 |some ws=>ofOpt (pairsW ws) e
 |none=>.no
theorem z1h:srcP d e=(d e).bind fun w e1=>srcPW e1 (seqW w):=by
 unfold srcP;congr 1
theorem x7l:srcPW e (some ws)=ofOpt (pairsW ws) e:=rfl
end
theorem x90(l:Addr)(items:Array Value)(n:Nat)(x:Int)(u:Tok)(dd:Option Addr)(sl:Array (Option Value))(hc0:¬(!Builtin.List.listFitsIndex x)=true)(hc1:¬items.size*x.toNat>(2^63-1) / 8)(hc2:¬Builtin.List.listTooLong (items.size*x.toNat)=true):
  Meets (Builtin.«list.__mul__» ⟨[.ref l,.int x u],[]⟩) (fun _ R s=>s.heap.get? l=some {cls:=.type "list", dict:=dd,data:=.seq items n,slots:=sl}/\R (.ok (.ret (Value.ref s.heap.objs.size))) {s with heap:=s.heap.push {cls:=Value.type "list", data:=Data.seq (List.foldl (fun x1 x2=>x1++x2) #[] (List.replicate (if items.isEmpty=true then 0 else x.toNat) items))},toks:=s.toks}):=
 .of_wp fun prog w A R s h=>by
  obtain⟨hp,g,d,tk,os⟩:=s;obtain⟨hl,h⟩:=h;have hsz:=PySem.AutoListH.joined_fits hc2
  wp_walk;refine wpAny_ite_false (decide_eq_false (w3z.mpr hsz)) ?_;wp_walk;exact⟨_,rfl,h⟩
theorem x91(a:Int)(t:Tok)(l:Addr)(items:Array Value)(n:Nat)(dd:Option Addr)(sl:Array (Option Value)):
  Meets (Builtin.«int.__rmul__» ⟨[.int a t,.ref l],[]⟩) (fun _ R s=>s.heap.get? l=some {cls:=.type "list", dict:=dd,data:=.seq items n,slots:=sl}/\R (.ok (.ret Value.notImplemented)) s):=
 .of_wp fun prog w A R s h=>by obtain⟨hp,g,d,tk,os⟩:=s;obtain⟨hl,h⟩:=h;wp_walk;exact⟨_,rfl,h⟩
def rRepS(K:PySem.W.Frag):R2:=fun x y H Q=>∃l k xs,x=.ref l/\y=.int k/\SqL K H l xs/\-(2^63)<=k/\k<2^63/\xs.length*k.toNat<=sizeLine /\
 ∀p,H p=none->Q (.ref p) (upd H p (.lst (List.replicate k.toNat xs).flatten))
theorem y6d:OpR X (binaryOp .Mult) (rRepS X.K):=by
 intro pins s σ H x y v u Q I rx ry h;obtain⟨l,k,xs,rfl,rfl,hH,h1,h2,hz,q⟩:=h;cases rx;obtain⟨t,rfl⟩:=ry;obtain⟨its,r,p1,_⟩:=I.list hH;obtain⟨⟨cls,dd,data,sl⟩,ho,hc,n,hd⟩:=id p1.isList;simp only at hc hd;subst hc hd;have hl:=r.length;have hlen:its.toArray.size*k.toNat<=sizeLine:=by rw[w0c,<- hl];exact hz
 have hcap:¬its.toArray.size*k.toNat>(2^63-1) / 8:=by
  have:(sizeLine:Nat)<=(2^63-1) / 8:=by decide
  omega
 have hfit:¬(!Builtin.List.listFitsIndex k)=true:=by
  rw[fitsIndex_both h1 h2];exact w0t
 have hlong:¬Builtin.List.listTooLong (its.toArray.size*k.toNat)=true:=by
  rw[notLongL hlen];exact w0t
 have hnew:List.foldl (fun x1 x2=>x1++x2) #[] (List.replicate (if its.toArray.isEmpty=true then 0 else k.toNat) its.toArray)=(List.replicate k.toNat its).flatten.toArray:=by
  have f0:∀m:Nat,List.foldl (fun x1 x2=>x1++x2) #[] (List.replicate m its.toArray)=(List.replicate m its).flatten.toArray:=fun m=>by
   have:=x2d its m [];rw[w2w]at this;exact this
  rw[f0];cases its with
  |nil=>simp
  |cons a r'=>rw[if_neg (by simp)]
 refine wpAny_binaryOp_repeat_ref (T:="list") (U:="int") (by decide) ⟨_,ho,rfl⟩ (fun s'=>typeIs_int s' k t) noFill_list_mul F.fills_int_mul F.slot_int_rmul repeat_list F.slot_int_index.lookup
  (PySem.call_meets F.slot_int_rmul (typeIs_int s k t) F.entry_int_rmul (F.args_int_rmul_2 _ _) (x91 k t l its.toArray n dd sl)
   ⟨ho,rfl,⟨_,ho,rfl⟩,PySem.call_meets F.slot_list_mul ⟨_,ho,rfl⟩ F.entry_list_mul (F.args_list_mul_2 _ _) (x90 l its.toArray n k t dd sl hfit hcap hlong) ⟨ho,?_⟩⟩)
 rw[hnew];exact⟨.ref _,_,I.lnew (t':=s.toks) (r.rep k.toNat) (by rw[y4p,Nat.mul_comm];exact hz),rfl,q _ I.fresh⟩
noncomputable def repW:W->W->Option W
 |.lst ws,.int k=>if okI k=true/\ws.length*k.toNat<=16777216 then some (.lst (List.replicate k.toNat ws).flatten)else none
 |_,_=>none
theorem x4l(r:Reps K G ws xs):∀k:Nat,Reps K G (List.replicate k ws).flatten (List.replicate k xs).flatten
 |0=>rfl
 |k+1=>by
  rw[w0w,w0w,w1m,w1m];exact r.append (x4l r k)
theorem z1i:Op2 K (rRepS K) repW:=by
 intro G H x y wx wy w Q s px py hf h;unfold repW at hf;split at hf
 ·rename_i ws k;split at hf
  ·rename_i hc;cases hf;cases(show y=V.int k from py);obtain⟨l,xs,rfl,hq,rp⟩:=px;have hb:=q5a hc.1;refine⟨l,k,xs,rfl,rfl,s.seq hq,by omega,by omega,by rw[sizeLine_eq,rp.length];exact hc.2,fun p hp=>?_⟩
   have g:Grow G H (upd G p (.lst (List.replicate k.toNat xs).flatten)) (upd H p (.lst (List.replicate k.toNat xs).flatten)):=Grow.laid s hp _;exact h _ _ _ g ⟨p,_,rfl,SqL.of q0o,Reps.mono g.gg _ (x4l rp _)⟩
  ·cases hf
 ·cases hf
section
variable{a b:Expr}
theorem x92(ha:DE Z X EE a da)(hb:DE Z X EE b db):DE Z X EE (.BinOp a .Mult b pos) (dOp repW da db):=q9f y6d z1i ha hb
end
theorem x93{k:Int}:repW (.lst ws) (.int k)=if okI k=true/\ws.length*k.toNat<=16777216 then some (.lst (List.replicate k.toNat ws).flatten)else none:=rfl
section
variable{prog:Program}{w:World}{E:Value->Shared->Prop}
theorem x4m{j b:Addr}{k:Nat}{vs:Array Value}{x:Value}{Q:Value->Shared->Prop}(gi:s.heap.IsTupleIter j b k)(gt:s.heap.IsTuple b vs)(gx:vs[k]?=some x)
  (hQ:∀h',h'.IsTupleIter j b (k+1)->Heap.SameBut j s.heap h'->Q x {s with heap:=h'}):wpAny (model prog w) A (Builtin.SmallTypes.nextOf (.ref j)) Q E s:=by
 obtain⟨o,ho,hc,hd⟩:=id gi;obtain⟨ot,hot,_,m,hdt⟩:=gt;unfold Builtin.SmallTypes.nextOf;refine wpAny_bind (wpAny_callSpecial?_slot (name:=Str.ofString "__next__") gi.typeIs F.slot_tuple_iterator_next (wpAny_call_entry F.slot_tuple_iterator_next gi.typeIs F.entry_tuple_iterator_next ?_ (F.args_tuple_iterator_next_1 _)));show wpAny _ _ (field (.ref j) 0 >>= _) _ _ s;refine wpAny_bind (wpAny_field ho hd (x:=.ref b) rfl ?_);show wpAny _ _ (if(Value.ref b==Value.none)=true then _ else _) _ _ s;rw[if_neg (show ¬((Value.ref b==Value.none)=true)from w0t)];show wpAny _ _ (field (.ref j) 1 >>= _) _ _ s;refine wpAny_bind (wpAny_field ho hd (x:=.int k 0) rfl ?_);show wpAny _ _ (seqItems? (.ref b) >>= _) _ _ s;refine wpAny_bind (wpAny_seqItems hot hdt ?_);simp only[w1q,gx];refine wpAny_bind (wpAny_setField ho hd (by simp) (wpAny_pure ⟨x,rfl,wpAny_pure (hQ _ ⟨_,Heap.get?_update_self _ ho (Obj.isFreed_of_fields (Obj.data_mapFields hd _)),(Obj.cls_mapFields ..).trans hc,by rw[Obj.data_mapFields hd];simp[rawInt]⟩ (Heap.SameBut.update ..))⟩))
theorem q9u{j b:Addr}{k:Nat}{vs:Array Value}{Q:Value->Shared->Prop}(hh:A.handled=none)(gi:s.heap.IsTupleIter j b k)(gt:s.heap.IsTuple b vs)(gx:vs[k]?=none)
  (hE:∀h' e,Heap.ExtBut j s.heap h'->(∃o,h'.get? e=some o/\o.cls=.type "StopIteration")->E (.ref e) {s with heap:=h'}):wpAny (model prog w) A (Builtin.SmallTypes.nextOf (.ref j)) Q E s:=by
 obtain⟨o,ho,hc,hd⟩:=id gi;obtain⟨ot,hot,_,m,hdt⟩:=gt;unfold Builtin.SmallTypes.nextOf;refine wpAny_bind (wpAny_callSpecial?_slot (name:=Str.ofString "__next__") gi.typeIs F.slot_tuple_iterator_next (wpAny_call_entry F.slot_tuple_iterator_next gi.typeIs F.entry_tuple_iterator_next ?_ (F.args_tuple_iterator_next_1 _)));show wpAny _ _ (field (.ref j) 0 >>= _) _ _ s;refine wpAny_bind (wpAny_field ho hd (x:=.ref b) rfl ?_);show wpAny _ _ (if(Value.ref b==Value.none)=true then _ else _) _ _ s;rw[if_neg (show ¬((Value.ref b==Value.none)=true)from w0t)];show wpAny _ _ (field (.ref j) 1 >>= _) _ _ s;refine wpAny_bind (wpAny_field ho hd (x:=.int k 0) rfl ?_);show wpAny _ _ (seqItems? (.ref b) >>= _) _ _ s;refine wpAny_bind (wpAny_seqItems hot hdt ?_);simp only[w1q,gx];refine wpAny_bind (wpAny_rule (wpAny_bind (wpAny_setField ho hd (by simp) ?_)));show wpAny _ _ (newExc (.type "StopIteration") [] >>= _) _ _ _;refine wpAny_bind ?_;simp only[newExc,newTuple];refine wpAny_bind (wpAny_newObj_type ?_ (by size_fits));refine wpAny_bind (m:=firstArgMember _ _) (wpAny_of_eq (a:=Value.none) (by first|rfl|(simp only[firstArgMember];rfl)) (wpAny_newObj_type ?_ (by size_fits)));simp only[raiseNew];refine wpAny_bind (wpAny_handled ?_)
 first|rw[show A.in1.handled=none from hh]|rw[hh]
 refine wpAny_bind (wpAny_pure (wpAny_throw (hE _ _ (((Heap.SameBut.update ..).extBut.push _).push _) ⟨_,Heap.get?_push_size _ rfl,rfl⟩)))
structure Apart(z I O i j a b:Addr):Prop where
 Iz:I≠z
 Oz:O≠z
 iz:i≠z
 jz:j≠z
 IO:I≠O
 Ii:I≠i
 Ij:I≠j
 Oi:O≠i
 Oj:O≠j
 ij:i≠j
 az:a≠z
 aO:a≠O
 ai:a≠i
 aj:a≠j
 bz:b≠z
 bO:b≠O
 bi:b≠i
 bj:b≠j
end
noncomputable def hide1:S->S
 |.own _ ws=>.fr (.lst ws)
 |.dic kvs=>.fr (.dic kvs)
 |.thr us ws vs=>.fr (.tup (us++.lst ws::vs))
 |.nest wss=>.fr (.lst (wss.map W.lst))
 |.x (.old w)=>.fr w
 |.x (.new w)=>.fr w
 |.x (.acc ws)=>.fr (.lst ws)
 |.x (.thro us ws vs)=>.fr (.tup (us++.lst ws::vs))
 |.x (.tn us wss)=>.fr (.tup (us++[.lst (wss.map W.lst)]))
 |.x (.pt _ _ _)=>.no
 |.dw sh ks ws=>.fr (.dw false sh ks ws)
 |s=>s
theorem NestIn.reps{G':Hp}(sg:Same G G')(hf:∀l o ys,FzAt Z G H l o ys->G' l=some (.frz o (.lst ys))):∀{ls:List Addr}{wss:List (List W)},NestIn K Z G H ls wss->Reps K G' (wss.map W.lst) (ls.map V.ref)
 |[],[],_=>rfl
 |l::ls,ws::wss,⟨⟨o,ys,h1,h4⟩,h⟩=>⟨.ref l,ls.map V.ref,rfl,⟨l,ys,rfl,.inl (.inr ⟨o,hf l o ys h1⟩),Reps.mono sg ws h4⟩,h.reps sg hf⟩
 |[],_::_,h=>h.elim
 |_::_,[],h=>h.elim
noncomputable def hideS(e:List S):List S:=e.map hide1
noncomputable def borrowT(e:List S):R Bool->R Bool
 |.ok b _=>.ok b e
 |.ex c _=>.ex c e
 |.no=>.no
noncomputable def dBorrowT(d:Den Bool):Den Bool:=fun e=>borrowT e (d (hideS e))
theorem Rel.hide(r:Rel K Z G σ H e):Rel K ⟨H,H,[]⟩ H σ H (hideS e):=by
 have g:∀(i:Nat)(s:S),(hideS e)[i]?=some s->∃s0,e[i]?=some s0/\s=hide1 s0:=fun i s h=>by
  unfold hideS at h;rw[w0v]at h;obtain⟨s0,h1,h2⟩:=w0d.mp h;exact⟨s0,h1,h2.symm⟩
 refine⟨.refl _,fun i s h=>?_,by unfold hideS;rw[w0r];exact r.len,fun i j b b' ws ws' a h1 _ _ _=>?_,fun a o h _=>h,(fun a h=>nomatch h),fun a _=>rfl⟩
 ·obtain⟨s0,h0,rfl⟩:=g i s h;have q:=r.slot i s0 h0;cases s0 with
  |no=>trivial
  |fr w=>
   obtain⟨u,q1,q2⟩:=q;exact⟨u,q1,Rep.mono r.sub w q2⟩
  |own b ws=>
   obtain⟨a,xs,q1,q2,q3,q4,q5⟩:=q;exact⟨.ref a,q1,a,xs,rfl,SqL.of q2,Reps.mono r.sub ws q5⟩
  |dic kvs=>
   obtain⟨a,q1,q2,_⟩:=q;exact⟨.ref a,q1,a,rfl,q2⟩
  |thr us ws vs=>
   obtain⟨t,l,o,xs,ys,zs,q1,q2,q3,_,_,q6,q7,q8⟩:=q;exact⟨.ref t,q1,t,_,rfl,SqT.of (r.sub _ _ q2),(Reps.mono r.sub us q6).append ⟨.ref l,zs,rfl,⟨l,ys,rfl,.inl (.inr ⟨o,q3⟩),Reps.mono r.sub ws q7⟩,Reps.mono r.sub vs q8⟩⟩
  |nest wss=>
   obtain⟨a,ls,q1,q2,_,q4⟩:=q;exact⟨.ref a,q1,a,_,rfl,SqL.of (r.sub _ _ q2),q4.reps r.sub fun l o ys z=>z.1⟩
  |x k=>
   cases k with
   |old w=>obtain⟨u,q1,_,q2⟩:=q;exact⟨u,q1,Rep.mono r.sub w q2⟩
   |new w=>obtain⟨u,q1,q2⟩:=q;exact⟨u,q1,Rep.mono r.sub w (RepN.rep w q2)⟩
   |acc ws=>obtain⟨a,o,xs,q1,q2,q3⟩:=q;exact⟨.ref a,q1,a,xs,rfl,.inl (.inr ⟨o,q2.1⟩),Reps.mono r.sub ws (RepNs.reps ws q3)⟩
   |thro us ws vs=>
    obtain⟨t,l,o,xs,ys,zs,q1,_,q2,q3,_,q6,q7,q8⟩:=q;exact⟨.ref t,q1,t,_,rfl,SqT.of (r.sub _ _ q2),(Reps.mono r.sub us q6).append ⟨.ref l,zs,rfl,⟨l,ys,rfl,.inl (.inr ⟨o,q3.1⟩),Reps.mono r.sub ws q7⟩,Reps.mono r.sub vs q8⟩⟩
   |tn us wss=>
    obtain⟨t,l,o,ls,xs,q1,q2,q3,_,q5,q6⟩:=q;exact⟨.ref t,q1,t,_,rfl,SqT.of (r.sub _ _ q2),(Reps.mono r.sub us q5).append ⟨.ref l,[],rfl,⟨l,_,rfl,.inl (.inr ⟨o,q3.1⟩),q6.reps r.sub fun l o ys z=>z.1⟩,rfl⟩⟩
   |pt _ _ _=>trivial
  |dw sh ks ws=>
   obtain⟨a,kvs,kas,q1,q2,_,_,q5,q6,q7⟩:=q;exact⟨.ref a,q1,a,kvs,kas,rfl,q2,q5,q6.mono r.sub,Reps.mono r.sub ws q7⟩
 ·obtain⟨s0,_,h2⟩:=g i _ h1;cases s0 with
  |x k=>cases k<;>cases h2
  |_=>cases h2
theorem Rel.back{G2 H2:Hp}{e2:List S}(r:Rel K Z G σ H e)(r2:Rel K ⟨H,H,[]⟩ G2 σ H2 e2):Rel K Z G σ H2 e:=by
 have hh:Same H H2:=fun a o h=>r2.ent a o h (fun z=>nomatch z)
 exact r.grow ⟨hh,.refl _,fun a o h=>hh a o (r.sub a o h),fun _ _=>rfl⟩
section
variable{e:Expr}
theorem x2r(he:∀Z',DT Z' X EE e c):DT Z X EE e (dBorrowT c):=by
 intro pins s σ H Q I hq;obtain⟨G,e0,rel,h⟩:=hq;refine he ⟨H,H,[]⟩ pins s σ H Q I ⟨H,hideS e0,rel.hide,?_⟩;unfold dBorrowT borrowT at h;cases q:c (hideS e0)with
 |ok w e2=>
  rw[q]at h;intro G2 H2 r2 s2;exact h G H2 (rel.back r2) (.refl _)
 |ex k e2=>
  rw[q]at h;intro G2 H2 r2 s2;exact h G H2 (rel.back r2) (.refl _)
 |no=>rw[q]at h;exact h.elim
end
section
variable{e':List S}{v:Value}{k:Bool}{s:S}{p:Prop} [Decidable p]
theorem x7m{d:Den Bool}:dBorrowT d e=borrowT e (d (hideS e)):=rfl
theorem x7n:borrowT e (.ok k e')=.ok k e:=rfl
theorem x7o:borrowT e (.ex v e')=.ex v e:=rfl
theorem x5m{x y:R Bool}:borrowT e (if p then x else y)=if p then borrowT e x else borrowT e y:=by split<;>rfl
theorem y2m:hideS []=[]:=rfl
theorem x94:hideS (s::e)=hide1 s::hideS e:=rfl
theorem y2n:hide1 (.own b ws)=.fr (.lst ws):=rfl
theorem y6e:hide1 (.fr w)=.fr w:=rfl
theorem y6f:hide1 .no=.no:=rfl
end
end D
namespace L2
open PySem PySem.Spec PyProof.Rows
structure FlyA(outer:List Env)(H H':Hp)(h h':Heap)(e:Addr)(cls:Value)(B:Heap):Prop where
 stay:B.StaysIn h'
 bare:B.get? e=none
 ff:h'.FunFrames B outer
 tr:∃a0 fl,h'.TracedAtW B e cls a0 fl
 old:∀b o,h.get? b=some o->H b=none->b∉frs outer->B.get? b=some o
 trk:∀b u o,H' b=some u->h'.get? b=some o->B.get? b=some o
 all:∀b o,h.get? b=some o->b∈frs outer\/∃o',B.get? b=some o'
 new:h.get? e=none
end L2
namespace D
open PySem L2
variable{e:List S}
noncomputable def compX(c:Den Bool)(d:Den W)(pe:List S):List W->Option (Value ⊕ List W)
 |[]=>some (.inr [])
 |w::ws=>match c (.fr w::pe)with
  |.ok true e1=>match d e1 with
   |.ok y _=>(compX c d pe ws).map (Sum.map id (y::·))
   |.ex k _=>some (.inl k)
   |.no=>none
  |.ok false _=>compX c d pe ws
  |.ex k _=>some (.inl k)
  |.no=>none
noncomputable def compXR(e:List S):Option (Value ⊕ List W)->R (List W)
 |some (.inr out)=>.ok out e
 |some (.inl k)=>.ex k e
 |none=>.no
noncomputable def compKX(js:List Nat)(c:Den Bool)(d:Den W)(ws:List W)(e1:List S):R (List W):=
 if ws.length<=16777216 then compXR (frzs js e1) (compX c d (pjS js (frzs js e1)) ws)else .no
theorem y2o{js:List Nat}{cc:Den Bool}{d:Den W}{ws:List W}:compKX js cc d ws e=if ws.length<=16777216 then compXR (frzs js e) (compX cc d (pjS js (frzs js e)) ws)else .no:=rfl
theorem x95{out:List W}:compXR e (some (.inr out))=.ok out e:=rfl
theorem x96{k:Value}:compXR e (some (.inl k))=.ex k e:=rfl
section
variable{X:Cx}{Z:Zt}{EE:St->XK}{elt iter a b:Expr}{ifs:List Expr}{scope sc:Scope}{pos pt:Pos}{x:Str}{Nf N:List Str}{js:List Nat}{di:Den W}{dA:Den (List W)}{c:Den Bool}{d:Den W}
theorem z1j{ws:List W}{P:List W->List S->Prop}{Ex:Value->List S->Prop}{e1:List S}(h:(compKX js c d ws e1).holds P Ex):ws.length<=16777216/\∃out,compX c d (pjS js (frzs js e1)) ws=some out/\Sum.elim (fun k=>Ex k (frzs js e1)) (fun o=>P o (frzs js e1)) out:=by
 unfold compKX at h;split at h
 ·rename_i hl;cases ho:compX c d (pjS js (frzs js e1)) ws with
  |none=>rw[ho]at h;exact h.elim
  |some out=>rw[ho]at h;exact⟨hl,out,rfl,by cases out<;>exact h⟩
 ·exact h.elim
end
end D
namespace L2
open PySem PySem.Spec PyProof.Rows
variable{A:Around}{prog:Program}{s:Shared}{E:Value->Shared->Prop}{w:World}
def Rise(t:SetTable):Prop:=t.place.toList.Pairwise (·<·)/\t.dummies=#[]
noncomputable def valI:Value->Int
 |.int n _=>n
 |_=>0
structure SetData(prog:Program)(w:World)(es:Array (Int×Value))(t:SetTable)(S:List Int):Prop where
 el:ElemsOf (intKind prog w) es.toList
 sz:es.size<scanBound
 fit:t.fits es.size=true
 rise:Rise t
 led:t.led=!w.params.followText "set-order"
 whole:∀e∈es.toList,∃n k,e.2=Value.int n k
 perm:(es.toList.map fun e=>valI e.2).Perm S
namespace SI
theorem own:Manifest.owners.lookup (String.ofList ['r','o','t','a','r','e','t','i','_','t','e','s'].reverse)=some Manifest.sig_set_iterator:=by kernel_rfl
theorem next:Slot "set_iterator" "__next__" "set_iterator.__next__":=.of (owner:="set_iterator") (n:="__next__") (by rw[typeLookup_type,builtinLookup_eq_fast];kernel_rfl) (by decide +kernel) (by decide +kernel) (by decide +kernel) (by first|exact .inl (by decide +kernel)|exact .inr (by decide +kernel)) (by rw[isSubtype_type];kernel_rfl)
theorem iter:Slot "set_iterator" "__iter__" "set_iterator.__iter__":=.of (owner:="set_iterator") (n:="__iter__") (by rw[typeLookup_type,builtinLookup_eq_fast];kernel_rfl) (by decide +kernel) (by decide +kernel) (by decide +kernel) (by first|exact .inl (by decide +kernel)|exact .inr (by decide +kernel)) (by rw[isSubtype_type];kernel_rfl)
end SI
open PySem PySem.Spec PyProof.Rows
end L2
namespace D
open PySem L2
variable{X:Cx}{dA:Den (List W)}{a e:Expr}{p pos:Pos}{EE:St->XK}{Z:Zt}
theorem y2p(hc:X.calm=true):CallR X (.builtin "any") (fun xs H Q=>∃p ys,xs=[.ref p]/\SqL X.K H p ys/\(∀y∈ys,∃b,y=.bl b)/\Q (.bl (ys.any fun y=>decide (y=.bl true))) H):=by
 intro pins s σ H xs us Q I r h;obtain⟨p,ys,rfl,hq,hb,q⟩:=h;obtain⟨u,rfl,rx⟩:=vals1 r;cases rx;obtain⟨its,r',pl,hz⟩:=I.list hq;have hl:=pl.isList;have hlt:p<s.heap.objs.size:=by obtain⟨_,e,_⟩:=hl;exact Heap.lt_size e
 have hh:X.A.in1.handled=none:=I.ok.hd hc;refine call_any_walk (wpAny_pyIter_list hl ⟨s.heap.objs.size,[s.heap.objs.size,p],[s.heap.objs.size],_,_,_,fun i=>decide (ys[i]?=some (.bl true)),rfl,Walks.list hh s.heap.objs.size p (w0p hlt) its.toArray,⟨⟨_,Heap.get?_push_size _ rfl,rfl,rfl⟩,hl.push _⟩,?_,fun h' tk kp=>?_⟩)
 ·intro i v s1 Q1 E1 hv hQ;have hv':its[i]?=some v:=by simpa using hv
  have hi:i<ys.length:=by rw[r'.length];exact(w0a.mp hv').1
  obtain⟨u,hu,ru⟩:=r'.get (w0b hi);rw[hv']at hu;cases hu;obtain⟨b,eb⟩:=hb ys[i] (w1a hi);rw[eb]at ru;cases ru;refine wpAny_truthy_bool ?_
  have e:decide (ys[i]?=some (V.bl true))=b:=by
   rw[w0b hi,eb];cases b<;>simp
  rw[<- e];exact hQ
 ·have e:(List.range its.toArray.size).any (fun i=>decide (ys[i]?=some (V.bl true)))=ys.any fun y=>decide (y=.bl true):=by
   rw[w2a,List.any_eq_true,List.any_eq_true];constructor
   ·rintro⟨i,hi,z⟩;rw[w1d,w0c,<- r'.length]at hi;rw[w0b hi]at z;exact⟨ys[i],w1a hi,by simpa using z⟩
   ·rintro⟨y,hy,z⟩;obtain⟨i,hi,rfl⟩:=w4d hy;exact⟨i,by rw[w1d,w0c,<- r'.length];exact hi,by rw[w0b hi];simpa using z⟩
  refine⟨.bl _,H,I.kept (t':=tk) fun b o hbo=>kp b o (fun z=>?_) (Heap.get?_push_of_some _ hbo),rfl,e ▸ q⟩
  rw[w1c]at z;exact absurd (Heap.lt_size hbo) (by rw[z];exact w2b _)
noncomputable def any1:List W->Option W
 |[.lst ws]=>(boolsW ws).map fun bs=>.bl (bs.any id)
 |_=>none
theorem z1k{K:PySem.W.Frag}:OpN K (fun xs H Q=>∃p ys,xs=[.ref p]/\SqL K H p ys/\(∀y∈ys,∃b,y=.bl b)/\Q (.bl (ys.any fun y=>decide (y=.bl true))) H) any1:=by
 intro G H xs ws w Q s pr hf h;unfold any1 at hf;split at hf
 ·obtain⟨bs,hb,rfl⟩:=w0d.mp hf;have:=q7s hb;subst this;obtain⟨x,r,rfl,px,pr⟩:=pr;cases(show r=[]from pr);obtain⟨a,ys,rfl,ha,ra⟩:=px;have:=q7t ra;subst this;refine⟨a,_,rfl,s.seq ha,fun y hy=>?_,h G _ H (.refl s) ?_⟩
  ·obtain⟨b,_,rfl⟩:=w1i.mp hy;exact⟨b,rfl⟩
  ·show V.bl _=V.bl _;congr 1;rw[List.any_map];congr 1;funext b
   cases b<;>rfl
 ·cases hf
theorem z1l(hc:X.calm=true)(hm:X.mg "any"=none)(ha:DA Z X EE [e] dA)(hg:Gl X "any":=by rfl)(he:starEach [e] X.env=(false,eval e X.env)::starEach [] X.env:=by rfl)(hpl:(backTo pos (starEach [] X.env)).any (·.1)=false:=by rfl):DE Z X EE (.Call (.Name "any" p) [e] [] pos) (dFn any1 dA):=
 q8o (y2p hc) z1k PyProof.Rows.Boot.«any» hm ha hg (by decide) (by decide) he hpl
theorem y36{bs:List Bool}:any1 [.lst (bs.map .bl)]=some (.bl (bs.any id)):=by
 show(boolsW (bs.map .bl)).map _=_;rw[q8t];rfl
def rCat0(K:PySem.W.Frag):R2:=fun x y H Q=>∃a b ys,x=.ref a/\y=.ref b/\SqT K H a []/\SqT K H b ys/\Q (.ref b) H
open PyProof.Rows in
theorem op_cat0:OpR X (binaryOp .Add) (rCat0 X.K):=by
 intro pins s σ H x y v u Q I rx ry h;obtain⟨a,b,ys,rfl,rfl,ha,hb,q⟩:=h;cases rx;cases ry;obtain⟨its,r1,p1,_⟩:=I.tuple ha;obtain⟨its2,r2,p2,_⟩:=I.tuple hb;cases r1;obtain⟨⟨cls,dd,data,sl⟩,ho,hc,n,hd⟩:=id p1;obtain⟨⟨cls2,dd2,data2,sl2⟩,ho2,hc2,n2,hd2⟩:=id p2;simp only at hc hd hc2 hd2;subst hc hd hc2 hd2;exact concat_meets ⟨_,ho,rfl⟩ ⟨_,ho2,rfl⟩ noFill_tuple_add seq_tuple_add PySem.F.slot_tuple_add PySem.F.entry_tuple_add (PySem.F.args_tuple_add_2 _ _) (tuple_addW0 a b _ _ n n2 dd dd2 sl sl2 rfl) ⟨ho,ho2,.ref b,H,I,rfl,q⟩
noncomputable def addX:W->W->Option W
 |.tup xs,.tup ys=>if xs.length+ys.length<=16777216 then some (.tup (xs++ys))else none
 |x,y=>addW x y
theorem y6g{xs ys:List W}:addX (.tup xs) (.tup ys)=if xs.length+ys.length<=16777216 then some (.tup (xs++ys))else none:=rfl
theorem y6h{i j:Int}:addX (.int i) (.int j)=some (.int (i+j)):=rfl
theorem y6i{xs ys:List W}:addX (.lst xs) (.lst ys)=if xs.length+ys.length<=16777216 then some (.lst (xs++ys))else none:=rfl
theorem y6j{x y:Str}:addX (.str x) (.str y)=if x.length+y.length<=16777216 then some (.str (x++y))else none:=rfl
theorem y6k{K:PySem.W.Frag}:Op2 K (fun x y H Q=>rCat0 K x y H Q\/(rI0 (fun i j=>.int (i+j)) x y H Q\/((∃i j,x=.str i/\y=.str j/\i.length+j.length<=sizeLine/\Q (.str (i++j)) H)\/(rCatT K x y H Q\/rCatS K x y H Q)))) addX:=by
 intro G H x y wx wy w Q s px py hf h;unfold addX at hf;split at hf
 ·rename_i xs ys;split at hf
  ·rename_i hl
   by_cases h0:xs=[]
   ·subst h0;cases hf;obtain⟨a,vs,rfl,hq,rp⟩:=px;obtain⟨b,us,rfl,hq2,rp2⟩:=py;cases(show vs=[]from rp);exact .inl ⟨a,b,us,rfl,rfl,s.tup hq,s.tup hq2,h G _ H (.refl s) ⟨b,us,rfl,hq2,rp2⟩⟩
   ·exact .inr (x88 G H x y (.tup xs) (.tup ys) w Q s px py (by show(if xs≠[]/\xs.length+ys.length<=16777216 then some (W.tup (xs++ys))else none)=some w;rw[if_pos ⟨h0,hl⟩];exact hf) h)
  ·cases hf
 ·exact .inr (x88 G H x y _ _ w Q s px py hf h)
section
variable{b:Expr}{da db:Den W}
theorem q1e(ha:DE Z X EE a da)(hb:DE Z X EE b db):DE Z X EE (.BinOp a .Add b pos) (dOp addX da db):=q9f (op_cat0.or (op_add.or (op_add_str.or (op_catT.or y4z)))) y6k ha hb
end
open PySem L2 PySem.Spec PyProof.Rows
end D
namespace L2
open PySem PySem.Spec PyProof.Rows
section
variable{κ:Type} [DecidableEq κ]
noncomputable def valV(kvs:List (κ×V))(k:κ):Option V:=(kvs.find? fun kv=>decide (kv.1=k)).map (·.2)
noncomputable def putK(kvs:List (κ×V))(k:κ)(v:V):List (κ×V):=
 if(kvs.any fun kv=>decide (kv.1=k))=true then kvs.map (fun kv=>if kv.1=k then(kv.1,v)else kv)else kvs++[(k,v)]
theorem q7u{p:κ×V}{r:List (κ×V)}{k:κ}(e:p.1=k):valV (p::r) k=some p.2:=by simp[valV,w1p,e]
theorem q7v{p:κ×V}{r:List (κ×V)}{k:κ}(e:¬p.1=k):valV (p::r) k=valV r k:=by simp[valV,w1p,e]
theorem x4n(k:κ):∀kvs:List (κ×V),(kvs.any fun kv=>decide (kv.1=k))=(valV kvs k).isSome
 |[]=>rfl
 |p::r=>by
  rw[w2v]
  by_cases e:p.1=k
  ·simp only[q7u e,decide_eq_true e,w3v,Option.isSome_some]
  ·rw[q7v e,decide_eq_false e,Bool.false_or];exact x4n k r
theorem q9v(kvs:List (κ×V))(k:κ)(v:V):(putK kvs k v).length<=kvs.length+1:=by
 unfold putK;split
 ·rw[w0r];omega
 ·rw[w0k,w0j,w2l];omega
theorem RelO.isSome_eq{o:Option V}{u:Option Value}(r:RelO o u):o.isSome=u.isSome:=by
 cases o with
 |none=>cases u with
  |none=>rfl
  |some _=>exact(show False from r).elim
 |some _=>cases u with
  |none=>exact(show False from r).elim
  |some _=>rfl
theorem KV.val{kvs:List (κ×V)}{vs:List (κ×Value)}(r:KV kvs vs)(k:κ):RelO (valV kvs k) (valueAt vs k):=by
 unfold KV at r
 induction r with
 |nil=>exact True.intro
 | @cons p q ps qs h t ih=>
  obtain⟨h1,h2⟩:=h
  by_cases e:p.1=k
  ·have e':q.1=k:=h1.symm.trans e;have b:valueAt (q::qs) k=some q.2:=by simp[valueAt,w1p,e']
   rw[q7u e,b];exact h2
  ·have e':¬q.1=k:=fun z=>e (h1.trans z)
   have b:valueAt (q::qs) k=valueAt qs k:=by simp[valueAt,w1p,e']
   rw[q7v e,b];exact ih
theorem KV.any{kvs:List (κ×V)}{vs:List (κ×Value)}(r:KV kvs vs)(k:κ):(kvs.any fun kv=>decide (kv.1=k))=vs.any fun kv=>decide (kv.1=k):=by
 unfold KV at r
 induction r with
 |nil=>rfl
 |cons h t ih=>rw[w2v,w2v,ih,h.1]
theorem KV.repl{kvs:List (κ×V)}{vs:List (κ×Value)}(r:KV kvs vs)(k:κ){y:V}{u:Value}(ry:RelV y u):
  KV (kvs.map fun kv=>if kv.1=k then(kv.1,y)else kv) (vs.map fun kv=>if kv.1=k then(kv.1,u)else kv):=by
 unfold KV at r |-
 induction r with
 |nil=>exact .nil
 | @cons p q ps qs h t ih=>
  rw[w0n,w0n];refine .cons ?_ ih;obtain⟨h1,h2⟩:=h
  by_cases e:p.1=k
  ·rw[if_pos e,if_pos (h1.symm.trans e)];exact⟨h1,ry⟩
  ·rw[if_neg e,if_neg (fun z=>e (h1.trans z))];exact⟨h1,h2⟩
theorem KV.put{kvs:List (κ×V)}{vs:List (κ×Value)}(r:KV kvs vs)(k:κ){y:V}{u:Value}(ry:RelV y u):KV (putK kvs k y) (stored vs k u):=by
 unfold putK stored;rw[r.any k]
 by_cases e:(vs.any fun kv=>decide (kv.1=k))=true
 ·rw[if_pos e,if_pos e];exact r.repl k ry
 ·rw[if_neg e,if_neg e];exact Paired.snoc r ⟨rfl,ry⟩
theorem KV.length{kvs:List (κ×V)}{vs:List (κ×Value)}(r:KV kvs vs):kvs.length=vs.length:=Paired.length r
end
variable{a:Addr}{A:Around}{X:Cx}{H H':Hp}{pins:List (Addr×Obj)}{kvs:List (Key×V)}{xs:List (Kx×Addr×Value)}{kas:List Addr}{pos:Pos}{P:Program}{sh:Sh}{s:Shared}{σ:St}{y:V}{u:Value}{E:Value->Shared->Prop}{w:World}
theorem x7p{k:Key}(r:RelV (kV k) u):(mixKind P w).is k u=true:=by
 cases k with
 |inl i=>obtain⟨t,e⟩:=(show ∃t,u=Value.int i t from r);subst e;exact x5j P w i t
 |inr x=>obtain⟨t,e⟩:=(show ∃t,u=Value.str x t from r);subst e;exact x5k P w x t
abbrev KT(sh:Sh)(H:Hp):List (Kx×V)->List (Kx×Addr×Value)->Prop:=Paired fun p q=>p.1=q.1/\(KRep H p.1 (.ref q.2.1)/\Conf p.1 sh/\p.1.depth<=7)/\RelV p.2 q.2.2
theorem KT.val{kvs:List (Kx×V)}(r:KT sh H kvs xs)(k:Kx):RelO (valV kvs k) ((atKey xs k).map (·.2)):=by
 induction r with
 |nil=>exact True.intro
 | @cons p q ps qs h t ih=>
  obtain⟨h1,_,h2⟩:=h
  by_cases e:p.1=k
  ·have e':q.1=k:=h1.symm.trans e;have b:atKey (q::qs) k=some q.2:=by simp[atKey,w1p,e']
   rw[q7u e,b];exact h2
  ·have e':¬q.1=k:=fun z=>e (h1.trans z)
   have b:atKey (q::qs) k=atKey qs k:=by simp[atKey,w1p,e']
   rw[q7v e,b];exact ih
theorem KT.repl{kvs:List (Kx×V)}(r:KT sh H kvs xs)(k:Kx)(ry:RelV y u):
  KT sh H (kvs.map fun kv=>if kv.1=k then(kv.1,y)else kv) (xs.map (putAt k u)):=by
 induction r with
 |nil=>exact .nil
 | @cons p q ps qs h t ih=>
  rw[w0n,w0n];refine .cons ?_ ih;obtain⟨h1,h2,h3⟩:=h;unfold putAt
  by_cases e:p.1=k
  ·rw[if_pos e,if_pos (h1.symm.trans e)];exact⟨h1,h2,ry⟩
  ·rw[if_neg e,if_neg (fun z=>e (h1.trans z))];exact⟨h1,h2,h3⟩
theorem KT.put{kvs:List (Kx×V)}(r:KT sh H kvs xs)(k:Kx){b:Addr}(hb:KRep H k (.ref b)/\Conf k sh/\k.depth<=7)(ry:RelV y u):
  KT sh H (putK kvs k y) (storedH xs k b u):=by
 have e:(kvs.any fun kv=>decide (kv.1=k))=(atKey xs k).isSome:=by
  rw[x4n,(r.val k).isSome_eq,w1r]
 unfold putK storedH;rw[e]
 by_cases q:(atKey xs k).isSome=true
 ·rw[if_pos q,if_pos q];exact r.repl k ry
 ·rw[if_neg q,if_neg q];exact Paired.snoc r ⟨rfl,hb,ry⟩
noncomputable def putAd(kvs:List (Kx×V))(kas:List Addr)(k:Kx)(b:Addr):List Addr:=if(valV kvs k).isSome=true then kas else kas++[b]
theorem KT.putAd{kvs:List (Kx×V)}(r:KT sh H kvs xs)(ka:xs.map (·.2.1)=kas)(k:Kx){b:Addr}:(storedH xs k b u).map (·.2.1)=L2.putAd kvs kas k b:=by
 unfold storedH L2.putAd;rw[(r.val k).isSome_eq,w1r]
 by_cases q:(atKey xs k).isSome=true
 ·rw[if_pos q,if_pos q,w1k,<- ka];refine w2q fun x _=>?_
  show(putAt k u x).2.1=x.2.1;unfold putAt;split<;>rfl
 ·rw[if_neg q,if_neg q,w0q,ka];rfl
theorem KT.keeps{kvs:List (Kx×V)}(r:KT sh H kvs xs)(ht:∀b u,TupLike u->H b=some u->H' b=some u):KT sh H' kvs xs:=
 Paired.mapP r fun _ _ z=>⟨z.1,⟨KRep.keeps ht _ z.2.1.1,z.2.1.2⟩,z.2.2⟩
section
variable{h:Heap}
theorem y37{u:HO}(ok:HOk P w H h)(e:Rd H a u):ObjOk P w H h a u:=e.ok ok
theorem x3p(ok:HOk P w H h)(e:Rd H a (.dK kvs)):kvs.length<=sizeLine/\(a==sysModules)=false/\∃vs,KV kvs vs/\h.DictOf (mixKind P w) a vs:=
 show ObjOk P w H h a (.dK kvs)from y37 ok e
theorem z39(ok:HOk P w H h)(e:H a=some (.dK kvs)):kvs.length<=sizeLine/\(a==sysModules)=false/\∃vs,KV kvs vs/\h.DictOf (mixKind P w) a vs:=x3p ok (.inl e)
theorem IsTup.seq{h:Heap}{its:List Value}(p:IsTup h a its.toArray):∃o n,h.get? a=some o/\o.cls=.type "tuple" /\ o.data=.seq its.toArray n:=by
 obtain⟨o,h1,h2,n,h3⟩:=p;exact⟨o,n,h1,h2,h3⟩
mutual
theorem KRep.is(ok:HOk P w H h):∀(k:Kx){x:V}{v:Value},KRep H k x->RelV x v->KIs h k v
 |.bl b,x,v,e,r=>by cases(show x=.bl b from e);exact r
 |.int b,x,v,e,r=>by cases(show x=.int b from e);exact r
 |.str b,x,v,e,r=>by cases(show x=.str b from e);exact r
 |.tup ks,x,v,e,r=>by
  obtain⟨a,xs,rfl,q,rs⟩:=e;cases(show v=Value.ref a from r);obtain⟨_,its,rv,p,_⟩:=(show ObjOk P w H h a (.tup xs)from Rd.ok q ok);obtain⟨o,n,h1,h2,h3⟩:=IsTup.seq p;exact⟨a,o,its.toArray,n,rfl,h1,h2,h3,by simpa using KReps.are ok ks rs rv⟩
theorem KReps.are(ok:HOk P w H h):∀(ks:List Kx){xs:List V}{vs:List Value},KReps H ks xs->Vals xs vs->KAre h ks vs
 |[],xs,vs,e,r=>by
  cases(show xs=[]from e);cases r;rfl
 |k::ks,xs,vs,e,r=>by
  obtain⟨x,r0,rfl,h1,h2⟩:=e;cases r with
  |cons q t=>exact⟨_,_,rfl,KRep.is ok k h1 q,KReps.are ok ks h2 t⟩
end
theorem x0z{k:Kx}(ok:HOk P w H h)(e:KRep H k (.ref a)/\Conf k sh/\k.depth<=7):(treeKind P w sh).is h k a:=⟨KRep.is ok k e.1 rfl,e.2⟩
theorem x3q{kvs:List (Kx×V)}(ok:HOk P w H h)(e:Rd H a (.dT sh kvs kas)):kvs.length<=sizeLine/\(a==sysModules)=false /\
  ∃xs,KT sh H kvs xs/\xs.map (·.2.1)=kas/\h.DictOfH (treeKind P w sh) a xs:=by
 obtain⟨z,y,xs,r,ka,o,es,ep,h1,h2,h3,h4,h5⟩:=(show ObjOk P w H h a (.dT sh kvs kas)from y37 ok e);refine⟨z,y,xs,r,ka,o,es,ep,h1,h2,h3,h4,fun x hx=>?_,h5⟩
 have all:∀{l:List (Kx×V)}{m:List (Kx×Addr×Value)},KT sh H l m->∀x∈m,(treeKind P w sh).is h x.1 x.2.1:=by
  intro l m q
  induction q with
  |nil=>intro x hx;exact nomatch hx
  | @cons p q ps qs hq t ih=>
   intro x hx;rcases w0m.mp hx with e|hx
   ·subst e;exact x0z ok (by rw[<- hq.1];exact hq.2.1)
   ·exact ih x hx
 exact all r x hx
theorem z4a{kvs:List (Kx×V)}(ok:HOk P w H h)(e:H a=some (.dT sh kvs kas)):kvs.length<=sizeLine/\(a==sysModules)=false /\
  ∃xs,KT sh H kvs xs/\xs.map (·.2.1)=kas/\h.DictOfH (treeKind P w sh) a xs:=x3q ok (.inl e)
end
def DGet(H:Hp)(a:Addr)(y:V)(r:Option V):Prop:=
 (∃kvs k,Rd H a (.dK kvs)/\y=kV k/\r=valV kvs k)\/∃sh kvs kas k b,Rd H a (.dT sh kvs kas)/\y=.ref b/\(KRep H k (.ref b)/\Conf k sh/\k.depth<=7)/\r=valV kvs k
def DPut(H:Hp)(a:Addr)(y v:V)(H':Hp):Prop:=
 (∃kvs k,H a=some (.dK kvs)/\y=kV k/\kvs.length<sizeLine/\H'=upd H a (.dK (putK kvs k v))) \/
 ∃sh kvs kas k b,H a=some (.dT sh kvs kas)/\y=.ref b/\(KRep H k (.ref b)/\Conf k sh/\k.depth<=7)/\kvs.length<sizeLine/\H'=upd H a (.dT sh (putK kvs k v) (putAd kvs kas k b))
theorem DGet.k{k:Key}(e:H a=some (.dK kvs)):DGet H a (kV k) (valV kvs k):=.inl ⟨kvs,k,.inl e,rfl,rfl⟩
theorem DPut.k{k:Key}{v:V}(e:H a=some (.dK kvs))(hl:kvs.length<sizeLine):DPut H a (kV k) v (upd H a (.dK (putK kvs k v))):=.inl ⟨kvs,k,e,rfl,hl,rfl⟩
section
variable{v:V}{r:Value}{o:Option V}
theorem Inv.big(I:Inv X pins σ H s):sysModules<s.heap.objs.size:=by
 have h:mainGlobals<s.heap.objs.size:=(I.mod.glob.keeps I.bk).lt;exact Nat.lt_trans (by decide) h
theorem x0d(hu:A.units+20<cLine):(treeKind P w sh).room A.in1:=by
 show A.in1.units+8<cLine;rw[Around.in1_units];omega
theorem x97{Q:Value->Shared->Prop}(hu:A.units+20<cLine)(I:Inv X pins σ H s)(g:DGet H a y (some v))(ry:RelV y u)(h:∀w' s',Inv X pins σ H s'->RelV v w'->Q w' s'):
  wpAny (model X.prog X.w) A (getItem (.ref a) u) Q E s:=by
 rcases g with⟨kvs,k,e,ey,l⟩|⟨sh,kvs,kas,k,b,e,ey,eb,l⟩
 ·subst ey;obtain⟨z,hd,vs,rel,dd⟩:=x3p I.hok e;obtain⟨w',hw,rw'⟩:=RelO.some_of (v:=v) (o:=valueAt vs k) (by rw[l];exact rel.val k);exact wpAny_getItem_of (x7p ry) dd.mapOf hw (h w' _ (I.tok _) rw')
 ·subst ey;cases(show u=Value.ref b from ry);obtain⟨z,hd,xs,rel,_,dd⟩:=x3q I.hok e;obtain⟨w',hw,rw'⟩:=RelO.some_of (v:=v) (o:=(atKey xs k).map (·.2)) (by rw[l];exact rel.val k);obtain⟨p,hp,hp2⟩:=w0d.mp hw;refine wpAny_getItem_heap (x0d hu) (x0z I.hok eb) dd hp ?_;rw[hp2];exact h w' _ (I.tok _) rw'
theorem d_in{Q:Value->Shared->Prop}(hu:A.units+20<cLine)(I:Inv X pins σ H s)(g:DGet H a y o)(ry:RelV y u)(h:∀s',Inv X pins σ H s'->Q (.bool o.isSome) s'):
  wpAny (model X.prog X.w) A (compareOp .In u (.ref a)) Q E s:=by
 rcases g with⟨kvs,k,e,ey,l⟩|⟨sh,kvs,kas,k,b,e,ey,eb,l⟩
 ·subst ey;obtain⟨z,hd,vs,rel,dd⟩:=x3p I.hok e;refine wpAny_in_of (x7p ry) hd dd.mapOf ?_;rw[<- (rel.val k).isSome_eq,<- l];exact h _ (I.tok _)
 ·subst ey;cases(show u=Value.ref b from ry);obtain⟨z,hd,xs,rel,_,dd⟩:=x3q I.hok e;refine wpAny_in_heap (x0d hu) (x0z I.hok eb) hd dd ?_;have q:=(rel.val k).isSome_eq;rw[w1r]at q;rw[<- q,<- l];exact h _ (I.tok _)
theorem x6k{h':Heap}{t':Nat}{ob:HO}(I:Inv X pins σ H s)(mu:Mut (H a))(hs:Heap.SameBut a s.heap h')(he:∃q,h'.get? a=some q)(new:ObjOk X.prog X.w (upd H a ob) h' a ob):
  Inv X pins σ (upd H a ob) {s with heap:=h',toks:=t'}:=
 I.write (x:=a) (e:=a) mu (.inl rfl) (fun b q hb z=>(hs.2 b hb).trans z) he new
theorem z1m{h':Heap}{vs:List (Key×Value)}(z:kvs.length<=sizeLine)(hd:(a==sysModules)=false)(rel:KV kvs vs)(dd:h'.DictOf (mixKind P w) a vs):
  ObjOk P w H' h' a (.dK kvs):=⟨z,hd,vs,rel,dd⟩
theorem x98{Q:Unit->Shared->Prop}(hu:A.units+20<cLine)(I:Inv X pins σ H s)(g:DPut H a y v H')(ry:RelV y u)(rv:RelV v r)(h:∀s',Inv X pins σ H' s'->Q () s'):
  wpAny (model X.prog X.w) A (setItem (.ref a) u r) Q E s:=by
 rcases g with⟨kvs,k,e,ey,l,eH⟩|⟨sh,kvs,kas,k,b,e,ey,eb,l,eH⟩
 ·subst ey eH;obtain⟨z,hd,vs,rel,dd⟩:=z39 I.hok e;have hz:vs.length<=sizeLine:=by rw[<- rel.length];exact z
  have hl:(putK kvs k v).length<=sizeLine:=by have:=q9v kvs k v;omega
  refine wpAny_setItem_pairs (hsz:=hz) (x7p ry) dd fun h' dd' hs=>h _ ?_
  have he:∃q,h'.get? a=some q:=let ⟨q,_,_,hq,_⟩:=dd';⟨q,hq⟩;exact x6k I (by rw[e];exact True.intro) hs he (z1m hl hd (rel.put k rv) dd')
 ·subst ey eH;cases(show u=Value.ref b from ry);obtain⟨z,hd,xs,rel,ka,dd⟩:=z4a I.hok e;have hz:xs.length<=sizeLine:=by rw[<- Paired.length rel];exact z
  have hl:(putK kvs k v).length<=sizeLine:=by have:=q9v kvs k v;omega
  refine wpAny_setItem_heap (hsz:=hz) (x0d hu) (x0z I.hok eb) dd fun h' dd' hs=>h _ ?_
  obtain⟨q,es,ep,hq,h2,h3,h4,_,h5⟩:=dd';refine x6k I (by rw[e];exact True.intro) hs ⟨q,hq⟩ ⟨hl,hd,_,(rel.put k eb rv).keeps fun c u ys ec=>?_,rel.putAd ka k,q,es,ep,hq,h2,h3,h4,h5⟩
  rw[q0f (q00 ec e (fun z=>by subst z;exact ys))]
  exact ec
end
def NoSl(i:Expr):Prop:=∀ov iv,subscripted i false ov iv=operate [ov,iv] (getItem ov iv)
theorem y6l{prog:Program}{env:Env}{value slice:Expr}{T id:String}{Q:Value->Shared->Prop}
  (hl:typeLookup (.type T) "__getitem__"=pure (some (.builtin id)))(hs:NoSl slice)
  (h:wpAny (model prog w) A (eval value env) (fun o s₁=>wpAny (model prog w) A (eval slice env) (fun i s₂=>s₂.TypeIs o T/\wpAny (model prog w) A (getItem o i) Q E s₂) E s₁) E s):
  wpAny (model prog w) A (eval (.Subscript value slice pos) env) Q E s:=by
 refine Subscript_ (wpAny_mono h (fun o s₁ h₁=>wpAny_mono h₁ (fun i s₂ h₂=>?_) fun _ _ x=>x) fun _ _ x=>x)
 obtain⟨hT,h₂⟩:=h₂;unfold subscriptTail;refine wpAny_bind ?_;rw[getitemInPython_of_ne hT.not_modules];refine wpAny_bind (wpAny_specialOf hT hl ?_)
 have fin:wpAny (model prog w) A (subscripted slice false o i) (fun r s₃=>wpAny (model prog w) A (letTemporaryGo value o r >>= fun _=>pure r) Q E s₃) E s₂:=by
  rw[hs o i];exact wpAny_operating (wpAny_mono h₂ (fun r s₃ h₃=>wpAny_bind (wpAny_letTemporaryGo (wpAny_pure h₃))) fun _ _ x=>x)
 first
  |exact wpAny_pure (wpAny_bind fin)
  |exact wpAny_bind (wpAny_pure (wpAny_bind fin))
  |exact wpAny_bind fin
theorem x5n{o:Option V}(I:Inv X pins σ H s)(g:DGet H a y o):s.TypeIs (.ref a) "dict":=by
 rcases g with⟨kvs,k,e,_,_⟩|⟨sh,kvs,kas,k,b,e,_,_,_⟩
 ·obtain⟨_,_,vs,_,dd⟩:=x3p I.hok e;exact dd.typeIs
 ·obtain⟨_,_,xs,_,_,dd⟩:=x3q I.hok e;exact dd.typeIs
def tDGet(td ty:TE):TE:=fun σ H Q=>td σ H fun x H1=>ty σ H1 fun y H2=>∃a v,x=.ref a/\DGet H2 a y (some v)/\Q v H2
def tDIn(ty td:TE):TE:=fun σ H Q=>ty σ H fun y H1=>td σ H1 fun x H2=>∃a o,x=.ref a/\DGet H2 a y o/\Q (.bl o.isSome) H2
def sDPut(td ty tv:TE):TS:=fun D σ H=>tv σ H fun v H1=>td σ H1 fun x H2=>ty σ H2 fun y H3=>∃a H4,x=.ref a/\DPut H3 a y v H4/\D.nx σ H4
section
variable{o i e value:Expr}{pos' tpos:Pos}{td ty tv:TE}
theorem y6m(hu:X.A.units+20<cLine)(ho:PE X o td)(hi:PE X i ty)(hs:NoSl i):PE X (.Subscript o i pos) (tDGet td ty):=by
 intro pins s σ H Q I h;refine y6l PySem.F.slot_dict_getitem.lookup hs (thn (ho pins s σ H _ I h) fun u s1 ⟨x,H1,I1,rx,q1⟩=>thn (hi pins s1 σ H1 _ I1 q1) fun iv s2 ⟨y,H2,I2,ry,a,v,ex,g,q2⟩=>?_)
 subst ex;obtain rfl:u=Value.ref a:=rx;exact⟨x5n I2 g,x97 hu I2 g ry fun w' s3 I3 rw'=>⟨v,H2,I3,rw',q2⟩⟩
theorem x99(hu:X.A.units+20<cLine)(hi:PE X i ty)(ho:PE X o td):PC X .In i o (tDIn ty td):=by
 intro pins s σ H Q I h;refine thn (hi pins s σ H _ I h) fun iv s1 ⟨y,H1,I1,ry,q1⟩=>thn (ho pins s1 σ H1 _ I1 q1) fun u s2 ⟨x,H2,I2,rx,a,ov,ex,g,q2⟩=>?_
 subst ex;obtain rfl:u=Value.ref a:=rx;exact d_in hu I2 g ry fun s3 I3=>⟨.bl ov.isSome,H2,I3,rfl,q2⟩
theorem y6n(hu:X.A.units+20<cLine)(ho:PE X o td)(hi:PE X i ty)(hv:PE X value tv)(hs:swapsWith value (some (.Subscript o i pos')) pos.line X.env=pure false):
  PS X (.Assign [.Subscript o i pos'] value pos) (sDPut td ty tv):=by
 intro pins s σ H D I h;refine wpAny_Assign_Subscript (thn (hv pins s σ H _ I h) fun r s1 ⟨v,H1,I1,rv,q1⟩=>thn (ho pins s1 σ H1 _ I1 q1) fun u s2 ⟨x,H2,I2,rx,q2⟩=>thn (hi pins s2 σ H2 _ I2 q2) fun iv s3 ⟨y,H3,I3,ry,a,H4,ex,g,q3⟩=>?_) hs
 subst ex;obtain rfl:u=Value.ref a:=rx;exact x98 hu I3 g ry rv fun s4 I4=>⟨σ,H4,I4,q3⟩
end
theorem y2q(h:Heap)(hb:sysModules<h.objs.size):ObjOk P w H (h.push {cls:=.type "dict", data:=.dict #[]}) h.objs.size (.dK []):=
 ⟨w1l _,beq_eq_false_iff_ne.mpr (Ne.symm (w0p hb)),[],.nil,Heap.DictOf.new h⟩
def tDNewK:TE:=fun _ H Q=>∀p,H p=none->Q (.ref p) (upd H p (.dK []))
theorem y2r:PE X (.Dict [] [] pos) tDNewK:=fun pins s σ H Q I h=>
 wpAny_Dict_empty ⟨.ref s.heap.objs.size,_,I.laid (a:=s.heap.objs.size) (o:=.dK []) (t':=s.toks) (fun _ _ q=>Heap.get?_push_of_some _ q) (w0e _) (y2q s.heap I.big),rfl,h _ (I.hok.fresh (w0e _))⟩
end L2
namespace D
open PySem L2 PySem.Spec PyProof.Rows
variable{X:Cx}{dk:Den W}{G:Hp}{σ:L2.St}{EE:L2.St->XK}{e:List S}{i:Nat}{pos:Pos}{K:PySem.W.Frag}{x:Str}{κ:Type}{w:W}{Z:Zt}
noncomputable def lk [DecidableEq κ](kvs:List (κ×Sv))(x:κ):Option Sv:=(kvs.find? fun p=>decide (p.1=x)).map (·.2)
noncomputable def putL [DecidableEq κ](kvs:List (κ×Sv))(x:κ)(v:Sv):List (κ×Sv):=if(kvs.any fun p=>decide (p.1=x))=true then kvs.map (fun p=>if p.1=x then(p.1,v)else p)else kvs++[(x,v)]
theorem x4o [DecidableEq κ](x:κ):∀kvs:List (κ×Sv),valV (kvV kvs) x=(lk kvs x).map sV
 |[]=>rfl
 |p::r=>by
  have ih:=x4o x r
  by_cases h:p.1=x
  ·have e1:valV (kvV (p::r)) x=some (sV p.2):=q7u (p:=(p.1,sV p.2)) h;rw[e1];simp[lk,w1p,h]
  ·have e1:valV (kvV (p::r)) x=valV (kvV r) x:=q7v (p:=(p.1,sV p.2)) h;rw[e1,ih];simp[lk,w1p,h]
theorem z1n [DecidableEq κ](x:κ)(v:Sv)(kvs:List (κ×Sv)):putK (kvV kvs) x (sV v)=kvV (putL kvs x v):=by
 unfold putK putL kvV;rw[List.any_map];have e:((fun kv:κ×V=>decide (kv.1=x)) ∘ fun p:κ×Sv=>(p.1,sV p.2))=fun p:κ×Sv=>decide (p.1=x):=rfl
 rw[e];split
 ·rw[w1k,w1k];refine w2q fun p _=>?_
  simp only[Function.comp];split<;>rfl
 ·rw[w0q];rfl
noncomputable def keyW:W->Option Key
 |.int i=>some (.inl i)
 |.str x=>some (.inr x)
 |_=>none
noncomputable def svW:W->Option Sv
 |.int i=>some (.inl i)
 |.bl b=>some (.inr b)
 |_=>none
noncomputable def wSv:Sv->W
 |.inl i=>.int i
 |.inr b=>.bl b
theorem x1p{v:V}{k:Key}(p:Rep K G w v)(h:keyW w=some k):v=kV k:=by
 cases w<;>cases h<;>exact p
theorem z1o{v:V}{k:Sv}(p:Rep K G w v)(h:svW w=some k):v=sV k:=by
 cases w<;>cases h<;>exact p
theorem y0a(k:Sv):Rep K G (wSv k) (sV k):=by cases k<;>rfl
noncomputable def dicOf:W->Option (List (Key×Sv))
 |.dic (.k kvs)=>some kvs
 |_=>none
theorem x4p{kvs:List (Key×Sv)}(h:dicOf w=some kvs):w=.dic (.k kvs):=by
 cases w with
 |dic d=>cases d<;>cases h;rfl
 |_=>cases h
noncomputable def inD(w d:W):Option W:=(keyW w).bind fun k=>(dicOf d).map fun kvs=>.bl (lk kvs k).isSome
noncomputable def ixD(d w:W):Option W:=(keyW w).bind fun k=>(dicOf d).bind fun kvs=>(lk kvs k).map wSv
theorem y0b:Op2 K (fun y x H Q=>∃a o,x=.ref a/\DGet H a y o/\Q (.bl o.isSome) H) inD:=by
 intro G H x y wx wy w Q s px py hf h;obtain⟨k,hk,hf⟩:=w0s.mp hf;obtain⟨kvs,hd,hf⟩:=w0d.mp hf;cases hf;cases x1p px hk;cases x4p hd;obtain⟨e,rfl,he⟩:=py;refine⟨e,_,rfl,DGet.k (k:=k) (s _ _ he),h G _ H (.refl s) ?_⟩;rw[x4o,w1r];rfl
theorem z1p:Op2 K (fun x y H Q=>∃a v,x=.ref a/\DGet H a y (some v)/\Q v H) ixD:=by
 intro G H x y wx wy w Q s px py hf h;obtain⟨k,hk,hf⟩:=w0s.mp hf;obtain⟨kvs,hd,hf⟩:=w0s.mp hf;obtain⟨v,hv,rfl⟩:=w0d.mp hf;cases x1p py hk;cases x4p hd;obtain⟨e,rfl,he⟩:=px;have g:=DGet.k (k:=k) (s _ _ he);rw[x4o,hv]at g;exact⟨e,_,rfl,g,h G _ H (.refl s) (y0a v)⟩
section
variable{a b e k:Expr}{da db d:Den W}{p tpos:Pos}
theorem z1q(hu:X.A.units+150<cLine)(ha:DE Z X EE a da)(hb:DE Z X EE b db)(hm:behindInMarks .In b=false:=by rfl):DE Z X EE (.Compare a [.In] [b] pos) (dOp inD da db):=
 PE.mono (y8d (x99 (by omega) ha hb) hm) (q5k y0b)
theorem z1r(hu:X.A.units+150<cLine)(ha:DE Z X EE a da)(hb:DE Z X EE b db)(hm:behindInMarks .In b=false:=by rfl):DT Z X EE (.Compare a [.In] [b] pos) (dTest (dOp inD da db)):=
 PT.mono (y8e (x99 (by omega) ha hb) hm) fun σ H Q h=>q5k y0b σ H _ (x2h h)
theorem z1s(hu:X.A.units+150<cLine)(ha:DE Z X EE a da)(hb:DE Z X EE b db)(hs:NoSl b:=by intro _ _;rfl):DE Z X EE (.Subscript a b pos) (dOp ixD da db):=
 PE.mono (y6m (by omega) ha hb hs) (q5k z1p)
theorem Rel.dic{H:Hp}{e:List S}(r:Rel K Z G σ H e){kvs:Dd}(h:e[i]?=some (.dic kvs)):∃a,σ[i]?=some (some (.ref a))/\H a=some (dO kvs)/\G a=none/\Z.H a=none:=by
 obtain⟨a,h1,h2,h3,h4⟩:=r.slot i _ h;refine⟨a,?_,h2,h3,h4⟩;cases q:σ[i]? with
 |none=>rw[q]at h1;cases h1
 |some z=>rw[q]at h1;rw[show z=some (.ref a)from h1]
theorem Rel.setDic{H:Hp}{e:List S}(r:Rel K Z G σ H e){kvs:Dd}{a:Addr}(h2:H a=some (dO kvs))(h3:G a=none)(h4:Z.H a=none):Rel K Z G (σ.set i (some (.ref a))) H (e.set i (.dic kvs)):=by
 refine⟨r.sub,fun j s z=>?_,by simpa using r.len,fun j k b1 b2 w1 w2 c z1 z2 z3 z4=>?_,r.ent,r.ion,r.gen⟩
 ·by_cases hj:j=i
  ·subst hj
   have hi:j<e.length:=by
    have:=(w0a.mp z).1;simpa using this
   rw[w0h hi]at z;cases z;rw[w0h (by rw[<- r.len];exact hi)];exact⟨a,rfl,h2,h3,h4⟩
  ·rw[w0f (fun z=>hj z.symm)]at z |-
   exact r.slot j s z
 ·have old:∀(k:Nat)(bb:Option Nat)(ww:List W),(e.set i (S.dic kvs))[k]?=some (.own bb ww)->k≠i/\e[k]?=some (.own bb ww):=fun k bb ww z=>by
   by_cases hk:k=i
   ·subst hk
    have hi:k<e.length:=by
     have:=(w0a.mp z).1;simpa using this
    rw[w0h hi]at z;cases z
   ·rw[w0f (fun z=>hk z.symm)]at z;exact⟨hk,z⟩
  obtain⟨n1,q1⟩:=old _ _ _ z1;obtain⟨n2,q2⟩:=old _ _ _ z2;rw[w0f (fun z=>n1 z.symm)]at z3
  rw[w0f (fun z=>n2 z.symm)]at z4
  exact r.dis _ _ _ _ _ _ _ q1 q2 z3 z4
noncomputable def isD:S->Bool
 |.dic _=>true
 |_=>false
theorem Rel.mutDic{H:Hp}{e:List S}(r:Rel K Z G σ H e){kvs kvs':Dd}{a:Addr}(h:e[i]?=some (.dic kvs))(ha:σ[i]?=some (some (.ref a)))(ho:∀j s,j≠i->e[j]?=some s->isD s=false):Rel K Z G σ (upd H a (dO kvs')) (e.set i (.dic kvs')):=by
 obtain⟨a',h1,h2,h3,h4⟩:=r.dic h;rw[ha]at h1;cases h1;have hi:i<e.length:=(w0a.mp h).1;refine⟨fun c o z=>?_,fun j s z=>?_,by simpa using r.len,fun j k b1 b2 w1 w2 c z1 z2 z3 z4=>?_,fun c o z n=>?_,fun c z=>?_,r.gen⟩
 ·rw[q0f (q0r z h3)];exact r.sub c o z
 ·by_cases hj:j=i
  ·subst hj;rw[w0h hi]at z;cases z;exact⟨a,by rw[ha];rfl,q0o,h3,h4⟩
  ·rw[w0f (fun z=>hj z.symm)]at z
   have y:=r.slot j s z;cases s with
   |no=>trivial
   |fr w=>exact y
   |own b2 w2=>
    obtain⟨c,ys,y1,y2,y3,y4,y5⟩:=y;refine⟨c,ys,y1,?_,y3,y4,y5⟩;rw[q0f (q00 y2 h2 (fun z=>q3i rfl z.symm))];exact y2
   |dic kv=>have:=ho j _ hj z;cases this
   |thr us w2 vs=>
    obtain⟨t,l,o,xs2,ys,zs,y1,y2,y3,y4,y5,y6⟩:=y;refine⟨t,l,o,xs2,ys,zs,y1,y2,?_,y4,y5,y6⟩;rw[q0f (q00 y3 h2 (fun z=>q3i rfl z.symm))];exact y3
   |nest wss=>exact NestOk.move y (.refl _) fun l o ys k1 k2 k3=>⟨by rw[q0f (q00 k1 h2 (fun z=>q3i rfl z.symm))];exact k1,k2,k3⟩
   |x k=>exact XOk.move y (.refl _) fun l o ys k1 k2 k3=>⟨by rw[q0f (q00 k1 h2 (fun z=>q3i rfl z.symm))];exact k1,k2,k3⟩
   |dw sh ks ws=>exact DwOk.move y (.refl _) fun l o ys k1 k2 k3=>⟨by rw[q0f (q00 k1 h2 (fun z=>q3i rfl z.symm))];exact k1,k2,k3⟩
 ·have old:∀(k:Nat)(bb:Option Nat)(ww:List W),(e.set i (S.dic kvs'))[k]?=some (.own bb ww)->e[k]?=some (.own bb ww):=fun k bb ww z=>by
   by_cases hk:k=i
   ·subst hk;rw[w0h hi]at z;cases z
   ·rw[w0f (fun z=>hk z.symm)]at z;exact z
  exact r.dis _ _ _ _ _ _ _ (old _ _ _ z1) (old _ _ _ z2) z3 z4
 ·rw[q0f (q0r z h4)];exact r.ent c o z n
 ·by_cases hc:c=a
  ·subst hc;rw[q0o];exact fun z=>nomatch z
  ·rw[q0f hc];exact r.ion c z
noncomputable def dSetD(i:Nat):List S->SR:=fun e=>.nx (e.set i (.dic (.k [])))
theorem y6o(i:Nat){pos' dpos:Pos}(hN:X.N.Nodup)(hi:X.N[i]?=some x:=by rfl)(hx:Loc X.env.scope x:=by walk_at "3")(hs:swapsWith (.Dict [] [] dpos) (some (.Name x pos')) pos.line X.env=pure false:=by rfl)(hf:X.fn x=true\/X.env.scope.names.lookup x=some .local:=by walk_at "2"):
  DS Z X EE (.Assign [.Name x pos'] (.Dict [] [] dpos) pos) (dSetD i):=by
 refine PS.mono (x7a i hN y2r hi hx hs hf) ?_;rintro D σ H ⟨G,e,rel,h⟩;intro q hq;have g:=Grow.hid rel.sub hq (.dK []);exact h G _ _ ((rel.grow g).setDic (kvs:=.k []) q0o (rel.sub.free hq) (q61 rel hq)) (.refl _)
noncomputable def dRetD(i:Nat):List S->SR:=fun e=>match e[i]? with
 |some (.dic d)=>.rt (.dic d) e
 |_=>.no
theorem y6p(i:Nat)(hN:X.N[i]?=some x:=by rfl)(hv:Vis X.env.scope x:=by walk_at "1")(hd:(x==("__debug__":Str))=false:=by decide)
  (hcd:(x==("__classdict__":Str))=false:=by decide):DS Z X EE (.Return (some (.Name x p)) pos) (dRetD i):=by
 refine PS.mono (x3v (pv i hN hv hd hcd)) ?_;rintro D σ H ⟨G,e,rel,h⟩;unfold dRetD at h;split at h
 ·rename_i kvs hw;obtain⟨a,h1,h2,h3,h4⟩:=rel.dic hw;exact⟨.ref a,h1,h G σ _ H rel (.refl _) ⟨a,rfl,h2,h3,h4⟩⟩
 ·exact h.elim
noncomputable def onlyD(i:Nat)(e:List S):Bool:=(List.range e.length).all fun j=>decide (j=i)||!((e[j]?.map isD).getD false)
theorem y6q{e:List S}(h:onlyD i e=true):∀j s,j≠i->e[j]?=some s->isD s=false:=fun j s hj hs=>by
 have hl:j<e.length:=(w0a.mp hs).1;have:=w1g.mp h j (w1d.mpr hl);rw[hs]at this
 simpa [hj]using this
noncomputable def putDC(i:Nat)(w kw:W)(e:List S):Option S->SR
 |some (.dic (.k kvs))=>match svW w,keyW kw with
  |some v,some x=>if kvs.length<16777216/\onlyD i e=true then .nx (e.set i (.dic (.k (putL kvs x v))))else .no
  |_,_=>.no
 |_=>.no
noncomputable def dPutD(i:Nat)(d dk:Den W):List S->SR:=fun e=>(d e).stm fun w e1=>match e1[i]? with
 |some (.dic _)=>(dk e1).stm fun kw e2=>putDC i w kw e2 e2[i]?
 |_=>.no
theorem y6r(i:Nat)(hu:X.A.units+150<cLine)(he:DE Z X EE e d)(hk:DE Z X EE k dk)(hN:X.N[i]?=some x:=by rfl)(hv:Vis X.env.scope x:=by walk_at "1")(hd:(x==("__debug__":Str))=false:=by decide)(hcd:(x==("__classdict__":Str))=false:=by decide)
  (hs:swapsWith e (some (.Subscript (.Name x p) k tpos)) pos.line X.env=pure false:=by rfl):DS Z X EE (.Assign [.Subscript (.Name x p) k tpos] e pos) (dPutD i d dk):=by
 refine PS.mono (y6n (by omega) (pv i hN hv hd hcd) hk he hs) ?_;rintro D σ H ⟨G,e,rel,h⟩;refine⟨G,e,rel,(q1b h).imp (fun w e1 h G1 v1 H1 r1 s1 p1=>?_) fun _ _ h=>h⟩
 split at h
 ·rename_i kv0 he0;obtain⟨a,q1,q2,q3,q4⟩:=r1.dic he0;refine⟨.ref a,q1,G1,e1,r1,(q1b (σ:=σ) h).imp (fun kw e2 h G2 v2 H2 r2 s2 p2=>?_) fun _ _ h G' H' r s=>h G' H' r (s1.trans s)⟩
  unfold putDC at h;split at h
  ·rename_i kvs he2;obtain⟨a',g1,g2,g3,g4⟩:=r2.dic he2;rw[q1]at g1;cases g1;split at h
   ·rename_i v t hv1 hk1;split at h
    ·rename_i hc;cases z1o p1 hv1;cases x1p p2 hk1;refine⟨a,_,rfl,DPut.k (k:=t) g2 (by rw[sizeLine_eq];unfold kvV;rw[w0r];exact hc.1),?_⟩;rw[z1n];exact h G2 σ _ (r2.mutDic (kvs':=.k (putL kvs t v)) he2 q1 (y6q hc.2)) (s1.trans s2)
    ·exact h.elim
   ·exact h.elim
  ·exact h.elim
 ·exact h.elim
end
noncomputable def lkB(kvs:List (Key×Sv))(k:Key):Option Bool:=match lk kvs k with
 |some (.inr b)=>some b
 |_=>none
noncomputable def keysB(kvs l:List (Key×Sv)):List Key:=(l.filter fun p=>lkB kvs p.1==some true).map (·.1)
noncomputable def kW:Key->W
 |.inl i=>.int i
 |.inr x=>.str x
noncomputable def keysC(e:List S):Option S->R (List W)
 |some (.dic (.k kvs))=>if kvs.length<16777216/\(kvs.all fun p=>(lkB kvs p.1).isSome)=true then .ok ((keysB kvs kvs).map kW) e else .no
 |_=>.no
section
variable{kw:W}{kvs:List (Key×Sv)}
theorem y6s:keysC e (some (.dic (.k kvs)))=if kvs.length<16777216/\(kvs.all fun p=>(lkB kvs p.1).isSome)=true then .ok ((keysB kvs kvs).map kW) e else .no:=rfl
theorem y6t:dSetD i e=.nx (e.set i (.dic (.k []))):=rfl
noncomputable def putD0(i:Nat)(dk:Den W)(w:W)(e1:List S):Option S->SR
 |some (.dic _)=>(dk e1).stm fun kw e2=>putDC i w kw e2 e2[i]?
 |_=>.no
theorem y6u{d:Den W}:dPutD i d dk e=(d e).stm fun w e1=>putD0 i dk w e1 e1[i]?:=by
 unfold dPutD putD0;rfl
theorem y6v{dd:Dd}:putD0 i dk w e (some (.dic dd))=(dk e).stm fun kw e2=>putDC i w kw e2 e2[i]?:=rfl
theorem y2s{b:Bool}{n:Int}:putDC i (.bl b) (.int n) e (some (.dic (.k kvs)))=if kvs.length<16777216/\onlyD i e=true then .nx (e.set i (.dic (.k (putL kvs (.inl n) (.inr b)))))else .no:=rfl
theorem y2t{dd:Dd}:hide1 (.dic dd)=.fr (.dic dd):=rfl
theorem z4b{n:Int}:ixD (.dic (.k kvs)) (.int n)=(lk kvs (.inl n)).map wSv:=rfl
end
end D
namespace L2
open PySem PySem.Spec PyProof.Rows
end L2
namespace D
open PySem L2
end D
namespace L2
open PySem PySem.Spec PyProof.Rows
section
open HT
variable{prog:Program}{w:World}{A:Around}{E:Value->Shared->Prop}{s:Shared}
theorem q8f{t sl:Addr}{items:Array Value}{vl vu:Value}{lo hi:Option Int}{Q:Value->Shared->Prop}(ht:IsTup s.heap t items)(hs:s.heap.IsSliceOf sl vl vu .none)(pl:IsPart vl lo)(pu:IsPart vu hi)
  (hw:sIx items.size 0 lo=0/\sIx items.size items.size hi=items.size)(h:Q (.ref t) s):wpAny (model prog w) A (getItem (.ref t) (.ref sl)) Q E s:=by
 obtain⟨os,hos,hcs,hds⟩:=id hs;have hTs:s.TypeIs (.ref sl) "slice":=⟨os,hos,hcs⟩;unfold getItem;try with_reducible refine wpAny_holding ?_
 first|refine wpAny_bind (wpAny_pure ?_)|skip
 refine wpAny_bind (wpAny_sequenceKey ht.typeIs (by decide) ?_)
 refine wpAny_bind (wpAny_callSpecial?_slot (name:=Str.ofString "__getitem__") ht.typeIs PyProof.Rows.slot_tuple_getitem
  (wpAny_call_entry PyProof.Rows.slot_tuple_getitem ht.typeIs entry_tuple_getitem ?_ (args_tuple_getitem _ _)))
 show wpAny _ _ (Builtin.Tuple.tupleItemsOf (.ref t) >>= _) _ _ s;refine wpAny_bind (tupleItemsOf_ ht ?_);refine wpAny_bind (wpAny_typeOf hTs ?_);rw[if_pos (by decide)];refine wpAny_bind (q6d hs pl pu ?_);show wpAny _ _ (if(((sIx items.size 0 lo:Nat):Int)==0&&(1:Int)==1&&(sIx items.size items.size hi-sIx items.size 0 lo)==items.size)=true then _ else _) _ _ s;rw[if_pos (by rw[hw.1,hw.2];simp)];refine wpAny_bind (wpAny_bind (wpAny_typeOf ht.typeIs (wpAny_pure ?_)));rw[if_pos (by decide)];exact wpAny_bind (wpAny_rule (wpAny_pure ⟨_,rfl,wpAny_pure h⟩))
end
variable{X:Cx}
theorem y6w:SlR X (fun x lo hi H Q=>∃a xs,x=.ref a/\SqT X.K H a xs/\(HT.sIx xs.length 0 lo=0/\HT.sIx xs.length xs.length hi=xs.length)/\Q x H):=by
 intro pins s σ H x v vl vu lo hi sl Q I rx hs pl pu h;obtain⟨a,xs,rfl,hx,hw,q⟩:=h;cases rx;obtain⟨its,r,ht,hz⟩:=I.tuple hx;have hlen:its.toArray.size=xs.length:=by rw[w0c];exact r.length.symm
 refine⟨"tuple", _,PyProof.Rows.slot_tuple_getitem.lookup,ht.typeIs,?_⟩;exact q8f ht hs pl pu (by rw[hlen];exact hw) ⟨.ref a,H,I,rfl,q⟩
def rSlS:V->Option Int->Option Int->Hp->VK->Prop:=fun x lo hi H Q=>∃z,x=.str z/\z.length<=sizeLine/\Q (.str (Txt.slice z lo hi)) H
theorem x6l{v:Value}{o:Option Int}(p:IsPart v o):∃q:Option (Int×Tok),v=partValue q/\q.map (·.1)=o:=by
 cases p with
 |none=>exact⟨none,rfl,rfl⟩
 |int i t=>exact⟨some (i,t),rfl,rfl⟩
theorem z1t:SlR X rSlS:=by
 intro pins s σ H x v vl vu lo hi sl Q I rx hs pl pu h;obtain⟨z,rfl,hz,q⟩:=h;obtain⟨t,rfl⟩:=rx;obtain⟨ql,rfl,e1⟩:=x6l pl;obtain⟨qu,rfl,e2⟩:=x6l pu;refine⟨"str", _,F.slot_str_getitem.lookup,typeIs_str _ _ _,?_⟩;refine wpAny_getItem_str_slice (l:=ql) (u:=qu) (st:=none) hs rfl ?_
 have e3:sliceMade z t ql qu none=if((1:Int)==1&&(Builtin.Str.strSliceIndices lo hi 1 z.length).length==z.length)=true then .val (.str z t)else .str ⟨((Builtin.Str.strSliceIndices lo hi 1 z.length).filterMap (z.cps[·]?)).toArray⟩:=by
  unfold sliceMade slicePicked;rw[e1,e2];rfl
 rw[e3];have hq:Q (.str (Txt.slice z lo hi)) H:=q;have hl:=Txt.slice_le z lo hi;unfold Txt.slice at hq hl;split
 ·rename_i c;rw[if_pos c]at hq;exact⟨.str z,H,I,⟨t,rfl⟩,hq⟩
 ·rename_i c;rw[if_neg c]at hq hl;exact⟨w0o hl hz,.str _,H,I.tok _,⟨_,rfl⟩,hq⟩
noncomputable def signs(x:Str):List V:=x.cps.toList.map fun c=>V.str ⟨#[c]⟩
noncomputable def Itx(x:Str):It:=⟨fun i _=>i<x.cps.size,fun i H v H'=>H'=H/\(signs x)[i]?=some v,fun i _=>x.cps.size<=i⟩
theorem y2u{P:Program}{w:World}{K:PySem.W.Frag}{tg:Expr}{T:String}(x:Str)(t:Tok)(it:Addr)(hT:T="str_ascii_iterator"\/T="str_iterator"):Turn P w K tg (Itx x) [it] it (fun i h=>h.IsStrIter it T x t i) where
 mem:=by simp
 obj:=fun i h st b hb=>by
  have e:b=it:=by simpa using hb
  subst e;obtain⟨o,e,c,d⟩:=st;exact⟨o,e,fun v z=>by rw[d]at z;cases z⟩
 keep:=fun i h h' st k=>by
  obtain⟨o,e,c,d⟩:=st;exact⟨o,k it (by simp) o e,c,d⟩
 item:=by
  intro X hP hw hK hc i pins s σ H E I hf st hg;subst hP hw hK;have hg:i<x.cps.size:=hg;obtain⟨f0,f1,f2,f3,f4,f5⟩:=hf it (by simp)
  have fin:∀v h' tk,SignAt x i v->h'.IsStrIter it T x t (i+1)->(∀b o,b∉[it]->s.heap.get? b=some o->h'.get? b=some o)->∃u,some v=some u /\
    wpAny (model X.prog X.w) X.A (letOwnedTupleGo tg (.ref it) u) (fun _ s2=>∃y H',Inv X pins σ H' s2/\RelV y u/\(Itx x).yld i H y H'/\s2.heap.IsStrIter it T x t (i+1)/\∀b∈[it],H' b=none) E {s with heap:=h',toks:=tk}:=by
   intro v h' tk hv st' kk;obtain⟨c,u,hcx,rfl⟩:=hv;have I1:Inv X pins σ H {s with heap:=h',toks:=tk}:=I.turned (fun b o hb e=>kk b o (by simpa using hb) e) f0 f1 f3 f4 f5
   obtain⟨o,e,cc,d⟩:=id st';refine⟨_,rfl,x3m (s:={s with heap:=h',toks:=tk}) e cc d (by rcases hT with rfl|rfl<;>decide) ⟨.str ⟨#[c]⟩,H,I1,⟨u,rfl⟩,⟨rfl,?_⟩,st',fun b hb=>(hf b hb).1⟩⟩
   unfold signs;rw[w0v,w3s,hcx];rfl
  rcases hT with rfl|rfl
  ·exact(Walks.strAscii (prog:=X.prog) (w:=X.w) (I.ok.hd hc) it x t).item i s _ _ hg st fin
  ·exact(Walks.strWide (prog:=X.prog) (w:=X.w) (I.ok.hd hc) it x t).item i s _ _ hg st fin
 done:=by
  intro X hP hw hK hc i pins s σ H E I hf st hg;subst hP hw hK;have hg:x.cps.size<=i:=hg;obtain⟨f0,f1,f2,f3,f4,f5⟩:=hf it (by simp);rcases hT with rfl|rfl
  ·exact wpAny_pyNext_ascii_end (I.ok.hd hc) st (by simp;omega) fun h' eb=>⟨rfl,I.turned (t':=s.toks) (fun b o hb e=>eb b o hb e) f0 f1 f3 f4 f5⟩
  ·exact wpAny_pyNext_wide_end (I.ok.hd hc) st (by simp;omega) fun h' eb=>⟨rfl,I.turned (t':=s.toks) (fun b o hb e=>eb b o hb e) f0 f1 f3 f4 f5⟩
 self:=fun A i s Q E st h=>by
  rcases hT with rfl|rfl
  ·exact wpAny_pyIter_striter_ascii st h
  ·exact wpAny_pyIter_striter_wide st h
def iStr(tl:TE):TI:=fun σ H R=>tl σ H fun x H1=>∃z,x=.str z/\R (Itx z) H1
theorem y0c{tg l:Expr}{tl:TE}(hl:PE X l tl):PI X tg l (iStr tl):=by
 intro pins s σ H R I h;refine thn (hl pins s σ H _ I h) fun v s1 ⟨x,H1,I1,r1,q1⟩=>?_
 obtain⟨z,e,q⟩:=q1;subst e;obtain⟨t,rfl⟩:=r1;refine wpAny_pyIter_strU ?_;refine⟨s1.heap.objs.size,[s1.heap.objs.size],_,_,H1,rfl,I1.kept (t':=s1.toks) fun b o e=>Heap.get?_push_of_some _ e,y2u (T:=strIterType z) z t _ ?_,⟨_,Heap.get?_push_size _ rfl,rfl,rfl⟩,fun b hb=>?_,q⟩
 ·unfold strIterType;split
  ·exact .inl rfl
  ·exact .inr rfl
 ·have e:b=s1.heap.objs.size:=by simpa using hb
  subst e;exact I1.fpOk (w0e _) (I1.hok.fresh (w0e _))
theorem y6x{e:Expr}{es:List Expr}{te:TE}{t:TF}{pos:Pos}(he:PE X e te)(r:PF X es t):PF X (.FormattedValue e 114 none pos::es) (fun acc σ H Q=>te σ H fun v H1=>∃z,v=.str z/\(reprText z).length<=sizeLine/\(acc++reprText z).length<=sizeLine/\t (acc++reprText z) σ H1 Q):=by
 intro acc pins s σ H Q I h;show wpAny _ _ (eval (.FormattedValue e 114 none pos) X.env) _ _ s;refine wpAny_FormattedValue_repr (thn (he pins s σ H _ I h) fun u s1 ⟨v,H1,I1,rv,z,hz,h1,h2,q⟩=>?_)
 subst hz;obtain⟨tk,rfl⟩:=rv;refine wpAny_pyReprObj_str ?_ h1;exact wpAny_formatField_str ⟨_,_,rfl,h2,r _ pins _ σ H1 Q (I1.tok _) q⟩ ⟨_,_,rfl,h2,r _ pins _ σ H1 Q (I1.tok _) q⟩ h1
end L2
namespace D
open PySem L2
variable{X:Cx}{dA:Den (List W)}{d:Den W}{G H:Hp}{elts es:List Expr}{e:List S}{N ps:List Str}{ws:List W}{F:List W->FR}{i:Nat}{p pos:Pos}{P prog:Program}{K:PySem.W.Frag}{EE:St->XK}{x z:Str}{w:World}{Z:Zt}
noncomputable def slX:W->Option Int->Option Int->Option W
 |.str z,lo,hi=>if z.length<=16777216 then some (.str (Txt.slice z lo hi))else none
 |.tup ws,lo,hi=>if ¬(HT.sIx ws.length 0 lo=0/\HT.sIx ws.length ws.length hi=ws.length)then some (.tup (cutW ws lo hi))else some (.tup ws)
 |w,lo,hi=>slW w lo hi
noncomputable def dSlX(d:Den W)(dl dh:Den (Option Int)):Den W:=fun e=>(d e).bind fun w e1=>(dl e1).bind fun lo e2=>(dh e2).bind fun hi e3=>ofOpt (slX w lo hi) e3
section
variable{e a b:Expr}{da db:Den W}
theorem q38{lo hi:Option Expr}{dl dh:Den (Option Int)}{p2:Pos}(he:DE Z X EE e da)(hl:DO Z X EE lo dl)(hh:DO Z X EE hi dh):DE Z X EE (.Subscript e (.Slice lo hi none p2) pos) (dSlX da dl dh):=by
 refine PE.mono (y1j (((sl_list.or y8x).or y6w).or z1t) he hl hh) ?_;rintro σ H Q ⟨G,e,rel,h⟩;simp only[dSlX,R.holds_bind,ofOpt_holds]at h;refine⟨G,e,rel,h.imp (fun w e1 h G1 v1 H1 r1 s1 p1=>?_) fun _ _ h=>h⟩
 refine⟨G1,e1,r1,h.imp (fun lo e2 h G2 H2 r2 s2=>?_) fun _ _ h=>XH.trans s1 h⟩
 refine⟨G2,e2,r2,h.imp (fun hi e3 h G3 H3 r3 s3=>?_) fun _ _ h=>XH.trans (s1.trans s2) h⟩
 obtain⟨y,hf,h⟩:=h;have p3:=Rep.mono (s2.trans s3) w p1;have s03:=(s1.trans s2).trans s3;cases w with
 |str z=>
  simp only[slX]at hf;split at hf
  ·rename_i hz;cases hf;cases p3;exact .inr ⟨z,rfl,by rw[sizeLine_eq];exact hz,h _ _ _ r3 s03 rfl⟩
  ·cases hf
 |lst ws=>
  cases hf;obtain⟨a,xs,rfl,q,r⟩:=p3;refine .inl (.inl (.inl ⟨a,xs,rfl,r3.sub.seq q,fun p hp=>?_⟩))
  have g:=Grow.laid r3.sub hp (.lst (cutV xs lo hi));exact h _ _ _ (r3.grow g) (s03.trans g.gg) ⟨p,_,rfl,SqL.of q0o,Reps.mono g.gg _ (r.cut lo hi)⟩
 |tup ws=>
  simp only[slX]at hf;obtain⟨a,xs,rfl,q,r⟩:=p3;split at hf
  ·rename_i hw;cases hf;refine .inl (.inl (.inr ⟨a,xs,rfl,r3.sub.tup q,by rw[r.length];exact hw,fun p hp=>?_⟩))
   have g:=Grow.laid r3.sub hp (.tup (cutV xs lo hi));exact h _ _ _ (r3.grow g) (s03.trans g.gg) ⟨p,_,rfl,SqT.of q0o,Reps.mono g.gg _ (r.cut lo hi)⟩
  ·rename_i hw;cases hf;exact .inl (.inr ⟨a,xs,rfl,r3.sub.tup q,by rw[r.length];exact Decidable.not_not.mp hw,h _ _ _ r3 s03 ⟨a,xs,rfl,q,r⟩⟩)
 |_=>cases hf
noncomputable def inS:W->W->Option W
 |.str i,.str j=>match i.cps.toList with
  |[c]=>some (.bl (decide (c∈j.cps.toList)))
  |_=>none
 |_,_=>none
noncomputable def reprK:W->Option Str
 |.str z=>if(reprText z).length<=1000000 then some (reprText z)else none
 |_=>none
noncomputable def fRepr(d:Den W)(r:Den Str):Den Str:=fun e=>(d e).bind fun w e1=>match reprK w with
 |some x=>(r e1).bind fun y e2=>.ok (x++y) e2
 |none=>.no
theorem y6y{d:Den Str}{n:Nat}(he:DE Z X EE e da)(r:DFm Z X EE n es d):DFm Z X EE (n+1) (.FormattedValue e 114 none pos::es) (fRepr da d):=by
 refine PF.mono (y6x he r) ?_;rintro acc σ H Q ⟨hl,G,e,rel,h⟩;simp only[fRepr,R.holds_bind]at h;refine⟨G,e,rel,h.imp (fun w e1 h G1 v1 H1 r1 s1 p1=>?_) fun _ _ h=>h⟩
 split at h
 ·rename_i x hx;unfold reprK at hx;split at hx
  ·split at hx
   ·rename_i z hz;cases hx;cases p1;have e1':(acc++reprText z).length=acc.length+(reprText z).length:=PySem.Str.length_append _ _;refine⟨z,rfl,by rw[sizeLine_eq];omega,by rw[e1',sizeLine_eq];omega,by omega,G1,e1,r1,(R.holds_bind.mp h).imp (fun y e2 h G2 H2 r2 s2=>?_) fun _ _ h=>XH.trans s1 h⟩
    have z:=h G2 H2 r2 (s1.trans s2)
    rwa [q52]at z
   ·cases hx
  ·cases hx
 ·exact h.elim
end
noncomputable def signsW(x:Str):List W:=x.cps.toList.map fun c=>W.str ⟨#[c]⟩
noncomputable def dCompS(js:List Nat)(di:Den W)(c:Den Bool)(d:Den W):Den (List W):=fun e=>(di e).bind fun w e1=>match w with
 |.str z=>compK js c d (signsW z) e1
 |_=>.no
section
variable{elt iter a:Expr}{ifs:List Expr}{scope sc:Scope}{pt:Pos}{Nf:List Str}{js:List Nat}{di:Den W}{c:Den Bool}{kt:Nat}
theorem y0d:Walk (Itx z) (signs z) (fun _=>True):=by
 refine⟨fun i H q h=>show i<z.cps.size by simpa [signs]using h,fun i H x H' q ⟨e,y⟩ h=>⟨e,y⟩,fun i H q h=>show z.cps.size<=i by simpa [signs]using h⟩
theorem q7w:∀(l:List Nat),Reps K G (l.map fun c=>W.str ⟨#[c]⟩) (l.map fun c=>V.str ⟨#[c]⟩)
 |[]=>rfl
 |c::l=>⟨_,_,rfl,rfl,q7w l⟩
theorem x7q:∀σ H Q,liftF K Z EE (dCompS js di c d) σ H Q->tComp (iStr (liftE K Z EE di)) 1 js (gName 0) (cT K c) (cE K d) σ H Q:=by
 rintro σ H Q ⟨G,e,rel,h⟩;simp only[dCompS,R.holds_bind]at h;refine⟨G,e,rel,h.imp (fun w e1 h G1 v1 H1 r1 s1 p1=>?_) fun _ _ h=>h⟩
 split at h
 ·rename_i z;cases p1;refine⟨z,rfl,?_⟩;unfold compK at h;split at h
  ·rename_i hl;split at h
   ·rename_i out ho;obtain⟨G2,s2,r2⟩:=r1.frzs js;exact q63 y0d r2 (s1.trans s2) (q7w _) (fun _ _ _ _=>trivial) hl (ionone r2) ho h
   ·exact h.elim
  ·exact h.elim
 ·exact h.elim
theorem y2v(hc:X.calm=true)(hi:DE Z X EE iter di)(ok:compOk sc scope N Nf js=true)
  (ht:∀Z' cl C s₀ H₀ ex,DTs Z' (X.cp ([x]++Nf) scope cl C s₀ H₀ ex) (fun _=>E0) ifs c)(he:∀Z' cl C s₀ H₀ ex,DE Z' (X.cp ([x]++Nf) scope cl C s₀ H₀ ex) (fun _=>E0) elt d)
  (hg:∀cl C s₀ H₀ ex,PG (X.cp ([x]++Nf) scope cl C s₀ H₀ ex) (.Name x pt) (gName 0))
  (hsc:X.env.scope=sc:=by rfl)(hN:X.N=N:=by rfl)(hs:∀x,foldedSetIterable iter X.env x=pure x:=by intro _;rfl):
  DF Z X EE (.ListComp elt [⟨.Name x pt,iter,ifs,0⟩] scope pos) (dCompS js di c d):=by
 exact PE.mono (q7n (Nl:=[x]) (tc:=cT X.K c) (te:=cE X.K d) hc (y0c hi) ok hg (q9g ht) (q9h he) hsc hN hs) x7q
theorem x5o{A:Around}(hh:A.handled=none)(it l:Addr)(hne:l≠it)(items:Array Value):
  Draws prog w A it [it,l] items.size (fun i v=>items[i]?=some v) (fun i h=>h.IsTupleIter it l i/\h.IsTuple l items) where
 live:=fun _ _ st=>let ⟨o,ho,_⟩:=st.1;⟨o,ho⟩
 frame:=fun _ _ _ st hk=>⟨st.1.at fun o e=>hk it (by simp) o e,st.2.at fun o e=>hk l (by simp) o e⟩
 item:=fun i s Q E hi st hQ=>by
  refine x4m st.1 st.2 (x:=items[i]) (by simp[hi]) fun h' hit' hs'=>?_
  exact hQ _ h' s.toks (by simp[hi]) ⟨hit',st.2.extBut hs'.extBut hne⟩ hs'
 done:=fun s Q E st hE=>q9u hh st.1 st.2 (by simp) hE
theorem y0e{A:Around}(hh:A.handled=none)(it l:Addr)(items:Array Value)(i:Nat)(hx:items[i]?=none):
  Draws prog w A it [it,l] i (fun _ _=>False) (fun j h=>j=i/\h.IsTupleIter it l j/\h.IsTuple l items) where
 live:=fun _ _ st=>let ⟨o,ho,_⟩:=st.2.1;⟨o,ho⟩
 frame:=fun _ _ _ st hk=>⟨st.1,st.2.1.at fun o e=>hk it (by simp) o e,st.2.2.at fun o e=>hk l (by simp) o e⟩
 item:=fun j s Q E hi st hQ=>absurd st.1 (w0p hi)
 done:=fun s Q E st hE=>q9u hh st.2.1 st.2.2 hx hE
noncomputable def srcET(dA:Den (List W)):Den (List (W×W)):=fun e=>(dA e).bind fun ws e1=>match ws with
 |[.tup us]=>.ok (enumL 0 us) e1
 |_=>.no
noncomputable def IteT(K:PySem.W.Frag)(a:Addr):It:=
 ⟨fun i H=>∃xs x,SqT K H a xs/\xs[i]?=some x,fun i H x H'=>∃b y,x=.ref b/\H b=none/\(∀xs,SqT K H a xs->xs[i]?=some y)/\H'=upd H b (.tup [.int i,y]),fun i H=>∃xs,SqT K H a xs/\xs.length<=i⟩
section
open AutoSeq1 (wpAny_loadPart')
theorem q7x(l:Addr)(items:Array Value)(n:Nat)(dct:Option Addr)(sl:Array (Option Value)):
  Meets (Builtin.«enumerate.__new__» ⟨[.type "enumerate", .ref l],[]⟩) (fun _ R s=>s.heap.get? l=some {cls:=.type "tuple", dict:=dct,data:=.seq items n,slots:=sl} /\
   R (.ok (.ret (.ref (s.heap.push {cls:=.type "tuple_iterator", data:=.fields #[.ref l,.int 0 0]}).objs.size)))
    {s with heap:=(s.heap.push {cls:=.type "tuple_iterator", data:=.fields #[.ref l,.int 0 0]}).push {cls:=.type "enumerate", data:=.fields #[.none,.bool false,.ref s.heap.objs.size,rawInt 0,.none,.none]}}):=
 .of_wp fun prog w A R s h=>by
  obtain⟨hp,g,d,tk,os⟩:=s;obtain⟨hl,h⟩:=h;have hsub:=sub_enumerate;have hL:Heap.IsTuple (Shared.heap ⟨hp,g,d,tk,os⟩) l items:=⟨_,hl,rfl,n,rfl⟩
  wp_walk using wpAny_loadPart' hl
  refine wpAny_stack_any fun st=>wpAny_pure ?_
  split
  ·rename_i c _ _ _ _ _;cases(c==Value.type "enumerate")
   ·wp_walk using wpAny_loadPart' hl,wpAny_pyIter_tuple hL
    exact⟨_,rfl,h⟩
   ·wp_walk using wpAny_loadPart' hl,wpAny_pyIter_tuple hL
    exact⟨_,rfl,h⟩
  ·wp_walk using wpAny_loadPart' hl,wpAny_pyIter_tuple hL
   exact⟨_,rfl,h⟩
end
theorem q7y{A:Around}{E:Value->Shared->Prop}{s:Shared}{l:Addr}{items:Array Value}{Q:Value->Shared->Prop}(hL:s.heap.IsTuple l items)
  (h:∀h',IsEnum h' (s.heap.objs.size+1) s.heap.objs.size 0 .none->h'.IsTupleIter s.heap.objs.size l 0->h'.objs.size=s.heap.objs.size+2 ->
   (∀b o,s.heap.get? b=some o->h'.get? b=some o)->Q (.ref (s.heap.objs.size+1)) {s with heap:=h'}):
  wpAny (model prog w) A (call (.type "enumerate") [.ref l]) Q E s:=by
 obtain⟨⟨c,dct,dt,sl⟩,hl,hc,n,hd⟩:=hL
 replace hc:c=.type "tuple":=hc
 replace hd:dt=.seq items n:=hd
 subst hc hd
 refine callType_new F.called_enumerate (by decide) (F.typeCall_enumerate_1 _) (F.newCall_enumerate_1 _) (fun obj=>F.args_object_init_2 obj _) F.entry_enumerate_new
  (q7x l items n dct sl) ⟨hl,?_⟩
 have hz:(s.heap.push {cls:=.type "tuple_iterator", data:=.fields #[.ref l,.int 0 0]}).objs.size=s.heap.objs.size+1:=Heap.size_push ..;show _/\_;rw[hz]
 have he:IsEnum ((s.heap.push {cls:=.type "tuple_iterator", data:=.fields #[.ref l,.int 0 0]}).push
   {cls:=.type "enumerate", data:=.fields #[.none,.bool false,.ref s.heap.objs.size,rawInt 0,.none,.none]}) (s.heap.objs.size+1) s.heap.objs.size 0 .none:=by
  have:=Heap.get?_push_size (s.heap.push {cls:=.type "tuple_iterator", data:=.fields #[.ref l,.int 0 0]})
   (o:={cls:=.type "enumerate", data:=.fields #[.none,.bool false,.ref s.heap.objs.size,rawInt 0,.none,.none]}) rfl
  rw[hz]at this;exact this
 refine⟨⟨_,he,rfl⟩,h _ he ⟨_,Heap.get?_push_of_some _ (Heap.get?_push_size _ rfl),rfl,rfl⟩ (by rw[Heap.size_push,hz]) fun b o x=>Heap.get?_push_of_some _ (Heap.get?_push_of_some _ x)⟩
theorem x7r(a e it:Addr)(hne:e≠it):Turn P w K (.Tuple elts kt pt) (IteT K a) [e,it] e (fun i h=>∃old,PySem.IsEnum h e it (i:Nat) old/\h.IsTupleIter it a i) where
 mem:=by simp
 obj:=fun i h ⟨old,st1,st2⟩ b hb=>by
  simp only[w0m,w1h,or_false]at hb;rcases hb with rfl|rfl
  ·exact⟨_,st1,fun v z=>by cases z⟩
  ·obtain⟨o,e,c,d⟩:=st2;exact⟨o,e,fun v z=>by rw[d]at z;cases z⟩
 keep:=fun i h h' ⟨old,st1,st2⟩ k=>⟨old,k e (by simp) _ st1,st2.at fun o e=>k it (by simp) o e⟩
 item:=by
  intro X hP hw hK hc i pins s σ H E I hf st hg;subst hP hw hK;obtain⟨old,st1,st2⟩:=st;obtain⟨xs,x,hq,hx⟩:=hg;obtain⟨its,rv,p,hz⟩:=I.tuple hq;obtain⟨u,hu,ru⟩:=rv.get hx
  have hli:a≠it:=fun z=>by
   obtain⟨o,e1,c1,_⟩:=st2;obtain⟨o',e2,c2,_⟩:=p;rw[z]at e2;rw[e1]at e2;cases e2;rw[c1]at c2;simp at c2
  have hea:e≠a:=fun z=>by
   obtain⟨o',e2,c2,_⟩:=p;rw[<- z]at e2;have e1:s.heap.get? e=some _:=st1;rw[e1]at e2;cases e2;simp at c2
  refine wpAny_pyNext_enum_itemD (x5o (A:=X.A.in1) (I.ok.hd hc) it a hli its.toArray) st1 ⟨st2,p⟩ (by simpa using (w0a.mp hu).1) hne (by simp[hne,hea]) fun u' h1 tk hu' heo hst1 ht1 hz1 hk1=>⟨_,rfl,?_⟩
  obtain rfl:u'=u:=Option.some.inj (by rw[<- hu',<- hu];simp);have hit1:=hst1.1;refine wpAny_letOwnedTupleGo_enum heo fun h2 he2 hs2=>?_
  have hs2:Heap.SameBut e h1 h2:=hs2;have hlt:e<s.heap.objs.size:=Heap.lt_size st1;have hfr:H s.heap.objs.size=none:=I.hok.fresh (w0e _);have ht2:h2.get? s.heap.objs.size=some {cls:=.type "tuple", data:=.seq #[.int i tk,u']}:=(hs2.2 _ (Nat.ne_of_gt hlt)).trans ht1;refine⟨.ref s.heap.objs.size,upd H s.heap.objs.size (.tup [.int i,x]),?_,rfl,⟨_,x,rfl,hfr,fun ys hy=>by rw[I.tuple_inj hy hq];exact hx,rfl⟩,⟨u',he2,?_⟩,fun b hb=>?_⟩
  ·show L2.Inv X pins σ _ {s with heap:=h2,toks:=tk+1};refine x9y (fp:=[e,it]) I (fun b o hb q=>?_) hf (w0e _) ⟨?_,[.int i tk,u'],.cons ⟨_,rfl⟩ (.cons ru .nil),⟨_,ht2,rfl,?_⟩,⟨_,ht2,rfl⟩⟩
   ·simp only[w0m,w1h,or_false,not_or]at hb;exact(hs2.2 b hb.1).trans (hk1 b o hb.1 hb.2 q)
   ·rw[sizeLine_eq];simp
   ·exact⟨_,rfl⟩
  ·exact hit1.at fun o q=>(hs2.2 it (Ne.symm hne)).trans q
  ·have:b≠s.heap.objs.size:=by
    obtain⟨o,q,_⟩:∃o,s.heap.get? b=some o/\True:=by
     simp only[w0m,w1h,or_false]at hb;rcases hb with rfl|rfl
     ·exact⟨_,st1,trivial⟩
     ·obtain⟨o,e,_⟩:=st2;exact⟨o,e,trivial⟩
    exact w0p (Heap.lt_size q)
   rw[q0f this];exact(hf b hb).1
 done:=by
  intro X hP hw hK hc i pins s σ H E I hf st hg;subst hP hw hK;obtain⟨old,st1,st2⟩:=st;obtain⟨xs,hq,hx⟩:=hg;obtain⟨its,rv,p,hz⟩:=I.tuple hq;obtain⟨f0,f1,f2,f3,f4,f5⟩:=hf it (by simp);have hl:=rv.length
  have hli:a≠it:=fun z=>by
   obtain⟨o,e1,c1,_⟩:=st2;obtain⟨o',e2,c2,_⟩:=p;rw[z]at e2;rw[e1]at e2;cases e2;rw[c1]at c2;simp at c2
  refine wpAny_pyNext_enum_endD (y0e (A:=X.A.in1) (I.ok.hd hc) it a its.toArray i (by simp;omega)) st1 ⟨rfl,st2,p⟩ fun h' eb=>⟨rfl,I.turned (t':=s.toks) (fun b o hb e=>eb b o hb e) f0 f1 f3 f4 f5⟩
 self:=fun _ _ _ _ _ ⟨old,st1,_⟩ h=>wpAny_pyIter_enum st1 h
def iEnumT(K:PySem.W.Frag)(ta:TA):TI:=fun σ H R=>ta σ H fun vs H1=>∃a,vs=[.ref a]/\(∃xs,SqT K H1 a xs)/\R (IteT K a) H1
theorem y2w{ta:TA}(hg:Gl X "enumerate")(hm:X.mg "enumerate"=none)(ha:PA X [a] ta)(hs:starEach [a] X.env=[(false,eval a X.env)]:=by rfl):PI X (.Tuple elts kt pt) (.Call (.Name "enumerate" p) [a] [] pos) (iEnumT X.K ta):=by
 intro pins s σ H R I h;refine PyProof.Rows.Call_ (q6z I hg hm PyProof.Rows.boot_enumerate (PyProof.Rows.callWith_type1 (thn (ha pos pins s σ H _ I h) fun us s1 ⟨vs,H1,I1,r1,q1⟩=>?_) hs rfl))
 obtain⟨l,e,⟨xs,hq⟩,q⟩:=q1;subst e;cases r1 with
 |cons r rr=>
  cases rr;cases r;obtain⟨its,rv,p,hz⟩:=I1.tuple hq;refine q7y p fun h' he hit hsz hk=>?_
  refine wpAny_pyIter_enum he ?_;refine⟨s1.heap.objs.size+1,[s1.heap.objs.size+1,s1.heap.objs.size],_,_,H1,rfl,I1.kept (t':=s1.toks) hk,x7r l _ _ (Nat.succ_ne_self _),⟨_,he,hit⟩,fun b hb=>?_,q⟩
  simp only[w0m,w1h,or_false]at hb;rcases hb with rfl|rfl
  ·exact I1.fpOk (by omega) (I1.hok.fresh (by omega))
  ·exact I1.fpOk (w0e _) (I1.hok.fresh (w0e _))
theorem x5p{G1:Hp}{b:Addr}{xs:List V}(rp:Reps K G1 ws xs)(hq:SqT K G1 b xs):Walk2 K G1 (IteT K b) (enumL 0 ws):=by
 have hx:=rp.length;have hl:=x2p 0 ws;refine⟨fun i G H s s' h=>⟨xs,xs[i]'(by omega),Same.tup s' (Same.tup s hq),by simp⟩,fun i G H x H' s s' hy u v h=>?_,fun i G H s s' h=>⟨xs,Same.tup s' (Same.tup s hq),by omega⟩⟩
 obtain⟨c,y,rfl,hn,hx',rfl⟩:=hy;obtain⟨hu,hv⟩:=x2q 0 ws i u v h;obtain⟨w,hw,pw⟩:=rp.getV (hx' xs (Same.tup s' (Same.tup s hq)));rw[hv]at hw;cases hw;refine⟨Grow.hid s' hn _,fun m n σ Q hQ=>⟨c,[.int i,y],rfl,SqT.of q0o,rfl,.int i,[y],rfl,y,[],rfl,rfl,hQ _ _ ?_ (Rep.mono s _ pw)⟩⟩
 rw[hu,w3i];exact rfl
theorem y2x(hm:X.mg "enumerate"=none)(ha:DA Z X EE [a] dA)(hg:Gl X "enumerate":=by rfl)(hs:starEach [a] X.env=[(false,eval a X.env)]:=by rfl):DI Z X EE (.Tuple elts kt pt) (.Call (.Name "enumerate" p) [a] [] pos) (srcET dA):=by
 refine PI.mono (y2w hg hm ha hs) ?_;rintro σ H RR ⟨G,e,rel,h⟩;simp only[srcET,R.holds_bind]at h;refine⟨G,e,rel,h.imp (fun ws e1 h G1 vs H1 r1 s1 p1=>?_) fun _ _ h=>h⟩
 split at h
 ·rename_i us;obtain⟨y,r,rfl,e1,e2⟩:=p1;cases(show r=[]from e2);obtain⟨b,xs,rfl,hq,rp⟩:=e1;exact⟨b,rfl,⟨xs,r1.sub.tup hq⟩,h _ _ _ r1 s1 (x5p rp hq)⟩
 ·exact h.elim
end
section
variable{lo hi:Option Int}{da db:Den W}{js:List Nat}{c:Den Bool}{kvs:List (Key×Sv)}{w kw:W}
theorem z1u{dl dh:Den (Option Int)}:dSlX d dl dh e=(d e).bind fun w e1=>(dl e1).bind fun lo e2=>(dh e2).bind fun hi e3=>ofOpt (slX w lo hi) e3:=rfl
theorem z4c:slX (.lst ws) lo hi=some (.lst (cutW ws lo hi)):=rfl
theorem x7s(h:z.length<=16777216):slX (.str z) lo hi=some (.str (Txt.slice z lo hi)):=if_pos h
theorem z4d{c:Nat}{j:Str}:inS (.str ⟨#[c]⟩) (.str j)=some (.bl (decide (c∈j.cps.toList))):=rfl
noncomputable def compSW(js:List Nat)(c:Den Bool)(d:Den W)(e1:List S):W->R (List W)
 |.str z=>compK js c d (signsW z) e1
 |_=>.no
theorem y2y:dCompS js da c d e=(da e).bind fun w e1=>compSW js c d e1 w:=by
 unfold dCompS;congr 1
theorem y2z:compSW js c d e (.str z)=compK js c d (signsW z) e:=rfl
noncomputable def srcETW(e1:List S):List W->R (List (W×W))
 |[.tup us]=>.ok (enumL 0 us) e1
 |_=>.no
theorem y6z:srcET dA e=(dA e).bind fun ws e1=>srcETW e1 ws:=by
 unfold srcET;congr 1
theorem y20:srcETW e [.tup ws]=.ok (enumL 0 ws) e:=rfl
noncomputable def fRepK(r:Den Str)(e1:List S):Option Str->R Str
 |some x=>(r e1).bind fun y e2=>.ok (x++y) e2
 |none=>.no
theorem y60{r:Den Str}:fRepr d r e=(d e).bind fun w e1=>fRepK r e1 (reprK w):=by
 unfold fRepr;congr 1
theorem x7t{r:Den Str}:fRepK r e (some x)=(r e).bind fun y e2=>.ok (x++y) e2:=rfl
theorem y61(h:(reprText z).length<=1000000):reprK (.str z)=some (reprText z):=if_pos h
theorem z4e:inD (.str x) (.dic (.k kvs))=some (.bl (lk kvs (.inr x)).isSome):=rfl
theorem z4f:ixD (.dic (.k kvs)) (.str x)=(lk kvs (.inr x)).map wSv:=rfl
theorem y21{n:Int}:putDC i (.int n) (.str x) e (some (.dic (.k kvs)))=if kvs.length<16777216/\onlyD i e=true then .nx (e.set i (.dic (.k (putL kvs (.inr x) (.inl n)))))else .no:=rfl
noncomputable def retDC(e:List S):Option S->SR
 |some (.dic d)=>.rt (.dic d) e
 |_=>.no
theorem y62:dRetD i e=retDC e e[i]?:=by
 rfl
theorem y63{dd:Dd}:retDC e (some (.dic dd))=.rt (.dic dd) e:=rfl
theorem z1v{k:Int}(h:0<=k/\k<=1000):repW (.lst [.str x]) (.int k)=some (.lst (List.replicate k.toNat (.str x))):=by
 rw[x93,if_pos ⟨q62 (by omega) (by omega),by simp;omega⟩];congr 2;generalize k.toNat=m
 induction m with
 |zero=>rfl
 |succ m ih=>rw[w0w,w1m,ih,w0w];rfl
end
theorem y64{d:Addr}{tb:List (Str×Int)}(e:PyProof.Rows.KTD.tabLook PyProof.Rows.KTD.flatLooks (fun b=>K.lookup b) d (tb.map fun p=>(p.1,PyData.int p.2))=true)
  (n:((tb.map fun p=>(p.1,PyData.int p.2)).map (·.1)).Nodup)(q:PyProof.Rows.KTD.hashesOf (fun b=>K.lookup b) d=(tb.map fun p=>(p.1,PyData.int p.2)).map fun p=>(PySem.strKind P w).hash p.1)
  (o:∃o,K.lookup d=some o/\o.cls=.type "dict" /\ o.dict=none):TabK P w K d tb:=by
 refine⟨fun h x=>?_,o⟩
 have z:=PySem.W.kt_tab_in P w x e n q;rw[w1k]at z;exact z
section
variable{e k:Expr}{dk:Den W}{tb:List (Str×Int)}
theorem q8u(T:∃d,X.mg x=some (.ref d)/\TabK X.prog X.w X.K d tb)(hk:DE Z X EE k dk)(hg:Gl X x:=by rfl)(hd:(x==("__debug__":Str))=false:=by decide)(hs:PlainIx k:=by intro _ _;rfl):
  DE Z X EE (.Subscript (.Name x p) k pos) (dUn (tabW tb) dk):=by
 obtain⟨d,hm,T⟩:=T;exact y2f T hm hk hg hd hs
theorem x7u{apos cpos:Pos}(T:∃d,X.mg x=some (.ref d)/\TabK X.prog X.w X.K d tb)(ha:DA Z X EE (e::es) dA)(hg:Gl X x:=by rfl)(hd:(x==("__debug__":Str))=false:=by decide)
  (hbase:attributeBase (.Name x p) "get" X.env (eval (.Name x p) X.env)=eval (.Name x p) X.env:=by rfl)
  (hfew:((backTo cpos (starEach (e::es) X.env)).all (fun x=>!x.1)&&(backToKw cpos (keywordEach [] X.env)).all (fun x=>x.1.isSome)&&decide ((e::es).length+([]:List Keyword).length+(if([]:List Keyword).isEmpty then 0 else 1)<30))=true:=by rfl)
  (hline:(apos.endLine==cpos.line)=true:=by rfl)(hs:starEach (e::es) X.env=(false,eval e X.env)::starEach es X.env:=by rfl)(hplain:(backTo cpos (starEach es X.env)).any (·.1)=false:=by rfl):
  DE Z X EE (.Call (.Attribute (.Name x p) "get" apos) (e::es) [] cpos) (dFn (tabGet tb) dA):=by
 obtain⟨d,hm,T⟩:=T;exact x9v T hm ha hg hd hbase hfew hline hs hplain
end
open PyProof.Rows (envOfC)
inductive MutAt(K:PySem.W.Frag)(G H:Hp)(vs:List V)(a1 a2:Addr)(ws1 ws2 ws:List W):Prop where
 |mk (xs1 xs2 us:List V) (h0:vs=.ref a1::.ref a2::us) (sg:Same G H) (ne:a1≠a2) (h1:H a1=some (.lst xs1)) (h2:H a2=some (.lst xs2)) (g1:G a1=none) (g2:G a2=none) (r1:Reps K G ws1 xs1) (r2:Reps K G ws2 xs2) (r:Reps K G ws us):MutAt K G H vs a1 a2 ws1 ws2 ws
structure MutOk(K:PySem.W.Frag)(G H G' H':Hp)(a1 a2:Addr)(o1 o2:List W):Prop where
 ent:∀a o,H a=some o->a≠a1->a≠a2->H' a=some o
 gg:Same G G'
 sub:Same G' H'
 new:∀a,H a≠none->G' a=G a
 l1:∃ys,H' a1=some (.lst ys)/\Reps K G' o1 ys
 l2:∃ys,H' a2=some (.lst ys)/\Reps K G' o2 ys
def mres(r:FR)(P:List W->List W->Prop):Prop:=match r with
 |.ok (.fr (.tup [.lst o1,.lst o2]))=>P o1 o2
 |_=>False
noncomputable def spM(K:PySem.W.Frag)(F:List W->FR):Sp:=fun vs H Q E=>∃G a1 a2 ws1 ws2 ws,MutAt K G H vs a1 a2 ws1 ws2 ws/\mres (F (.lst ws1::.lst ws2::ws)) fun o1 o2=>∀G' H',MutOk K G H G' H' a1 a2 o1 o2->Q .non H'
noncomputable def SR.fm:SR->FR
 |.nx (.own (some 0) o1::.own (some 1) o2::_)=>.ok (.fr (.tup [.lst o1,.lst o2]))
 |_=>.no
noncomputable def initM(n:Nat):List W->List S
 |.lst ws1::.lst ws2::ws=>.own (some 0) ws1::.own (some 1) ws2::(ws.map .fr++List.replicate (n-2-ws.length) .no)
 |_=>[]
theorem x1q{r:FR}{P:List W->List W->Prop}(h:mres r P):r≠.no:=fun z=>by rw[z]at h;exact h
theorem y0f{y:Str}{a1 a2:Addr}{ws1 ws2:List W}{vs:List V}(m:MutAt K G H vs a1 a2 ws1 ws2 ws):Rel K ⟨H,G,[a1,a2]⟩ G (L2.start (x::y::N) vs) H (initM (x::y::N).length (.lst ws1::.lst ws2::ws)):=by
 obtain⟨xs1,xs2,us,rfl,s,ne,h1,h2,g1,g2,r1,r2,r⟩:=m;have hl:=r.length;have hk:(x::y::N).length-2-ws.length=N.length-ws.length:=by simp
 have hst:L2.start (x::y::N) (.ref a1::.ref a2::us)=some (.ref a1)::some (.ref a2)::(us.map some++List.replicate (N.length-us.length) none):=by
  unfold L2.start;simp
 have hin:initM (x::y::N).length (.lst ws1::.lst ws2::ws)=.own (some 0) ws1::.own (some 1) ws2::(ws.map .fr++List.replicate (N.length-ws.length) .no):=by
  show S.own (some 0) ws1::S.own (some 1) ws2::(ws.map S.fr++List.replicate ((x::y::N).length-2-ws.length) S.no)=_;rw[hk]
 rw[hst,hin]
 have hfr:∀(i:Nat)(s:S),(ws.map S.fr++List.replicate (N.length-ws.length) S.no)[i]?=some s->(s=.no)\/∃w,s=.fr w/\ws[i]?=some w:=fun i s h=>by
  rw[w4b]at h;split at h
  ·rw[w0v]at h;obtain⟨w,h1,rfl⟩:=w0d.mp h;exact .inr ⟨w,rfl,h1⟩
  ·rw[w2d]at h;split at h
   ·cases h;exact .inl rfl
   ·cases h
 have hown:∀(i:Nat)(b:Option Nat)(w:List W),(S.own (some 0) ws1::S.own (some 1) ws2::(ws.map S.fr++List.replicate (N.length-ws.length) S.no))[i]?=some (.own b w)->i=0\/i=1:=fun i b w h=>by
  rcases i with _|_|i
  ·exact .inl rfl
  ·exact .inr rfl
  ·rcases hfr i _ h with z|⟨w,z,_⟩<;>cases z
 refine⟨s,fun i t h=>?_,by simp[hl],fun i j b b' w1 w2 a z1 z2 z3 z4=>?_,fun a o h _=>h,(fun a h=>?_),fun a _=>rfl⟩
 ·rcases i with _|_|i
  ·cases h;exact⟨a1,xs1,rfl,h1,g1,rfl,r1⟩
  ·cases h;exact⟨a2,xs2,rfl,h2,g2,rfl,r2⟩
  ·rcases hfr i t h with rfl|⟨w,rfl,q1⟩
   ·trivial
   ·obtain⟨v,q2,q3⟩:=r.get q1;refine⟨v,?_,q3⟩;have hi:i<us.length:=(w0a.mp q2).1;show((us.map some++List.replicate (N.length-us.length) none)[i]?).getD none=_;rw[w1w (by simpa using hi),w0v,q2];rfl
 ·rcases hown i _ _ z1 with rfl|rfl<;>rcases hown j _ _ z2 with rfl|rfl
  ·rfl
  ·cases z3;cases z4;exact absurd rfl ne
  ·cases z3;cases z4;exact absurd rfl ne
  ·rfl
 ·have h:a∈[a1,a2]:=h;rcases w0m.mp h with rfl|h
  ·show H a≠none;rw[h1];simp
  ·cases w1c.mp h;show H a2≠none;rw[h2];simp
section
variable{mg:Str->Option Value}{base:Heap}
theorem y65{a1 a2:Addr}{Q:VK}{E:XK}{r:SR}(he:r.fm=F ws)(h:mres (F ws) fun o1 o2=>∀G' H',MutOk K G H G' H' a1 a2 o1 o2->Q .non H'):
  PostS K ⟨H,G,[a1,a2]⟩ (fun _=>E) {nx:=fun _ H'=>Q .non H',rt:=Q} G r:=by
 rw[<- he]at h;unfold SR.fm at h;split at h
 ·rename_i o1 o2 tl;intro G' σ' H' r s;obtain⟨b1,ys1,k1,k2,k3,k4,k5⟩:=r.own (i:=0) rfl;obtain⟨b2,ys2,m1,m2,m3,m4,m5⟩:=r.own (i:=1) rfl;have e1:a1=b1:=Option.some.inj k4;have e2:a2=b2:=Option.some.inj m4;subst e1;subst e2;refine h G' H' ⟨fun a o z n1 n2=>r.ent a o z ?_,s,r.sub,fun a z=>r.gen a z,⟨ys1,k2,k5⟩,⟨ys2,m2,m5⟩⟩
  intro z;have z:a∈[a1,a2]:=z;rcases w0m.mp z with z|z
  ·exact n1 z
  ·exact n2 (w1c.mp z)
 ·exact h.elim
theorem conM2{y1 y2:Str}{st:Stmt}{k:Nat}(A:At K mg x st ps)(sc:FnScope (y1::y2::N) ps (defScope st))(len:∀ws,F ws≠.no->ws.length=ps.length)
  (hb:∀ws,F ws≠.no->∀(f:Addr)(cdv:Value)(A:Around)(outer:List Env)(s:Shared)(H:Hp)(E:XK)(Z:Zt),Room k (A.deeper (envOfC x (defScope st) s.heap.objs.size f cdv)) ->
   ∃d,DSs Z (cxOf (CX1 P w) P w K mg base (y1::y2::N) x (defScope st) f cdv A outer s H E) (fun _=>E) (defBody st) d/\(d (initM (y1::y2::N).length ws)).fm=F ws):Cal P w K mg base (k+1) x ps (spM K F):=by
 refine A.cal sc (fun vs H Q E h=>?_) (fun f cdv A outer s H vs Q E hr h=>?_)
 ·obtain⟨G,a1,a2,ws1,ws2,ws,m,h⟩:=h;obtain⟨xs1,xs2,us,rfl,_,_,_,_,_,_,_,_,r⟩:=m;have:=len _ (x1q h);simp only[w0j]at this |-
  rw[r.length];exact this
 ·obtain⟨G,a1,a2,ws1,ws2,ws,m,h⟩:=h;obtain⟨d,hd,he⟩:=hb _ (x1q h) f cdv A outer s H E ⟨H,G,[a1,a2]⟩ hr;exact⟨_,hd,G,_,y0f m,y65 he h⟩
theorem con0M{st:Stmt}(A:At K mg x st ps)(hF:∀ws,F ws=.no:=by intro _;rfl):Cal P w K mg base 0 x ps (spM K F):=by
 obtain⟨f,fd,F0,m,b⟩:=A.ex
 have no:∀{vs H Q E},spM K F vs H Q E->False:=fun h=>by
  obtain⟨G,a1,a2,ws1,ws2,ws,m,h⟩:=h;exact x1q h (hF _)
 exact⟨f,fd,⟨fun vs H Q E h=>(no h).elim,fun A outer s H args us vs Q E _ _ _ _ h=>(no h).elim⟩,m,F0.kp,b⟩
end
theorem Rel.mut2{G' H':Hp}{σ:St}(r:Rel K Z G σ H e){j:Nat}{b1 b2:Option Nat}{ws1 ws2 o1 o2:List W}{a1 a2:Addr}(hij:i≠j)(h1:e[i]?=some (.own b1 ws1))(h2:e[j]?=some (.own b2 ws2))
  (s1:σ[i]?=some (some (.ref a1)))(s2:σ[j]?=some (some (.ref a2)))(m:MutOk K G H G' H' a1 a2 o1 o2):Rel K Z G' σ H' ((e.set i (.own b1 o1)).set j (.own b2 o2)):=by
 obtain⟨c1,xs1,q1,q2,q3,q4,q5⟩:=r.own h1;obtain⟨c2,xs2,p1,p2,p3,p4,p5⟩:=r.own h2;rw[s1]at q1;cases q1;rw[s2]at p1;cases p1
 have ne:a1≠a2:=fun z=>by
  subst z;exact hij (r.dis i j _ _ _ _ _ h1 h2 s1 s2)
 obtain⟨ys1,l1,t1⟩:=m.l1;obtain⟨ys2,l2,t2⟩:=m.l2
 let H1:Hp:=fun a=>if a=a1\/a=a2 then H a else H' a
 have g:Grow G H G' H1:=by
  refine⟨fun a o z=>?_,m.gg,fun a o z=>?_,m.new⟩
  ·show(if a=a1\/a=a2 then H a else H' a)=some o;split
   ·exact z
   ·rename_i n;exact m.ent a o z (fun k=>n (.inl k)) (fun k=>n (.inr k))
  ·show(if a=a1\/a=a2 then H a else H' a)=some o;split
   ·rename_i n
    have:H a≠none:=by
     rcases n with rfl|rfl
     ·rw[q2];simp
     ·rw[p2];simp
    rw[m.new a this]at z;exact r.sub a o z
   ·exact m.sub a o z
 have r2:=(r.grow g).mut h1 s1 t1;have r3:=r2.mut (i:=j) (by rw[w0f hij];exact h2) s2 t2
 have he:upd (upd H1 a1 (.lst ys1)) a2 (.lst ys2)=H':=by
  funext a
  by_cases z2:a=a2
  ·subst z2;rw[q0o,l2]
  ·rw[q0f z2]
   by_cases z1:a=a1
   ·subst z1;rw[q0o,l1]
   ·rw[q0f z1];show(if a=a1\/a=a2 then H a else H' a)=_;rw[if_neg (fun k=>k.elim z1 z2)]
 rw[he]at r3;exact r3
noncomputable def mut2C(i j:Nat)(e:List S)(b1 b2:Option Nat):FR->SR
 |.ok (.fr (.tup [.lst o1,.lst o2]))=>.nx ((e.set i (.own b1 o1)).set j (.own b2 o2))
 |_=>.no
noncomputable def mut2B(F:List W->FR)(i j:Nat)(us:List W)(e:List S):Option S->Option S->SR
 |some (.own b1 ws1),some (.own b2 ws2)=>mut2C i j e b1 b2 (F (.lst ws1::.lst ws2::us))
 |_,_=>.no
noncomputable def mut2A(F:List W->FR)(i j:Nat)(dA:Den (List W))(e:List S):Option S->Option S->SR
 |some (.own _ _),some (.own _ _)=>(dA e).stm fun us e1=>mut2B F i j us e1 e1[i]? e1[j]?
 |_,_=>.no
noncomputable def dMut2(F:List W->FR)(i j:Nat)(dA:Den (List W)):List S->SR:=fun e=>mut2A F i j dA e e[i]? e[j]?
section
variable{pos' p2 pn:Pos}{k:Nat}{y f:Str}
theorem x1r(i j:Nat)(hij:i≠j)(C:Cal X.prog X.w X.K X.mg X.base k f ps (spM X.K F))(hr:Room k X.A)(hx:PassX (CX1 X.prog X.w) X EE)(ha:DA Z X EE es dA)
  (hN:X.N[i]?=some x:=by rfl)(hvis:Vis X.env.scope x:=by walk_at "1")(hd:(x==("__debug__":Str))=false:=by decide)(hcd:(x==("__classdict__":Str))=false:=by decide)
  (hN2:X.N[j]?=some y:=by rfl)(hvis2:Vis X.env.scope y:=by walk_at "1")(hd2:(y==("__debug__":Str))=false:=by decide)(hcd2:(y==("__classdict__":Str))=false:=by decide)
  (hg:Gl X f:=by rfl)(hdb:(f==("__debug__":Str))=false:=by decide)(he:starEach (.Name x p::.Name y p2::es) X.env=(false,eval (.Name x p) X.env)::starEach (.Name y p2::es) X.env:=by rfl)(he2:starEach (.Name y p2::es) X.env=(false,eval (.Name y p2) X.env)::starEach es X.env:=by rfl)
  (hpl:(backTo pos (starEach (.Name y p2::es) X.env)).any (·.1)=false:=by rfl)(hs:swapsWith (.Call (.Name f pn) (.Name x p::.Name y p2::es) [] pos) none pos'.line X.env=pure false:=by rfl):
  DS Z X EE (.Expr (.Call (.Name f pn) (.Name x p::.Name y p2::es) [] pos) pos') (dMut2 F i j dA):=by
 refine PS.mono (x1i (x80 C hr hx (q55 (pv i hN hvis hd hcd) (q55 (pv j hN2 hvis2 hd2 hcd2) ha he2) he) hg hdb he hpl) hs) ?_;rintro D σ H ⟨G,e,rel,h⟩;unfold dMut2 mut2A at h;split at h
 ·rename_i b1 ws1 b2 ws2 q1 q2;obtain⟨a1,xs1,k1,k2,k3,k4,k5⟩:=rel.own q1;obtain⟨a2,xs2,m1,m2,m3,m4,m5⟩:=rel.own q2;refine⟨.ref a1,k1,.ref a2,m1,G,e,rel,(q1b h).imp (fun us e1 h G1 vs H1 r1 s1 p1=>?_) fun _ _ h=>h⟩
  unfold mut2B at h;split at h
  ·rename_i c1 vs1 c2 vs2 t1 t2;obtain⟨a1',ys1,n1,n2,n3,n4,n5⟩:=r1.own t1;obtain⟨a2',ys2,l1,l2,l3,l4,l5⟩:=r1.own t2;rw[k1]at n1;cases n1;rw[m1]at l1;cases l1;refine⟨G1,a1,a2,vs1,vs2,us,⟨ys1,ys2,vs,by simp,r1.sub,fun z=>?_,n2,l2,n3,l3,n5,l5,p1⟩,?_⟩
   ·subst z;exact hij (r1.dis i j _ _ _ _ _ t1 t2 k1 m1)
   ·unfold mut2C at h;split at h
    ·rename_i o1 o2 hF;rw[hF];intro G' H' m;exact h G' σ H' (r1.mut2 hij t1 t2 k1 m1 m) (s1.trans m.gg)
    ·exact h.elim
  ·exact h.elim
 ·exact h.elim
end
section
variable{ws1 ws2 us o1 o2:List W}{b1 b2:Option Nat}{j n:Nat}
theorem y66:dMut2 F i j dA e=mut2A F i j dA e e[i]? e[j]?:=rfl
theorem y67:mut2A F i j dA e (some (.own b1 ws1)) (some (.own b2 ws2))=(dA e).stm fun us e1=>mut2B F i j us e1 e1[i]? e1[j]?:=rfl
theorem y68:mut2B F i j us e (some (.own b1 ws1)) (some (.own b2 ws2))=mut2C i j e b1 b2 (F (.lst ws1::.lst ws2::us)):=rfl
theorem y69:mut2C i j e b1 b2 (.ok (.fr (.tup [.lst o1,.lst o2])))=.nx ((e.set i (.own b1 o1)).set j (.own b2 o2)):=rfl
theorem y7a:initM n (.lst ws1::.lst ws2::us)=.own (some 0) ws1::.own (some 1) ws2::(us.map .fr++List.replicate (n-2-us.length) .no):=rfl
theorem z4g:SR.fm (.nx (.own (some 0) o1::.own (some 1) o2::e))=.ok (.fr (.tup [.lst o1,.lst o2])):=rfl
end
theorem y22{J:It}{xs:List V}{SQ:Hp->Prop}(W0:Walk J xs SQ){g:TG}{tb:TS}{D:Ends}{σ:St}(Pv:Nat->St->Hp->Prop)(h0:Pv 0 σ H)(hl:∀i σ H,i<=xs.length->Pv i σ H->SQ H)
  (hs:∀i x σ H,xs[i]?=some x->Pv i σ H->g x σ H fun σ2 H2=>tb {D with nx:=Pv (i+1),ct:=Pv (i+1),bk:=D.nx} σ2 H2)(hd:∀σ H,Pv xs.length σ H->D.nx σ H):
  ∃W:Nat->Nat->St->Hp->Prop,(∃m,W 0 m σ H)/\∀i m σ H,W i m σ H ->
   (J.stop i H/\D.nx σ H)\/(J.go i H/\∃N:St->Hp->Prop,(∀σ' H',N σ' H'->∃m',m'<m/\W (i+1) m' σ' H')/\∀x H',J.yld i H x H'->g x σ H' fun σ2 H2=>tb {D with nx:=N,ct:=N,bk:=D.nx} σ2 H2):=by
 refine⟨fun i m σ H=>m=xs.length-i/\i<=xs.length/\Pv i σ H,⟨xs.length,by simp,w1l _,h0⟩,?_⟩
 rintro i m σ H ⟨rfl,hi,p⟩;have q:=hl i σ H hi p
 by_cases hlt:i<xs.length
 ·refine .inr ⟨W0.go i H q hlt,Pv (i+1),fun σ' H' p'=>⟨xs.length-(i+1),by omega,rfl,hlt,p'⟩,fun x H' y=>?_⟩
  obtain⟨e,z⟩:=W0.yld i H x H' q y hlt;subst e;exact hs i x σ _ z p
 ·have hi':i=xs.length:=by omega
  subst hi';exact .inl ⟨W0.stop _ H q (w0e _),hd σ H p⟩
noncomputable def forSW(i:Nat)(b:List S->SR)(e:List S):W->SR
 |.str z=>forD i b (signsW z) e
 |_=>.no
noncomputable def dForS(i:Nat)(d:Den W)(b:List S->SR):List S->SR:=fun e=>(d e).stm fun w e1=>forSW i b e1 w
section
variable{e:Expr}{body:List Stmt}{s1:List S->SR}
theorem y7b(i:Nat){pos':Pos}(hN:X.N.Nodup)(hp:PassesOwn (model X.prog X.w) X.A X.env X.xe)(hc:X.calm=true)(hl:DE Z X EE e d)(hb:DSs Z X EE body s1)
  (hi:X.N[i]?=some x:=by rfl)(hx:Loc X.env.scope x:=by walk_at "3")(hf:X.fn x=true\/X.env.scope.names.lookup x=some .local:=by walk_at "2")(hs:∀x,foldedSetIterable e X.env x=pure x:=by intro _;rfl):
  DS Z X EE (.For (.Name x pos') e body [] pos) (dForS i d s1):=by
 refine PS.mono (x0q hp hc (y0c hl) (q35 i hN hi hx hf) hb hs) ?_;rintro D σ H ⟨G,e,rel,h⟩;refine⟨G,e,rel,(q1b h).imp (fun w e1 h G1 v1 H1 r1 q1 p1=>?_) fun _ _ h=>h⟩
 cases w with
 |str z=>
  cases p1;refine⟨z,rfl,?_⟩;obtain⟨Pv,h0,h1,h2,h3⟩:=x1l (i:=i) (D:=D) r1 (q7w z.cps.toList) (PostS.trans q1 h) (fun _=>True) (fun _ _ _ _=>trivial)
  exact y22 y0d Pv h0 h1 h2 h3
 |_=>exact h.elim
theorem y7c{b:List S->SR}{e:List S}:dForS i d b e=(d e).stm fun w e1=>forSW i b e1 w:=rfl
theorem y7d{b:List S->SR}{e:List S}:forSW i b e (.str z)=forD i b (signsW z) e:=rfl
end
end D
namespace Q
open PySem L2 D
variable{f:Addr}{A:Around}{b t:Bool}{H:Hp}{j:Int}{row:List Bool}{cs r w:List Nat}{ns ts xs:List Str}{ws:List W}{c d l m n p:Nat}{q:Prop}{K:PySem.W.Frag}{s:Shared}{x:Str}{mg:Str->Option Value}{α:Type}{cdv:Value}{E:XK}{Z:Zt}
seal DE DF DT DW DA DS DSs DTs DO DFm PE PT PW PA PS PSs PG PGs PI PF PTs PC OpR UnR IxR CallR TruR MtR MtM SlR PO
theorem us1{P:List α->Prop}(h:∀x0,P [x0]):∀us:List α,us.length=1->P us
 |[x0],_=>h x0
theorem us2{P:List α->Prop}(h:∀x0 x1,P [x0,x1]):∀us:List α,us.length=2->P us
 |[x0,x1],_=>h x0 x1
theorem us3{P:List α->Prop}(h:∀x0 x1 x2,P [x0,x1,x2]):∀us:List α,us.length=3->P us
 |[x0,x1,x2],_=>h x0 x1 x2
noncomputable def top(i:Nat):Stmt:=PySem.Challenge.pw_circuits_k08_whole_written.main.body.getD i (.Pass ⟨0,0,0,0⟩)
noncomputable def q1f:List (Str×Int):=[("(", 0),("or", 1),("odd", 2),("and", 3),("not", 4)]
structure Blt(P:Program)(w:World)(K:PySem.W.Frag)(mg:Str->Option Value):Prop where
 b_all:mg "all"=none
 b_any:mg "any"=none
 b_bool:mg "bool"=none
 b_enumerate:mg "enumerate"=none
 b_int:mg "int"=none
 b_isinstance:mg "isinstance"=none
 b_len:mg "len"=none
 b_list:mg "list"=none
 b_max:mg "max"=none
 b_min:mg "min"=none
 b_range:mg "range"=none
 b_str:mg "str"=none
 b_tuple:mg "tuple"=none
 t_TIGHTNESS:∃d,mg "TIGHTNESS"=some (.ref d)/\TabK P w K d q1f
structure Adr where
 CircuitError:Addr
 NoPlace:Addr
 NoName:Addr
 BadText:Addr
 WORDS:Value
 JOINING:Value
 LONGEST_NAME:Value
 MOST_BRACKETS:Value
 LOOSEST_WORD:Value
 WHOLE:Value
variable{a:Adr}
structure Exs(K:PySem.W.Frag)(mg:Str->Option Value)(a:Adr):Prop where
 z:True
 m_CircuitError:mg "CircuitError"=some (.ref a.CircuitError)
 m_NoPlace:mg "NoPlace"=some (.ref a.NoPlace)
 m_NoName:mg "NoName"=some (.ref a.NoName)
 m_BadText:mg "BadText"=some (.ref a.BadText)
 m_WORDS:mg "WORDS"=some a.WORDS
 m_JOINING:mg "JOINING"=some a.JOINING
 m_LONGEST_NAME:mg "LONGEST_NAME"=some a.LONGEST_NAME
 m_MOST_BRACKETS:mg "MOST_BRACKETS"=some a.MOST_BRACKETS
 m_LOOSEST_WORD:mg "LOOSEST_WORD"=some a.LOOSEST_WORD
 m_WHOLE:mg "WHOLE"=some a.WHOLE
 g_WORDS:conIn K (.tup [(.str "yes"),(.str "no"),(.str "not"),(.str "and"),(.str "odd"),(.str "or")]) a.WORDS=true
 g_JOINING:conIn K (.tup [(.str "and"),(.str "odd"),(.str "or")]) a.JOINING=true
 g_LONGEST_NAME:conIn K (.int 8) a.LONGEST_NAME=true
 g_MOST_BRACKETS:conIn K (.int 12) a.MOST_BRACKETS=true
 g_LOOSEST_WORD:conIn K (.int 1) a.LOOSEST_WORD=true
 g_WHOLE:conIn K (.int 5) a.WHOLE=true
 e_BadText:excIn K a.BadText a.CircuitError=true
 e_NoName:excIn K a.NoName a.CircuitError=true
 e_NoPlace:excIn K a.NoPlace a.CircuitError=true
 c_BadText:excClsIn K a.BadText=true
 c_NoName:excClsIn K a.NoName=true
 c_NoPlace:excClsIn K a.NoPlace=true
 t_NoneType_int:kitOne K (.type "NoneType") (.type "int")=some false
 t_bool_int:kitOne K (.type "bool") (.type "int")=some true
 t_int_int:kitOne K (.type "int") (.type "int")=some true
 t_str_int:kitOne K (.type "str") (.type "int")=some false
 t_tuple_int:kitOne K (.type "tuple") (.type "int")=some false
 t_list_int:kitOne K (.type "list") (.type "int")=some false
 t_NoneType_bool:kitOne K (.type "NoneType") (.type "bool")=some false
 t_bool_bool:kitOne K (.type "bool") (.type "bool")=some true
 t_int_bool:kitOne K (.type "int") (.type "bool")=some false
 t_str_bool:kitOne K (.type "str") (.type "bool")=some false
 t_tuple_bool:kitOne K (.type "tuple") (.type "bool")=some false
 t_list_bool:kitOne K (.type "list") (.type "bool")=some false
 t_NoneType_tuple:kitOne K (.type "NoneType") (.type "tuple")=some false
 t_bool_tuple:kitOne K (.type "bool") (.type "tuple")=some false
 t_int_tuple:kitOne K (.type "int") (.type "tuple")=some false
 t_str_tuple:kitOne K (.type "str") (.type "tuple")=some false
 t_tuple_tuple:kitOne K (.type "tuple") (.type "tuple")=some true
 t_list_tuple:kitOne K (.type "list") (.type "tuple")=some false
 t_NoneType_str:kitOne K (.type "NoneType") (.type "str")=some false
 t_bool_str:kitOne K (.type "bool") (.type "str")=some false
 t_int_str:kitOne K (.type "int") (.type "str")=some false
 t_str_str:kitOne K (.type "str") (.type "str")=some true
 t_tuple_str:kitOne K (.type "tuple") (.type "str")=some false
 t_list_str:kitOne K (.type "list") (.type "str")=some false
noncomputable abbrev q3y:Nat:=0
noncomputable abbrev q11:Nat:=1
noncomputable abbrev q1o:Nat:=2
noncomputable abbrev q2z:Nat:=3
noncomputable abbrev q5v:Nat:=4
noncomputable abbrev q03:Nat:=5
noncomputable abbrev q39:Nat:=6
noncomputable abbrev q09:Nat:=7
noncomputable abbrev q1a:Nat:=8
noncomputable abbrev q2c:Nat:=9
noncomputable abbrev q23:Nat:=10
noncomputable abbrev q19:Nat:=11
noncomputable abbrev q2j:Nat:=12
noncomputable abbrev q24:Nat:=13
noncomputable abbrev q2r:Nat:=14
noncomputable abbrev q1p:Nat:=15
noncomputable abbrev q3k:Nat:=16
noncomputable abbrev q2s:Nat:=17
noncomputable abbrev q0v:Nat:=18
noncomputable abbrev q2t:Nat:=19
noncomputable abbrev q0t:Nat:=20
noncomputable abbrev q1u:Nat:=21
noncomputable abbrev q3z:Nat:=22
noncomputable abbrev q1r:Nat:=23
noncomputable abbrev q1g:Nat:=24
noncomputable abbrev q21:Nat:=25
noncomputable abbrev q14:Nat:=26
noncomputable abbrev q15:Nat:=27
noncomputable abbrev q2e:Nat:=28
noncomputable abbrev q1q:Nat:=29
noncomputable abbrev q05:Nat:=30
noncomputable abbrev q02:Nat:=31
noncomputable abbrev q6u:Nat:=32
noncomputable abbrev q30:Stmt:=top 6
theorem sc_value:FnScope ["form", "row", "word", "left", "right"] ["form", "row"] (defScope q30):=⟨rfl,rfl,rfl,by decide +kernel,rfl,by decide +kernel,by decide +kernel⟩
noncomputable abbrev q2d:Stmt:=top 7
theorem x5q:FnScope ["things", "place"] ["things", "place"] (defScope q2d):=⟨rfl,rfl,rfl,by decide +kernel,rfl,by decide +kernel,by decide +kernel⟩
noncomputable abbrev q25:Stmt:=top 8
theorem sc_put_in:FnScope ["form", "forms", "word"] ["form", "forms"] (defScope q25):=⟨rfl,rfl,rfl,by decide +kernel,rfl,by decide +kernel,by decide +kernel⟩
noncomputable abbrev q31:Stmt:=top 17
theorem y23:FnScope ["form", "names"] ["form", "names"] (defScope q31):=⟨rfl,rfl,rfl,by decide +kernel,rfl,by decide +kernel,by decide +kernel⟩
noncomputable abbrev q4w:Stmt:=top 18
theorem sc_read:FnScope ["text", "names", "places", "pieces", "wrong"] ["text", "names"] (defScope q4w):=⟨rfl,rfl,rfl,by decide +kernel,rfl,by decide +kernel,by decide +kernel⟩
noncomputable abbrev q0x:Stmt:=top 19
theorem sc_places_by_name:FnScope ["names", "places", "place", "name"] ["names"] (defScope q0x):=⟨rfl,rfl,rfl,by decide +kernel,rfl,by decide +kernel,by decide +kernel⟩
noncomputable abbrev q2f:Stmt:=top 20
theorem x7v:FnScope ["name"] ["name"] (defScope q2f):=⟨rfl,rfl,rfl,by decide +kernel,rfl,by decide +kernel,by decide +kernel⟩
noncomputable abbrev q0u:Stmt:=top 21
theorem q8v:FnScope ["sign"] ["sign"] (defScope q0u):=⟨rfl,rfl,rfl,by decide +kernel,rfl,by decide +kernel,by decide +kernel⟩
noncomputable abbrev q2l:Stmt:=top 22
theorem sc_text_of:FnScope ["form", "names", "word", "own", "inner", "left", "right"] ["form", "names"] (defScope q2l):=⟨rfl,rfl,rfl,by decide +kernel,rfl,by decide +kernel,by decide +kernel⟩
noncomputable abbrev q1v:Stmt:=top 23
theorem sc_bracketed:FnScope ["form", "least", "names", "text"] ["form", "least", "names"] (defScope q1v):=⟨rfl,rfl,rfl,by decide +kernel,rfl,by decide +kernel,by decide +kernel⟩
noncomputable abbrev q1w:Stmt:=top 24
theorem sc_pieces_of:FnScope ["text", "pieces", "place", "end"] ["text"] (defScope q1w):=⟨rfl,rfl,rfl,by decide +kernel,rfl,by decide +kernel,by decide +kernel⟩
noncomputable abbrev q06:Stmt:=top 25
theorem sc_end_of_piece:FnScope ["text", "place", "end"] ["text", "place"] (defScope q06):=⟨rfl,rfl,rfl,by decide +kernel,rfl,by decide +kernel,by decide +kernel⟩
noncomputable abbrev q1c:Stmt:=top 26
theorem sc_first_fault:FnScope ["pieces", "places", "length", "awaits_form", "brackets", "place", "piece", "fine"] ["pieces", "places", "length"] (defScope q1c):=⟨rfl,rfl,rfl,by decide +kernel,rfl,by decide +kernel,by decide +kernel⟩
noncomputable abbrev q1x:Stmt:=top 27
theorem x4q:FnScope ["piece", "brackets", "places"] ["piece", "brackets", "places"] (defScope q1x):=⟨rfl,rfl,rfl,by decide +kernel,rfl,by decide +kernel,by decide +kernel⟩
noncomputable abbrev q1h:Stmt:=top 28
theorem x27:FnScope ["piece", "brackets"] ["piece", "brackets"] (defScope q1h):=⟨rfl,rfl,rfl,by decide +kernel,rfl,by decide +kernel,by decide +kernel⟩
noncomputable abbrev q0y:Stmt:=top 29
theorem sc_form_of_pieces:FnScope ["pieces", "places", "forms", "waiting", "place", "piece"] ["pieces", "places"] (defScope q0y):=⟨rfl,rfl,rfl,by decide +kernel,rfl,by decide +kernel,by decide +kernel⟩
noncomputable abbrev q26:Stmt:=top 30
theorem sc_settle:FnScope ["forms", "waiting", "least", "word", "last"] ["forms", "waiting", "least"] (defScope q26):=⟨rfl,rfl,rfl,by decide +kernel,rfl,by decide +kernel,by decide +kernel⟩
noncomputable abbrev q1i:Stmt:=top 31
theorem x28:FnScope ["piece", "places"] ["piece", "places"] (defScope q1i):=⟨rfl,rfl,rfl,by decide +kernel,rfl,by decide +kernel,by decide +kernel⟩
noncomputable abbrev q07:Stmt:=top 33
theorem x00:FnScope ["_law_script", "_law_k"] ["_law_script", "_law_k"] (defScope q07):=⟨rfl,rfl,rfl,by decide +kernel,rfl,by decide +kernel,by decide +kernel⟩
noncomputable abbrev q1j:Stmt:=top 34
theorem x29:FnScope ["_law_found"] ["_law_found"] (defScope q1j):=⟨rfl,rfl,rfl,by decide +kernel,rfl,by decide +kernel,by decide +kernel⟩
noncomputable abbrev q1k:Stmt:=top 35
theorem sc__law_mixed:FnScope ["_law_cell", "_law_k", "_law_many", "_law_some", "_law_made"] ["_law_cell", "_law_k", "_law_many"] (defScope q1k):=⟨rfl,rfl,rfl,by decide +kernel,rfl,by decide +kernel,by decide +kernel⟩
noncomputable abbrev q1y:Stmt:=top 36
theorem x4r:FnScope ["_law_cell", "_law_many"] ["_law_cell", "_law_many"] (defScope q1y):=⟨rfl,rfl,rfl,by decide +kernel,rfl,by decide +kernel,by decide +kernel⟩
noncomputable abbrev q1z:Stmt:=top 37
theorem sc__law_deep:FnScope ["_law_cell", "_law_many", "_law_tall", "_law_form", "_law_k", "_law_way"] ["_law_cell", "_law_many", "_law_tall"] (defScope q1z):=⟨rfl,rfl,rfl,by decide +kernel,rfl,by decide +kernel,by decide +kernel⟩
noncomputable abbrev q08:Stmt:=top 38
theorem sc__law_form_by:FnScope ["_law_cells", "_law_many", "_law_stack", "_law_cell", "_law_way", "_law_other"] ["_law_cells", "_law_many"] (defScope q08):=⟨rfl,rfl,rfl,by decide +kernel,rfl,by decide +kernel,by decide +kernel⟩
noncomputable abbrev q1l:Stmt:=top 39
theorem sc__law_truth:FnScope ["_law_form", "_law_row_here", "_law_both"] ["_law_form", "_law_row_here"] (defScope q1l):=⟨rfl,rfl,rfl,by decide +kernel,rfl,by decide +kernel,by decide +kernel⟩
noncomputable abbrev q12:Stmt:=top 40
theorem x5r:FnScope ["_law_cell", "_law_many"] ["_law_cell", "_law_many"] (defScope q12):=⟨rfl,rfl,rfl,by decide +kernel,rfl,by decide +kernel,by decide +kernel⟩
noncomputable abbrev q1d:Stmt:=top 41
theorem x1s:FnScope ["_law_k"] ["_law_k"] (defScope q1d):=⟨rfl,rfl,rfl,by decide +kernel,rfl,by decide +kernel,by decide +kernel⟩
noncomputable abbrev q01:Stmt:=top 42
theorem sc__law_longer:FnScope ["_law_word", "_law_many", "_law_found", "_law_other"] ["_law_word", "_law_many"] (defScope q01):=⟨rfl,rfl,rfl,by decide +kernel,rfl,by decide +kernel,by decide +kernel⟩
noncomputable abbrev q04:Stmt:=top 43
theorem sc__law_names:FnScope ["_law_cell", "_law_many", "_law_size", "_law_spot", "_law_found", "_law_word", "_law_k", "_law_letters"] ["_law_cell", "_law_many"] (defScope q04):=⟨rfl,rfl,rfl,by decide +kernel,rfl,by decide +kernel,by decide +kernel⟩
noncomputable abbrev q0z:Stmt:=top 45
theorem sc__law_most_open:FnScope ["_law_told", "_law_most", "_law_now", "_law_sign"] ["_law_told"] (defScope q0z):=⟨rfl,rfl,rfl,by decide +kernel,rfl,by decide +kernel,by decide +kernel⟩
noncomputable abbrev q10:Stmt:=top 46
theorem x4s:FnScope ["_law_found", "_law_due"] ["_law_found", "_law_due"] (defScope q10):=⟨rfl,rfl,rfl,by decide +kernel,rfl,by decide +kernel,by decide +kernel⟩
noncomputable abbrev q1m:Stmt:=top 47
theorem sc__law_right:FnScope ["_law_form", "_law_names_here", "_law_row_here", "_law_told", "_law_found"] ["_law_form", "_law_names_here", "_law_row_here"] (defScope q1m):=⟨rfl,rfl,rfl,by decide +kernel,rfl,by decide +kernel,by decide +kernel⟩
noncomputable abbrev q4r:Stmt:=top 48
theorem sc_law:FnScope ["_law_script", "_law_many", "_law_cells", "_law_one", "_law_two", "_law_names_here", "_law_row_here"] ["_law_script"] (defScope q4r):=⟨rfl,rfl,rfl,by decide +kernel,rfl,by decide +kernel,by decide +kernel⟩
noncomputable def q32(K:PySem.W.Frag)(a:Adr)(r:Nat->List W->FR):List S->SR:=
 (dSeq (dSet 2 (dOp ixW (dVar 0) (dC (.int 0))))
  (dSeq (dIfS (dTest (dOp eq2 (dVar 2) (dC (.str "is"))))
  (dRet (dOp ixW (dVar 0) (dC (.int 1))))
  dNx)
  (dSeq (dIfS (dTest (dOp eq2 (dVar 2) (dC (.str "at"))))
  (dRet (dCall (r q11) (dCons (dVar 1) (dCons (dOp ixW (dVar 0) (dC (.int 1))) dNil))))
  dNx)
  (dSeq (dIfS (dTest (dOp eq2 (dVar 2) (dC (.str "not"))))
  (dRet (dNotV (dCall (r q3y) (dCons (dOp ixW (dVar 0) (dC (.int 1))) (dCons (dVar 1) dNil)))))
  dNx)
  (dSeq (dSet 3 (dCall (r q3y) (dCons (dOp ixW (dVar 0) (dC (.int 1))) (dCons (dVar 1) dNil))))
  (dSeq (dSet 4 (dCall (r q3y) (dCons (dOp ixW (dVar 0) (dC (.int 2))) (dCons (dVar 1) dNil))))
  (dSeq (dIfS (dTest (dOp eq2 (dVar 2) (dC (.str "and"))))
  (dRet (dAndV (dVar 3) (dVar 4)))
  dNx)
  (dSeq (dIfS (dTest (dOp eq2 (dVar 2) (dC (.str "or"))))
  (dRet (dOrV (dVar 3) (dVar 4)))
  dNx)
  (dRet (dOp ne2 (dVar 3) (dVar 4)))))))))))
noncomputable def q3l(K:PySem.W.Frag)(a:Adr)(r:Nat->List W->FR):List S->SR:=
 (dSeq (dIfS (dOr (dTest (dOp ltW (dVar 1) (dC (.int 0)))) (dTest (dOp geW (dVar 1) (dFn len1 (dCons (dVar 0) dNil)))))
  (dRaise a.NoPlace (dCons (dC (.str "there is nothing for a place of the form")) dNil))
  dNx)
  (dRet (dOp ixW (dVar 0) (dVar 1))))
noncomputable def q4a(K:PySem.W.Frag)(a:Adr)(r:Nat->List W->FR):List S->SR:=
 (dSeq (dSet 2 (dOp ixW (dVar 0) (dC (.int 0))))
  (dSeq (dIfS (dTest (dOp eq2 (dVar 2) (dC (.str "is"))))
  (dRet (dVar 0))
  dNx)
  (dSeq (dIfS (dTest (dOp eq2 (dVar 2) (dC (.str "at"))))
  (dRet (dCall (r q11) (dCons (dVar 1) (dCons (dOp ixW (dVar 0) (dC (.int 1))) dNil))))
  dNx)
  (dSeq (dIfS (dTest (dOp eq2 (dVar 2) (dC (.str "not"))))
  (dRet (dTup (dCons (dC (.str "not")) (dCons (dCall (r q1o) (dCons (dOp ixW (dVar 0) (dC (.int 1))) (dCons (dVar 1) dNil))) dNil))))
  dNx)
  (dRet (dTup (dCons (dVar 2) (dCons (dCall (r q1o) (dCons (dOp ixW (dVar 0) (dC (.int 1))) (dCons (dVar 1) dNil))) (dCons (dCall (r q1o) (dCons (dOp ixW (dVar 0) (dC (.int 2))) (dCons (dVar 1) dNil))) dNil)))))))))
noncomputable def q68(K:PySem.W.Frag)(a:Adr)(r:Nat->List W->FR):List S->SR:=
 (dSeq (dDrop (dCall (r q03) (dCons (dVar 1) dNil)))
  (dRet (dCall (r q1a) (dCons (dVar 0) (dCons (dVar 1) dNil)))))
noncomputable def q8w(K:PySem.W.Frag)(a:Adr)(r:Nat->List W->FR):List S->SR:=
 (dSeq (dSet 2 (dCall (r q03) (dCons (dVar 1) dNil)))
  (dSeq (dSet 3 (dCall (r q23) (dCons (dVar 0) dNil)))
  (dSeq (dSet 4 (dCall (r q2j) (dCons (dVar 3) (dCons (dVar 2) (dCons (dFn len1 (dCons (dVar 0) dNil)) dNil)))))
  (dSeq (dIfS (dTest (dOp nisW (dVar 4) (dC .non)))
  (dRaise a.BadText (dCons (dFstr (fTxt "the text can't be read from " (fVal (dVar 4) (fTxt " on" fNil)))) dNil))
  dNx)
  (dRet (dCall (r q1p) (dCons (dVar 3) (dCons (dVar 2) dNil))))))))
noncomputable def q1s(K:PySem.W.Frag)(a:Adr)(r:Nat->List W->FR):List S->SR:=
 (dSeq (dIfS (dNot (dTru (dCall (r q39) (dCons (dVar 3) dNil))))
  (dRaise a.NoName (dCons (dFstr (fRepr (dVar 3) (fTxt " is no name" fNil))) dNil))
  dNx)
  (dSeq (dIfS (dBorrowT (dTest (dOp inD (dVar 3) (dVar 1))))
  (dRaise a.NoName (dCons (dFstr (fTxt "the name " (fVal (dVar 3) (fTxt " stands twice" fNil)))) dNil))
  dNx)
  (dPutD 1 (dVar 2) (dVar 3))))
noncomputable def q2u(K:PySem.W.Frag)(a:Adr)(r:Nat->List W->FR):List S->SR:=
 (dSeq (dSetD 1)
  (dSeq (dForP 2 3 (srcET (dCons (dVar 0) dNil))
  (q1s K a r))
  (dRetD 1)))
noncomputable def q9w(K:PySem.W.Frag)(a:Adr)(r:Nat->List W->FR):Den W:=
 (dCall (r q09) (dCons (dVar 0) dNil))
noncomputable def q5w(K:PySem.W.Frag)(a:Adr)(r:Nat->List W->FR):List S->SR:=
 (dSeq (dIfS (dOr (dTest (dOp ltW (dFn len1 (dCons (dVar 0) dNil)) (dC (.int 1)))) (dOr (dTest (dOp gtW (dFn len1 (dCons (dVar 0) dNil)) (dC (.int 8)))) (dTest (dOp inW (dVar 0) (dC (.tup [(.str "yes"),(.str "no"),(.str "not"),(.str "and"),(.str "odd"),(.str "or")]))))))
  (dRet (dC (.bl false)))
  dNx)
  (dRet (dFn all1 (dCons (dFz (dCompS [] (dVar 0) dYes (q9w K a r))) dNil))))
noncomputable def q2k(K:PySem.W.Frag)(a:Adr)(r:Nat->List W->FR):List S->SR:=
 (dRet (dAndV (dOp leS (dC (.str "a")) (dVar 0)) (dOp leS (dVar 0) (dC (.str "z")))))
noncomputable def q3d(K:PySem.W.Frag)(a:Adr)(r:Nat->List W->FR):List S->SR:=
 (dSeq (dSet 2 (dOp ixW (dVar 0) (dC (.int 0))))
  (dSeq (dIfS (dTest (dOp eq2 (dVar 2) (dC (.str "is"))))
  (dRet (dIf (dTru (dOp ixW (dVar 0) (dC (.int 1)))) (dC (.str "yes")) (dC (.str "no"))))
  dNx)
  (dSeq (dIfS (dTest (dOp eq2 (dVar 2) (dC (.str "at"))))
  (dRet (dCall (r q11) (dCons (dVar 1) (dCons (dOp ixW (dVar 0) (dC (.int 1))) dNil))))
  dNx)
  (dSeq (dSet 3 (dUn (tabW q1f) (dVar 2)))
  (dSeq (dIfS (dTest (dOp eq2 (dVar 2) (dC (.str "not"))))
  (dSeq (dSet 4 (dCall (r q2c) (dCons (dOp ixW (dVar 0) (dC (.int 1))) (dCons (dVar 3) (dCons (dVar 1) dNil)))))
  (dRet (dFstr (fTxt "not " (fVal (dVar 4) fNil)))))
  dNx)
  (dSeq (dSet 5 (dCall (r q2c) (dCons (dOp ixW (dVar 0) (dC (.int 1))) (dCons (dVar 3) (dCons (dVar 1) dNil)))))
  (dSeq (dSet 6 (dCall (r q2c) (dCons (dOp ixW (dVar 0) (dC (.int 2))) (dCons (dOp addX (dVar 3) (dC (.int 1))) (dCons (dVar 1) dNil)))))
  (dRet (dFstr (fVal (dVar 5) (fTxt " " (fVal (dVar 2) (fTxt " " (fVal (dVar 6) fNil))))))))))))))
noncomputable def q4x(K:PySem.W.Frag)(a:Adr)(r:Nat->List W->FR):List S->SR:=
 (dSeq (dSet 3 (dCall (r q1a) (dCons (dVar 0) (dCons (dVar 2) dNil))))
  (dSeq (dIfS (dTest (dOp ltW (dFn (tabGet q1f) (dCons (dOp ixW (dVar 0) (dC (.int 0))) (dCons (dC (.int 5)) dNil))) (dVar 1)))
  (dRet (dFstr (fTxt "(" (fVal (dVar 3) (fTxt ")" fNil)))))
  dNx)
  (dRet (dVar 3))))
noncomputable def q3s(K:PySem.W.Frag)(a:Adr)(r:Nat->List W->FR):Den Bool:=
 (dTest (dOp ltW (dVar 2) (dFn len1 (dCons (dVar 0) dNil))))
noncomputable def q3t(K:PySem.W.Frag)(a:Adr)(r:Nat->List W->FR):List S->SR:=
 (dSeq (dSet 3 (dCall (r q19) (dCons (dVar 0) (dCons (dVar 2) dNil))))
  (dSeq (dIfS (dTest (dOp ne2 (dOp ixW (dVar 0) (dVar 2)) (dC (.str " "))))
  (dApp 1 (dCons (dTup (dCons (dVar 2) (dCons (dSlX (dVar 0) (dPart (dVar 2)) (dPart (dVar 3))) dNil))) dNil))
  dNx)
  (dSet 2 (dVar 3))))
noncomputable def q4y(K:PySem.W.Frag)(a:Adr)(r:Nat->List W->FR):List S->SR:=
 (dSeq (dSetO 1 (dLst dNil))
  (dSeq (dSet 2 (dC (.int 0)))
  (dSeq (whileD (q3s K a r)
  (q3t K a r) 1000000)
  (dRetO 1))))
noncomputable def q3m(K:PySem.W.Frag)(a:Adr)(r:Nat->List W->FR):Den Bool:=
 (dAnd (dTest (dOp ltW (dVar 2) (dFn len1 (dCons (dVar 0) dNil)))) (dTru (dCall (r q09) (dCons (dOp ixW (dVar 0) (dVar 2)) dNil))))
noncomputable def q3n(K:PySem.W.Frag)(a:Adr)(r:Nat->List W->FR):List S->SR:=
 (dSet 2 (dOp addX (dVar 2) (dC (.int 1))))
noncomputable def q28(K:PySem.W.Frag)(a:Adr)(r:Nat->List W->FR):List S->SR:=
 (dSeq (dSet 2 (dVar 1))
  (dSeq (whileD (q3m K a r)
  (q3n K a r) 1000000)
  (dRet (dFn max2 (dCons (dVar 2) (dCons (dOp addX (dVar 1) (dC (.int 1))) dNil))))))
noncomputable def q13(K:PySem.W.Frag)(a:Adr)(r:Nat->List W->FR):List S->SR:=
 (dSeq (dIfS (dTru (dVar 3))
  (dSet 7 (dCall (r q24) (dCons (dVar 6) (dCons (dVar 4) (dCons (dVar 1) dNil)))))
  (dSet 7 (dCall (r q2r) (dCons (dVar 6) (dCons (dVar 4) dNil)))))
  (dSeq (dIfS (dNot (dTru (dVar 7)))
  (dRet (dVar 5))
  dNx)
  (dIfS (dTest (dOp eq2 (dVar 6) (dC (.str "("))))
  (dSet 4 (dOp addX (dVar 4) (dC (.int 1))))
  (dIfS (dTest (dOp eq2 (dVar 6) (dC (.str ")"))))
  (dSet 4 (dOp subW (dVar 4) (dC (.int 1))))
  (dSet 3 (dOrV (dOp eq2 (dVar 6) (dC (.str "not"))) (dOp inW (dVar 6) (dC (.tup [(.str "and"),(.str "odd"),(.str "or")])))))))))
noncomputable def q3u(K:PySem.W.Frag)(a:Adr)(r:Nat->List W->FR):List S->SR:=
 (dSeq (dSet 3 (dC (.bl true)))
  (dSeq (dSet 4 (dC (.int 0)))
  (dSeq (dForP 5 6 (srcP (dVar 0))
  (q13 K a r))
  (dSeq (dIfS (dOr (dTru (dVar 3)) (dTest (dOp gtW (dVar 4) (dC (.int 0)))))
  (dRet (dVar 2))
  dNx)
  (dRet (dC .non))))))
noncomputable def q4z(K:PySem.W.Frag)(a:Adr)(r:Nat->List W->FR):List S->SR:=
 (dSeq (dIfS (dTest (dOp eq2 (dVar 0) (dC (.str "("))))
  (dRet (dOp ltW (dVar 1) (dC (.int 12))))
  dNx)
  (dRet (dOrV (dOp inW (dVar 0) (dTup (dCons (dC (.str "yes")) (dCons (dC (.str "no")) (dCons (dC (.str "not")) dNil))))) (dOp inD (dVar 0) (dVar 2)))))
noncomputable def q4b(K:PySem.W.Frag)(a:Adr)(r:Nat->List W->FR):List S->SR:=
 (dSeq (dIfS (dTest (dOp eq2 (dVar 0) (dC (.str ")"))))
  (dRet (dOp gtW (dVar 1) (dC (.int 0))))
  dNx)
  (dRet (dOp inW (dVar 0) (dC (.tup [(.str "and"),(.str "odd"),(.str "or")])))))
noncomputable def q0w(K:PySem.W.Frag)(a:Adr)(r:Nat->List W->FR):List S->SR:=
 (dIfS (dOr (dTest (dOp eq2 (dVar 5) (dC (.str "(")))) (dTest (dOp eq2 (dVar 5) (dC (.str "not")))))
  (dApp 3 (dCons (dVar 5) dNil))
  (dIfS (dTest (dOp eq2 (dVar 5) (dC (.str ")"))))
  (dSeq (dMut2 (r q3k) 2 3 (dCons (dC (.int 1)) dNil))
  (dDrop (dPop 3)))
  (dIfS (dTest (dOp inW (dVar 5) (dC (.tup [(.str "and"),(.str "odd"),(.str "or")]))))
  (dSeq (dMut2 (r q3k) 2 3 (dCons (dUn (tabW q1f) (dVar 5)) dNil))
  (dApp 3 (dCons (dVar 5) dNil)))
  (dApp 2 (dCons (dCall (r q2s) (dCons (dVar 5) (dCons (dVar 1) dNil))) dNil)))))
noncomputable def q2v(K:PySem.W.Frag)(a:Adr)(r:Nat->List W->FR):List S->SR:=
 (dSeq (dSetO 2 (dLst dNil))
  (dSeq (dSetO 3 (dLst dNil))
  (dSeq (dForP 4 5 (srcP (dVar 0))
  (q0w K a r))
  (dSeq (dMut2 (r q3k) 2 3 (dCons (dC (.int 1)) dNil))
  (dRet (dIxV 2 (dC (.int 0))))))))
noncomputable def q4s(K:PySem.W.Frag)(a:Adr)(r:Nat->List W->FR):Den Bool:=
 (dAnd (dTest (dOp gtW (dFnV 1 len1) (dC (.int 0)))) (dTest (dOp geW (dUn (tabW q1f) (dIxV 1 (dUn negW (dC (.int 1))))) (dVar 2))))
noncomputable def q5e(K:PySem.W.Frag)(a:Adr)(r:Nat->List W->FR):List S->SR:=
 (dSeq (dSet 3 (dPop 1))
  (dSeq (dSet 4 (dPop 0))
  (dIfS (dTest (dOp eq2 (dVar 3) (dC (.str "not"))))
  (dApp 0 (dCons (dTup (dCons (dC (.str "not")) (dCons (dVar 4) dNil))) dNil))
  (dApp 0 (dCons (dTup (dCons (dVar 3) (dCons (dPop 0) (dCons (dVar 4) dNil)))) dNil)))))
noncomputable def q6n(K:PySem.W.Frag)(a:Adr)(r:Nat->List W->FR):List S->SR:=
 (whileD (q4s K a r)
  (q5e K a r) 1000000)
noncomputable def q4c(K:PySem.W.Frag)(a:Adr)(r:Nat->List W->FR):List S->SR:=
 (dSeq (dIfS (dTest (dOp eq2 (dVar 0) (dC (.str "yes"))))
  (dRet (dTup (dCons (dC (.str "is")) (dCons (dC (.bl true)) dNil))))
  dNx)
  (dSeq (dIfS (dTest (dOp eq2 (dVar 0) (dC (.str "no"))))
  (dRet (dTup (dCons (dC (.str "is")) (dCons (dC (.bl false)) dNil))))
  dNx)
  (dRet (dTup (dCons (dC (.str "at")) (dCons (dOp ixD (dVar 1) (dVar 0)) dNil))))))
noncomputable def q29(K:PySem.W.Frag)(a:Adr)(r:Nat->List W->FR):List S->SR:=
 (dSeq (dIfS (dTest (dOp ltW (dVar 1) (dFn len1 (dCons (dVar 0) dNil))))
  (dRet (dOp ixW (dVar 0) (dVar 1)))
  dNx)
  (dRet (dC (.int 0))))
noncomputable def q4d(K:PySem.W.Frag)(a:Adr)(r:Nat->List W->FR):List S->SR:=
 (dRet (dAndV (dIsi K (.type "int") (dVar 0)) (dNotV (dIsi K (.type "bool") (dVar 0)))))
noncomputable def q4e(K:PySem.W.Frag)(a:Adr)(r:Nat->List W->FR):List S->SR:=
 (dSeq (dSet 3 (dFz (dLst (dCons (dC (.int 99991)) (dCons (dC (.int 99989)) (dCons (dC (.int 99971)) (dCons (dC (.int 99961)) (dCons (dC (.int 99929)) (dCons (dC (.int 99923)) (dCons (dC (.int 99907)) (dCons (dC (.int 99901)) (dCons (dC (.int 99881)) (dCons (dC (.int 99877)) (dCons (dC (.int 99871)) dNil))))))))))))))
  (dSeq (dSet 4 (dOp modW (dOp mulW (dOp addX (dVar 0) (dOp mulW (dC (.int 7)) (dVar 1))) (dC (.int 48271))) (dOp ixW (dVar 3) (dOp modW (dVar 1) (dC (.int 11))))))
  (dRet (dOp modW (dOp modW (dOp addX (dOp addX (dOp mulW (dOp mulW (dVar 4) (dVar 4)) (dC (.int 7))) (dVar 4)) (dVar 1)) (dC (.int 1000003))) (dVar 2)))))
noncomputable def q40(K:PySem.W.Frag)(a:Adr)(r:Nat->List W->FR):List S->SR:=
 (dSeq (dIfS (dOr (dTest (dOp eq2 (dVar 1) (dC (.int 0)))) (dTest (dOp eq2 (dOp modW (dVar 0) (dC (.int 9))) (dC (.int 8)))))
  (dRet (dTup (dCons (dC (.str "is")) (dCons (dOp eq2 (dOp modW (dOp fdivW (dVar 0) (dC (.int 9))) (dC (.int 2))) (dC (.int 1))) dNil))))
  dNx)
  (dRet (dTup (dCons (dC (.str "at")) (dCons (dCall (r q0t) (dCons (dOp fdivW (dVar 0) (dC (.int 8))) (dCons (dC (.int 1)) (dCons (dVar 1) dNil)))) dNil)))))
noncomputable def x3a(K:PySem.W.Frag)(a:Adr)(r:Nat->List W->FR):List S->SR:=
 (dSeq (dSet 5 (dCall (r q0t) (dCons (dVar 0) (dCons (dVar 4) (dCons (dC (.int 5)) dNil)))))
  (dIfS (dOr (dTest (dOp ltW (dVar 5) (dC (.int 2)))) (dTest (dOp eq2 (dOp modW (dVar 0) (dC (.int 4))) (dC (.int 1)))))
  (dSet 3 (dTup (dCons (dC (.str "not")) (dCons (dVar 3) dNil))))
  (dIfS (dTest (dOp eq2 (dVar 5) (dC (.int 2))))
  (dSet 3 (dTup (dCons (dC (.str "and")) (dCons (dVar 3) (dCons (dCall (r q1u) (dCons (dOp addX (dVar 0) (dOp mulW (dC (.int 8)) (dVar 4))) (dCons (dVar 1) dNil))) dNil)))))
  (dSet 3 (dTup (dCons (dOp ixW (dFz (dLst (dCons (dC (.str "or")) (dCons (dC (.str "odd")) dNil)))) (dOp subW (dVar 5) (dC (.int 3)))) (dCons (dCall (r q1u) (dCons (dOp addX (dVar 0) (dOp mulW (dC (.int 8)) (dVar 4))) (dCons (dVar 1) dNil))) (dCons (dVar 3) dNil))))))))
noncomputable def q5q(K:PySem.W.Frag)(a:Adr)(r:Nat->List W->FR):List S->SR:=
 (dSeq (dSet 3 (dCall (r q1u) (dCons (dVar 0) (dCons (dVar 1) dNil))))
  (dSeq (dForR 4 rng1 (dCons (dVar 2) dNil)
  (x3a K a r))
  (dRet (dVar 3))))
noncomputable def q2w(K:PySem.W.Frag)(a:Adr)(r:Nat->List W->FR):Den Bool:=
 (dTest (dOp gtW (dFnV 2 len1) (dC (.int 1))))
noncomputable def q3o(K:PySem.W.Frag)(a:Adr)(r:Nat->List W->FR):List S->SR:=
 (dSeq (dSet 5 (dPop 2))
  (dApp 2 (dCons (dTup (dCons (dOp ixW (dFz (dLst (dCons (dC (.str "and")) (dCons (dC (.str "or")) (dCons (dC (.str "odd")) dNil))))) (dOp modW (dFnV 2 len1) (dC (.int 3)))) (dCons (dPop 2) (dCons (dVar 5) dNil)))) dNil)))
noncomputable def q2x(K:PySem.W.Frag)(a:Adr)(r:Nat->List W->FR):List S->SR:=
 (dSeq (dSet 4 (dOp modW (dVar 3) (dC (.int 8))))
  (dIfS (dAnd (dTest (dOp eq2 (dVar 4) (dC (.int 4)))) (dTest (dOp gtW (dFnV 2 len1) (dC (.int 0)))))
  (dApp 2 (dCons (dTup (dCons (dC (.str "not")) (dCons (dPop 2) dNil))) dNil))
  (dIfS (dAnd (dTest (dOp gtW (dVar 4) (dC (.int 4)))) (dTest (dOp gtW (dFnV 2 len1) (dC (.int 1)))))
  (dSeq (dSet 5 (dPop 2))
  (dApp 2 (dCons (dTup (dCons (dOp ixW (dFz (dLst (dCons (dC (.str "and")) (dCons (dC (.str "or")) (dCons (dC (.str "odd")) dNil))))) (dOp subW (dVar 4) (dC (.int 5)))) (dCons (dPop 2) (dCons (dVar 5) dNil)))) dNil)))
  (dApp 2 (dCons (dCall (r q1u) (dCons (dVar 3) (dCons (dVar 1) dNil))) dNil)))))
noncomputable def q3a(K:PySem.W.Frag)(a:Adr)(r:Nat->List W->FR):List S->SR:=
 (dSeq (dIfS (dAnd (dTest (dOp gtW (dFn len1 (dCons (dVar 0) dNil)) (dC (.int 0)))) (dTest (dOp eq2 (dOp modW (dOp ixW (dVar 0) (dC (.int 0))) (dC (.int 16))) (dC (.int 5)))))
  (dRet (dCall (r q3z) (dCons (dOp fdivW (dOp ixW (dVar 0) (dC (.int 0))) (dC (.int 16))) (dCons (dVar 1) (dCons (dOp addX (dC (.int 4)) (dOp modW (dOp fdivW (dOp ixW (dVar 0) (dC (.int 0))) (dC (.int 16))) (dC (.int 55)))) dNil)))))
  dNx)
  (dSeq (dSetO 2 (dLst dNil))
  (dSeq (dFor 3 (dVar 0)
  (q2x K a r))
  (dSeq (dIfS (dTest (dOp eq2 (dFnV 2 len1) (dC (.int 0))))
  (dRet (dTup (dCons (dC (.str "is")) (dCons (dC (.bl false)) dNil))))
  dNx)
  (dSeq (whileD (q2w K a r)
  (q3o K a r) 1000000)
  (dRet (dIxV 2 (dC (.int 0)))))))))
noncomputable def q1n(K:PySem.W.Frag)(a:Adr)(r:Nat->List W->FR):List S->SR:=
 (dSeq (dIfS (dTest (dOp eq2 (dOp ixW (dVar 0) (dC (.int 0))) (dC (.str "is"))))
  (dRet (dOp ixW (dVar 0) (dC (.int 1))))
  dNx)
  (dSeq (dIfS (dTest (dOp eq2 (dOp ixW (dVar 0) (dC (.int 0))) (dC (.str "at"))))
  (dRet (dOp ixW (dVar 1) (dOp ixW (dVar 0) (dC (.int 1)))))
  dNx)
  (dSeq (dIfS (dTest (dOp eq2 (dOp ixW (dVar 0) (dC (.int 0))) (dC (.str "not"))))
  (dRet (dOp isW (dCall (r q1g) (dCons (dOp ixW (dVar 0) (dC (.int 1))) (dCons (dVar 1) dNil))) (dC (.bl false))))
  dNx)
  (dSeq (dSet 2 (dFz (dLst (dCons (dCall (r q1g) (dCons (dOp ixW (dVar 0) (dC (.int 1))) (dCons (dVar 1) dNil))) (dCons (dCall (r q1g) (dCons (dOp ixW (dVar 0) (dC (.int 2))) (dCons (dVar 1) dNil))) dNil)))))
  (dSeq (dIfS (dTest (dOp eq2 (dOp ixW (dVar 0) (dC (.int 0))) (dC (.str "and"))))
  (dRet (dOp eq2 (dVar 2) (dFz (dLst (dCons (dC (.bl true)) (dCons (dC (.bl true)) dNil))))))
  dNx)
  (dSeq (dIfS (dTest (dOp eq2 (dOp ixW (dVar 0) (dC (.int 0))) (dC (.str "or"))))
  (dRet (dOp ne2 (dVar 2) (dFz (dLst (dCons (dC (.bl false)) (dCons (dC (.bl false)) dNil))))))
  dNx)
  (dRet (dOp ne2 (dOp ixW (dVar 2) (dC (.int 0))) (dOp ixW (dVar 2) (dC (.int 1)))))))))))
noncomputable def q8x(K:PySem.W.Frag)(a:Adr)(r:Nat->List W->FR):Den W:=
 (dOp eq2 (dCall (r q0t) (dCons (dVar 1) (dCons (dVar 0) (dCons (dC (.int 2)) dNil)))) (dC (.int 1)))
noncomputable def q5f(K:PySem.W.Frag)(a:Adr)(r:Nat->List W->FR):List S->SR:=
 (dRet (dFn tup1 (dCons (dFz (dCompR rng1 [0] (dCons (dVar 1) dNil) dYes (q8x K a r))) dNil)))
noncomputable def q3v(K:PySem.W.Frag)(a:Adr)(r:Nat->List W->FR):List S->SR:=
 (dRet (dOp ixW (dC (.str "abcdefghijklmnopqrstuvwxyz")) (dOp modW (dVar 0) (dC (.int 26)))))
noncomputable def q36(K:PySem.W.Frag)(a:Adr)(r:Nat->List W->FR):Den W:=
 (dOp addX (dVar 2) (dSlX (dVar 1) dNoPart (dPart (dOp subW (dVar 0) (dC (.int 8))))))
noncomputable def q5g(K:PySem.W.Frag)(a:Adr)(r:Nat->List W->FR):Den W:=
 (dSlX (dVar 1) dNoPart (dPart (dOp addX (dVar 0) (dC (.int 1)))))
noncomputable def q3w(K:PySem.W.Frag)(a:Adr)(r:Nat->List W->FR):List S->SR:=
 (dSeq (dSet 2 (dFz (dCompR rng1 [0] (dCons (dFn min2 (dCons (dVar 1) (dCons (dC (.int 8)) dNil))) dNil) dYes (q5g K a r))))
  (dSeq (dSet 3 (dC (.str "x")))
  (dSeq (dIfS (dTest (dOp eq2 (dOp ixW (dVar 0) (dC (.int 0))) (dC (.str "x"))))
  (dSet 3 (dC (.str "z")))
  dNx)
  (dRet (dOp addX (dVar 2) (dFz (dCompR rng2 [0,3] (dCons (dC (.int 8)) (dCons (dVar 1) dNil)) dYes (q36 K a r))))))))
noncomputable def q2o(K:PySem.W.Frag)(a:Adr)(r:Nat->List W->FR):Den W:=
 (dOp inW (dVar 0) (dFz (dLst (dCons (dC (.str "yes")) (dCons (dC (.str "no")) (dCons (dC (.str "not")) (dCons (dC (.str "and")) (dCons (dC (.str "odd")) (dCons (dC (.str "or")) dNil)))))))))
noncomputable def q3b(K:PySem.W.Frag)(a:Adr)(r:Nat->List W->FR):List S->SR:=
 (dSeq (dSetO 7 (dList (dCons (dSlX (dVar 5) dNoPart (dPart (dVar 2))) dNil)))
  (dSeq (dPut 7 (dCall (r q14) (dCons (dOp addX (dCall (r q0t) (dCons (dVar 0) (dCons (dC (.int 5)) (dCons (dC (.int 26)) dNil)))) (dOp mulW (dC (.int 5)) (dVar 6))) dNil)) (dVar 3))
  (dApp 4 (dCons (dMeth "str" joinW (dC (.str "")) (dCons (dVar 7) dNil)) dNil))))
noncomputable def q2p(K:PySem.W.Frag)(a:Adr)(r:Nat->List W->FR):List S->SR:=
 (dIfS (dOr (dBorrowT (dTest (dOp eq2 (dVar 4) (dFz (dLst dNil))))) (dTru (dFn any1 (dCons (dFz (dComp [] (dVar 4) dYes (q2o K a r))) dNil))))
  (dSeq (dSet 4 (dCall (r q15) (dCons (dMeth "str" joinW (dC (.str "")) (dCons (dVar 5) dNil)) (dCons (dVar 1) dNil))))
  (dIfS (dTest (dOp gtW (dCall (r q0t) (dCons (dVar 0) (dCons (dC (.int 6)) (dCons (dC (.int 4)) dNil)))) (dC (.int 0))))
  (dSeq (dSetO 4 (dLst dNil))
  (dForR 6 rng1 (dCons (dVar 1) dNil)
  (q3b K a r)))
  dNx))
  dNx)
noncomputable def q5o(K:PySem.W.Frag)(a:Adr)(r:Nat->List W->FR):Den W:=
 (dCall (r q14) (dCons (dCall (r q0t) (dCons (dVar 1) (dCons (dOp addX (dC (.int 4)) (dVar 0)) (dCons (dC (.int 26)) dNil)))) dNil))
noncomputable def q4f(K:PySem.W.Frag)(a:Adr)(r:Nat->List W->FR):List S->SR:=
 (dSeq (dSet 2 (dOp addX (dC (.int 1)) (dCall (r q0t) (dCons (dVar 0) (dCons (dC (.int 2)) (dCons (dC (.int 8)) dNil))))))
  (dSeq (dSet 3 (dCall (r q0t) (dCons (dVar 0) (dCons (dC (.int 3)) (dCons (dVar 2) dNil)))))
  (dSeq (dSetO 4 (dLst dNil))
  (dSeq (dFor 5 (dFz (dLst (dCons (dFz (dCompR rng1 [0] (dCons (dC (.int 8)) dNil) dYes (q5o K a r))) (dCons (dOp repW (dFz (dLst (dCons (dC (.str "q")) dNil))) (dC (.int 8))) dNil))))
  (q2p K a r))
  (dRet (dFn tup1 (dCons (dVar 4) dNil)))))))
noncomputable def q22(K:PySem.W.Frag)(a:Adr)(r:Nat->List W->FR):List S->SR:=
 (dSeq (dSet 2 (dOp subW (dOp addX (dVar 2) (dFn int1 (dCons (dOp eq2 (dVar 3) (dC (.str "("))) dNil))) (dFn int1 (dCons (dOp eq2 (dVar 3) (dC (.str ")"))) dNil))))
  (dSet 1 (dFn max2 (dCons (dVar 1) (dCons (dVar 2) dNil)))))
noncomputable def q2y(K:PySem.W.Frag)(a:Adr)(r:Nat->List W->FR):List S->SR:=
 (dSeq (dSet 1 (dC (.int 0)))
  (dSeq (dSet 2 (dC (.int 0)))
  (dSeq (dForS 3 (dVar 0)
  (q22 K a r))
  (dRet (dVar 1)))))
noncomputable def q2m(K:PySem.W.Frag)(a:Adr)(r:Nat->List W->FR):List S->SR:=
 (dSeq (dIfS (dOr (dNot (dTru (dIsi K (.type "tuple") (dVar 0)))) (dOr (dTest (dOp ne2 (dFn len1 (dCons (dVar 0) dNil)) (dFn len1 (dCons (dVar 1) dNil)))) (dOr (dNot (dTru (dIsi K (.type "str") (dOp ixW (dVar 0) (dC (.int 0)))))) (dTest (dOp ne2 (dOp ixW (dVar 0) (dC (.int 0))) (dOp ixW (dVar 1) (dC (.int 0))))))))
  (dRet (dC (.bl false)))
  dNx)
  (dSeq (dIfS (dTest (dOp eq2 (dOp ixW (dVar 1) (dC (.int 0))) (dC (.str "is"))))
  (dRet (dAndV (dIsi K (.type "bool") (dOp ixW (dVar 0) (dC (.int 1)))) (dOp eq2 (dOp ixW (dVar 0) (dC (.int 1))) (dOp ixW (dVar 1) (dC (.int 1))))))
  dNx)
  (dSeq (dIfS (dTest (dOp eq2 (dOp ixW (dVar 1) (dC (.int 0))) (dC (.str "at"))))
  (dRet (dAndV (dCall (r q2t) (dCons (dOp ixW (dVar 0) (dC (.int 1))) dNil)) (dOp eq2 (dOp ixW (dVar 0) (dC (.int 1))) (dOp ixW (dVar 1) (dC (.int 1))))))
  dNx)
  (dSeq (dIfS (dTest (dOp eq2 (dOp ixW (dVar 1) (dC (.int 0))) (dC (.str "not"))))
  (dRet (dCall (r q05) (dCons (dOp ixW (dVar 0) (dC (.int 1))) (dCons (dOp ixW (dVar 1) (dC (.int 1))) dNil))))
  dNx)
  (dRet (dAndV (dCall (r q05) (dCons (dOp ixW (dVar 0) (dC (.int 1))) (dCons (dOp ixW (dVar 1) (dC (.int 1))) dNil))) (dCall (r q05) (dCons (dOp ixW (dVar 0) (dC (.int 2))) (dCons (dOp ixW (dVar 1) (dC (.int 2))) dNil)))))))))
noncomputable def q4g(K:PySem.W.Frag)(a:Adr)(r:Nat->List W->FR):List S->SR:=
 (dSeq (dSet 3 (dCall (r q2z) (dCons (dVar 0) (dCons (dVar 1) dNil))))
  (dSeq (dIfS (dNot (dTru (dIsi K (.type "str") (dVar 3))))
  (dRet (dC (.bl false)))
  dNx)
  (dSeq (dIfS (dTest (dOp gtW (dCall (r q1q) (dCons (dVar 3) dNil)) (dC (.int 12))))
  (dRet (dC (.bl true)))
  dNx)
  (dSeq (dSet 4 (dCall (r q5v) (dCons (dVar 3) (dCons (dVar 1) dNil))))
  (dRet (dAndV (dCall (r q05) (dCons (dVar 4) (dCons (dVar 0) dNil))) (dOp eq2 (dCall (r q3y) (dCons (dVar 4) (dCons (dVar 2) dNil))) (dCall (r q1g) (dCons (dVar 0) (dCons (dVar 2) dNil))))))))))
noncomputable def q9k(K:PySem.W.Frag)(a:Adr)(r:Nat->List W->FR):Den W:=
 (dOp addX (dOp addX (dOp mulW (dOp fdivW (dVar 0) (dC (.int 16))) (dC (.int 16))) (dC (.int 8))) (dOp modW (dVar 0) (dC (.int 8))))
noncomputable def x01(K:PySem.W.Frag)(a:Adr)(r:Nat->List W->FR):List S->SR:=
 (dSeq (dSet 1 (dOp modW (dCall (r q0v) (dCons (dVar 0) (dCons (dC (.int 0)) dNil))) (dC (.int 13))))
  (dSeq (dSet 2 (dFz (dComp [] (dSlX (dVar 0) (dPart (dC (.int 3))) (dPart (dC (.int 27)))) dYes (q9k K a r))))
  (dSeq (dSet 3 (dCall (r q1r) (dCons (dSlX (dVar 2) dNoPart (dPart (dOp fdivW (dFn len1 (dCons (dVar 2) dNil)) (dC (.int 2))))) (dCons (dVar 1) dNil))))
  (dSeq (dSet 4 (dCall (r q1r) (dCons (dSlX (dVar 2) (dPart (dOp fdivW (dFn len1 (dCons (dVar 2) dNil)) (dC (.int 2)))) dNoPart) (dCons (dVar 1) dNil))))
  (dSeq (dIfS (dTest (dOp eq2 (dOp modW (dOp fdivW (dCall (r q0v) (dCons (dVar 0) (dCons (dC (.int 0)) dNil))) (dC (.int 13))) (dC (.int 4))) (dC (.int 1))))
  (dSet 4 (dVar 3))
  dNx)
  (dSeq (dSet 5 (dCall (r q2e) (dCons (dCall (r q0v) (dCons (dVar 0) (dCons (dC (.int 1)) dNil))) (dCons (dVar 1) dNil))))
  (dSeq (dSet 6 (dCall (r q21) (dCons (dCall (r q0v) (dCons (dVar 0) (dCons (dC (.int 2)) dNil))) (dCons (dC (.int 12)) dNil))))
  (dSeq (dIfS (dOr (dNot (dTru (dCall (r q02) (dCons (dVar 3) (dCons (dVar 5) (dCons (dVar 6) dNil)))))) (dNot (dTru (dCall (r q02) (dCons (dVar 4) (dCons (dVar 5) (dCons (dVar 6) dNil)))))))
  (dRet (dC (.bl false)))
  dNx)
  (dSeq (dIfS (dTest (dOp ne2 (dOp eq2 (dCall (r q2z) (dCons (dVar 3) (dCons (dVar 5) dNil))) (dCall (r q2z) (dCons (dVar 4) (dCons (dVar 5) dNil)))) (dOp eq2 (dVar 3) (dVar 4))))
  (dRet (dC (.bl false)))
  dNx)
  (dRet (dCall (r q02) (dCons (dCall (r q1o) (dCons (dVar 3) (dCons (dOp repW (dFz (dLst (dCons (dVar 4) dNil))) (dVar 1)) dNil))) (dCons (dVar 5) (dCons (dVar 6) dNil))))))))))))))
noncomputable def body(K:PySem.W.Frag)(a:Adr)(r:Nat->List W->FR)(ws:List W):Nat->FR
 |0=>if ws.length=2 then(q32 K a r (init 5 ws)).fn else .no
 |1=>if ws.length=2 then(q3l K a r (init 2 ws)).fn else .no
 |2=>if ws.length=2 then(q4a K a r (init 3 ws)).fn else .no
 |3=>if ws.length=2 then(q68 K a r (init 2 ws)).fn else .no
 |4=>if ws.length=2 then(q8w K a r (init 5 ws)).fn else .no
 |5=>if ws.length=1 then(q2u K a r (init 4 ws)).fn else .no
 |6=>if ws.length=1 then(q5w K a r (init 1 ws)).fn else .no
 |7=>if ws.length=1 then(q2k K a r (init 1 ws)).fn else .no
 |8=>if ws.length=2 then(q3d K a r (init 7 ws)).fn else .no
 |9=>if ws.length=3 then(q4x K a r (init 4 ws)).fn else .no
 |10=>if ws.length=1 then(q4y K a r (init 4 ws)).fn else .no
 |11=>if ws.length=2 then(q28 K a r (init 3 ws)).fn else .no
 |12=>if ws.length=3 then(q3u K a r (init 8 ws)).fn else .no
 |13=>if ws.length=3 then(q4z K a r (init 3 ws)).fn else .no
 |14=>if ws.length=2 then(q4b K a r (init 2 ws)).fn else .no
 |15=>if ws.length=2 then(q2v K a r (init 6 ws)).fn else .no
 |16=>if ws.length=3 then(q6n K a r (initM 5 ws)).fm else .no
 |17=>if ws.length=2 then(q4c K a r (init 2 ws)).fn else .no
 |18=>if ws.length=2 then(q29 K a r (init 2 ws)).fn else .no
 |19=>if ws.length=1 then(q4d K a r (init 1 ws)).fn else .no
 |20=>if ws.length=3 then(q4e K a r (init 5 ws)).fn else .no
 |21=>if ws.length=2 then(q40 K a r (init 2 ws)).fn else .no
 |22=>if ws.length=3 then(q5q K a r (init 6 ws)).fn else .no
 |23=>if ws.length=2 then(q3a K a r (init 6 ws)).fn else .no
 |24=>if ws.length=2 then(q1n K a r (init 3 ws)).fn else .no
 |25=>if ws.length=2 then(q5f K a r (init 2 ws)).fn else .no
 |26=>if ws.length=1 then(q3v K a r (init 1 ws)).fn else .no
 |27=>if ws.length=2 then(q3w K a r (init 4 ws)).fn else .no
 |28=>if ws.length=2 then(q4f K a r (init 8 ws)).fn else .no
 |29=>if ws.length=1 then(q2y K a r (init 4 ws)).fn else .no
 |30=>if ws.length=2 then(q2m K a r (init 2 ws)).fn else .no
 |31=>if ws.length=3 then(q4g K a r (init 5 ws)).fn else .no
 |32=>if ws.length=1 then(x01 K a r (init 7 ws)).fn else .no
 |_=>.no
noncomputable def run(K:PySem.W.Frag)(a:Adr):Nat->Nat->List W->FR
 |0,_,_=>.no
 |n+1,i,ws=>body K a (run K a n) ws i
theorem q4h:run K a (n+1) q3y ws=if ws.length=2 then(q32 K a (run K a n) (init 5 ws)).fn else .no:=rfl
theorem q5h:run K a (n+1) q11 ws=if ws.length=2 then(q3l K a (run K a n) (init 2 ws)).fn else .no:=rfl
theorem q5i:run K a (n+1) q1o ws=if ws.length=2 then(q4a K a (run K a n) (init 3 ws)).fn else .no:=rfl
theorem x2s:run K a (n+1) q2z ws=if ws.length=2 then(q68 K a (run K a n) (init 2 ws)).fn else .no:=rfl
theorem x4t:run K a (n+1) q5v ws=if ws.length=2 then(q8w K a (run K a n) (init 5 ws)).fn else .no:=rfl
theorem q5x:run K a (n+1) q03 ws=if ws.length=1 then(q2u K a (run K a n) (init 4 ws)).fn else .no:=rfl
theorem q9x:run K a (n+1) q39 ws=if ws.length=1 then(q5w K a (run K a n) (init 1 ws)).fn else .no:=rfl
theorem q5j:run K a (n+1) q09 ws=if ws.length=1 then(q2k K a (run K a n) (init 1 ws)).fn else .no:=rfl
theorem q41:run K a (n+1) q1a ws=if ws.length=2 then(q3d K a (run K a n) (init 7 ws)).fn else .no:=rfl
theorem q78:run K a (n+1) q2c ws=if ws.length=3 then(q4x K a (run K a n) (init 4 ws)).fn else .no:=rfl
theorem q79:run K a (n+1) q23 ws=if ws.length=1 then(q4y K a (run K a n) (init 4 ws)).fn else .no:=rfl
theorem q6o:run K a (n+1) q19 ws=if ws.length=2 then(q28 K a (run K a n) (init 3 ws)).fn else .no:=rfl
theorem q6v:run K a (n+1) q2j ws=if ws.length=3 then(q3u K a (run K a n) (init 8 ws)).fn else .no:=rfl
theorem q8a:run K a (n+1) q24 ws=if ws.length=3 then(q4z K a (run K a n) (init 3 ws)).fn else .no:=rfl
theorem q69:run K a (n+1) q2r ws=if ws.length=2 then(q4b K a (run K a n) (init 2 ws)).fn else .no:=rfl
theorem q5y:run K a (n+1) q1p ws=if ws.length=2 then(q2v K a (run K a n) (init 6 ws)).fn else .no:=rfl
theorem x02:run K a (n+1) q3k ws=if ws.length=3 then(q6n K a (run K a n) (initM 5 ws)).fm else .no:=rfl
theorem q7a:run K a (n+1) q2s ws=if ws.length=2 then(q4c K a (run K a n) (init 2 ws)).fn else .no:=rfl
theorem q6p:run K a (n+1) q0v ws=if ws.length=2 then(q29 K a (run K a n) (init 2 ws)).fn else .no:=rfl
theorem q7b:run K a (n+1) q2t ws=if ws.length=1 then(q4d K a (run K a n) (init 1 ws)).fn else .no:=rfl
theorem q7c:run K a (n+1) q0t ws=if ws.length=3 then(q4e K a (run K a n) (init 5 ws)).fn else .no:=rfl
theorem q8b:run K a (n+1) q1u ws=if ws.length=2 then(q40 K a (run K a n) (init 2 ws)).fn else .no:=rfl
theorem x3b:run K a (n+1) q3z ws=if ws.length=3 then(q5q K a (run K a n) (init 6 ws)).fn else .no:=rfl
theorem q6q:run K a (n+1) q1r ws=if ws.length=2 then(q3a K a (run K a n) (init 6 ws)).fn else .no:=rfl
theorem q2a:run K a (n+1) q1g ws=if ws.length=2 then(q1n K a (run K a n) (init 3 ws)).fn else .no:=rfl
theorem q8y:run K a (n+1) q21 ws=if ws.length=2 then(q5f K a (run K a n) (init 2 ws)).fn else .no:=rfl
theorem q6w:run K a (n+1) q14 ws=if ws.length=1 then(q3v K a (run K a n) (init 1 ws)).fn else .no:=rfl
theorem q6x:run K a (n+1) q15 ws=if ws.length=2 then(q3w K a (run K a n) (init 4 ws)).fn else .no:=rfl
theorem q7d:run K a (n+1) q2e ws=if ws.length=2 then(q4f K a (run K a n) (init 8 ws)).fn else .no:=rfl
theorem q5z:run K a (n+1) q1q ws=if ws.length=1 then(q2y K a (run K a n) (init 4 ws)).fn else .no:=rfl
theorem q3x:run K a (n+1) q05 ws=if ws.length=2 then(q2m K a (run K a n) (init 2 ws)).fn else .no:=rfl
theorem q7e:run K a (n+1) q02 ws=if ws.length=3 then(q4g K a (run K a n) (init 5 ws)).fn else .no:=rfl
theorem x6m:run K a (n+1) q6u ws=if ws.length=1 then(x01 K a (run K a n) (init 7 ws)).fn else .no:=rfl
section
variable{P:Program}{w:World}{base:Heap}
structure Ats(K:PySem.W.Frag)(mg:Str->Option Value):Prop where
 value:At K mg "value" q30 ["form", "row"]
 thing_at:At K mg "thing_at" q2d ["things", "place"]
 put_in:At K mg "put_in" q25 ["form", "forms"]
 shown:At K mg "shown" q31 ["form", "names"]
 read:At K mg "read" q4w ["text", "names"]
 places_by_name:At K mg "places_by_name" q0x ["names"]
 is_name:At K mg "is_name" q2f ["name"]
 is_small_letter:At K mg "is_small_letter" q0u ["sign"]
 text_of:At K mg "text_of" q2l ["form", "names"]
 bracketed:At K mg "bracketed" q1v ["form", "least", "names"]
 pieces_of:At K mg "pieces_of" q1w ["text"]
 end_of_piece:At K mg "end_of_piece" q06 ["text", "place"]
 first_fault:At K mg "first_fault" q1c ["pieces", "places", "length"]
 can_begin:At K mg "can_begin" q1x ["piece", "brackets", "places"]
 can_follow:At K mg "can_follow" q1h ["piece", "brackets"]
 form_of_pieces:At K mg "form_of_pieces" q0y ["pieces", "places"]
 settle:At K mg "settle" q26 ["forms", "waiting", "least"]
 plain_form:At K mg "plain_form" q1i ["piece", "places"]
 _law_cell_at:At K mg "_law_cell_at" q07 ["_law_script", "_law_k"]
 _law_whole:At K mg "_law_whole" q1j ["_law_found"]
 _law_mixed:At K mg "_law_mixed" q1k ["_law_cell", "_law_k", "_law_many"]
 _law_leaf:At K mg "_law_leaf" q1y ["_law_cell", "_law_many"]
 _law_deep:At K mg "_law_deep" q1z ["_law_cell", "_law_many", "_law_tall"]
 _law_form_by:At K mg "_law_form_by" q08 ["_law_cells", "_law_many"]
 _law_truth:At K mg "_law_truth" q1l ["_law_form", "_law_row_here"]
 _law_row:At K mg "_law_row" q12 ["_law_cell", "_law_many"]
 _law_letter:At K mg "_law_letter" q1d ["_law_k"]
 _law_longer:At K mg "_law_longer" q01 ["_law_word", "_law_many"]
 _law_names:At K mg "_law_names" q04 ["_law_cell", "_law_many"]
 _law_most_open:At K mg "_law_most_open" q0z ["_law_told"]
 _law_same:At K mg "_law_same" q10 ["_law_found", "_law_due"]
 _law_right:At K mg "_law_right" q1m ["_law_form", "_law_names_here", "_law_row_here"]
 law:At K mg "law" q4r ["_law_script"]
structure Cals(P:Program)(w:World)(K:PySem.W.Frag)(mg:Str->Option Value)(base:Heap)(a:Adr)(n:Nat):Prop where
 value:Cal P w K mg base n "value" ["form", "row"] (spF K (run K a n q3y))
 thing_at:Cal P w K mg base n "thing_at" ["things", "place"] (spF K (run K a n q11))
 put_in:Cal P w K mg base n "put_in" ["form", "forms"] (spF K (run K a n q1o))
 shown:Cal P w K mg base n "shown" ["form", "names"] (spF K (run K a n q2z))
 read:Cal P w K mg base n "read" ["text", "names"] (spF K (run K a n q5v))
 places_by_name:Cal P w K mg base n "places_by_name" ["names"] (spF K (run K a n q03))
 is_name:Cal P w K mg base n "is_name" ["name"] (spF K (run K a n q39))
 is_small_letter:Cal P w K mg base n "is_small_letter" ["sign"] (spF K (run K a n q09))
 text_of:Cal P w K mg base n "text_of" ["form", "names"] (spF K (run K a n q1a))
 bracketed:Cal P w K mg base n "bracketed" ["form", "least", "names"] (spF K (run K a n q2c))
 pieces_of:Cal P w K mg base n "pieces_of" ["text"] (spF K (run K a n q23))
 end_of_piece:Cal P w K mg base n "end_of_piece" ["text", "place"] (spF K (run K a n q19))
 first_fault:Cal P w K mg base n "first_fault" ["pieces", "places", "length"] (spF K (run K a n q2j))
 can_begin:Cal P w K mg base n "can_begin" ["piece", "brackets", "places"] (spF K (run K a n q24))
 can_follow:Cal P w K mg base n "can_follow" ["piece", "brackets"] (spF K (run K a n q2r))
 form_of_pieces:Cal P w K mg base n "form_of_pieces" ["pieces", "places"] (spF K (run K a n q1p))
 settle:Cal P w K mg base n "settle" ["forms", "waiting", "least"] (spM K (run K a n q3k))
 plain_form:Cal P w K mg base n "plain_form" ["piece", "places"] (spF K (run K a n q2s))
 _law_cell_at:Cal P w K mg base n "_law_cell_at" ["_law_script", "_law_k"] (spF K (run K a n q0v))
 _law_whole:Cal P w K mg base n "_law_whole" ["_law_found"] (spF K (run K a n q2t))
 _law_mixed:Cal P w K mg base n "_law_mixed" ["_law_cell", "_law_k", "_law_many"] (spF K (run K a n q0t))
 _law_leaf:Cal P w K mg base n "_law_leaf" ["_law_cell", "_law_many"] (spF K (run K a n q1u))
 _law_deep:Cal P w K mg base n "_law_deep" ["_law_cell", "_law_many", "_law_tall"] (spF K (run K a n q3z))
 _law_form_by:Cal P w K mg base n "_law_form_by" ["_law_cells", "_law_many"] (spF K (run K a n q1r))
 _law_truth:Cal P w K mg base n "_law_truth" ["_law_form", "_law_row_here"] (spF K (run K a n q1g))
 _law_row:Cal P w K mg base n "_law_row" ["_law_cell", "_law_many"] (spF K (run K a n q21))
 _law_letter:Cal P w K mg base n "_law_letter" ["_law_k"] (spF K (run K a n q14))
 _law_longer:Cal P w K mg base n "_law_longer" ["_law_word", "_law_many"] (spF K (run K a n q15))
 _law_names:Cal P w K mg base n "_law_names" ["_law_cell", "_law_many"] (spF K (run K a n q2e))
 _law_most_open:Cal P w K mg base n "_law_most_open" ["_law_told"] (spF K (run K a n q1q))
 _law_same:Cal P w K mg base n "_law_same" ["_law_found", "_law_due"] (spF K (run K a n q05))
 _law_right:Cal P w K mg base n "_law_right" ["_law_form", "_law_names_here", "_law_row_here"] (spF K (run K a n q02))
 law:Cal P w K mg base n "law" ["_law_script"] (spF K (run K a n q6u))
structure CalsH(P:Program)(w:World)(K:PySem.W.Frag)(mg:Str->Option Value)(base:Heap)(a:Adr)(n:Nat):Prop where
 z:True
theorem y7e(B:Blt P w K mg)(M:Exs K mg a)(C:Cals P w K mg base a n)(CH:CalsH P w K mg base a n){outer:List Env}(hr:Room n (A.deeper (PyProof.Rows.envOfC "value" (defScope q30) s.heap.objs.size f cdv))):
  DSs Z (cxOf (CX1 P w) P w K mg base ["form", "row", "word", "left", "right"] "value" (defScope q30) f cdv A outer s H E) (fun _=>E) (defBody q30) (q32 K a (run K a n)):=
 (q0d (q0l 2 sc_value.nd (q0n (dv 0) q0b))
  (q0d (q0p (q0s (q0g hr) (dv 2) q0h)
  (q0e (q0k (q0n (dv 0) q0b)))
  q0m)
  (q0d (q0p (q0s (q0g hr) (dv 2) q0h)
  (q0e (q0k (q0i C.thing_at hr pass1 (q0a (dv 1) (q0a (q0n (dv 0) q0b) q0c)))))
  q0m)
  (q0d (q0p (q0s (q0g hr) (dv 2) q0h)
  (q0e (q0k (x83 (q0i C.value hr pass1 (q0a (q0n (dv 0) q0b) (q0a (dv 1) q0c))))))
  q0m)
  (q0d (q0l 3 sc_value.nd (q0i C.value hr pass1 (q0a (q0n (dv 0) q0b) (q0a (dv 1) q0c))))
  (q0d (q0l 4 sc_value.nd (q0i C.value hr pass1 (q0a (q0n (dv 0) q0b) (q0a (dv 1) q0c))))
  (q0d (q0p (q0s (q0g hr) (dv 2) q0h)
  (q0e (q0k (q6j (dv 3) (q4u (dv 4)))))
  q0m)
  (q0d (q0p (q0s (q0g hr) (dv 2) q0h)
  (q0e (q0k (x7b (dv 3) (q4u (dv 4)))))
  q0m)
  (q0e (q0k (x7e (q0g hr) (dv 3) (dv 4))))))))))))
theorem x6n(h:run K a (n+1) q3y ws≠.no):ws.length=2/\(q32 K a (run K a n) (init 5 ws)).fn=run K a (n+1) q3y ws:=by
 rw[q4h]at h |-;split at h
 ·rename_i hl;rw[if_pos hl];exact⟨hl,rfl⟩
 ·exact absurd rfl h
theorem y24(B:Blt P w K mg)(M:Exs K mg a)(C:Cals P w K mg base a n)(CH:CalsH P w K mg base a n)(A:Ats K mg):Cal P w K mg base (n+1) "value" ["form", "row"] (spF K (run K a (n+1) q3y)):=
 con A.value sc_value (fun ws hw=>(x6n hw).1) fun ws hw f cdv A outer s H E Z hr=>⟨_,y7e B M C CH hr,(x6n hw).2⟩
theorem x7w(B:Blt P w K mg)(M:Exs K mg a)(C:Cals P w K mg base a n)(CH:CalsH P w K mg base a n){outer:List Env}(hr:Room n (A.deeper (PyProof.Rows.envOfC "thing_at" (defScope q2d) s.heap.objs.size f cdv))):
  DSs Z (cxOf (CX1 P w) P w K mg base ["things", "place"] "thing_at" (defScope q2d) f cdv A outer s H E) (fun _=>E) (defBody q2d) (q3l K a (run K a n)):=
 (q0d (q0p (dt_w (q42 (q7r (dv 1) q0b) (q49 (y32 (dv 1) (q3r B.b_len (q0a (dv 0) q0c))))))
  (q0e (q7q rais1 M.e_NoPlace M.m_NoPlace rfl (q0a q0h q0c)))
  q0m)
  (q0e (q0k (q0n (dv 0) (dv 1)))))
theorem x03(h:run K a (n+1) q11 ws≠.no):ws.length=2/\(q3l K a (run K a n) (init 2 ws)).fn=run K a (n+1) q11 ws:=by
 rw[q5h]at h |-;split at h
 ·rename_i hl;rw[if_pos hl];exact⟨hl,rfl⟩
 ·exact absurd rfl h
theorem x5s(B:Blt P w K mg)(M:Exs K mg a)(C:Cals P w K mg base a n)(CH:CalsH P w K mg base a n)(A:Ats K mg):Cal P w K mg base (n+1) "thing_at" ["things", "place"] (spF K (run K a (n+1) q11)):=
 con A.thing_at x5q (fun ws hw=>(x03 hw).1) fun ws hw f cdv A outer s H E Z hr=>⟨_,x7w B M C CH hr,(x03 hw).2⟩
theorem y25(B:Blt P w K mg)(M:Exs K mg a)(C:Cals P w K mg base a n)(CH:CalsH P w K mg base a n){outer:List Env}(hr:Room n (A.deeper (PyProof.Rows.envOfC "put_in" (defScope q25) s.heap.objs.size f cdv))):
  DSs Z (cxOf (CX1 P w) P w K mg base ["form", "forms", "word"] "put_in" (defScope q25) f cdv A outer s H E) (fun _=>E) (defBody q25) (q4a K a (run K a n)):=
 (q0d (q0l 2 sc_put_in.nd (q0n (dv 0) q0b))
  (q0d (q0p (q0s (q0g hr) (dv 2) q0h)
  (q0e (q0k (dv 0)))
  q0m)
  (q0d (q0p (q0s (q0g hr) (dv 2) q0h)
  (q0e (q0k (q0i C.thing_at hr pass1 (q0a (dv 1) (q0a (q0n (dv 0) q0b) q0c)))))
  q0m)
  (q0d (q0p (q0s (q0g hr) (dv 2) q0h)
  (q0e (q0k (q16 (q0a q0h (q0a (q0i C.put_in hr pass1 (q0a (q0n (dv 0) q0b) (q0a (dv 1) q0c))) q0c)))))
  q0m)
  (q0e (q0k (q16 (q0a (dv 2) (q0a (q0i C.put_in hr pass1 (q0a (q0n (dv 0) q0b) (q0a (dv 1) q0c))) (q0a (q0i C.put_in hr pass1 (q0a (q0n (dv 0) q0b) (q0a (dv 1) q0c))) q0c))))))))))
theorem x4u(h:run K a (n+1) q1o ws≠.no):ws.length=2/\(q4a K a (run K a n) (init 3 ws)).fn=run K a (n+1) q1o ws:=by
 rw[q5i]at h |-;split at h
 ·rename_i hl;rw[if_pos hl];exact⟨hl,rfl⟩
 ·exact absurd rfl h
theorem y0g(B:Blt P w K mg)(M:Exs K mg a)(C:Cals P w K mg base a n)(CH:CalsH P w K mg base a n)(A:Ats K mg):Cal P w K mg base (n+1) "put_in" ["form", "forms"] (spF K (run K a (n+1) q1o)):=
 con A.put_in sc_put_in (fun ws hw=>(x4u hw).1) fun ws hw f cdv A outer s H E Z hr=>⟨_,y25 B M C CH hr,(x4u hw).2⟩
theorem y7f(B:Blt P w K mg)(M:Exs K mg a)(C:Cals P w K mg base a n)(CH:CalsH P w K mg base a n){outer:List Env}(hr:Room n (A.deeper (PyProof.Rows.envOfC "shown" (defScope q31) s.heap.objs.size f cdv))):
  DSs Z (cxOf (CX1 P w) P w K mg base ["form", "names"] "shown" (defScope q31) f cdv A outer s H E) (fun _=>E) (defBody q31) (q68 K a (run K a n)):=
 (q0d (x6b (q0i C.places_by_name hr pass1 (q0a (dv 1) q0c)))
  (q0e (q0k (q0i C.text_of hr pass1 (q0a (dv 0) (q0a (dv 1) q0c))))))
theorem x6o(h:run K a (n+1) q2z ws≠.no):ws.length=2/\(q68 K a (run K a n) (init 2 ws)).fn=run K a (n+1) q2z ws:=by
 rw[x2s]at h |-;split at h
 ·rename_i hl;rw[if_pos hl];exact⟨hl,rfl⟩
 ·exact absurd rfl h
theorem y26(B:Blt P w K mg)(M:Exs K mg a)(C:Cals P w K mg base a n)(CH:CalsH P w K mg base a n)(A:Ats K mg):Cal P w K mg base (n+1) "shown" ["form", "names"] (spF K (run K a (n+1) q2z)):=
 con A.shown y23 (fun ws hw=>(x6o hw).1) fun ws hw f cdv A outer s H E Z hr=>⟨_,y7f B M C CH hr,(x6o hw).2⟩
theorem z1w(B:Blt P w K mg)(M:Exs K mg a)(C:Cals P w K mg base a n)(CH:CalsH P w K mg base a n){outer:List Env}(hr:Room n (A.deeper (PyProof.Rows.envOfC "read" (defScope q4w) s.heap.objs.size f cdv))):
  DSs Z (cxOf (CX1 P w) P w K mg base ["text", "names", "places", "pieces", "wrong"] "read" (defScope q4w) f cdv A outer s H E) (fun _=>E) (defBody q4w) (q8w K a (run K a n)):=
 (q0d (q0l 2 sc_read.nd (q0i C.places_by_name hr pass1 (q0a (dv 1) q0c)))
  (q0d (q0l 3 sc_read.nd (q0i C.pieces_of hr pass1 (q0a (dv 0) q0c)))
  (q0d (q0l 4 sc_read.nd (q0i C.first_fault hr pass1 (q0a (dv 3) (q0a (dv 2) (q0a (q3r B.b_len (q0a (dv 0) q0c)) q0c)))))
  (q0d (q0p (y9h (dv 4) x82)
  (q0e (q7q rais1 M.e_BadText M.m_BadText rfl (q0a (q59 (q4v (q6l (dv 4) (q4v q66))) (by decide)) q0c)))
  q0m)
  (q0e (q0k (q0i C.form_of_pieces hr pass1 (q0a (dv 3) (q0a (dv 2) q0c)))))))))
theorem y0h(h:run K a (n+1) q5v ws≠.no):ws.length=2/\(q8w K a (run K a n) (init 5 ws)).fn=run K a (n+1) q5v ws:=by
 rw[x4t]at h |-;split at h
 ·rename_i hl;rw[if_pos hl];exact⟨hl,rfl⟩
 ·exact absurd rfl h
theorem y7g(B:Blt P w K mg)(M:Exs K mg a)(C:Cals P w K mg base a n)(CH:CalsH P w K mg base a n)(A:Ats K mg):Cal P w K mg base (n+1) "read" ["text", "names"] (spF K (run K a (n+1) q5v)):=
 con A.read sc_read (fun ws hw=>(y0h hw).1) fun ws hw f cdv A outer s H E Z hr=>⟨_,z1w B M C CH hr,(y0h hw).2⟩
theorem x0e(B:Blt P w K mg)(M:Exs K mg a)(C:Cals P w K mg base a n)(CH:CalsH P w K mg base a n){outer:List Env}(hr:Room n (A.deeper (PyProof.Rows.envOfC "places_by_name" (defScope q0x) s.heap.objs.size f cdv))):
  DSs Z (cxOf (CX1 P w) P w K mg base ["names", "places", "place", "name"] "places_by_name" (defScope q0x) f cdv A outer s H E) (fun _=>E) (defBody q0x) (q2u K a (run K a n)):=
 (q0d (y6o 1 sc_places_by_name.nd)
  (q0d (x1o 2 3 sc_places_by_name.nd PassesOwn.leaving rfl (y2x B.b_enumerate (q0a (dv 0) q0c))
  (q0d (q0p (q6i (q3q (q0i C.is_name hr pass1 (q0a (dv 3) q0c))))
  (q0e (q7q rais1 M.e_NoName M.m_NoName rfl (q0a (q59 (y6y (dv 3) (q4v q66)) (by decide)) q0c)))
  q0m)
  (q0d (q0p (x2r fun _=>(z1r (q0g hr) (dv 3) (dv 1)))
  (q0e (q7q rais1 M.e_NoName M.m_NoName rfl (q0a (q59 (q4v (q6l (dv 3) (q4v q66))) (by decide)) q0c)))
  q0m)
  (q0e (y6r 1 (q0g hr) (dv 2) (dv 3))))))
  (q0e (y6p 1))))
theorem q6r(h:run K a (n+1) q03 ws≠.no):ws.length=1/\(q2u K a (run K a n) (init 4 ws)).fn=run K a (n+1) q03 ws:=by
 rw[q5x]at h |-;split at h
 ·rename_i hl;rw[if_pos hl];exact⟨hl,rfl⟩
 ·exact absurd rfl h
theorem q9p(B:Blt P w K mg)(M:Exs K mg a)(C:Cals P w K mg base a n)(CH:CalsH P w K mg base a n)(A:Ats K mg):Cal P w K mg base (n+1) "places_by_name" ["names"] (spF K (run K a (n+1) q03)):=
 con A.places_by_name sc_places_by_name (fun ws hw=>(q6r hw).1) fun ws hw f cdv A outer s H E Z hr=>⟨_,x0e B M C CH hr,(q6r hw).2⟩
theorem y0i(B:Blt P w K mg)(M:Exs K mg a)(C:Cals P w K mg base a n)(CH:CalsH P w K mg base a n){outer:List Env}(hr:Room n (A.deeper (PyProof.Rows.envOfC "is_name" (defScope q2f) s.heap.objs.size f cdv))):
  DSs Z (cxOf (CX1 P w) P w K mg base ["name"] "is_name" (defScope q2f) f cdv A outer s H E) (fun _=>E) (defBody q2f) (q5w K a (run K a n)):=
 (q0d (q0p (dt_w (q42 (q7r (q3r B.b_len (q0a (dv 0) q0c)) q0b) (q42 (q5p (q3r B.b_len (q0a (dv 0) q0c)) (q5d M.m_LONGEST_NAME M.g_LONGEST_NAME)) (q49 (y35 (q0g hr) (dv 0) (q5d M.m_WORDS M.g_WORDS))))))
  (q0e (q0k q3j))
  q0m)
  (q0e (q0k (z02 rfl B.b_all (q0a (q20 (y2v (x:="sign") (Nf:=[]) (js:=[]) (sc:=defScope q2f) (N:=["name"]) rfl (dv 0) (by decide +kernel)
   (fun _ _ _ _ _ _=>q5l)
   (fun _ _ _ _ _ _=>(q0i C.is_small_letter hr passE (q0a (dv 0) q0c)))
   (fun _ _ _ _ _=>q35 0 (show(["sign"]:List Str).Nodup by decide +kernel)))) q0c)))))
theorem x2t(h:run K a (n+1) q39 ws≠.no):ws.length=1/\(q5w K a (run K a n) (init 1 ws)).fn=run K a (n+1) q39 ws:=by
 rw[q9x]at h |-;split at h
 ·rename_i hl;rw[if_pos hl];exact⟨hl,rfl⟩
 ·exact absurd rfl h
theorem x7x(B:Blt P w K mg)(M:Exs K mg a)(C:Cals P w K mg base a n)(CH:CalsH P w K mg base a n)(A:Ats K mg):Cal P w K mg base (n+1) "is_name" ["name"] (spF K (run K a (n+1) q39)):=
 con A.is_name x7v (fun ws hw=>(x2t hw).1) fun ws hw f cdv A outer s H E Z hr=>⟨_,y0i B M C CH hr,(x2t hw).2⟩
theorem q9q(B:Blt P w K mg)(M:Exs K mg a)(C:Cals P w K mg base a n)(CH:CalsH P w K mg base a n){outer:List Env}(hr:Room n (A.deeper (PyProof.Rows.envOfC "is_small_letter" (defScope q0u) s.heap.objs.size f cdv))):
  DSs Z (cxOf (CX1 P w) P w K mg base ["sign"] "is_small_letter" (defScope q0u) f cdv A outer s H E) (fun _=>E) (defBody q0u) (q2k K a (run K a n)):=
 (q0e (q0k (q6j (x9t q0h (dv 0)) (q4u (x9t (dv 0) q0h)))))
theorem q53(h:run K a (n+1) q09 ws≠.no):ws.length=1/\(q2k K a (run K a n) (init 1 ws)).fn=run K a (n+1) q09 ws:=by
 rw[q5j]at h |-;split at h
 ·rename_i hl;rw[if_pos hl];exact⟨hl,rfl⟩
 ·exact absurd rfl h
theorem q8z(B:Blt P w K mg)(M:Exs K mg a)(C:Cals P w K mg base a n)(CH:CalsH P w K mg base a n)(A:Ats K mg):Cal P w K mg base (n+1) "is_small_letter" ["sign"] (spF K (run K a (n+1) q09)):=
 con A.is_small_letter q8v (fun ws hw=>(q53 hw).1) fun ws hw f cdv A outer s H E Z hr=>⟨_,q9q B M C CH hr,(q53 hw).2⟩
theorem y0j(B:Blt P w K mg)(M:Exs K mg a)(C:Cals P w K mg base a n)(CH:CalsH P w K mg base a n){outer:List Env}(hr:Room n (A.deeper (PyProof.Rows.envOfC "text_of" (defScope q2l) s.heap.objs.size f cdv))):
  DSs Z (cxOf (CX1 P w) P w K mg base ["form", "names", "word", "own", "inner", "left", "right"] "text_of" (defScope q2l) f cdv A outer s H E) (fun _=>E) (defBody q2l) (q3d K a (run K a n)):=
 (q0d (q0l 2 sc_text_of.nd (q0n (dv 0) q0b))
  (q0d (q0p (q0s (q0g hr) (dv 2) q0h)
  (q0e (q0k (z2o (q3q (q0n (dv 0) q0b)) q0h q0h)))
  q0m)
  (q0d (q0p (q0s (q0g hr) (dv 2) q0h)
  (q0e (q0k (q0i C.thing_at hr pass1 (q0a (dv 1) (q0a (q0n (dv 0) q0b) q0c)))))
  q0m)
  (q0d (q0l 3 sc_text_of.nd (q8u B.t_TIGHTNESS (dv 2)))
  (q0d (q0p (q0s (q0g hr) (dv 2) q0h)
  (q0d (q0l 4 sc_text_of.nd (q0i C.bracketed hr pass1 (q0a (q0n (dv 0) q0b) (q0a (dv 3) (q0a (dv 1) q0c)))))
  (q0e (q0k (q59 (q4v (q6l (dv 4) q66)) (by decide)))))
  q0m)
  (q0d (q0l 5 sc_text_of.nd (q0i C.bracketed hr pass1 (q0a (q0n (dv 0) q0b) (q0a (dv 3) (q0a (dv 1) q0c)))))
  (q0d (q0l 6 sc_text_of.nd (q0i C.bracketed hr pass1 (q0a (q0n (dv 0) q0b) (q0a (q1e (dv 3) q0b) (q0a (dv 1) q0c)))))
  (q0e (q0k (q59 (q6l (dv 5) (q4v (q6l (dv 2) (q4v (q6l (dv 6) q66))))) (by decide)))))))))))
theorem x2u(h:run K a (n+1) q1a ws≠.no):ws.length=2/\(q3d K a (run K a n) (init 7 ws)).fn=run K a (n+1) q1a ws:=by
 rw[q41]at h |-;split at h
 ·rename_i hl;rw[if_pos hl];exact⟨hl,rfl⟩
 ·exact absurd rfl h
theorem x7y(B:Blt P w K mg)(M:Exs K mg a)(C:Cals P w K mg base a n)(CH:CalsH P w K mg base a n)(A:Ats K mg):Cal P w K mg base (n+1) "text_of" ["form", "names"] (spF K (run K a (n+1) q1a)):=
 con A.text_of sc_text_of (fun ws hw=>(x2u hw).1) fun ws hw f cdv A outer s H E Z hr=>⟨_,y0j B M C CH hr,(x2u hw).2⟩
theorem x5t(B:Blt P w K mg)(M:Exs K mg a)(C:Cals P w K mg base a n)(CH:CalsH P w K mg base a n){outer:List Env}(hr:Room n (A.deeper (PyProof.Rows.envOfC "bracketed" (defScope q1v) s.heap.objs.size f cdv))):
  DSs Z (cxOf (CX1 P w) P w K mg base ["form", "least", "names", "text"] "bracketed" (defScope q1v) f cdv A outer s H E) (fun _=>E) (defBody q1v) (q4x K a (run K a n)):=
 (q0d (q0l 3 sc_bracketed.nd (q0i C.text_of hr pass1 (q0a (dv 0) (q0a (dv 2) q0c))))
  (q0d (q0p (q7r (x7u B.t_TIGHTNESS (q0a (q0n (dv 0) q0b) (q0a (q5d M.m_WHOLE M.g_WHOLE) q0c))) (dv 1))
  (q0e (q0k (q59 (q4v (q6l (dv 3) (q4v q66))) (by decide))))
  q0m)
  (q0e (q0k (dv 3)))))
theorem q9y(h:run K a (n+1) q2c ws≠.no):ws.length=3/\(q4x K a (run K a n) (init 4 ws)).fn=run K a (n+1) q2c ws:=by
 rw[q78]at h |-;split at h
 ·rename_i hl;rw[if_pos hl];exact⟨hl,rfl⟩
 ·exact absurd rfl h
theorem x4v(B:Blt P w K mg)(M:Exs K mg a)(C:Cals P w K mg base a n)(CH:CalsH P w K mg base a n)(A:Ats K mg):Cal P w K mg base (n+1) "bracketed" ["form", "least", "names"] (spF K (run K a (n+1) q2c)):=
 con A.bracketed sc_bracketed (fun ws hw=>(q9y hw).1) fun ws hw f cdv A outer s H E Z hr=>⟨_,x5t B M C CH hr,(q9y hw).2⟩
theorem x5u(B:Blt P w K mg)(M:Exs K mg a)(C:Cals P w K mg base a n)(CH:CalsH P w K mg base a n){outer:List Env}(hr:Room n (A.deeper (PyProof.Rows.envOfC "pieces_of" (defScope q1w) s.heap.objs.size f cdv))):
  DSs Z (cxOf (CX1 P w) P w K mg base ["text", "pieces", "place", "end"] "pieces_of" (defScope q1w) f cdv A outer s H E) (fun _=>E) (defBody q1w) (q4y K a (run K a n)):=
 (q0d (q6k 1 sc_pieces_of.nd (q17 q0c))
  (q0d (q0l 2 sc_pieces_of.nd q0b)
  (q0d (q7o 1000000 PassesOwn.leaving (q7r (dv 2) (q3r B.b_len (q0a (dv 0) q0c)))
  (q0d (q0l 3 sc_pieces_of.nd (q0i C.end_of_piece hr pass1 (q0a (dv 0) (q0a (dv 2) q0c))))
  (q0d (q0p (x3n (q0g hr) (q0n (dv 0) (dv 2)) q0h)
  (q0e (q37 1 (q0a (q16 (q0a (dv 2) (q0a (q38 (dv 0) (q4q (dv 2)) (q4q (dv 3))) q0c))) q0c)))
  q0m)
  (q0e (q0l 2 sc_pieces_of.nd (dv 3))))))
  (q0e (y4x 1)))))
theorem q9z(h:run K a (n+1) q23 ws≠.no):ws.length=1/\(q4y K a (run K a n) (init 4 ws)).fn=run K a (n+1) q23 ws:=by
 rw[q79]at h |-;split at h
 ·rename_i hl;rw[if_pos hl];exact⟨hl,rfl⟩
 ·exact absurd rfl h
theorem x4w(B:Blt P w K mg)(M:Exs K mg a)(C:Cals P w K mg base a n)(CH:CalsH P w K mg base a n)(A:Ats K mg):Cal P w K mg base (n+1) "pieces_of" ["text"] (spF K (run K a (n+1) q23)):=
 con A.pieces_of sc_pieces_of (fun ws hw=>(q9z hw).1) fun ws hw f cdv A outer s H E Z hr=>⟨_,x5u B M C CH hr,(q9z hw).2⟩
theorem x1t(B:Blt P w K mg)(M:Exs K mg a)(C:Cals P w K mg base a n)(CH:CalsH P w K mg base a n){outer:List Env}(hr:Room n (A.deeper (PyProof.Rows.envOfC "end_of_piece" (defScope q06) s.heap.objs.size f cdv))):
  DSs Z (cxOf (CX1 P w) P w K mg base ["text", "place", "end"] "end_of_piece" (defScope q06) f cdv A outer s H E) (fun _=>E) (defBody q06) (q28 K a (run K a n)):=
 (q0d (q0l 2 sc_end_of_piece.nd (dv 1))
  (q0d (q7o 1000000 PassesOwn.leaving (dt_w (q8n (q7r (dv 2) (q3r B.b_len (q0a (dv 0) q0c))) (q60 (q3q (q0i C.is_small_letter hr pass1 (q0a (q0n (dv 0) (dv 2)) q0c))))))
  (q0e (q0l 2 sc_end_of_piece.nd (q1e (dv 2) q0b))))
  (q0e (q0k (x6g rfl B.b_max (q0a (dv 2) (q0a (q1e (dv 1) q0b) q0c)))))))
theorem q7f(h:run K a (n+1) q19 ws≠.no):ws.length=2/\(q28 K a (run K a n) (init 3 ws)).fn=run K a (n+1) q19 ws:=by
 rw[q6o]at h |-;split at h
 ·rename_i hl;rw[if_pos hl];exact⟨hl,rfl⟩
 ·exact absurd rfl h
theorem x04(B:Blt P w K mg)(M:Exs K mg a)(C:Cals P w K mg base a n)(CH:CalsH P w K mg base a n)(A:Ats K mg):Cal P w K mg base (n+1) "end_of_piece" ["text", "place"] (spF K (run K a (n+1) q19)):=
 con A.end_of_piece sc_end_of_piece (fun ws hw=>(q7f hw).1) fun ws hw f cdv A outer s H E Z hr=>⟨_,x1t B M C CH hr,(q7f hw).2⟩
theorem x3c(B:Blt P w K mg)(M:Exs K mg a)(C:Cals P w K mg base a n)(CH:CalsH P w K mg base a n){outer:List Env}(hr:Room n (A.deeper (PyProof.Rows.envOfC "first_fault" (defScope q1c) s.heap.objs.size f cdv))):
  DSs Z (cxOf (CX1 P w) P w K mg base ["pieces", "places", "length", "awaits_form", "brackets", "place", "piece", "fine"] "first_fault" (defScope q1c) f cdv A outer s H E) (fun _=>E) (defBody q1c) (q3u K a (run K a n)):=
 (q0d (q0l 3 sc_first_fault.nd q3j)
  (q0d (q0l 4 sc_first_fault.nd q0b)
  (q0d (x1o 5 6 sc_first_fault.nd PassesOwn.leaving rfl (x4j (dv 0))
  (q0d (q0p (q3q (dv 3))
  (q0e (q0l 7 sc_first_fault.nd (q0i C.can_begin hr pass1 (q0a (dv 6) (q0a (dv 4) (q0a (dv 1) q0c))))))
  (q0e (q0l 7 sc_first_fault.nd (q0i C.can_follow hr pass1 (q0a (dv 6) (q0a (dv 4) q0c))))))
  (q0d (q0p (q6i (q3q (dv 7)))
  (q0e (q0k (dv 5)))
  q0m)
  (q0e (q0p (q0s (q0g hr) (dv 6) q0h)
  (q0e (q0l 4 sc_first_fault.nd (q1e (dv 4) q0b)))
  (q0e (q0p (q0s (q0g hr) (dv 6) q0h)
  (q0e (q0l 4 sc_first_fault.nd (q8q (dv 4) q0b)))
  (q0e (q0l 3 sc_first_fault.nd (x7b (q5c (q0g hr) (dv 6) q0h) (q4u (x3o (q0g hr) (dv 6) (q5d M.m_JOINING M.g_JOINING)))))))))))))
  (q0d (q0p (dt_w (q42 (q3q (dv 3)) (q49 (q5p (dv 4) q0b))))
  (q0e (q0k (dv 2)))
  q0m)
  (q0e (q0k x82))))))
theorem q8c(h:run K a (n+1) q2j ws≠.no):ws.length=3/\(q3u K a (run K a n) (init 8 ws)).fn=run K a (n+1) q2j ws:=by
 rw[q6v]at h |-;split at h
 ·rename_i hl;rw[if_pos hl];exact⟨hl,rfl⟩
 ·exact absurd rfl h
theorem x1u(B:Blt P w K mg)(M:Exs K mg a)(C:Cals P w K mg base a n)(CH:CalsH P w K mg base a n)(A:Ats K mg):Cal P w K mg base (n+1) "first_fault" ["pieces", "places", "length"] (spF K (run K a (n+1) q2j)):=
 con A.first_fault sc_first_fault (fun ws hw=>(q8c hw).1) fun ws hw f cdv A outer s H E Z hr=>⟨_,x3c B M C CH hr,(q8c hw).2⟩
theorem x5v(B:Blt P w K mg)(M:Exs K mg a)(C:Cals P w K mg base a n)(CH:CalsH P w K mg base a n){outer:List Env}(hr:Room n (A.deeper (PyProof.Rows.envOfC "can_begin" (defScope q1x) s.heap.objs.size f cdv))):
  DSs Z (cxOf (CX1 P w) P w K mg base ["piece", "brackets", "places"] "can_begin" (defScope q1x) f cdv A outer s H E) (fun _=>E) (defBody q1x) (q4z K a (run K a n)):=
 (q0d (q0p (q0s (q0g hr) (dv 0) q0h)
  (q0e (q0k (z2t (dv 1) (q5d M.m_MOST_BRACKETS M.g_MOST_BRACKETS))))
  q0m)
  (q0e (q0k (x7b (x3o (q0g hr) (dv 0) (q16 (q0a q0h (q0a q0h (q0a q0h q0c))))) (q4u (z1q (q0g hr) (dv 0) (dv 2)))))))
theorem q90(h:run K a (n+1) q24 ws≠.no):ws.length=3/\(q4z K a (run K a n) (init 3 ws)).fn=run K a (n+1) q24 ws:=by
 rw[q8a]at h |-;split at h
 ·rename_i hl;rw[if_pos hl];exact⟨hl,rfl⟩
 ·exact absurd rfl h
theorem x4x(B:Blt P w K mg)(M:Exs K mg a)(C:Cals P w K mg base a n)(CH:CalsH P w K mg base a n)(A:Ats K mg):Cal P w K mg base (n+1) "can_begin" ["piece", "brackets", "places"] (spF K (run K a (n+1) q24)):=
 con A.can_begin x4q (fun ws hw=>(q90 hw).1) fun ws hw f cdv A outer s H E Z hr=>⟨_,x5v B M C CH hr,(q90 hw).2⟩
theorem x4y(B:Blt P w K mg)(M:Exs K mg a)(C:Cals P w K mg base a n)(CH:CalsH P w K mg base a n){outer:List Env}(hr:Room n (A.deeper (PyProof.Rows.envOfC "can_follow" (defScope q1h) s.heap.objs.size f cdv))):
  DSs Z (cxOf (CX1 P w) P w K mg base ["piece", "brackets"] "can_follow" (defScope q1h) f cdv A outer s H E) (fun _=>E) (defBody q1h) (q4b K a (run K a n)):=
 (q0d (q0p (q0s (q0g hr) (dv 0) q0h)
  (q0e (q0k (z2u (dv 1) q0b)))
  q0m)
  (q0e (q0k (x3o (q0g hr) (dv 0) (q5d M.m_JOINING M.g_JOINING)))))
theorem q80(h:run K a (n+1) q2r ws≠.no):ws.length=2/\(q4b K a (run K a n) (init 2 ws)).fn=run K a (n+1) q2r ws:=by
 rw[q69]at h |-;split at h
 ·rename_i hl;rw[if_pos hl];exact⟨hl,rfl⟩
 ·exact absurd rfl h
theorem x3d(B:Blt P w K mg)(M:Exs K mg a)(C:Cals P w K mg base a n)(CH:CalsH P w K mg base a n)(A:Ats K mg):Cal P w K mg base (n+1) "can_follow" ["piece", "brackets"] (spF K (run K a (n+1) q2r)):=
 con A.can_follow x27 (fun ws hw=>(q80 hw).1) fun ws hw f cdv A outer s H E Z hr=>⟨_,x4y B M C CH hr,(q80 hw).2⟩
theorem x0f(B:Blt P w K mg)(M:Exs K mg a)(C:Cals P w K mg base a n)(CH:CalsH P w K mg base a n){outer:List Env}(hr:Room n (A.deeper (PyProof.Rows.envOfC "form_of_pieces" (defScope q0y) s.heap.objs.size f cdv))):
  DSs Z (cxOf (CX1 P w) P w K mg base ["pieces", "places", "forms", "waiting", "place", "piece"] "form_of_pieces" (defScope q0y) f cdv A outer s H E) (fun _=>E) (defBody q0y) (q2v K a (run K a n)):=
 (q0d (q6k 2 sc_form_of_pieces.nd (q17 q0c))
  (q0d (q6k 3 sc_form_of_pieces.nd (q17 q0c))
  (q0d (x1o 4 5 sc_form_of_pieces.nd PassesOwn.leaving rfl (x4j (dv 0))
  (q0e (q0p (dt_w (q42 (q0s (q0g hr) (dv 5) q0h) (q49 (q0s (q0g hr) (dv 5) q0h))))
  (q0e (q37 3 (q0a (dv 5) q0c)))
  (q0e (q0p (q0s (q0g hr) (dv 5) q0h)
  (q0d (x1r 2 3 (by decide) C.settle hr pass1 (q0a (q5d M.m_LOOSEST_WORD M.g_LOOSEST_WORD) q0c))
  (q0e (x6b (q5b 3))))
  (q0e (q0p (y35 (q0g hr) (dv 5) (q5d M.m_JOINING M.g_JOINING))
  (q0d (x1r 2 3 (by decide) C.settle hr pass1 (q0a (q8u B.t_TIGHTNESS (dv 5)) q0c))
  (q0e (q37 3 (q0a (dv 5) q0c))))
  (q0e (q37 2 (q0a (q0i C.plain_form hr pass1 (q0a (dv 5) (q0a (dv 1) q0c))) q0c))))))))))
  (q0d (x1r 2 3 (by decide) C.settle hr pass1 (q0a (q5d M.m_LOOSEST_WORD M.g_LOOSEST_WORD) q0c))
  (q0e (q0k (x38 2 q0b)))))))
theorem q6s(h:run K a (n+1) q1p ws≠.no):ws.length=2/\(q2v K a (run K a n) (init 6 ws)).fn=run K a (n+1) q1p ws:=by
 rw[q5y]at h |-;split at h
 ·rename_i hl;rw[if_pos hl];exact⟨hl,rfl⟩
 ·exact absurd rfl h
theorem q9r(B:Blt P w K mg)(M:Exs K mg a)(C:Cals P w K mg base a n)(CH:CalsH P w K mg base a n)(A:Ats K mg):Cal P w K mg base (n+1) "form_of_pieces" ["pieces", "places"] (spF K (run K a (n+1) q1p)):=
 con A.form_of_pieces sc_form_of_pieces (fun ws hw=>(q6s hw).1) fun ws hw f cdv A outer s H E Z hr=>⟨_,x0f B M C CH hr,(q6s hw).2⟩
theorem y27(B:Blt P w K mg)(M:Exs K mg a)(C:Cals P w K mg base a n)(CH:CalsH P w K mg base a n){outer:List Env}(hr:Room n (A.deeper (PyProof.Rows.envOfC "settle" (defScope q26) s.heap.objs.size f cdv))):
  DSs Z (cxOf (CX1 P w) P w K mg base ["forms", "waiting", "least", "word", "last"] "settle" (defScope q26) f cdv A outer s H E) (fun _=>E) (defBody q26) (q6n K a (run K a n)):=
 (q0e (q7o 1000000 PassesOwn.leaving (dt_w (q8n (q5p (q58 1 B.b_len) q0b) (q60 (y32 (q8u B.t_TIGHTNESS (x38 1 (y9g q0b))) (dv 2)))))
  (q0d (q0l 3 sc_settle.nd (q5b 1))
  (q0d (q0l 4 sc_settle.nd (q5b 0))
  (q0e (q0p (q0s (q0g hr) (dv 3) q0h)
  (q0e (q37 0 (q0a (q16 (q0a q0h (q0a (dv 4) q0c))) q0c)))
  (q0e (q37 0 (q0a (q16 (q0a (dv 3) (q0a (q5b 0) (q0a (dv 4) q0c)))) q0c)))))))))
theorem x4z(h:run K a (n+1) q3k ws≠.no):ws.length=3/\(q6n K a (run K a n) (initM 5 ws)).fm=run K a (n+1) q3k ws:=by
 rw[x02]at h |-;split at h
 ·rename_i hl;rw[if_pos hl];exact⟨hl,rfl⟩
 ·exact absurd rfl h
theorem y0k(B:Blt P w K mg)(M:Exs K mg a)(C:Cals P w K mg base a n)(CH:CalsH P w K mg base a n)(A:Ats K mg):Cal P w K mg base (n+1) "settle" ["forms", "waiting", "least"] (spM K (run K a (n+1) q3k)):=
 conM2 A.settle sc_settle (fun ws hw=>(x4z hw).1) fun ws hw f cdv A outer s H E Z hr=>⟨_,y27 B M C CH hr,(x4z hw).2⟩
theorem x40(B:Blt P w K mg)(M:Exs K mg a)(C:Cals P w K mg base a n)(CH:CalsH P w K mg base a n){outer:List Env}(hr:Room n (A.deeper (PyProof.Rows.envOfC "plain_form" (defScope q1i) s.heap.objs.size f cdv))):
  DSs Z (cxOf (CX1 P w) P w K mg base ["piece", "places"] "plain_form" (defScope q1i) f cdv A outer s H E) (fun _=>E) (defBody q1i) (q4c K a (run K a n)):=
 (q0d (q0p (q0s (q0g hr) (dv 0) q0h)
  (q0e (q0k (q16 (q0a q0h (q0a q3j q0c)))))
  q0m)
  (q0d (q0p (q0s (q0g hr) (dv 0) q0h)
  (q0e (q0k (q16 (q0a q0h (q0a q3j q0c)))))
  q0m)
  (q0e (q0k (q16 (q0a q0h (q0a (z1s (q0g hr) (dv 1) (dv 0)) q0c)))))))
theorem q81(h:run K a (n+1) q2s ws≠.no):ws.length=2/\(q4c K a (run K a n) (init 2 ws)).fn=run K a (n+1) q2s ws:=by
 rw[q7a]at h |-;split at h
 ·rename_i hl;rw[if_pos hl];exact⟨hl,rfl⟩
 ·exact absurd rfl h
theorem x3e(B:Blt P w K mg)(M:Exs K mg a)(C:Cals P w K mg base a n)(CH:CalsH P w K mg base a n)(A:Ats K mg):Cal P w K mg base (n+1) "plain_form" ["piece", "places"] (spF K (run K a (n+1) q2s)):=
 con A.plain_form x28 (fun ws hw=>(q81 hw).1) fun ws hw f cdv A outer s H E Z hr=>⟨_,x40 B M C CH hr,(q81 hw).2⟩
theorem x1v(B:Blt P w K mg)(M:Exs K mg a)(C:Cals P w K mg base a n)(CH:CalsH P w K mg base a n){outer:List Env}(hr:Room n (A.deeper (PyProof.Rows.envOfC "_law_cell_at" (defScope q07) s.heap.objs.size f cdv))):
  DSs Z (cxOf (CX1 P w) P w K mg base ["_law_script", "_law_k"] "_law_cell_at" (defScope q07) f cdv A outer s H E) (fun _=>E) (defBody q07) (q29 K a (run K a n)):=
 (q0d (q0p (q7r (dv 1) (q3r B.b_len (q0a (dv 0) q0c)))
  (q0e (q0k (q0n (dv 0) (dv 1))))
  q0m)
  (q0e (q0k q0b)))
theorem q7g(h:run K a (n+1) q0v ws≠.no):ws.length=2/\(q29 K a (run K a n) (init 2 ws)).fn=run K a (n+1) q0v ws:=by
 rw[q6p]at h |-;split at h
 ·rename_i hl;rw[if_pos hl];exact⟨hl,rfl⟩
 ·exact absurd rfl h
theorem x05(B:Blt P w K mg)(M:Exs K mg a)(C:Cals P w K mg base a n)(CH:CalsH P w K mg base a n)(A:Ats K mg):Cal P w K mg base (n+1) "_law_cell_at" ["_law_script", "_law_k"] (spF K (run K a (n+1) q0v)):=
 con A._law_cell_at x00 (fun ws hw=>(q7g hw).1) fun ws hw f cdv A outer s H E Z hr=>⟨_,x1v B M C CH hr,(q7g hw).2⟩
theorem x41(B:Blt P w K mg)(M:Exs K mg a)(C:Cals P w K mg base a n)(CH:CalsH P w K mg base a n){outer:List Env}(hr:Room n (A.deeper (PyProof.Rows.envOfC "_law_whole" (defScope q1j) s.heap.objs.size f cdv))):
  DSs Z (cxOf (CX1 P w) P w K mg base ["_law_found"] "_law_whole" (defScope q1j) f cdv A outer s H E) (fun _=>E) (defBody q1j) (q4d K a (run K a n)):=
 (q0e (q0k (q6j (q65 (c0:=.ty _) rfl (q57 PyProof.Rows.Boot.«int» B.b_int) B.b_isinstance (dv 0)) (q4u (x83 (q65 (c0:=.ty _) rfl (q57 PyProof.Rows.Boot.«bool» B.b_bool) B.b_isinstance (dv 0)))))))
theorem q82(h:run K a (n+1) q2t ws≠.no):ws.length=1/\(q4d K a (run K a n) (init 1 ws)).fn=run K a (n+1) q2t ws:=by
 rw[q7b]at h |-;split at h
 ·rename_i hl;rw[if_pos hl];exact⟨hl,rfl⟩
 ·exact absurd rfl h
theorem x3f(B:Blt P w K mg)(M:Exs K mg a)(C:Cals P w K mg base a n)(CH:CalsH P w K mg base a n)(A:Ats K mg):Cal P w K mg base (n+1) "_law_whole" ["_law_found"] (spF K (run K a (n+1) q2t)):=
 con A._law_whole x29 (fun ws hw=>(q82 hw).1) fun ws hw f cdv A outer s H E Z hr=>⟨_,x41 B M C CH hr,(q82 hw).2⟩
theorem x42(B:Blt P w K mg)(M:Exs K mg a)(C:Cals P w K mg base a n)(CH:CalsH P w K mg base a n){outer:List Env}(hr:Room n (A.deeper (PyProof.Rows.envOfC "_law_mixed" (defScope q1k) s.heap.objs.size f cdv))):
  DSs Z (cxOf (CX1 P w) P w K mg base ["_law_cell", "_law_k", "_law_many", "_law_some", "_law_made"] "_law_mixed" (defScope q1k) f cdv A outer s H E) (fun _=>E) (defBody q1k) (q4e K a (run K a n)):=
 (q0d (q0l 3 sc__law_mixed.nd (q20 (q17 (q0a q0b (q0a q0b (q0a q0b (q0a q0b (q0a q0b (q0a q0b (q0a q0b (q0a q0b (q0a q0b (q0a q0b (q0a q0b q0c))))))))))))))
  (q0d (q0l 4 sc__law_mixed.nd (q2q (q5t (q1e (dv 0) (q5t q0b (dv 1))) q0b) (q0n (dv 3) (q2q (dv 1) q0b))))
  (q0e (q0k (q2q (q2q (q1e (q1e (q5t (q5t (dv 4) (dv 4)) q0b) (dv 4)) (dv 1)) q0b) (dv 2))))))
theorem q83(h:run K a (n+1) q0t ws≠.no):ws.length=3/\(q4e K a (run K a n) (init 5 ws)).fn=run K a (n+1) q0t ws:=by
 rw[q7c]at h |-;split at h
 ·rename_i hl;rw[if_pos hl];exact⟨hl,rfl⟩
 ·exact absurd rfl h
theorem x3g(B:Blt P w K mg)(M:Exs K mg a)(C:Cals P w K mg base a n)(CH:CalsH P w K mg base a n)(A:Ats K mg):Cal P w K mg base (n+1) "_law_mixed" ["_law_cell", "_law_k", "_law_many"] (spF K (run K a (n+1) q0t)):=
 con A._law_mixed sc__law_mixed (fun ws hw=>(q83 hw).1) fun ws hw f cdv A outer s H E Z hr=>⟨_,x42 B M C CH hr,(q83 hw).2⟩
theorem x5w(B:Blt P w K mg)(M:Exs K mg a)(C:Cals P w K mg base a n)(CH:CalsH P w K mg base a n){outer:List Env}(hr:Room n (A.deeper (PyProof.Rows.envOfC "_law_leaf" (defScope q1y) s.heap.objs.size f cdv))):
  DSs Z (cxOf (CX1 P w) P w K mg base ["_law_cell", "_law_many"] "_law_leaf" (defScope q1y) f cdv A outer s H E) (fun _=>E) (defBody q1y) (q40 K a (run K a n)):=
 (q0d (q0p (dt_w (q42 (q0s (q0g hr) (dv 1) q0b) (q49 (q0s (q0g hr) (q2q (dv 0) q0b) q0b))))
  (q0e (q0k (q16 (q0a q0h (q0a (q5c (q0g hr) (q2q (q44 (dv 0) q0b) q0b) q0b) q0c)))))
  q0m)
  (q0e (q0k (q16 (q0a q0h (q0a (q0i C._law_mixed hr pass1 (q0a (q44 (dv 0) q0b) (q0a q0b (q0a (dv 1) q0c)))) q0c))))))
theorem q91(h:run K a (n+1) q1u ws≠.no):ws.length=2/\(q40 K a (run K a n) (init 2 ws)).fn=run K a (n+1) q1u ws:=by
 rw[q8b]at h |-;split at h
 ·rename_i hl;rw[if_pos hl];exact⟨hl,rfl⟩
 ·exact absurd rfl h
theorem x43(B:Blt P w K mg)(M:Exs K mg a)(C:Cals P w K mg base a n)(CH:CalsH P w K mg base a n)(A:Ats K mg):Cal P w K mg base (n+1) "_law_leaf" ["_law_cell", "_law_many"] (spF K (run K a (n+1) q1u)):=
 con A._law_leaf x4r (fun ws hw=>(q91 hw).1) fun ws hw f cdv A outer s H E Z hr=>⟨_,x5w B M C CH hr,(q91 hw).2⟩
theorem x5x(B:Blt P w K mg)(M:Exs K mg a)(C:Cals P w K mg base a n)(CH:CalsH P w K mg base a n){outer:List Env}(hr:Room n (A.deeper (PyProof.Rows.envOfC "_law_deep" (defScope q1z) s.heap.objs.size f cdv))):
  DSs Z (cxOf (CX1 P w) P w K mg base ["_law_cell", "_law_many", "_law_tall", "_law_form", "_law_k", "_law_way"] "_law_deep" (defScope q1z) f cdv A outer s H E) (fun _=>E) (defBody q1z) (q5q K a (run K a n)):=
 (q0d (q0l 3 sc__law_deep.nd (q0i C._law_leaf hr pass1 (q0a (dv 0) (q0a (dv 1) q0c))))
  (q0d (x6c 4 sc__law_deep.nd PassesOwn.leaving rfl B.b_range (q0a (dv 2) q0c)
  (q0d (q0l 5 sc__law_deep.nd (q0i C._law_mixed hr pass1 (q0a (dv 0) (q0a (dv 4) (q0a q0b q0c)))))
  (q0e (q0p (dt_w (q42 (q7r (dv 5) q0b) (q49 (q0s (q0g hr) (q2q (dv 0) q0b) q0b))))
  (q0e (q0l 3 sc__law_deep.nd (q16 (q0a q0h (q0a (dv 3) q0c)))))
  (q0e (q0p (q0s (q0g hr) (dv 5) q0b)
  (q0e (q0l 3 sc__law_deep.nd (q16 (q0a q0h (q0a (dv 3) (q0a (q0i C._law_leaf hr pass1 (q0a (q1e (dv 0) (q5t q0b (dv 4))) (q0a (dv 1) q0c))) q0c))))))
  (q0e (q0l 3 sc__law_deep.nd (q16 (q0a (q0n (q20 (q17 (q0a q0h (q0a q0h q0c)))) (q8q (dv 5) q0b)) (q0a (q0i C._law_leaf hr pass1 (q0a (q1e (dv 0) (q5t q0b (dv 4))) (q0a (dv 1) q0c))) (q0a (dv 3) q0c))))))))))))
  (q0e (q0k (dv 3)))))
theorem q92(h:run K a (n+1) q3z ws≠.no):ws.length=3/\(q5q K a (run K a n) (init 6 ws)).fn=run K a (n+1) q3z ws:=by
 rw[x3b]at h |-;split at h
 ·rename_i hl;rw[if_pos hl];exact⟨hl,rfl⟩
 ·exact absurd rfl h
theorem x44(B:Blt P w K mg)(M:Exs K mg a)(C:Cals P w K mg base a n)(CH:CalsH P w K mg base a n)(A:Ats K mg):Cal P w K mg base (n+1) "_law_deep" ["_law_cell", "_law_many", "_law_tall"] (spF K (run K a (n+1) q3z)):=
 con A._law_deep sc__law_deep (fun ws hw=>(q92 hw).1) fun ws hw f cdv A outer s H E Z hr=>⟨_,x5x B M C CH hr,(q92 hw).2⟩
theorem x1w(B:Blt P w K mg)(M:Exs K mg a)(C:Cals P w K mg base a n)(CH:CalsH P w K mg base a n){outer:List Env}(hr:Room n (A.deeper (PyProof.Rows.envOfC "_law_form_by" (defScope q08) s.heap.objs.size f cdv))):
  DSs Z (cxOf (CX1 P w) P w K mg base ["_law_cells", "_law_many", "_law_stack", "_law_cell", "_law_way", "_law_other"] "_law_form_by" (defScope q08) f cdv A outer s H E) (fun _=>E) (defBody q08) (q3a K a (run K a n)):=
 (q0d (q0p (dt_w (q8n (q5p (q3r B.b_len (q0a (dv 0) q0c)) q0b) (q60 (q0s (q0g hr) (q2q (q0n (dv 0) q0b) q0b) q0b))))
  (q0e (q0k (q0i C._law_deep hr pass1 (q0a (q44 (q0n (dv 0) q0b) q0b) (q0a (dv 1) (q0a (q1e q0b (q2q (q44 (q0n (dv 0) q0b) q0b) q0b)) q0c))))))
  q0m)
  (q0d (q6k 2 sc__law_form_by.nd (q17 q0c))
  (q0d (x85 3 sc__law_form_by.nd PassesOwn.leaving rfl (dv 0)
  (q0d (q0l 4 sc__law_form_by.nd (q2q (dv 3) q0b))
  (q0e (q0p (dt_w (q8n (q0s (q0g hr) (dv 4) q0b) (q60 (q5p (q58 2 B.b_len) q0b))))
  (q0e (q37 2 (q0a (q16 (q0a q0h (q0a (q5b 2) q0c))) q0c)))
  (q0e (q0p (dt_w (q8n (q5p (dv 4) q0b) (q60 (q5p (q58 2 B.b_len) q0b))))
  (q0d (q0l 5 sc__law_form_by.nd (q5b 2))
  (q0e (q37 2 (q0a (q16 (q0a (q0n (q20 (q17 (q0a q0h (q0a q0h (q0a q0h q0c))))) (q8q (dv 4) q0b)) (q0a (q5b 2) (q0a (dv 5) q0c)))) q0c))))
  (q0e (q37 2 (q0a (q0i C._law_leaf hr pass1 (q0a (dv 3) (q0a (dv 1) q0c))) q0c)))))))))
  (q0d (q0p (q0s (q0g hr) (q58 2 B.b_len) q0b)
  (q0e (q0k (q16 (q0a q0h (q0a q3j q0c)))))
  q0m)
  (q0d (q7o 1000000 PassesOwn.leaving (q5p (q58 2 B.b_len) q0b)
  (q0d (q0l 5 sc__law_form_by.nd (q5b 2))
  (q0e (q37 2 (q0a (q16 (q0a (q0n (q20 (q17 (q0a q0h (q0a q0h (q0a q0h q0c))))) (q2q (q58 2 B.b_len) q0b)) (q0a (q5b 2) (q0a (dv 5) q0c)))) q0c)))))
  (q0e (q0k (x38 2 q0b))))))))
theorem q7h(h:run K a (n+1) q1r ws≠.no):ws.length=2/\(q3a K a (run K a n) (init 6 ws)).fn=run K a (n+1) q1r ws:=by
 rw[q6q]at h |-;split at h
 ·rename_i hl;rw[if_pos hl];exact⟨hl,rfl⟩
 ·exact absurd rfl h
theorem x06(B:Blt P w K mg)(M:Exs K mg a)(C:Cals P w K mg base a n)(CH:CalsH P w K mg base a n)(A:Ats K mg):Cal P w K mg base (n+1) "_law_form_by" ["_law_cells", "_law_many"] (spF K (run K a (n+1) q1r)):=
 con A._law_form_by sc__law_form_by (fun ws hw=>(q7h hw).1) fun ws hw f cdv A outer s H E Z hr=>⟨_,x1w B M C CH hr,(q7h hw).2⟩
theorem x45(B:Blt P w K mg)(M:Exs K mg a)(C:Cals P w K mg base a n)(CH:CalsH P w K mg base a n){outer:List Env}(hr:Room n (A.deeper (PyProof.Rows.envOfC "_law_truth" (defScope q1l) s.heap.objs.size f cdv))):
  DSs Z (cxOf (CX1 P w) P w K mg base ["_law_form", "_law_row_here", "_law_both"] "_law_truth" (defScope q1l) f cdv A outer s H E) (fun _=>E) (defBody q1l) (q1n K a (run K a n)):=
 (q0d (q0p (q0s (q0g hr) (q0n (dv 0) q0b) q0h)
  (q0e (q0k (q0n (dv 0) q0b)))
  q0m)
  (q0d (q0p (q0s (q0g hr) (q0n (dv 0) q0b) q0h)
  (q0e (q0k (q0n (dv 1) (q0n (dv 0) q0b))))
  q0m)
  (q0d (q0p (q0s (q0g hr) (q0n (dv 0) q0b) q0h)
  (q0e (q0k (z2v (q0i C._law_truth hr pass1 (q0a (q0n (dv 0) q0b) (q0a (dv 1) q0c))) q3j)))
  q0m)
  (q0d (q0l 2 sc__law_truth.nd (q20 (q17 (q0a (q0i C._law_truth hr pass1 (q0a (q0n (dv 0) q0b) (q0a (dv 1) q0c))) (q0a (q0i C._law_truth hr pass1 (q0a (q0n (dv 0) q0b) (q0a (dv 1) q0c))) q0c)))))
  (q0d (q0p (q0s (q0g hr) (q0n (dv 0) q0b) q0h)
  (q0e (q0k (q5c (q0g hr) (dv 2) (q20 (q17 (q0a q3j (q0a q3j q0c)))))))
  q0m)
  (q0d (q0p (q0s (q0g hr) (q0n (dv 0) q0b) q0h)
  (q0e (q0k (x7e (q0g hr) (dv 2) (q20 (q17 (q0a q3j (q0a q3j q0c)))))))
  q0m)
  (q0e (q0k (x7e (q0g hr) (q0n (dv 2) q0b) (q0n (dv 2) q0b))))))))))
theorem q84(h:run K a (n+1) q1g ws≠.no):ws.length=2/\(q1n K a (run K a n) (init 3 ws)).fn=run K a (n+1) q1g ws:=by
 rw[q2a]at h |-;split at h
 ·rename_i hl;rw[if_pos hl];exact⟨hl,rfl⟩
 ·exact absurd rfl h
theorem x3h(B:Blt P w K mg)(M:Exs K mg a)(C:Cals P w K mg base a n)(CH:CalsH P w K mg base a n)(A:Ats K mg):Cal P w K mg base (n+1) "_law_truth" ["_law_form", "_law_row_here"] (spF K (run K a (n+1) q1g)):=
 con A._law_truth sc__law_truth (fun ws hw=>(q84 hw).1) fun ws hw f cdv A outer s H E Z hr=>⟨_,x45 B M C CH hr,(q84 hw).2⟩
theorem x7z(B:Blt P w K mg)(M:Exs K mg a)(C:Cals P w K mg base a n)(CH:CalsH P w K mg base a n){outer:List Env}(hr:Room n (A.deeper (PyProof.Rows.envOfC "_law_row" (defScope q12) s.heap.objs.size f cdv))):
  DSs Z (cxOf (CX1 P w) P w K mg base ["_law_cell", "_law_many"] "_law_row" (defScope q12) f cdv A outer s H E) (fun _=>E) (defBody q12) (q5f K a (run K a n)):=
 (q0e (q0k (x4f B.b_tuple (q0a (q20 (x39 (x:="_law_k") (Nf:=["_law_cell"]) (js:=[0]) (sc:=defScope q12) (N:=["_law_cell", "_law_many"]) rfl B.b_range (q0a (dv 1) q0c) (by decide +kernel)
   (fun _ _ _ _ _ _=>q5l)
   (fun _ _ _ _ _ _=>(q5c (q0g hr) (q0i C._law_mixed hr passE (q0a (dv 1) (q0a (dv 0) (q0a q0b q0c)))) q0b))
   (fun _ _ _ _ _=>q35 0 (show(["_law_k", "_law_cell"]:List Str).Nodup by decide +kernel)))) q0c))))
theorem x07(h:run K a (n+1) q21 ws≠.no):ws.length=2/\(q5f K a (run K a n) (init 2 ws)).fn=run K a (n+1) q21 ws:=by
 rw[q8y]at h |-;split at h
 ·rename_i hl;rw[if_pos hl];exact⟨hl,rfl⟩
 ·exact absurd rfl h
theorem x5y(B:Blt P w K mg)(M:Exs K mg a)(C:Cals P w K mg base a n)(CH:CalsH P w K mg base a n)(A:Ats K mg):Cal P w K mg base (n+1) "_law_row" ["_law_cell", "_law_many"] (spF K (run K a (n+1) q21)):=
 con A._law_row x5r (fun ws hw=>(x07 hw).1) fun ws hw f cdv A outer s H E Z hr=>⟨_,x7z B M C CH hr,(x07 hw).2⟩
theorem x3i(B:Blt P w K mg)(M:Exs K mg a)(C:Cals P w K mg base a n)(CH:CalsH P w K mg base a n){outer:List Env}(hr:Room n (A.deeper (PyProof.Rows.envOfC "_law_letter" (defScope q1d) s.heap.objs.size f cdv))):
  DSs Z (cxOf (CX1 P w) P w K mg base ["_law_k"] "_law_letter" (defScope q1d) f cdv A outer s H E) (fun _=>E) (defBody q1d) (q3v K a (run K a n)):=
 (q0e (q0k (q0n q0h (q2q (dv 0) q0b))))
theorem q8d(h:run K a (n+1) q14 ws≠.no):ws.length=1/\(q3v K a (run K a n) (init 1 ws)).fn=run K a (n+1) q14 ws:=by
 rw[q6w]at h |-;split at h
 ·rename_i hl;rw[if_pos hl];exact⟨hl,rfl⟩
 ·exact absurd rfl h
theorem x1x(B:Blt P w K mg)(M:Exs K mg a)(C:Cals P w K mg base a n)(CH:CalsH P w K mg base a n)(A:Ats K mg):Cal P w K mg base (n+1) "_law_letter" ["_law_k"] (spF K (run K a (n+1) q14)):=
 con A._law_letter x1s (fun ws hw=>(q8d hw).1) fun ws hw f cdv A outer s H E Z hr=>⟨_,x3i B M C CH hr,(q8d hw).2⟩
theorem x3j(B:Blt P w K mg)(M:Exs K mg a)(C:Cals P w K mg base a n)(CH:CalsH P w K mg base a n){outer:List Env}(hr:Room n (A.deeper (PyProof.Rows.envOfC "_law_longer" (defScope q01) s.heap.objs.size f cdv))):
  DSs Z (cxOf (CX1 P w) P w K mg base ["_law_word", "_law_many", "_law_found", "_law_other"] "_law_longer" (defScope q01) f cdv A outer s H E) (fun _=>E) (defBody q01) (q3w K a (run K a n)):=
 (q0d (x5l 2 sc__law_longer.nd (x:="_law_k") (Nf:=["_law_word"]) (js:=[0]) (sc:=defScope q01) (N:=["_law_word", "_law_many", "_law_found", "_law_other"]) rfl B.b_range (q0a (y56 rfl B.b_min (q0a (dv 1) (q0a q0b q0c))) q0c) (by decide +kernel)
   (fun _ _ _ _ _ _=>q5l)
   (fun _ _ _ _ _ _=>(q38 (dv 1) q64 (q4q (q1e (dv 0) q0b))))
   (fun _ _ _ _ _=>q35 0 (show(["_law_k", "_law_word"]:List Str).Nodup by decide +kernel)))
  (q0d (q0l 3 sc__law_longer.nd q0h)
  (q0d (q0p (q0s (q0g hr) (q0n (dv 0) q0b) q0h)
  (q0e (q0l 3 sc__law_longer.nd q0h))
  q0m)
  (q0e (q0k (q1e (dv 2) (q20 (y10 (x:="_law_k") (Nf:=["_law_word", "_law_other"]) (js:=[0,3]) (sc:=defScope q01) (N:=["_law_word", "_law_many", "_law_found", "_law_other"]) rfl B.b_range (q0a q0b (q0a (dv 1) q0c)) (by decide +kernel)
   (fun _ _ _ _ _ _=>q5l)
   (fun _ _ _ _ _ _=>(q1e (dv 2) (q38 (dv 1) q64 (q4q (q8q (dv 0) q0b)))))
   (fun _ _ _ _ _=>q35 0 (show(["_law_k", "_law_word", "_law_other"]:List Str).Nodup by decide +kernel))))))))))
theorem q8e(h:run K a (n+1) q15 ws≠.no):ws.length=2/\(q3w K a (run K a n) (init 4 ws)).fn=run K a (n+1) q15 ws:=by
 rw[q6x]at h |-;split at h
 ·rename_i hl;rw[if_pos hl];exact⟨hl,rfl⟩
 ·exact absurd rfl h
theorem x1y(B:Blt P w K mg)(M:Exs K mg a)(C:Cals P w K mg base a n)(CH:CalsH P w K mg base a n)(A:Ats K mg):Cal P w K mg base (n+1) "_law_longer" ["_law_word", "_law_many"] (spF K (run K a (n+1) q15)):=
 con A._law_longer sc__law_longer (fun ws hw=>(q8e hw).1) fun ws hw f cdv A outer s H E Z hr=>⟨_,x3j B M C CH hr,(q8e hw).2⟩
theorem x46(B:Blt P w K mg)(M:Exs K mg a)(C:Cals P w K mg base a n)(CH:CalsH P w K mg base a n){outer:List Env}(hr:Room n (A.deeper (PyProof.Rows.envOfC "_law_names" (defScope q04) s.heap.objs.size f cdv))):
  DSs Z (cxOf (CX1 P w) P w K mg base ["_law_cell", "_law_many", "_law_size", "_law_spot", "_law_found", "_law_word", "_law_k", "_law_letters"] "_law_names" (defScope q04) f cdv A outer s H E) (fun _=>E) (defBody q04) (q4f K a (run K a n)):=
 (q0d (q0l 2 sc__law_names.nd (q1e q0b (q0i C._law_mixed hr pass1 (q0a (dv 0) (q0a q0b (q0a q0b q0c))))))
  (q0d (q0l 3 sc__law_names.nd (q0i C._law_mixed hr pass1 (q0a (dv 0) (q0a q0b (q0a (dv 2) q0c)))))
  (q0d (q6k 4 sc__law_names.nd (q17 q0c))
  (q0d (x85 5 sc__law_names.nd PassesOwn.leaving rfl (q20 (q17 (q0a (q20 (x39 (x:="_law_j") (Nf:=["_law_cell"]) (js:=[0]) (sc:=defScope q04) (N:=["_law_cell", "_law_many", "_law_size", "_law_spot", "_law_found", "_law_word", "_law_k", "_law_letters"]) rfl B.b_range (q0a q0b q0c) (by decide +kernel)
   (fun _ _ _ _ _ _=>q5l)
   (fun _ _ _ _ _ _=>(q0i C._law_letter hr passE (q0a (q0i C._law_mixed hr passE (q0a (dv 1) (q0a (q1e q0b (dv 0)) (q0a q0b q0c)))) q0c)))
   (fun _ _ _ _ _=>q35 0 (show(["_law_j", "_law_cell"]:List Str).Nodup by decide +kernel)))) (q0a (x92 (q20 (q17 (q0a q0h q0c))) q0b) q0c))))
  (q0e (q0p (dt_w (q42 (x2r fun _=>(q0s (q0g hr) (dv 4) (q20 (q17 q0c)))) (q49 (q3q (z1l rfl B.b_any (q0a (q20 (y41 (x:="_law_name") (Nf:=[]) (js:=[]) (sc:=defScope q04) (N:=["_law_cell", "_law_many", "_law_size", "_law_spot", "_law_found", "_law_word", "_law_k", "_law_letters"]) rfl (dv 4) (by decide +kernel)
   (fun _ _ _ _ _ _=>q5l)
   (fun _ _ _ _ _ _=>(x3o (q0g hr) (dv 0) (q20 (q17 (q0a q0h (q0a q0h (q0a q0h (q0a q0h (q0a q0h (q0a q0h q0c))))))))))
   (fun _ _ _ _ _=>q35 0 (show(["_law_name"]:List Str).Nodup by decide +kernel)))) q0c))))))
  (q0d (q0l 4 sc__law_names.nd (q0i C._law_longer hr pass1 (q0a (x6j q0h (q0a (dv 5) q0c)) (q0a (dv 1) q0c))))
  (q0e (q0p (q5p (q0i C._law_mixed hr pass1 (q0a (dv 0) (q0a q0b (q0a q0b q0c)))) q0b)
  (q0d (q6k 4 sc__law_names.nd (q17 q0c))
  (q0e (x6c 6 sc__law_names.nd PassesOwn.leaving rfl B.b_range (q0a (dv 1) q0c)
  (q0d (q6k 7 sc__law_names.nd (y45 B.b_list (q0a (q38 (dv 5) q64 (q4q (dv 2))) q0c)))
  (q0d (z08 7 (q0i C._law_letter hr pass1 (q0a (q1e (q0i C._law_mixed hr pass1 (q0a (dv 0) (q0a q0b (q0a q0b q0c)))) (q5t q0b (dv 6))) q0c)) (dv 3))
  (q0e (q37 4 (q0a (x6j q0h (q0a (dv 7) q0c)) q0c))))))))
  q0m)))
  q0m)))
  (q0e (q0k (x4f B.b_tuple (q0a (dv 4) q0c))))))))
theorem q85(h:run K a (n+1) q2e ws≠.no):ws.length=2/\(q4f K a (run K a n) (init 8 ws)).fn=run K a (n+1) q2e ws:=by
 rw[q7d]at h |-;split at h
 ·rename_i hl;rw[if_pos hl];exact⟨hl,rfl⟩
 ·exact absurd rfl h
theorem x3k(B:Blt P w K mg)(M:Exs K mg a)(C:Cals P w K mg base a n)(CH:CalsH P w K mg base a n)(A:Ats K mg):Cal P w K mg base (n+1) "_law_names" ["_law_cell", "_law_many"] (spF K (run K a (n+1) q2e)):=
 con A._law_names sc__law_names (fun ws hw=>(q85 hw).1) fun ws hw f cdv A outer s H E Z hr=>⟨_,x46 B M C CH hr,(q85 hw).2⟩
theorem x0g(B:Blt P w K mg)(M:Exs K mg a)(C:Cals P w K mg base a n)(CH:CalsH P w K mg base a n){outer:List Env}(hr:Room n (A.deeper (PyProof.Rows.envOfC "_law_most_open" (defScope q0z) s.heap.objs.size f cdv))):
  DSs Z (cxOf (CX1 P w) P w K mg base ["_law_told", "_law_most", "_law_now", "_law_sign"] "_law_most_open" (defScope q0z) f cdv A outer s H E) (fun _=>E) (defBody q0z) (q2y K a (run K a n)):=
 (q0d (q0l 1 sc__law_most_open.nd q0b)
  (q0d (q0l 2 sc__law_most_open.nd q0b)
  (q0d (y7b 3 sc__law_most_open.nd PassesOwn.leaving rfl (dv 0)
  (q0d (q0l 2 sc__law_most_open.nd (q8q (q1e (dv 2) (x6h B.b_int (q0a (q5c (q0g hr) (dv 3) q0h) q0c))) (x6h B.b_int (q0a (q5c (q0g hr) (dv 3) q0h) q0c))))
  (q0e (q0l 1 sc__law_most_open.nd (x6g rfl B.b_max (q0a (dv 1) (q0a (dv 2) q0c)))))))
  (q0e (q0k (dv 1))))))
theorem q6t(h:run K a (n+1) q1q ws≠.no):ws.length=1/\(q2y K a (run K a n) (init 4 ws)).fn=run K a (n+1) q1q ws:=by
 rw[q5z]at h |-;split at h
 ·rename_i hl;rw[if_pos hl];exact⟨hl,rfl⟩
 ·exact absurd rfl h
theorem q9s(B:Blt P w K mg)(M:Exs K mg a)(C:Cals P w K mg base a n)(CH:CalsH P w K mg base a n)(A:Ats K mg):Cal P w K mg base (n+1) "_law_most_open" ["_law_told"] (spF K (run K a (n+1) q1q)):=
 con A._law_most_open sc__law_most_open (fun ws hw=>(q6t hw).1) fun ws hw f cdv A outer s H E Z hr=>⟨_,x0g B M C CH hr,(q6t hw).2⟩
theorem x5z(B:Blt P w K mg)(M:Exs K mg a)(C:Cals P w K mg base a n)(CH:CalsH P w K mg base a n){outer:List Env}(hr:Room n (A.deeper (PyProof.Rows.envOfC "_law_same" (defScope q10) s.heap.objs.size f cdv))):
  DSs Z (cxOf (CX1 P w) P w K mg base ["_law_found", "_law_due"] "_law_same" (defScope q10) f cdv A outer s H E) (fun _=>E) (defBody q10) (q2m K a (run K a n)):=
 (q0d (q0p (dt_w (q42 (q6i (q3q (q65 (c0:=.ty _) rfl (q57 PyProof.Rows.Boot.«tuple» B.b_tuple) B.b_isinstance (dv 0)))) (q42 (x3n (q0g hr) (q3r B.b_len (q0a (dv 0) q0c)) (q3r B.b_len (q0a (dv 1) q0c))) (q42 (q6i (q3q (q65 (c0:=.ty _) rfl (q57 PyProof.Rows.Boot.«str» B.b_str) B.b_isinstance (q0n (dv 0) q0b)))) (q49 (x3n (q0g hr) (q0n (dv 0) q0b) (q0n (dv 1) q0b)))))))
  (q0e (q0k q3j))
  q0m)
  (q0d (q0p (q0s (q0g hr) (q0n (dv 1) q0b) q0h)
  (q0e (q0k (q6j (q65 (c0:=.ty _) rfl (q57 PyProof.Rows.Boot.«bool» B.b_bool) B.b_isinstance (q0n (dv 0) q0b)) (q4u (q5c (q0g hr) (q0n (dv 0) q0b) (q0n (dv 1) q0b))))))
  q0m)
  (q0d (q0p (q0s (q0g hr) (q0n (dv 1) q0b) q0h)
  (q0e (q0k (q6j (q0i C._law_whole hr pass1 (q0a (q0n (dv 0) q0b) q0c)) (q4u (q5c (q0g hr) (q0n (dv 0) q0b) (q0n (dv 1) q0b))))))
  q0m)
  (q0d (q0p (q0s (q0g hr) (q0n (dv 1) q0b) q0h)
  (q0e (q0k (q0i C._law_same hr pass1 (q0a (q0n (dv 0) q0b) (q0a (q0n (dv 1) q0b) q0c)))))
  q0m)
  (q0e (q0k (q6j (q0i C._law_same hr pass1 (q0a (q0n (dv 0) q0b) (q0a (q0n (dv 1) q0b) q0c))) (q4u (q0i C._law_same hr pass1 (q0a (q0n (dv 0) q0b) (q0a (q0n (dv 1) q0b) q0c)))))))))))
theorem q93(h:run K a (n+1) q05 ws≠.no):ws.length=2/\(q2m K a (run K a n) (init 2 ws)).fn=run K a (n+1) q05 ws:=by
 rw[q3x]at h |-;split at h
 ·rename_i hl;rw[if_pos hl];exact⟨hl,rfl⟩
 ·exact absurd rfl h
theorem x47(B:Blt P w K mg)(M:Exs K mg a)(C:Cals P w K mg base a n)(CH:CalsH P w K mg base a n)(A:Ats K mg):Cal P w K mg base (n+1) "_law_same" ["_law_found", "_law_due"] (spF K (run K a (n+1) q05)):=
 con A._law_same x4s (fun ws hw=>(q93 hw).1) fun ws hw f cdv A outer s H E Z hr=>⟨_,x5z B M C CH hr,(q93 hw).2⟩
theorem x48(B:Blt P w K mg)(M:Exs K mg a)(C:Cals P w K mg base a n)(CH:CalsH P w K mg base a n){outer:List Env}(hr:Room n (A.deeper (PyProof.Rows.envOfC "_law_right" (defScope q1m) s.heap.objs.size f cdv))):
  DSs Z (cxOf (CX1 P w) P w K mg base ["_law_form", "_law_names_here", "_law_row_here", "_law_told", "_law_found"] "_law_right" (defScope q1m) f cdv A outer s H E) (fun _=>E) (defBody q1m) (q4g K a (run K a n)):=
 (q0d (q0l 3 sc__law_right.nd (q0i C.shown hr pass1 (q0a (dv 0) (q0a (dv 1) q0c))))
  (q0d (q0p (q6i (q3q (q65 (c0:=.ty _) rfl (q57 PyProof.Rows.Boot.«str» B.b_str) B.b_isinstance (dv 3))))
  (q0e (q0k q3j))
  q0m)
  (q0d (q0p (q5p (q0i C._law_most_open hr pass1 (q0a (dv 3) q0c)) q0b)
  (q0e (q0k q3j))
  q0m)
  (q0d (q0l 4 sc__law_right.nd (q0i C.read hr pass1 (q0a (dv 3) (q0a (dv 1) q0c))))
  (q0e (q0k (q6j (q0i C._law_same hr pass1 (q0a (dv 4) (q0a (dv 0) q0c))) (q4u (q5c (q0g hr) (q0i C.value hr pass1 (q0a (dv 4) (q0a (dv 2) q0c))) (q0i C._law_truth hr pass1 (q0a (dv 0) (q0a (dv 2) q0c))))))))))))
theorem q86(h:run K a (n+1) q02 ws≠.no):ws.length=3/\(q4g K a (run K a n) (init 5 ws)).fn=run K a (n+1) q02 ws:=by
 rw[q7e]at h |-;split at h
 ·rename_i hl;rw[if_pos hl];exact⟨hl,rfl⟩
 ·exact absurd rfl h
theorem x3l(B:Blt P w K mg)(M:Exs K mg a)(C:Cals P w K mg base a n)(CH:CalsH P w K mg base a n)(A:Ats K mg):Cal P w K mg base (n+1) "_law_right" ["_law_form", "_law_names_here", "_law_row_here"] (spF K (run K a (n+1) q02)):=
 con A._law_right sc__law_right (fun ws hw=>(q86 hw).1) fun ws hw f cdv A outer s H E Z hr=>⟨_,x48 B M C CH hr,(q86 hw).2⟩
theorem y38(B:Blt P w K mg)(M:Exs K mg a)(C:Cals P w K mg base a n)(CH:CalsH P w K mg base a n){outer:List Env}(hr:Room n (A.deeper (PyProof.Rows.envOfC "law" (defScope q4r) s.heap.objs.size f cdv))):
  DSs Z (cxOf (CX1 P w) P w K mg base ["_law_script", "_law_many", "_law_cells", "_law_one", "_law_two", "_law_names_here", "_law_row_here"] "law" (defScope q4r) f cdv A outer s H E) (fun _=>E) (defBody q4r) (x01 K a (run K a n)):=
 (q0d (q0l 1 sc_law.nd (q2q (q0i C._law_cell_at hr pass1 (q0a (dv 0) (q0a q0b q0c))) q0b))
  (q0d (x7c 2 sc_law.nd (x:="_law_cell") (Nf:=[]) (js:=[]) (sc:=defScope q4r) (N:=["_law_script", "_law_many", "_law_cells", "_law_one", "_law_two", "_law_names_here", "_law_row_here"]) rfl (q38 (dv 0) (q4q q0b) (q4q q0b)) (by decide +kernel)
   (fun _ _ _ _ _ _=>q5l)
   (fun _ _ _ _ _ _=>(q1e (q1e (q5t (q44 (dv 0) q0b) q0b) q0b) (q2q (dv 0) q0b)))
   (fun _ _ _ _ _=>q35 0 (show(["_law_cell"]:List Str).Nodup by decide +kernel)))
  (q0d (q0l 3 sc_law.nd (q0i C._law_form_by hr pass1 (q0a (q38 (dv 2) q64 (q4q (q44 (q3r B.b_len (q0a (dv 2) q0c)) q0b))) (q0a (dv 1) q0c))))
  (q0d (q0l 4 sc_law.nd (q0i C._law_form_by hr pass1 (q0a (q38 (dv 2) (q4q (q44 (q3r B.b_len (q0a (dv 2) q0c)) q0b)) q64) (q0a (dv 1) q0c))))
  (q0d (q0p (q0s (q0g hr) (q2q (q44 (q0i C._law_cell_at hr pass1 (q0a (dv 0) (q0a q0b q0c))) q0b) q0b) q0b)
  (q0e (q0l 4 sc_law.nd (dv 3)))
  q0m)
  (q0d (q0l 5 sc_law.nd (q0i C._law_names hr pass1 (q0a (q0i C._law_cell_at hr pass1 (q0a (dv 0) (q0a q0b q0c))) (q0a (dv 1) q0c))))
  (q0d (q0l 6 sc_law.nd (q0i C._law_row hr pass1 (q0a (q0i C._law_cell_at hr pass1 (q0a (dv 0) (q0a q0b q0c))) (q0a q0b q0c))))
  (q0d (q0p (dt_w (q42 (q6i (q3q (q0i C._law_right hr pass1 (q0a (dv 3) (q0a (dv 5) (q0a (dv 6) q0c)))))) (q49 (q6i (q3q (q0i C._law_right hr pass1 (q0a (dv 4) (q0a (dv 5) (q0a (dv 6) q0c)))))))))
  (q0e (q0k q3j))
  q0m)
  (q0d (q0p (x3n (q0g hr) (q5c (q0g hr) (q0i C.shown hr pass1 (q0a (dv 3) (q0a (dv 5) q0c))) (q0i C.shown hr pass1 (q0a (dv 4) (q0a (dv 5) q0c)))) (q5c (q0g hr) (dv 3) (dv 4)))
  (q0e (q0k q3j))
  q0m)
  (q0e (q0k (q0i C._law_right hr pass1 (q0a (q0i C.put_in hr pass1 (q0a (dv 3) (q0a (x92 (q20 (q17 (q0a (dv 4) q0c))) (dv 1)) q0c))) (q0a (dv 5) (q0a (dv 6) q0c)))))))))))))))
theorem x3r(h:run K a (n+1) q6u ws≠.no):ws.length=1/\(x01 K a (run K a n) (init 7 ws)).fn=run K a (n+1) q6u ws:=by
 rw[x6m]at h |-;split at h
 ·rename_i hl;rw[if_pos hl];exact⟨hl,rfl⟩
 ·exact absurd rfl h
theorem z1x(B:Blt P w K mg)(M:Exs K mg a)(C:Cals P w K mg base a n)(CH:CalsH P w K mg base a n)(A:Ats K mg):Cal P w K mg base (n+1) "law" ["_law_script"] (spF K (run K a (n+1) q6u)):=
 con A.law sc_law (fun ws hw=>(x3r hw).1) fun ws hw f cdv A outer s H E Z hr=>⟨_,y38 B M C CH hr,(x3r hw).2⟩
theorem allH(A:Ats K mg)(B:Blt P w K mg)(M:Exs K mg a):∀n,CalsH P w K mg base a n
 |0=>⟨trivial⟩
 |n+1=>⟨trivial⟩
theorem all(A:Ats K mg)(B:Blt P w K mg)(M:Exs K mg a):∀n,Cals P w K mg base a n
 |0=>⟨con0 A.value,con0 A.thing_at,con0 A.put_in,con0 A.shown,con0 A.read,con0 A.places_by_name,con0 A.is_name,con0 A.is_small_letter,con0 A.text_of,con0 A.bracketed,con0 A.pieces_of,con0 A.end_of_piece,con0 A.first_fault,con0 A.can_begin,con0 A.can_follow,con0 A.form_of_pieces,con0M A.settle,con0 A.plain_form,con0 A._law_cell_at,con0 A._law_whole,con0 A._law_mixed,con0 A._law_leaf,con0 A._law_deep,con0 A._law_form_by,con0 A._law_truth,con0 A._law_row,con0 A._law_letter,con0 A._law_longer,con0 A._law_names,con0 A._law_most_open,con0 A._law_same,con0 A._law_right,con0 A.law⟩
 |n+1=>⟨y24 B M (all A B M n) (allH A B M n) A,x5s B M (all A B M n) (allH A B M n) A,y0g B M (all A B M n) (allH A B M n) A,y26 B M (all A B M n) (allH A B M n) A,y7g B M (all A B M n) (allH A B M n) A,q9p B M (all A B M n) (allH A B M n) A,x7x B M (all A B M n) (allH A B M n) A,q8z B M (all A B M n) (allH A B M n) A,x7y B M (all A B M n) (allH A B M n) A,x4v B M (all A B M n) (allH A B M n) A,x4w B M (all A B M n) (allH A B M n) A,x04 B M (all A B M n) (allH A B M n) A,x1u B M (all A B M n) (allH A B M n) A,x4x B M (all A B M n) (allH A B M n) A,x3d B M (all A B M n) (allH A B M n) A,q9r B M (all A B M n) (allH A B M n) A,y0k B M (all A B M n) (allH A B M n) A,x3e B M (all A B M n) (allH A B M n) A,x05 B M (all A B M n) (allH A B M n) A,x3f B M (all A B M n) (allH A B M n) A,x3g B M (all A B M n) (allH A B M n) A,x43 B M (all A B M n) (allH A B M n) A,x44 B M (all A B M n) (allH A B M n) A,x06 B M (all A B M n) (allH A B M n) A,x3h B M (all A B M n) (allH A B M n) A,x5y B M (all A B M n) (allH A B M n) A,x1x B M (all A B M n) (allH A B M n) A,x1y B M (all A B M n) (allH A B M n) A,x3k B M (all A B M n) (allH A B M n) A,q9s B M (all A B M n) (allH A B M n) A,x47 B M (all A B M n) (allH A B M n) A,x3l B M (all A B M n) (allH A B M n) A,z1x B M (all A B M n) (allH A B M n) A⟩
theorem law_fn{fd:FuncData}(A:Ats K mg)(B:Blt P w K mg)(M:Exs K mg a)(F:Fun K "law" "law" q4r f fd)(n:Nat):FnOk P w K mg base (CX1 P w) (n+1) f fd ["_law_script"] (spF K (run K a (n+1) q6u)):=
 conF F sc_law (fun ws hw=>(x3r hw).1) fun ws hw cdv A' outer s H E Z hr=>⟨_,y38 B M (all A B M n) (allH A B M n) hr,(x3r hw).2⟩
end
theorem mk{l:PySem.W.OpenLaw}{w:World}{h:Heap}{fa:Addr}(X:K.In h)(G:h.Ns mainGlobals mg)(hfa:mg "law"=some (.ref fa))
  {f0:Addr}{od0 an0:Option Addr}{sl0:Array (Option Value)}{oc0 kV0 dc0 pm0 cd0 ct0:Value}
  {f1:Addr}{od1 an1:Option Addr}{sl1:Array (Option Value)}{oc1 kV1 dc1 pm1 cd1 ct1:Value}
  {f2:Addr}{od2 an2:Option Addr}{sl2:Array (Option Value)}{oc2 kV2 dc2 pm2 cd2 ct2:Value}
  {f3:Addr}{od3 an3:Option Addr}{sl3:Array (Option Value)}{oc3 kV3 dc3 pm3 cd3 ct3:Value}
  {f4:Addr}{od4 an4:Option Addr}{sl4:Array (Option Value)}{oc4 kV4 dc4 pm4 cd4 ct4:Value}
  {f5:Addr}{od5 an5:Option Addr}{sl5:Array (Option Value)}{oc5 kV5 dc5 pm5 cd5 ct5:Value}
  {f6:Addr}{od6 an6:Option Addr}{sl6:Array (Option Value)}{oc6 kV6 dc6 pm6 cd6 ct6:Value}
  {f7:Addr}{od7 an7:Option Addr}{sl7:Array (Option Value)}{oc7 kV7 dc7 pm7 cd7 ct7:Value}
  {f8:Addr}{od8 an8:Option Addr}{sl8:Array (Option Value)}{oc8 kV8 dc8 pm8 cd8 ct8:Value}
  {f9:Addr}{od9 an9:Option Addr}{sl9:Array (Option Value)}{oc9 kV9 dc9 pm9 cd9 ct9:Value}
  {f10:Addr}{od10 an10:Option Addr}{sl10:Array (Option Value)}{oc10 kV10 dc10 pm10 cd10 ct10:Value}
  {f11:Addr}{od11 an11:Option Addr}{sl11:Array (Option Value)}{oc11 kV11 dc11 pm11 cd11 ct11:Value}
  {f12:Addr}{od12 an12:Option Addr}{sl12:Array (Option Value)}{oc12 kV12 dc12 pm12 cd12 ct12:Value}
  {f13:Addr}{od13 an13:Option Addr}{sl13:Array (Option Value)}{oc13 kV13 dc13 pm13 cd13 ct13:Value}
  {f14:Addr}{od14 an14:Option Addr}{sl14:Array (Option Value)}{oc14 kV14 dc14 pm14 cd14 ct14:Value}
  {f15:Addr}{od15 an15:Option Addr}{sl15:Array (Option Value)}{oc15 kV15 dc15 pm15 cd15 ct15:Value}
  {f16:Addr}{od16 an16:Option Addr}{sl16:Array (Option Value)}{oc16 kV16 dc16 pm16 cd16 ct16:Value}
  {f17:Addr}{od17 an17:Option Addr}{sl17:Array (Option Value)}{oc17 kV17 dc17 pm17 cd17 ct17:Value}
  {f18:Addr}{od18 an18:Option Addr}{sl18:Array (Option Value)}{oc18 kV18 dc18 pm18 cd18 ct18:Value}
  {f19:Addr}{od19 an19:Option Addr}{sl19:Array (Option Value)}{oc19 kV19 dc19 pm19 cd19 ct19:Value}
  {f20:Addr}{od20 an20:Option Addr}{sl20:Array (Option Value)}{oc20 kV20 dc20 pm20 cd20 ct20:Value}
  {f21:Addr}{od21 an21:Option Addr}{sl21:Array (Option Value)}{oc21 kV21 dc21 pm21 cd21 ct21:Value}
  {f22:Addr}{od22 an22:Option Addr}{sl22:Array (Option Value)}{oc22 kV22 dc22 pm22 cd22 ct22:Value}
  {f23:Addr}{od23 an23:Option Addr}{sl23:Array (Option Value)}{oc23 kV23 dc23 pm23 cd23 ct23:Value}
  {f24:Addr}{od24 an24:Option Addr}{sl24:Array (Option Value)}{oc24 kV24 dc24 pm24 cd24 ct24:Value}
  {f25:Addr}{od25 an25:Option Addr}{sl25:Array (Option Value)}{oc25 kV25 dc25 pm25 cd25 ct25:Value}
  {f26:Addr}{od26 an26:Option Addr}{sl26:Array (Option Value)}{oc26 kV26 dc26 pm26 cd26 ct26:Value}
  {f27:Addr}{od27 an27:Option Addr}{sl27:Array (Option Value)}{oc27 kV27 dc27 pm27 cd27 ct27:Value}
  {f28:Addr}{od28 an28:Option Addr}{sl28:Array (Option Value)}{oc28 kV28 dc28 pm28 cd28 ct28:Value}
  {f29:Addr}{od29 an29:Option Addr}{sl29:Array (Option Value)}{oc29 kV29 dc29 pm29 cd29 ct29:Value}
  {f30:Addr}{od30 an30:Option Addr}{sl30:Array (Option Value)}{oc30 kV30 dc30 pm30 cd30 ct30:Value}
  {f31:Addr}{od31 an31:Option Addr}{sl31:Array (Option Value)}{oc31 kV31 dc31 pm31 cd31 ct31:Value}
  {f32:Addr}{od32 an32:Option Addr}{sl32:Array (Option Value)}{oc32 kV32 dc32 pm32 cd32 ct32:Value}
  {A_CircuitError:Addr}
  {A_NoPlace:Addr}
  {A_NoName:Addr}
  {A_BadText:Addr}
  {A_WORDS:Value}
  {A_JOINING:Value}
  {A_LONGEST_NAME:Value}
  {A_MOST_BRACKETS:Value}
  {A_LOOSEST_WORD:Value}
  {A_WHOLE:Value}
  {A_TIGHTNESS:Addr}
  (a0:PySem.W.nsIn K mainGlobals "value"=some (some (.ref f0)))
  (l0:K.lookup f0=some ⟨oc0,od0,.func (PySem.W.fnOf "value" "value" (defArgs q30) (defBody q30) (defScope q30) .none kV0 dc0 pm0 an0 cd0 ct0),sl0⟩)
  (c0:PySem.W.codeIn K cd0 "value"=true)
  (k0:keepIn K (.ref f0)=true)
  (a1:PySem.W.nsIn K mainGlobals "thing_at"=some (some (.ref f1)))
  (l1:K.lookup f1=some ⟨oc1,od1,.func (PySem.W.fnOf "thing_at" "thing_at" (defArgs q2d) (defBody q2d) (defScope q2d) .none kV1 dc1 pm1 an1 cd1 ct1),sl1⟩)
  (c1:PySem.W.codeIn K cd1 "thing_at"=true)
  (k1:keepIn K (.ref f1)=true)
  (a2:PySem.W.nsIn K mainGlobals "put_in"=some (some (.ref f2)))
  (l2:K.lookup f2=some ⟨oc2,od2,.func (PySem.W.fnOf "put_in" "put_in" (defArgs q25) (defBody q25) (defScope q25) .none kV2 dc2 pm2 an2 cd2 ct2),sl2⟩)
  (c2:PySem.W.codeIn K cd2 "put_in"=true)
  (k2:keepIn K (.ref f2)=true)
  (a3:PySem.W.nsIn K mainGlobals "shown"=some (some (.ref f3)))
  (l3:K.lookup f3=some ⟨oc3,od3,.func (PySem.W.fnOf "shown" "shown" (defArgs q31) (defBody q31) (defScope q31) .none kV3 dc3 pm3 an3 cd3 ct3),sl3⟩)
  (c3:PySem.W.codeIn K cd3 "shown"=true)
  (k3:keepIn K (.ref f3)=true)
  (a4:PySem.W.nsIn K mainGlobals "read"=some (some (.ref f4)))
  (l4:K.lookup f4=some ⟨oc4,od4,.func (PySem.W.fnOf "read" "read" (defArgs q4w) (defBody q4w) (defScope q4w) .none kV4 dc4 pm4 an4 cd4 ct4),sl4⟩)
  (c4:PySem.W.codeIn K cd4 "read"=true)
  (k4:keepIn K (.ref f4)=true)
  (a5:PySem.W.nsIn K mainGlobals "places_by_name"=some (some (.ref f5)))
  (l5:K.lookup f5=some ⟨oc5,od5,.func (PySem.W.fnOf "places_by_name" "places_by_name" (defArgs q0x) (defBody q0x) (defScope q0x) .none kV5 dc5 pm5 an5 cd5 ct5),sl5⟩)
  (c5:PySem.W.codeIn K cd5 "places_by_name"=true)
  (k5:keepIn K (.ref f5)=true)
  (a6:PySem.W.nsIn K mainGlobals "is_name"=some (some (.ref f6)))
  (l6:K.lookup f6=some ⟨oc6,od6,.func (PySem.W.fnOf "is_name" "is_name" (defArgs q2f) (defBody q2f) (defScope q2f) .none kV6 dc6 pm6 an6 cd6 ct6),sl6⟩)
  (c6:PySem.W.codeIn K cd6 "is_name"=true)
  (k6:keepIn K (.ref f6)=true)
  (a7:PySem.W.nsIn K mainGlobals "is_small_letter"=some (some (.ref f7)))
  (l7:K.lookup f7=some ⟨oc7,od7,.func (PySem.W.fnOf "is_small_letter" "is_small_letter" (defArgs q0u) (defBody q0u) (defScope q0u) .none kV7 dc7 pm7 an7 cd7 ct7),sl7⟩)
  (c7:PySem.W.codeIn K cd7 "is_small_letter"=true)
  (k7:keepIn K (.ref f7)=true)
  (a8:PySem.W.nsIn K mainGlobals "text_of"=some (some (.ref f8)))
  (l8:K.lookup f8=some ⟨oc8,od8,.func (PySem.W.fnOf "text_of" "text_of" (defArgs q2l) (defBody q2l) (defScope q2l) .none kV8 dc8 pm8 an8 cd8 ct8),sl8⟩)
  (c8:PySem.W.codeIn K cd8 "text_of"=true)
  (k8:keepIn K (.ref f8)=true)
  (a9:PySem.W.nsIn K mainGlobals "bracketed"=some (some (.ref f9)))
  (l9:K.lookup f9=some ⟨oc9,od9,.func (PySem.W.fnOf "bracketed" "bracketed" (defArgs q1v) (defBody q1v) (defScope q1v) .none kV9 dc9 pm9 an9 cd9 ct9),sl9⟩)
  (c9:PySem.W.codeIn K cd9 "bracketed"=true)
  (k9:keepIn K (.ref f9)=true)
  (a10:PySem.W.nsIn K mainGlobals "pieces_of"=some (some (.ref f10)))
  (l10:K.lookup f10=some ⟨oc10,od10,.func (PySem.W.fnOf "pieces_of" "pieces_of" (defArgs q1w) (defBody q1w) (defScope q1w) .none kV10 dc10 pm10 an10 cd10 ct10),sl10⟩)
  (c10:PySem.W.codeIn K cd10 "pieces_of"=true)
  (k10:keepIn K (.ref f10)=true)
  (a11:PySem.W.nsIn K mainGlobals "end_of_piece"=some (some (.ref f11)))
  (l11:K.lookup f11=some ⟨oc11,od11,.func (PySem.W.fnOf "end_of_piece" "end_of_piece" (defArgs q06) (defBody q06) (defScope q06) .none kV11 dc11 pm11 an11 cd11 ct11),sl11⟩)
  (c11:PySem.W.codeIn K cd11 "end_of_piece"=true)
  (k11:keepIn K (.ref f11)=true)
  (a12:PySem.W.nsIn K mainGlobals "first_fault"=some (some (.ref f12)))
  (l12:K.lookup f12=some ⟨oc12,od12,.func (PySem.W.fnOf "first_fault" "first_fault" (defArgs q1c) (defBody q1c) (defScope q1c) .none kV12 dc12 pm12 an12 cd12 ct12),sl12⟩)
  (c12:PySem.W.codeIn K cd12 "first_fault"=true)
  (k12:keepIn K (.ref f12)=true)
  (a13:PySem.W.nsIn K mainGlobals "can_begin"=some (some (.ref f13)))
  (l13:K.lookup f13=some ⟨oc13,od13,.func (PySem.W.fnOf "can_begin" "can_begin" (defArgs q1x) (defBody q1x) (defScope q1x) .none kV13 dc13 pm13 an13 cd13 ct13),sl13⟩)
  (c13:PySem.W.codeIn K cd13 "can_begin"=true)
  (k13:keepIn K (.ref f13)=true)
  (a14:PySem.W.nsIn K mainGlobals "can_follow"=some (some (.ref f14)))
  (l14:K.lookup f14=some ⟨oc14,od14,.func (PySem.W.fnOf "can_follow" "can_follow" (defArgs q1h) (defBody q1h) (defScope q1h) .none kV14 dc14 pm14 an14 cd14 ct14),sl14⟩)
  (c14:PySem.W.codeIn K cd14 "can_follow"=true)
  (k14:keepIn K (.ref f14)=true)
  (a15:PySem.W.nsIn K mainGlobals "form_of_pieces"=some (some (.ref f15)))
  (l15:K.lookup f15=some ⟨oc15,od15,.func (PySem.W.fnOf "form_of_pieces" "form_of_pieces" (defArgs q0y) (defBody q0y) (defScope q0y) .none kV15 dc15 pm15 an15 cd15 ct15),sl15⟩)
  (c15:PySem.W.codeIn K cd15 "form_of_pieces"=true)
  (k15:keepIn K (.ref f15)=true)
  (a16:PySem.W.nsIn K mainGlobals "settle"=some (some (.ref f16)))
  (l16:K.lookup f16=some ⟨oc16,od16,.func (PySem.W.fnOf "settle" "settle" (defArgs q26) (defBody q26) (defScope q26) .none kV16 dc16 pm16 an16 cd16 ct16),sl16⟩)
  (c16:PySem.W.codeIn K cd16 "settle"=true)
  (k16:keepIn K (.ref f16)=true)
  (a17:PySem.W.nsIn K mainGlobals "plain_form"=some (some (.ref f17)))
  (l17:K.lookup f17=some ⟨oc17,od17,.func (PySem.W.fnOf "plain_form" "plain_form" (defArgs q1i) (defBody q1i) (defScope q1i) .none kV17 dc17 pm17 an17 cd17 ct17),sl17⟩)
  (c17:PySem.W.codeIn K cd17 "plain_form"=true)
  (k17:keepIn K (.ref f17)=true)
  (a18:PySem.W.nsIn K mainGlobals "_law_cell_at"=some (some (.ref f18)))
  (l18:K.lookup f18=some ⟨oc18,od18,.func (PySem.W.fnOf "_law_cell_at" "_law_cell_at" (defArgs q07) (defBody q07) (defScope q07) .none kV18 dc18 pm18 an18 cd18 ct18),sl18⟩)
  (c18:PySem.W.codeIn K cd18 "_law_cell_at"=true)
  (k18:keepIn K (.ref f18)=true)
  (a19:PySem.W.nsIn K mainGlobals "_law_whole"=some (some (.ref f19)))
  (l19:K.lookup f19=some ⟨oc19,od19,.func (PySem.W.fnOf "_law_whole" "_law_whole" (defArgs q1j) (defBody q1j) (defScope q1j) .none kV19 dc19 pm19 an19 cd19 ct19),sl19⟩)
  (c19:PySem.W.codeIn K cd19 "_law_whole"=true)
  (k19:keepIn K (.ref f19)=true)
  (a20:PySem.W.nsIn K mainGlobals "_law_mixed"=some (some (.ref f20)))
  (l20:K.lookup f20=some ⟨oc20,od20,.func (PySem.W.fnOf "_law_mixed" "_law_mixed" (defArgs q1k) (defBody q1k) (defScope q1k) .none kV20 dc20 pm20 an20 cd20 ct20),sl20⟩)
  (c20:PySem.W.codeIn K cd20 "_law_mixed"=true)
  (k20:keepIn K (.ref f20)=true)
  (a21:PySem.W.nsIn K mainGlobals "_law_leaf"=some (some (.ref f21)))
  (l21:K.lookup f21=some ⟨oc21,od21,.func (PySem.W.fnOf "_law_leaf" "_law_leaf" (defArgs q1y) (defBody q1y) (defScope q1y) .none kV21 dc21 pm21 an21 cd21 ct21),sl21⟩)
  (c21:PySem.W.codeIn K cd21 "_law_leaf"=true)
  (k21:keepIn K (.ref f21)=true)
  (a22:PySem.W.nsIn K mainGlobals "_law_deep"=some (some (.ref f22)))
  (l22:K.lookup f22=some ⟨oc22,od22,.func (PySem.W.fnOf "_law_deep" "_law_deep" (defArgs q1z) (defBody q1z) (defScope q1z) .none kV22 dc22 pm22 an22 cd22 ct22),sl22⟩)
  (c22:PySem.W.codeIn K cd22 "_law_deep"=true)
  (k22:keepIn K (.ref f22)=true)
  (a23:PySem.W.nsIn K mainGlobals "_law_form_by"=some (some (.ref f23)))
  (l23:K.lookup f23=some ⟨oc23,od23,.func (PySem.W.fnOf "_law_form_by" "_law_form_by" (defArgs q08) (defBody q08) (defScope q08) .none kV23 dc23 pm23 an23 cd23 ct23),sl23⟩)
  (c23:PySem.W.codeIn K cd23 "_law_form_by"=true)
  (k23:keepIn K (.ref f23)=true)
  (a24:PySem.W.nsIn K mainGlobals "_law_truth"=some (some (.ref f24)))
  (l24:K.lookup f24=some ⟨oc24,od24,.func (PySem.W.fnOf "_law_truth" "_law_truth" (defArgs q1l) (defBody q1l) (defScope q1l) .none kV24 dc24 pm24 an24 cd24 ct24),sl24⟩)
  (c24:PySem.W.codeIn K cd24 "_law_truth"=true)
  (k24:keepIn K (.ref f24)=true)
  (a25:PySem.W.nsIn K mainGlobals "_law_row"=some (some (.ref f25)))
  (l25:K.lookup f25=some ⟨oc25,od25,.func (PySem.W.fnOf "_law_row" "_law_row" (defArgs q12) (defBody q12) (defScope q12) .none kV25 dc25 pm25 an25 cd25 ct25),sl25⟩)
  (c25:PySem.W.codeIn K cd25 "_law_row"=true)
  (k25:keepIn K (.ref f25)=true)
  (a26:PySem.W.nsIn K mainGlobals "_law_letter"=some (some (.ref f26)))
  (l26:K.lookup f26=some ⟨oc26,od26,.func (PySem.W.fnOf "_law_letter" "_law_letter" (defArgs q1d) (defBody q1d) (defScope q1d) .none kV26 dc26 pm26 an26 cd26 ct26),sl26⟩)
  (c26:PySem.W.codeIn K cd26 "_law_letter"=true)
  (k26:keepIn K (.ref f26)=true)
  (a27:PySem.W.nsIn K mainGlobals "_law_longer"=some (some (.ref f27)))
  (l27:K.lookup f27=some ⟨oc27,od27,.func (PySem.W.fnOf "_law_longer" "_law_longer" (defArgs q01) (defBody q01) (defScope q01) .none kV27 dc27 pm27 an27 cd27 ct27),sl27⟩)
  (c27:PySem.W.codeIn K cd27 "_law_longer"=true)
  (k27:keepIn K (.ref f27)=true)
  (a28:PySem.W.nsIn K mainGlobals "_law_names"=some (some (.ref f28)))
  (l28:K.lookup f28=some ⟨oc28,od28,.func (PySem.W.fnOf "_law_names" "_law_names" (defArgs q04) (defBody q04) (defScope q04) .none kV28 dc28 pm28 an28 cd28 ct28),sl28⟩)
  (c28:PySem.W.codeIn K cd28 "_law_names"=true)
  (k28:keepIn K (.ref f28)=true)
  (a29:PySem.W.nsIn K mainGlobals "_law_most_open"=some (some (.ref f29)))
  (l29:K.lookup f29=some ⟨oc29,od29,.func (PySem.W.fnOf "_law_most_open" "_law_most_open" (defArgs q0z) (defBody q0z) (defScope q0z) .none kV29 dc29 pm29 an29 cd29 ct29),sl29⟩)
  (c29:PySem.W.codeIn K cd29 "_law_most_open"=true)
  (k29:keepIn K (.ref f29)=true)
  (a30:PySem.W.nsIn K mainGlobals "_law_same"=some (some (.ref f30)))
  (l30:K.lookup f30=some ⟨oc30,od30,.func (PySem.W.fnOf "_law_same" "_law_same" (defArgs q10) (defBody q10) (defScope q10) .none kV30 dc30 pm30 an30 cd30 ct30),sl30⟩)
  (c30:PySem.W.codeIn K cd30 "_law_same"=true)
  (k30:keepIn K (.ref f30)=true)
  (a31:PySem.W.nsIn K mainGlobals "_law_right"=some (some (.ref f31)))
  (l31:K.lookup f31=some ⟨oc31,od31,.func (PySem.W.fnOf "_law_right" "_law_right" (defArgs q1m) (defBody q1m) (defScope q1m) .none kV31 dc31 pm31 an31 cd31 ct31),sl31⟩)
  (c31:PySem.W.codeIn K cd31 "_law_right"=true)
  (k31:keepIn K (.ref f31)=true)
  (a32:PySem.W.nsIn K mainGlobals "law"=some (some (.ref f32)))
  (l32:K.lookup f32=some ⟨oc32,od32,.func (PySem.W.fnOf "law" "law" (defArgs q4r) (defBody q4r) (defScope q4r) .none kV32 dc32 pm32 an32 cd32 ct32),sl32⟩)
  (c32:PySem.W.codeIn K cd32 "law"=true)
  (k32:keepIn K (.ref f32)=true)
  (n_CircuitError:PySem.W.nsIn K mainGlobals "CircuitError"=some (some (.ref A_CircuitError)))
  (n_NoPlace:PySem.W.nsIn K mainGlobals "NoPlace"=some (some (.ref A_NoPlace)))
  (n_NoName:PySem.W.nsIn K mainGlobals "NoName"=some (some (.ref A_NoName)))
  (n_BadText:PySem.W.nsIn K mainGlobals "BadText"=some (some (.ref A_BadText)))
  (n_WORDS:PySem.W.nsIn K mainGlobals "WORDS"=some (some A_WORDS))
  (n_JOINING:PySem.W.nsIn K mainGlobals "JOINING"=some (some A_JOINING))
  (n_LONGEST_NAME:PySem.W.nsIn K mainGlobals "LONGEST_NAME"=some (some A_LONGEST_NAME))
  (n_MOST_BRACKETS:PySem.W.nsIn K mainGlobals "MOST_BRACKETS"=some (some A_MOST_BRACKETS))
  (n_LOOSEST_WORD:PySem.W.nsIn K mainGlobals "LOOSEST_WORD"=some (some A_LOOSEST_WORD))
  (n_WHOLE:PySem.W.nsIn K mainGlobals "WHOLE"=some (some A_WHOLE))
  (n_TIGHTNESS:PySem.W.nsIn K mainGlobals "TIGHTNESS"=some (some (.ref A_TIGHTNESS)))
  (tab_TIGHTNESS:TabK l.prog w K A_TIGHTNESS q1f)
  (z_all:PySem.W.nsIn K mainGlobals "all"=some none)
  (z_any:PySem.W.nsIn K mainGlobals "any"=some none)
  (z_bool:PySem.W.nsIn K mainGlobals "bool"=some none)
  (z_enumerate:PySem.W.nsIn K mainGlobals "enumerate"=some none)
  (z_int:PySem.W.nsIn K mainGlobals "int"=some none)
  (z_isinstance:PySem.W.nsIn K mainGlobals "isinstance"=some none)
  (z_len:PySem.W.nsIn K mainGlobals "len"=some none)
  (z_list:PySem.W.nsIn K mainGlobals "list"=some none)
  (z_max:PySem.W.nsIn K mainGlobals "max"=some none)
  (z_min:PySem.W.nsIn K mainGlobals "min"=some none)
  (z_range:PySem.W.nsIn K mainGlobals "range"=some none)
  (z_str:PySem.W.nsIn K mainGlobals "str"=some none)
  (z_tuple:PySem.W.nsIn K mainGlobals "tuple"=some none)
  (g_WORDS:conIn K (.tup [(.str "yes"),(.str "no"),(.str "not"),(.str "and"),(.str "odd"),(.str "or")]) A_WORDS=true)
  (g_JOINING:conIn K (.tup [(.str "and"),(.str "odd"),(.str "or")]) A_JOINING=true)
  (g_LONGEST_NAME:conIn K (.int 8) A_LONGEST_NAME=true)
  (g_MOST_BRACKETS:conIn K (.int 12) A_MOST_BRACKETS=true)
  (g_LOOSEST_WORD:conIn K (.int 1) A_LOOSEST_WORD=true)
  (g_WHOLE:conIn K (.int 5) A_WHOLE=true)
  (e_BadText:excIn K A_BadText A_CircuitError=true)
  (e_NoName:excIn K A_NoName A_CircuitError=true)
  (e_NoPlace:excIn K A_NoPlace A_CircuitError=true)
  (c_BadText:excClsIn K A_BadText=true)
  (c_NoName:excClsIn K A_NoName=true)
  (c_NoPlace:excClsIn K A_NoPlace=true)
  (t_NoneType_int:kitOne K (.type "NoneType") (.type "int")=some false)
  (t_bool_int:kitOne K (.type "bool") (.type "int")=some true)
  (t_int_int:kitOne K (.type "int") (.type "int")=some true)
  (t_str_int:kitOne K (.type "str") (.type "int")=some false)
  (t_tuple_int:kitOne K (.type "tuple") (.type "int")=some false)
  (t_list_int:kitOne K (.type "list") (.type "int")=some false)
  (t_NoneType_bool:kitOne K (.type "NoneType") (.type "bool")=some false)
  (t_bool_bool:kitOne K (.type "bool") (.type "bool")=some true)
  (t_int_bool:kitOne K (.type "int") (.type "bool")=some false)
  (t_str_bool:kitOne K (.type "str") (.type "bool")=some false)
  (t_tuple_bool:kitOne K (.type "tuple") (.type "bool")=some false)
  (t_list_bool:kitOne K (.type "list") (.type "bool")=some false)
  (t_NoneType_tuple:kitOne K (.type "NoneType") (.type "tuple")=some false)
  (t_bool_tuple:kitOne K (.type "bool") (.type "tuple")=some false)
  (t_int_tuple:kitOne K (.type "int") (.type "tuple")=some false)
  (t_str_tuple:kitOne K (.type "str") (.type "tuple")=some false)
  (t_tuple_tuple:kitOne K (.type "tuple") (.type "tuple")=some true)
  (t_list_tuple:kitOne K (.type "list") (.type "tuple")=some false)
  (t_NoneType_str:kitOne K (.type "NoneType") (.type "str")=some false)
  (t_bool_str:kitOne K (.type "bool") (.type "str")=some false)
  (t_int_str:kitOne K (.type "int") (.type "str")=some false)
  (t_str_str:kitOne K (.type "str") (.type "str")=some true)
  (t_tuple_str:kitOne K (.type "tuple") (.type "str")=some false)
  (t_list_str:kitOne K (.type "list") (.type "str")=some false)
  (n:Nat)(hL:∀a:Adr,Exs K mg a->∀ns:List Int,ns.length<=63->run K a (n+1) q6u [.lst (ns.map .int)]=.ok (.fr (.bl true))):
  ∃fd:FuncData,(∀(s:Shared)(v:Value),BindsTo s fd ⟨[v],[]⟩ [("_law_script", v)])/\∀base:Heap,K.In base->base.Ns mainGlobals mg->FnOk l.prog w K mg base (CX1 l.prog w) (n+1) fa fd ["_law_script"] (spLaw K):=by
 have e:=hfa.symm.trans (mg_of X G a32);cases e
 have A:Ats K mg:=⟨⟨⟨_,_,q0j (st:=q30) l0 c0 k0,mg_of X G a0,(q0j (st:=q30) l0 c0 k0).binds (ps:=["form", "row"]) fun _ _ _ _ _ _=>us2 fun _ _=>rfl⟩⟩,
  ⟨⟨_,_,q0j (st:=q2d) l1 c1 k1,mg_of X G a1,(q0j (st:=q2d) l1 c1 k1).binds (ps:=["things", "place"]) fun _ _ _ _ _ _=>us2 fun _ _=>rfl⟩⟩,
  ⟨⟨_,_,q0j (st:=q25) l2 c2 k2,mg_of X G a2,(q0j (st:=q25) l2 c2 k2).binds (ps:=["form", "forms"]) fun _ _ _ _ _ _=>us2 fun _ _=>rfl⟩⟩,
  ⟨⟨_,_,q0j (st:=q31) l3 c3 k3,mg_of X G a3,(q0j (st:=q31) l3 c3 k3).binds (ps:=["form", "names"]) fun _ _ _ _ _ _=>us2 fun _ _=>rfl⟩⟩,
  ⟨⟨_,_,q0j (st:=q4w) l4 c4 k4,mg_of X G a4,(q0j (st:=q4w) l4 c4 k4).binds (ps:=["text", "names"]) fun _ _ _ _ _ _=>us2 fun _ _=>rfl⟩⟩,
  ⟨⟨_,_,q0j (st:=q0x) l5 c5 k5,mg_of X G a5,(q0j (st:=q0x) l5 c5 k5).binds (ps:=["names"]) fun _ _ _ _ _ _=>us1 fun _=>rfl⟩⟩,
  ⟨⟨_,_,q0j (st:=q2f) l6 c6 k6,mg_of X G a6,(q0j (st:=q2f) l6 c6 k6).binds (ps:=["name"]) fun _ _ _ _ _ _=>us1 fun _=>rfl⟩⟩,
  ⟨⟨_,_,q0j (st:=q0u) l7 c7 k7,mg_of X G a7,(q0j (st:=q0u) l7 c7 k7).binds (ps:=["sign"]) fun _ _ _ _ _ _=>us1 fun _=>rfl⟩⟩,
  ⟨⟨_,_,q0j (st:=q2l) l8 c8 k8,mg_of X G a8,(q0j (st:=q2l) l8 c8 k8).binds (ps:=["form", "names"]) fun _ _ _ _ _ _=>us2 fun _ _=>rfl⟩⟩,
  ⟨⟨_,_,q0j (st:=q1v) l9 c9 k9,mg_of X G a9,(q0j (st:=q1v) l9 c9 k9).binds (ps:=["form", "least", "names"]) fun _ _ _ _ _ _=>us3 fun _ _ _=>rfl⟩⟩,
  ⟨⟨_,_,q0j (st:=q1w) l10 c10 k10,mg_of X G a10,(q0j (st:=q1w) l10 c10 k10).binds (ps:=["text"]) fun _ _ _ _ _ _=>us1 fun _=>rfl⟩⟩,
  ⟨⟨_,_,q0j (st:=q06) l11 c11 k11,mg_of X G a11,(q0j (st:=q06) l11 c11 k11).binds (ps:=["text", "place"]) fun _ _ _ _ _ _=>us2 fun _ _=>rfl⟩⟩,
  ⟨⟨_,_,q0j (st:=q1c) l12 c12 k12,mg_of X G a12,(q0j (st:=q1c) l12 c12 k12).binds (ps:=["pieces", "places", "length"]) fun _ _ _ _ _ _=>us3 fun _ _ _=>rfl⟩⟩,
  ⟨⟨_,_,q0j (st:=q1x) l13 c13 k13,mg_of X G a13,(q0j (st:=q1x) l13 c13 k13).binds (ps:=["piece", "brackets", "places"]) fun _ _ _ _ _ _=>us3 fun _ _ _=>rfl⟩⟩,
  ⟨⟨_,_,q0j (st:=q1h) l14 c14 k14,mg_of X G a14,(q0j (st:=q1h) l14 c14 k14).binds (ps:=["piece", "brackets"]) fun _ _ _ _ _ _=>us2 fun _ _=>rfl⟩⟩,
  ⟨⟨_,_,q0j (st:=q0y) l15 c15 k15,mg_of X G a15,(q0j (st:=q0y) l15 c15 k15).binds (ps:=["pieces", "places"]) fun _ _ _ _ _ _=>us2 fun _ _=>rfl⟩⟩,
  ⟨⟨_,_,q0j (st:=q26) l16 c16 k16,mg_of X G a16,(q0j (st:=q26) l16 c16 k16).binds (ps:=["forms", "waiting", "least"]) fun _ _ _ _ _ _=>us3 fun _ _ _=>rfl⟩⟩,
  ⟨⟨_,_,q0j (st:=q1i) l17 c17 k17,mg_of X G a17,(q0j (st:=q1i) l17 c17 k17).binds (ps:=["piece", "places"]) fun _ _ _ _ _ _=>us2 fun _ _=>rfl⟩⟩,
  ⟨⟨_,_,q0j (st:=q07) l18 c18 k18,mg_of X G a18,(q0j (st:=q07) l18 c18 k18).binds (ps:=["_law_script", "_law_k"]) fun _ _ _ _ _ _=>us2 fun _ _=>rfl⟩⟩,
  ⟨⟨_,_,q0j (st:=q1j) l19 c19 k19,mg_of X G a19,(q0j (st:=q1j) l19 c19 k19).binds (ps:=["_law_found"]) fun _ _ _ _ _ _=>us1 fun _=>rfl⟩⟩,
  ⟨⟨_,_,q0j (st:=q1k) l20 c20 k20,mg_of X G a20,(q0j (st:=q1k) l20 c20 k20).binds (ps:=["_law_cell", "_law_k", "_law_many"]) fun _ _ _ _ _ _=>us3 fun _ _ _=>rfl⟩⟩,
  ⟨⟨_,_,q0j (st:=q1y) l21 c21 k21,mg_of X G a21,(q0j (st:=q1y) l21 c21 k21).binds (ps:=["_law_cell", "_law_many"]) fun _ _ _ _ _ _=>us2 fun _ _=>rfl⟩⟩,
  ⟨⟨_,_,q0j (st:=q1z) l22 c22 k22,mg_of X G a22,(q0j (st:=q1z) l22 c22 k22).binds (ps:=["_law_cell", "_law_many", "_law_tall"]) fun _ _ _ _ _ _=>us3 fun _ _ _=>rfl⟩⟩,
  ⟨⟨_,_,q0j (st:=q08) l23 c23 k23,mg_of X G a23,(q0j (st:=q08) l23 c23 k23).binds (ps:=["_law_cells", "_law_many"]) fun _ _ _ _ _ _=>us2 fun _ _=>rfl⟩⟩,
  ⟨⟨_,_,q0j (st:=q1l) l24 c24 k24,mg_of X G a24,(q0j (st:=q1l) l24 c24 k24).binds (ps:=["_law_form", "_law_row_here"]) fun _ _ _ _ _ _=>us2 fun _ _=>rfl⟩⟩,
  ⟨⟨_,_,q0j (st:=q12) l25 c25 k25,mg_of X G a25,(q0j (st:=q12) l25 c25 k25).binds (ps:=["_law_cell", "_law_many"]) fun _ _ _ _ _ _=>us2 fun _ _=>rfl⟩⟩,
  ⟨⟨_,_,q0j (st:=q1d) l26 c26 k26,mg_of X G a26,(q0j (st:=q1d) l26 c26 k26).binds (ps:=["_law_k"]) fun _ _ _ _ _ _=>us1 fun _=>rfl⟩⟩,
  ⟨⟨_,_,q0j (st:=q01) l27 c27 k27,mg_of X G a27,(q0j (st:=q01) l27 c27 k27).binds (ps:=["_law_word", "_law_many"]) fun _ _ _ _ _ _=>us2 fun _ _=>rfl⟩⟩,
  ⟨⟨_,_,q0j (st:=q04) l28 c28 k28,mg_of X G a28,(q0j (st:=q04) l28 c28 k28).binds (ps:=["_law_cell", "_law_many"]) fun _ _ _ _ _ _=>us2 fun _ _=>rfl⟩⟩,
  ⟨⟨_,_,q0j (st:=q0z) l29 c29 k29,mg_of X G a29,(q0j (st:=q0z) l29 c29 k29).binds (ps:=["_law_told"]) fun _ _ _ _ _ _=>us1 fun _=>rfl⟩⟩,
  ⟨⟨_,_,q0j (st:=q10) l30 c30 k30,mg_of X G a30,(q0j (st:=q10) l30 c30 k30).binds (ps:=["_law_found", "_law_due"]) fun _ _ _ _ _ _=>us2 fun _ _=>rfl⟩⟩,
  ⟨⟨_,_,q0j (st:=q1m) l31 c31 k31,mg_of X G a31,(q0j (st:=q1m) l31 c31 k31).binds (ps:=["_law_form", "_law_names_here", "_law_row_here"]) fun _ _ _ _ _ _=>us3 fun _ _ _=>rfl⟩⟩,
  ⟨⟨_,_,q0j (st:=q4r) l32 c32 k32,mg_of X G a32,(q0j (st:=q4r) l32 c32 k32).binds (ps:=["_law_script"]) fun _ _ _ _ _ _=>us1 fun _=>rfl⟩⟩⟩
 have B:Blt l.prog w K mg:=⟨mg_none_of X G z_all,mg_none_of X G z_any,mg_none_of X G z_bool,mg_none_of X G z_enumerate,mg_none_of X G z_int,mg_none_of X G z_isinstance,mg_none_of X G z_len,mg_none_of X G z_list,mg_none_of X G z_max,mg_none_of X G z_min,mg_none_of X G z_range,mg_none_of X G z_str,mg_none_of X G z_tuple,⟨A_TIGHTNESS,mg_of X G n_TIGHTNESS,tab_TIGHTNESS⟩⟩;have M:Exs K mg ⟨A_CircuitError,A_NoPlace,A_NoName,A_BadText,A_WORDS,A_JOINING,A_LONGEST_NAME,A_MOST_BRACKETS,A_LOOSEST_WORD,A_WHOLE⟩:=⟨trivial,mg_of X G n_CircuitError,mg_of X G n_NoPlace,mg_of X G n_NoName,mg_of X G n_BadText,mg_of X G n_WORDS,mg_of X G n_JOINING,mg_of X G n_LONGEST_NAME,mg_of X G n_MOST_BRACKETS,mg_of X G n_LOOSEST_WORD,mg_of X G n_WHOLE,g_WORDS,g_JOINING,g_LONGEST_NAME,g_MOST_BRACKETS,g_LOOSEST_WORD,g_WHOLE,e_BadText,e_NoName,e_NoPlace,c_BadText,c_NoName,c_NoPlace,t_NoneType_int,t_bool_int,t_int_int,t_str_int,t_tuple_int,t_list_int,t_NoneType_bool,t_bool_bool,t_int_bool,t_str_bool,t_tuple_bool,t_list_bool,t_NoneType_tuple,t_bool_tuple,t_int_tuple,t_str_tuple,t_tuple_tuple,t_list_tuple,t_NoneType_str,t_bool_str,t_int_str,t_str_str,t_tuple_str,t_list_str⟩;exact⟨_,fun s v=>.of_eq rfl,fun base _ _=>(law_fn A B M (q0j (st:=q4r) l32 c32 k32) n).imp fun vs H Q E q=>y11 (hL _ M) q⟩
local macro_rules | `(tactic| walk_at "den") => do
 let l:=(("y7c y7d y66 y67 y68 y69 y7a z4g z1u z4c z4d y2y y2z y6z y20 y60 z4e z4f y21 y62 y63 y13 y6s y6t y6u y6v y2s y2t z4b y6g y6h y6i y6j y2o x95 x96 x7m x7n x7o x5m y2m x94 y2n y6e y6f z1d y2g y2h x9w y6b z1e z1f z1g le_str y6c q2i y2i y2j y2k x4k y2l x9z z1h x7l y9n y9o y9p y9q y9r y9s y9t y5b y47 y48 y49 y12 y9k y9l y9m y5a z2x z2y z2z z20 y9u x7f x7g x9j y9v y9w y5c dC_s z21 z22 y5d y5e y9x y9y z23 y9z y5f y90 y91 z24 y5g y92 z25 y93 y5h y94 y95 z26 z27 y5i z28 y5j y96 y5k y5l y97 y98 y99 y5m y5n y5o y14 y5p y5q y15 x9k y16 x9l z0a y5r x9m q6a y5t y5u y5v y5w y5x y17 z0b x9n z29 z0c z0d z0e y5y z0f z3a z3b z0g y5z y18 x9o y50 y19 z0h z0i y51 y52 y2b x7h x7i z0j y2c x9p y53 y2d z0k z0l z0m z0n z0o y54 z0p z3c z3d z3e z3f z3g z3h z3i z3j z3k z3l z3m z3n z3o z3p z3q z3r z3s z0q z0r z0s z0t z0u z0v z0w ix_t ix_l z3t z3u z3v z3w z3x z3y z3z z30 z31 z32 z33 z34 z35 sc_i sc_b sc_s sc_n sl_l at0 at1 at2 z0x rng1 rng2 init Option.map_some Option.bind_some List.map_cons List.map_nil List.length_cons List.length_nil List.replicate_succ List.replicate_zero List.cons_append List.nil_append List.getElem?_cons_zero List.getElem?_cons_succ List.set_cons_zero List.set_cons_succ if_true if_false decide_eq_true_eq reduceIte Bool.false_eq_true ite_true ite_false Nat.reduceSub Nat.reduceAdd Nat.reduceLeDiff Nat.zero_add Nat.le_refl Int.reduceLT Int.reduceLE Int.reduceNeg true_and and_true true_or or_true false_and and_false false_or or_false not_true_eq_false not_false_eq_true decide_true decide_false Bool.not_true Bool.not_false String.reduceEq Nat.reduceEqDiff y2e z03 z04 z37 z38 z05 z06 z07 x9q y57 Int.reduceToNat Int.reducePow Nat.reduceLT cast0 cast1 Int.reduceEq Int.reduceMod Int.reduceDiv Int.reduceAdd Int.reduceSub Int.reduceMul".splitOn " ").map fun s=>Lean.mkIdent s.toName).toArray
 `(tactic| try simp only [$[$l:ident],*])
noncomputable def someAt(j:Int):Int:=if j=0 then 99991 else if j=1 then 99989 else if j=2 then 99971 else if j=3 then 99961 else if j=4 then 99929 else if j=5 then 99923 else if j=6 then 99907 else if j=7 then 99901 else if j=8 then 99881 else if j=9 then 99877 else 99871
noncomputable def made(c k:Int):Int:=(c+7*k)*48271%someAt (k%11)
noncomputable def mixed(c k m:Int):Int:=(made c k*made c k*7+made c k+k)%1000003%m
theorem x08(j:Int):0<someAt j/\someAt j<=99991:=by
 unfold someAt
 repeat (split;· omega)
 omega
theorem y7h(c k:Int):0<=made c k/\made c k<99991:=by
 have h:=x08 (k%11);have h1:=w2x ((c+7*k)*48271) (show someAt (k%11)≠0 by omega);have h2:=w2i ((c+7*k)*48271) h.1;unfold made;omega
theorem q7z{c k m:Int}(h:0<m):0<=mixed c k m/\mixed c k m<m:=⟨w2x _ (by omega),w2i _ h⟩
theorem y7i(h0:0<=j)(h1:j<11):atI [W.int 99991,.int 99989,.int 99971,.int 99961,.int 99929,.int 99923,.int 99907,.int 99901,.int 99881,.int 99877,.int 99871] j=some (.int (someAt j)):=by
 have:j=0\/j=1\/j=2\/j=3\/j=4\/j=5\/j=6\/j=7\/j=8\/j=9\/j=10:=by omega
 rcases this with h|h|h|h|h|h|h|h|h|h|h<;>(subst h;rfl)
theorem q4i(n:Nat)(c k:Int){m:Int}(hm:0<m):run K a (n+1) q0t [.int c,.int k,.int m]=.ok (.fr (.int (mixed c k m))):=by
 rw[q7c];unfold q4e;walk_at "den";rw[y7i (w2x _ (by decide)) (w2i _ (by decide))];walk_at "den";rw[if_pos (x08 _).1];have b:=y7h c k;have e:(c+7*k)*48271%someAt (k%11)=made c k:=rfl;walk_at "den";rw[e,if_pos (by omega),if_pos hm];rfl
theorem q70(n:Nat)(ns:List Int){k:Int}(hk:0<=k):run K a (n+1) q0v [.lst (ns.map .int),.int k]=.ok (.fr (.int (ns.getD k.toNat 0))):=by
 rw[q6p];unfold q29;walk_at "den"
 by_cases h:k<ns.length
 ·rw[if_pos (by simpa using h),x0y hk]
  have e:(ns.map W.int)[k.toNat]?=some (.int (ns.getD k.toNat 0)):=by
   have:k.toNat<ns.length:=by omega
   simp[List.getD,this]
  rw[e];walk_at "den"
 ·rw[if_neg (by simpa using h)]
  have:ns.getD k.toNat 0=0:=by
   have:¬k.toNat<ns.length:=by omega
   simp[List.getD,this]
  rw[this]
set_option genInjectivity true in
inductive Fm where
 |is (b:Bool)|at (p:Nat)|not (f:Fm)|and (f g:Fm)|or (f g:Fm)|odd (f g:Fm)
noncomputable def enc:Fm->W
 |.is b=>.tup [.str "is", .bl b]
 |.at p=>.tup [.str "at", .int p]
 |.not f=>.tup [.str "not", enc f]
 |.and f g=>.tup [.str "and", enc f,enc g]
 |.or f g=>.tup [.str "or", enc f,enc g]
 |.odd f g=>.tup [.str "odd", enc f,enc g]
noncomputable def Fm.depth:Fm->Nat
 |.is _=>1
 |.at _=>1
 |.not f=>f.depth+1
 |.and f g=>max f.depth g.depth+1
 |.or f g=>max f.depth g.depth+1
 |.odd f g=>max f.depth g.depth+1
def Fm.inb(m:Nat):Fm->Prop
 |.is _=>True
 |.at p=>p<m
 |.not f=>f.inb m
 |.and f g=>f.inb m/\g.inb m
 |.or f g=>f.inb m/\g.inb m
 |.odd f g=>f.inb m/\g.inb m
noncomputable def Fm.val(row:List Bool):Fm->Bool
 |.is b=>b
 |.at p=>row.getD p false
 |.not f=>!f.val row
 |.and f g=>f.val row&&g.val row
 |.or f g=>f.val row||g.val row
 |.odd f g=>f.val row != g.val row
theorem Fm.depth_pos:∀f:Fm,1<=f.depth
 |.is _=>w0e _
 |.at _=>w0e _
 |.not f=>by simp only[Fm.depth];omega
 |.and f g=>by simp only[Fm.depth];omega
 |.or f g=>by simp only[Fm.depth];omega
 |.odd f g=>by simp only[Fm.depth];omega
theorem y0l(h:p<row.length):atI (row.map W.bl) (p:Int)=some (.bl (row.getD p false)):=by
 refine q56 ?_;simp[List.getD,h]
theorem z1y{c d e:Bool}:eq2 (.lst [.bl b,.bl c]) (.lst [.bl d,.bl e])=some (.bl (b==d&&c==e)):=by
 show some (W.bl (b==d&&(c==e&&true)))=_;rw[w3l]
theorem z1z{c d e:Bool}:ne2 (.lst [.bl b,.bl c]) (.lst [.bl d,.bl e])=some (.bl (!(b==d&&c==e))):=by
 show some (W.bl (!(b==d&&(c==e&&true))))=_;rw[w3l]
theorem q3e:∀(f:Fm)(n:Nat){row:List Bool},f.depth<=n->f.inb row.length->run K a n q1g [enc f,.tup (row.map .bl)]=.ok (.fr (.bl (f.val row)))
 |.is b,n,row,hd,hb=>by
  obtain⟨n,rfl⟩:∃k,n=k+1:=⟨n-1,by simp only[Fm.depth]at hd;omega⟩;rw[q2a];unfold q1n;simp only[enc];walk_at "den";rfl
 |.at p,n,row,hd,hb=>by
  obtain⟨n,rfl⟩:∃k,n=k+1:=⟨n-1,by simp only[Fm.depth]at hd;omega⟩;rw[q2a];unfold q1n;simp only[enc];walk_at "den";rw[y0l hb];walk_at "den";rfl
 |.not f,n,row,hd,hb=>by
  obtain⟨n,rfl⟩:∃k,n=k+1:=⟨n-1,by simp only[Fm.depth]at hd;omega⟩;rw[q2a];unfold q1n;simp only[enc];walk_at "den";rw[q3e f n (by simp only[Fm.depth]at hd;omega) hb];walk_at "den";simp only[Fm.val];cases f.val row<;>simp
 |.and f g,n,row,hd,hb=>by
  obtain⟨n,rfl⟩:∃k,n=k+1:=⟨n-1,by simp only[Fm.depth]at hd;omega⟩;rw[q2a];unfold q1n;simp only[enc];walk_at "den";rw[q3e f n (by simp only[Fm.depth]at hd;omega) hb.1];walk_at "den";rw[q3e g n (by simp only[Fm.depth]at hd;omega) hb.2];walk_at "den";rw[z1y];walk_at "den";simp only[Fm.val];cases f.val row<;>cases g.val row<;>rfl
 |.or f g,n,row,hd,hb=>by
  obtain⟨n,rfl⟩:∃k,n=k+1:=⟨n-1,by simp only[Fm.depth]at hd;omega⟩;rw[q2a];unfold q1n;simp only[enc];walk_at "den";rw[q3e f n (by simp only[Fm.depth]at hd;omega) hb.1];walk_at "den";rw[q3e g n (by simp only[Fm.depth]at hd;omega) hb.2];walk_at "den";rw[z1z];walk_at "den";simp only[Fm.val];cases f.val row<;>cases g.val row<;>rfl
 |.odd f g,n,row,hd,hb=>by
  obtain⟨n,rfl⟩:∃k,n=k+1:=⟨n-1,by simp only[Fm.depth]at hd;omega⟩;rw[q2a];unfold q1n;simp only[enc];walk_at "den";rw[q3e f n (by simp only[Fm.depth]at hd;omega) hb.1];walk_at "den";rw[q3e g n (by simp only[Fm.depth]at hd;omega) hb.2];walk_at "den";simp only[Fm.val];cases f.val row<;>cases g.val row<;>rfl
noncomputable def leafF(c:Int)(m:Nat):Fm:=if m=0\/c%9=8 then .is (decide (c / 9%2=1))else .at (mixed (c / 8) 1 m).toNat
theorem y28(c:Int)(m:Nat):(leafF c m).inb m:=by
 unfold leafF;split
 ·trivial
 ·rename_i h;have:=q7z (c:=c / 8) (k:=1) (m:=m) (by omega);show(mixed (c / 8) 1 m).toNat<m;omega
theorem x70(c:Int)(m:Nat):(leafF c m).depth=1:=by
 unfold leafF;split<;>rfl
theorem x0h(n:Nat)(c:Int)(m:Nat):run K a (n+2) q1u [.int c,.int m]=.ok (.fr (enc (leafF c m))):=by
 rw[q8b];unfold q40;walk_at "den";unfold leafF
 by_cases h:m=0
 ·subst h;simp[enc]
 ·rw[if_neg (by omega)]
  by_cases h9:c%9=8
  ·rw[if_pos h9,if_pos (.inr h9)];rfl
  ·rw[if_neg h9,if_neg (by omega),q4i n _ _ (by omega)];walk_at "den";have:=q7z (c:=c / 8) (k:=1) (m:=m) (by omega);simp only[enc];congr 4;simp;omega
noncomputable def Fm.size:Fm->Nat
 |.is _=>1
 |.at _=>1
 |.not f=>f.size+1
 |.and f g=>f.size+g.size+1
 |.or f g=>f.size+g.size+1
 |.odd f g=>f.size+g.size+1
theorem y0m(c:Int)(m:Nat):(leafF c m).size=1:=by
 unfold leafF;split<;>rfl
theorem mem_range{w:W}{lo hi:Int}(h:w∈rangeW lo hi):∃k:Nat,w=.int (lo+k)/\(k:Int)<hi-lo:=by
 unfold rangeW at h;obtain⟨k,h1,rfl⟩:=w1i.mp h;rw[w1d]at h1;exact⟨k,rfl,by omega⟩
theorem len_range{lo hi:Int}:(rangeW lo hi).length=(hi-lo).toNat:=by simp[rangeW]
def Ok(m:Nat)(st:List Fm)(k z:Nat):Prop:=(∀f∈st,f.inb m)/\(st.map Fm.depth).sum<=k/\(st.map Fm.size).sum<=z
theorem Ok.len:∀{st:List Fm}{k z:Nat},Ok m st k z->st.length<=k
 |[],k,_,_=>by simp
 |f::st,k,z,h=>by
  have h2:Ok m st (k-f.depth) (z-f.size):=⟨fun g hg=>h.1 g (by simp[hg]),by have:=h.2.1;simp at this;omega,by have:=h.2.2;simp at this;omega⟩
  have:=h2.len;have:=f.depth_pos;have:=h.2.1;simp at this |-
  omega
theorem Ok.push{st : List Fm}{k z : Nat}{f : Fm}(h : Ok m st k z)(hf : f.inb m){k' z' : Nat}(hk : k + f.depth <= k')(hz : z + f.size <= z') : Ok m (st ++ [f]) k' z' :=
  ⟨fun g hg => by rcases w2t.mp hg with z | z
                  . exact h.1 g z
                  . rw [w1c.mp z]; exact hf, by have := h.2.1; simp; omega, by have := h.2.2; simp; omega⟩
theorem Ok.pop{st:List Fm}{k z:Nat}{f:Fm}(h:Ok m (st++[f]) k z):f.inb m/\(f.depth<=k/\f.size<=z)/\Ok m st (k-f.depth) (z-f.size):=
 ⟨h.1 f (by simp),⟨by have:=h.2.1;simp at this;omega,by have:=h.2.2;simp at this;omega⟩,fun g hg=>h.1 g (by simp[hg]),by have:=h.2.1;simp at this;omega,by have:=h.2.2;simp at this;omega⟩
theorem q3c(st:List Fm):(st.map enc).length=st.length:=w0r ..
theorem words3{j:Int}(h:j=0\/j=1\/j=2):atI [W.str "and", W.str "or", W.str "odd"] j=some (.str (if j=0 then "and" else if j=1 then "or" else "odd")):=by
 rcases h with rfl|rfl|rfl<;>rfl
noncomputable def bin3(j:Int)(f g:Fm):Fm:=if j=0 then .and f g else if j=1 then .or f g else .odd f g
theorem x49(f g:Fm):(W.tup [.str (if j=0 then "and" else if j=1 then "or" else "odd"),enc f,enc g])=enc (bin3 j f g):=by
 unfold bin3;split
 ·rfl
 ·split<;>rfl
theorem x5a{f g:Fm}(h1:f.inb m)(h2:g.inb m):(bin3 j f g).inb m:=by
 unfold bin3;split
 ·exact⟨h1,h2⟩
 ·split<;>exact⟨h1,h2⟩
theorem x09(f g:Fm):(bin3 j f g).depth=max f.depth g.depth+1:=by
 unfold bin3;split
 ·rfl
 ·split<;>rfl
theorem x2v(f g:Fm):(bin3 j f g).size=f.size+g.size+1:=by
 unfold bin3;split
 ·rfl
 ·split<;>rfl
theorem q7i{l:List α}(h:0<l.length):∃s x,l=s++[x]:=by
 rcases List.eq_nil_or_concat l with rfl|⟨s,x,rfl⟩
 ·simp at h
 ·exact⟨s,x,by simp⟩
theorem x71(n:Nat)(cs:W)(m:Nat)(j:Nat)(c:Int)(e:List S)(hj:j<1000)(h:∃(st:List Fm)(z1 z2 z3:S),e=[.fr cs,.fr (.int m),.own none (st.map enc),z1,z2,z3]/\Ok m st j j):
  ∃e',q2x K a (run K a (n+2)) (e.set 3 (.fr (.int c)))=.nx e'/\∃(st:List Fm)(z1 z2 z3:S),e'=[.fr cs,.fr (.int m),.own none (st.map enc),z1,z2,z3]/\Ok m st (j+1) (j+1):=by
 obtain⟨st,z1,z2,z3,rfl,ok⟩:=h;have hl:=ok.len;unfold q2x;walk_at "den"
 have pushed:∀(z2 z3:S),∃e',(if(st.map enc).length<16777216 then SR.nx [.fr cs,.fr (.int m),.own none (st.map enc++[enc (leafF c m)]),.fr (.int c),z2,z3]else SR.no)=.nx e'/\∃(st:List Fm)(z1 z2 z3:S),e'=[.fr cs,.fr (.int m),.own none (st.map enc),z1,z2,z3]/\Ok m st (j+1) (j+1):=fun z2 z3=>by
  rw[if_pos (by rw[q3c];omega)];exact⟨_,rfl,st++[leafF c m],_,_,_,by rw[w0q];rfl,ok.push (y28 c m) (by rw[x70];omega) (by rw[y0m];omega)⟩
 by_cases c4:c%8=4
 ·rw[if_pos c4]
  by_cases hp:0<st.length
  ·obtain⟨s,f,rfl⟩:=q7i hp;rw[if_pos (by rw[q3c];omega),w0q];walk_at "den";obtain⟨p1,p2,p3⟩:=ok.pop;rw[if_pos (by rw[w0k,w3b]at hl;rw[q3c];omega)];exact⟨_,rfl,s++[.not f],_,_,_,by rw[w0q];rfl,p3.push (f:=.not f) p1 (by simp only[Fm.depth];omega) (by simp only[Fm.size];omega)⟩
  ·rw[if_neg (by rw[q3c];omega),if_neg (by omega),x0h n c m];walk_at "den";exact pushed _ _
 ·rw[if_neg c4]
  by_cases c5:4<c%8
  ·rw[if_pos c5]
   by_cases hp:1<st.length
   ·obtain⟨s,g,rfl⟩:=q7i (show 0<st.length by omega);obtain⟨s,f,rfl⟩:=q7i (l:=s) (by simp at hp;omega);rw[if_pos (by rw[q3c];omega),w0q];walk_at "den";rw[words3 (by omega),w0q];walk_at "den";obtain⟨p1,p2,p3⟩:=ok.pop;obtain⟨p4,p5,p6⟩:=p3.pop;rw[if_pos (by rw[w0k,w0k,w3b]at hl;rw[q3c];omega),x49];exact⟨_,rfl,s++[bin3 (c%8-5) f g],_,_,_,by rw[w0q];rfl,p6.push (x5a p4 p1) (by rw[x09];have:=f.depth_pos;have:=g.depth_pos;omega) (by rw[x2v];omega)⟩
   ·rw[if_neg (by rw[q3c];omega),x0h n c m];walk_at "den";exact pushed _ _
  ·rw[if_neg c5,x0h n c m];walk_at "den";exact pushed _ _
theorem x5b{i:Nat}{b:List S->SR}(B:Nat)(I:Nat->List S->Prop):∀(ws:List W)(k:Nat)(e:List S),I k e->k+ws.length<=B->(∀(j:Nat)(w:W)(e:List S),j<B->w∈ws->I j e->∃e',b (e.set i (.fr w))=.nx e'/\I (j+1) e')->∃e',forD i b ws e=.nx e'/\I (k+ws.length) e'
 |[],k,e,h0,_,_=>⟨e,rfl,h0⟩
 |w::ws,k,e,h0,hB,h=>by
  rw[w0j]at hB;obtain⟨e1,h1,h2⟩:=h k w e (by omega) (by simp) h0;obtain⟨e2,h3,h4⟩:=x5b B I ws (k+1) e1 h2 (by omega) fun j u e hj hu=>h j u e hj (by simp[hu])
  refine⟨e2,?_,?_⟩
  ·rw[q6m,h1,q6a,h3]
  ·rw[w0j];have:k+1+ws.length=k+(ws.length+1):=by omega
   rw[<- this];exact h4
theorem x5c(n:Nat)(cs:W)(m:Nat):∀(k:Nat)(st:List Fm)(q z:Nat)(fuel:Nat)(z1 z2 z3:S),st.length=k+1->k<fuel->Ok m st q z->q<1000 ->
  ∃(f:Fm)(y1 y2 y3:S),whileD (q2w K a (run K a n)) (q3o K a (run K a n)) fuel [.fr cs,.fr (.int m),.own none (st.map enc),z1,z2,z3]=.nx [.fr cs,.fr (.int m),.own none [enc f],y1,y2,y3]/\f.inb m/\f.depth<=q/\f.size<=z+k
 |0,st,q,z,fuel,z1,z2,z3,hl,hf,ok,hq=>by
  obtain⟨fuel,rfl⟩:∃k,fuel=k+1:=⟨fuel-1,by omega⟩;obtain⟨f,rfl⟩:=List.length_eq_one_iff.mp hl;rw[q6b];unfold q2w;walk_at "den";refine⟨f,z1,z2,z3,?_,ok.1 f (by simp),by have:=ok.2.1;simpa using this,by have:=ok.2.2;simpa using this⟩;rfl
 |k+1,st,q,z,fuel,z1,z2,z3,hl,hf,ok,hq=>by
  obtain⟨fuel,rfl⟩:∃k,fuel=k+1:=⟨fuel-1,by omega⟩;obtain⟨s,g,rfl⟩:=q7i (show 0<st.length by omega);obtain⟨s,f,rfl⟩:=q7i (l:=s) (by simp at hl;omega);have hlen:=ok.len;simp only[w0k,w0j,w2l]at hl hlen;rw[q6b];unfold q2w;walk_at "den";rw[if_pos (by rw[q3c];simp;omega)];unfold q3o;rw[w0q,w0q];walk_at "den";rw[words3 (j:=(((s.map enc++[enc f]).length:Int))%3) (by omega)];walk_at "den";obtain⟨p1,p2,p3⟩:=ok.pop;obtain⟨p4,p5,p6⟩:=p3.pop;rw[if_pos (by rw[q3c];omega),x49];walk_at "den";have e1:s.map enc++[enc (bin3 (((s.map enc++[enc f]).length:Int)%3) f g)]=(s++[bin3 (((s.map enc++[enc f]).length:Int)%3) f g]).map enc:=by rw[w0q];rfl
  rw[e1];obtain⟨f',y1,y2,y3,w1,w2,w3,w4⟩:=x5c n cs m k _ q (z+1) fuel _ _ _ (by simp;omega) (by omega) (p6.push (f:=bin3 (((s.map enc++[enc f]).length:Int)%3) f g) (x5a p4 p1) (k':=q) (z':=z+1) (by rw[x09];have:=f.depth_pos;have:=g.depth_pos;omega) (by rw[x2v];omega)) hq;exact⟨f',y1,y2,y3,w1,w2,w3,by omega⟩
theorem y0n(M:Exs K mg a)(n:Nat)(i:Int):run K a (n+1) q2t [.int i]=.ok (.fr (.bl true)):=by
 rw[q7b];unfold q4d;walk_at "den";rw[x6f M.t_int_int];walk_at "den";rw[x6f M.t_int_bool];walk_at "den"
noncomputable def seqF(t:Bool)(ws:List W):W:=if t=true then .tup ws else .lst ws
theorem z4h:len1 [seqF t ws]=some (.int ws.length):=by cases t<;>rfl
theorem ix_q{i:Int}:ixW (seqF t ws) (.int i)=atI ws i:=by cases t<;>rfl
theorem y0o(n:Nat){fs:List Fm}(hp:p<100):run K a (n+1) q11 [seqF t (fs.map enc),.int p]=match fs[p]? with
  |some f=>.ok (.fr (enc f))
  |none=>.ex (.ref a.NoPlace):=by
 rw[q5h];unfold q3l;walk_at "den";rw[z4h];walk_at "den";rw[if_neg (by omega)]
 by_cases h:p<fs.length
 ·rw[if_neg (by rw[w0r];omega),w0b h];walk_at "den";rw[ix_q,q56 (v:=enc fs[p]) (by rw[w0v,w0b h];rfl)];walk_at "den"
 ·rw[if_pos (by rw[w0r];omega),w1o (by omega)]
noncomputable def Fm.put(fs:List Fm):Fm->Option Fm
 |.is b=>some (.is b)
 |.at p=>fs[p]?
 |.not f=>(f.put fs).map .not
 |.and f g=>(f.put fs).bind fun f'=>(g.put fs).map fun g'=>.and f' g'
 |.or f g=>(f.put fs).bind fun f'=>(g.put fs).map fun g'=>.or f' g'
 |.odd f g=>(f.put fs).bind fun f'=>(g.put fs).map fun g'=>.odd f' g'
noncomputable def putR(a:Adr):Option Fm->FR
 |some f=>.ok (.fr (enc f))
 |none=>.ex (.ref a.NoPlace)
theorem x1z(n:Nat){fs:List Fm}{w:Str}{mk:Fm->Fm->Fm}{f g:Fm}(hw:∀f g,enc (mk f g)=.tup [.str w,enc f,enc g])(h1:w≠"is")(h2:w≠"at")(h3:w≠"not")
  (i1:run K a n q1o [enc f,seqF t (fs.map enc)]=putR a (f.put fs))(i2:run K a n q1o [enc g,seqF t (fs.map enc)]=putR a (g.put fs)):
  run K a (n+1) q1o [enc (mk f g),seqF t (fs.map enc)]=putR a ((f.put fs).bind fun f'=>(g.put fs).map fun g'=>mk f' g'):=by
 rw[q5i,hw];unfold q4a;walk_at "den";rw[if_neg h1,if_neg h2,if_neg h3,i1];cases q1:f.put fs with
 |none=>rfl
 |some f'=>
  simp only[putR,Option.bind_some];walk_at "den";rw[i2];cases q2:g.put fs with
  |none=>rfl
  |some g'=>
   simp only[putR,w3w];walk_at "den";rw[hw]
theorem q18{a b:String}(h:a≠b):Str.ofString a≠Str.ofString b:=fun z=>h (q8r z)
theorem q45:∀(f:Fm)(n:Nat){t:Bool}{fs:List Fm},f.depth<=n->f.inb 12->run K a (n+1) q1o [enc f,seqF t (fs.map enc)]=putR a (f.put fs)
 |.is b,n,t,fs,hd,hb=>by
  rw[q5i];unfold q4a;simp only[enc];walk_at "den";rfl
 |.at p,n,t,fs,hd,hb=>by
  rw[q5i];unfold q4a;simp only[enc];walk_at "den";obtain⟨n,rfl⟩:∃k,n=k+1:=⟨n-1,by simp only[Fm.depth]at hd;omega⟩;rw[y0o n (show p<100 by have:p<12:=hb;omega)];simp only[Fm.put];cases fs[p]? with
  |none=>rfl
  |some f=>rfl
 |.not f,n,t,fs,hd,hb=>by
  rw[q5i];unfold q4a;simp only[enc];walk_at "den";obtain⟨n,rfl⟩:∃k,n=k+1:=⟨n-1,by simp only[Fm.depth]at hd;omega⟩;rw[q45 f n (by simp only[Fm.depth]at hd;omega) hb];simp only[Fm.put];cases f.put fs with
  |none=>rfl
  |some f=>
   simp only[putR,w3w];walk_at "den";rfl
 |.and f g,n,t,fs,hd,hb=>by
  obtain⟨n,rfl⟩:∃k,n=k+1:=⟨n-1,by simp only[Fm.depth]at hd;omega⟩;exact x1z (mk:=.and) (n+1) (fun _ _=>rfl) (q18 (by decide)) (q18 (by decide)) (q18 (by decide)) (q45 f n (by simp only[Fm.depth]at hd;omega) hb.1) (q45 g n (by simp only[Fm.depth]at hd;omega) hb.2)
 |.or f g,n,t,fs,hd,hb=>by
  obtain⟨n,rfl⟩:∃k,n=k+1:=⟨n-1,by simp only[Fm.depth]at hd;omega⟩;exact x1z (mk:=.or) (n+1) (fun _ _=>rfl) (q18 (by decide)) (q18 (by decide)) (q18 (by decide)) (q45 f n (by simp only[Fm.depth]at hd;omega) hb.1) (q45 g n (by simp only[Fm.depth]at hd;omega) hb.2)
 |.odd f g,n,t,fs,hd,hb=>by
  obtain⟨n,rfl⟩:∃k,n=k+1:=⟨n-1,by simp only[Fm.depth]at hd;omega⟩;exact x1z (mk:=.odd) (n+1) (fun _ _=>rfl) (q18 (by decide)) (q18 (by decide)) (q18 (by decide)) (q45 f n (by simp only[Fm.depth]at hd;omega) hb.1) (q45 g n (by simp only[Fm.depth]at hd;omega) hb.2)
theorem x0i(M:Exs K mg a)(n:Nat){w:Str}{f g:W}(h1:w≠"is")(h2:w≠"at")(h3:w≠"not")
  (i1:run K a n q05 [f,f]=.ok (.fr (.bl true)))(i2:run K a n q05 [g,g]=.ok (.fr (.bl true))):
  run K a (n+1) q05 [.tup [.str w,f,g],.tup [.str w,f,g]]=.ok (.fr (.bl true)):=by
 rw[q3x];unfold q2m;walk_at "den";rw[q9j M.t_tuple_tuple];walk_at "den";rw[q67 M.t_str_str];walk_at "den";rw[if_neg h1,if_neg h2,if_neg h3,i1];walk_at "den";rw[i2];walk_at "den"
theorem q4j(M:Exs K mg a):∀(f:Fm)(n:Nat),f.depth<=n->run K a (n+1) q05 [enc f,enc f]=.ok (.fr (.bl true))
 |.is b,n,hd=>by
  rw[q3x];unfold q2m;simp only[enc];walk_at "den";rw[q9j M.t_tuple_tuple];walk_at "den";rw[q67 M.t_str_str];walk_at "den";rw[y2a M.t_bool_bool];walk_at "den"
 |.at p,n,hd=>by
  rw[q3x];unfold q2m;simp only[enc];walk_at "den";rw[q9j M.t_tuple_tuple];walk_at "den";rw[q67 M.t_str_str];walk_at "den";obtain⟨n,rfl⟩:∃k,n=k+1:=⟨n-1,by simp only[Fm.depth]at hd;omega⟩;rw[y0n M n];walk_at "den"
 |.not f,n,hd=>by
  rw[q3x];unfold q2m;simp only[enc];walk_at "den";rw[q9j M.t_tuple_tuple];walk_at "den";rw[q67 M.t_str_str];walk_at "den";obtain⟨n,rfl⟩:∃k,n=k+1:=⟨n-1,by simp only[Fm.depth]at hd;omega⟩;rw[q4j M f n (by simp only[Fm.depth]at hd;omega)];walk_at "den"
 |.and f g,n,hd=>by
  obtain⟨n,rfl⟩:∃k,n=k+1:=⟨n-1,by simp only[Fm.depth]at hd;omega⟩;exact x0i M (n+1) (q18 (by decide)) (q18 (by decide)) (q18 (by decide)) (q4j M f n (by simp only[Fm.depth]at hd;omega)) (q4j M g n (by simp only[Fm.depth]at hd;omega))
 |.or f g,n,hd=>by
  obtain⟨n,rfl⟩:∃k,n=k+1:=⟨n-1,by simp only[Fm.depth]at hd;omega⟩;exact x0i M (n+1) (q18 (by decide)) (q18 (by decide)) (q18 (by decide)) (q4j M f n (by simp only[Fm.depth]at hd;omega)) (q4j M g n (by simp only[Fm.depth]at hd;omega))
 |.odd f g,n,hd=>by
  obtain⟨n,rfl⟩:∃k,n=k+1:=⟨n-1,by simp only[Fm.depth]at hd;omega⟩;exact x0i M (n+1) (q18 (by decide)) (q18 (by decide)) (q18 (by decide)) (q4j M f n (by simp only[Fm.depth]at hd;omega)) (q4j M g n (by simp only[Fm.depth]at hd;omega))
theorem q4k:∀(f:Fm){fs:List Fm},f.inb fs.length->∃g,f.put fs=some g
 |.is b,fs,_=>⟨_,rfl⟩
 |.at p,fs,h=>⟨fs[p]'h,w0b h⟩
 |.not f,fs,h=>by obtain⟨g,e⟩:=q4k f h;exact⟨.not g,by simp only[Fm.put,e];rfl⟩
 |.and f g,fs,h=>by obtain⟨x,e⟩:=q4k f h.1;obtain⟨y,e'⟩:=q4k g h.2;exact⟨.and x y,by simp only[Fm.put,e,e'];rfl⟩
 |.or f g,fs,h=>by obtain⟨x,e⟩:=q4k f h.1;obtain⟨y,e'⟩:=q4k g h.2;exact⟨.or x y,by simp only[Fm.put,e,e'];rfl⟩
 |.odd f g,fs,h=>by obtain⟨x,e⟩:=q4k f h.1;obtain⟨y,e'⟩:=q4k g h.2;exact⟨.odd x y,by simp only[Fm.put,e,e'];rfl⟩
theorem q4l:∀(f:Fm){fs:List Fm}{g:Fm},f.put fs=some g->f.inb fs.length/\(∀row,g.val row=f.val (fs.map fun x=>x.val row))/\(∀m,(∀x∈fs,x.inb m)->g.inb m)/\∀d,(∀x∈fs,x.depth<=d)->g.depth<=f.depth+d
 |.is b,fs,g,h=>by cases h;exact⟨trivial,fun _=>rfl,fun _ _=>trivial,fun d _=>by simp only[Fm.depth];omega⟩
 |.at p,fs,g,h=>by
  have h:fs[p]?=some g:=h;obtain⟨h1,h2⟩:=w0a.mp h;have hm:g∈fs:=h2 ▸ w1a h1;exact⟨h1,fun row=>by simp[Fm.val,List.getD,h],fun m hx=>hx g hm,fun d hx=>by have:=hx g hm;simp only[Fm.depth];omega⟩
 |.not f,fs,g,h=>by
  obtain⟨f',h1,rfl⟩:=w0d.mp (show(f.put fs).map Fm.not=some g from h);obtain⟨a1,a2,a3,a4⟩:=q4l f h1;exact⟨a1,fun row=>by simp only[Fm.val,a2],fun m hx=>a3 m hx,fun d hx=>by have:=a4 d hx;simp only[Fm.depth];omega⟩
 |.and f g,fs,x,h=>by
  obtain⟨f',h1,h2⟩:=w0s.mp (show(f.put fs).bind (fun f'=>(g.put fs).map fun g'=>Fm.and f' g')=some x from h)
  obtain⟨g',h3,rfl⟩:=w0d.mp h2;obtain⟨a1,a2,a3,a4⟩:=q4l f h1;obtain⟨b1,b2,b3,b4⟩:=q4l g h3;exact⟨⟨a1,b1⟩,fun row=>by simp only[Fm.val,a2,b2],fun m hx=>⟨a3 m hx,b3 m hx⟩,fun d hx=>by have:=a4 d hx;have:=b4 d hx;simp only[Fm.depth];omega⟩
 |.or f g,fs,x,h=>by
  obtain⟨f',h1,h2⟩:=w0s.mp (show(f.put fs).bind (fun f'=>(g.put fs).map fun g'=>Fm.or f' g')=some x from h)
  obtain⟨g',h3,rfl⟩:=w0d.mp h2;obtain⟨a1,a2,a3,a4⟩:=q4l f h1;obtain⟨b1,b2,b3,b4⟩:=q4l g h3;exact⟨⟨a1,b1⟩,fun row=>by simp only[Fm.val,a2,b2],fun m hx=>⟨a3 m hx,b3 m hx⟩,fun d hx=>by have:=a4 d hx;have:=b4 d hx;simp only[Fm.depth];omega⟩
 |.odd f g,fs,x,h=>by
  obtain⟨f',h1,h2⟩:=w0s.mp (show(f.put fs).bind (fun f'=>(g.put fs).map fun g'=>Fm.odd f' g')=some x from h)
  obtain⟨g',h3,rfl⟩:=w0d.mp h2;obtain⟨a1,a2,a3,a4⟩:=q4l f h1;obtain⟨b1,b2,b3,b4⟩:=q4l g h3;exact⟨⟨a1,b1⟩,fun row=>by simp only[Fm.val,a2,b2],fun m hx=>⟨a3 m hx,b3 m hx⟩,fun d hx=>by have:=a4 d hx;have:=b4 d hx;simp only[Fm.depth];omega⟩
theorem q4m:∀(f:Fm),depW (enc f)<=f.depth
 |.is b=>by simp[enc,depW,depWs,Fm.depth]
 |.at p=>by simp[enc,depW,depWs,Fm.depth]
 |.not f=>by have:=q4m f;simp[enc,depW,depWs,Fm.depth];omega
 |.and f g=>by have:=q4m f;have:=q4m g;simp[enc,depW,depWs,Fm.depth];omega
 |.or f g=>by have:=q4m f;have:=q4m g;simp[enc,depW,depWs,Fm.depth];omega
 |.odd f g=>by have:=q4m f;have:=q4m g;simp[enc,depW,depWs,Fm.depth];omega
theorem x72(n:Nat)(h:p<row.length):run K a (n+1) q11 [.tup (row.map .bl),.int p]=.ok (.fr (.bl (row.getD p false))):=by
 rw[q5h];unfold q3l;walk_at "den";rw[if_neg (by omega),if_neg (by simpa using h)];walk_at "den";rw[y0l h];walk_at "den"
theorem q3f:∀(f:Fm)(n:Nat){row:List Bool},f.depth<=n->f.inb row.length->run K a (n+1) q3y [enc f,.tup (row.map .bl)]=.ok (.fr (.bl (f.val row)))
 |.is b,n,row,hd,hb=>by
  rw[q4h];unfold q32;simp only[enc];walk_at "den";rfl
 |.at p,n,row,hd,hb=>by
  rw[q4h];unfold q32;simp only[enc];walk_at "den";obtain⟨n,rfl⟩:∃k,n=k+1:=⟨n-1,by simp only[Fm.depth]at hd;omega⟩;rw[x72 n hb];walk_at "den";rfl
 |.not f,n,row,hd,hb=>by
  rw[q4h];unfold q32;simp only[enc];walk_at "den";obtain⟨n,rfl⟩:∃k,n=k+1:=⟨n-1,by simp only[Fm.depth]at hd;omega⟩;rw[q3f f n (by simp only[Fm.depth]at hd;omega) hb];walk_at "den";rfl
 |.and f g,n,row,hd,hb=>by
  rw[q4h];unfold q32;simp only[enc];walk_at "den";obtain⟨n,rfl⟩:∃k,n=k+1:=⟨n-1,by simp only[Fm.depth]at hd;omega⟩;rw[q3f f n (by simp only[Fm.depth]at hd;omega) hb.1];walk_at "den";rw[q3f g n (by simp only[Fm.depth]at hd;omega) hb.2];walk_at "den";simp only[Fm.val];cases f.val row<;>simp
 |.or f g,n,row,hd,hb=>by
  rw[q4h];unfold q32;simp only[enc];walk_at "den";obtain⟨n,rfl⟩:∃k,n=k+1:=⟨n-1,by simp only[Fm.depth]at hd;omega⟩;rw[q3f f n (by simp only[Fm.depth]at hd;omega) hb.1];walk_at "den";rw[q3f g n (by simp only[Fm.depth]at hd;omega) hb.2];walk_at "den";simp only[Fm.val];cases f.val row<;>simp
 |.odd f g,n,row,hd,hb=>by
  rw[q4h];unfold q32;simp only[enc];walk_at "den";obtain⟨n,rfl⟩:∃k,n=k+1:=⟨n-1,by simp only[Fm.depth]at hd;omega⟩;rw[q3f f n (by simp only[Fm.depth]at hd;omega) hb.1];walk_at "den";rw[q3f g n (by simp only[Fm.depth]at hd;omega) hb.2];walk_at "den";simp only[Fm.val];cases f.val row<;>cases g.val row<;>rfl
theorem y7j(n:Nat)(c:Int)(m:Int)(h0:0<=m)(h1:m<1000):∃row:List Bool,run K a (n+2) q21 [.int c,.int m]=.ok (.fr (.tup (row.map .bl)))/\row.length=m.toNat:=by
 rw[q8y];unfold q5f;walk_at "den";rw[if_pos (q62 (by omega) (by omega))];walk_at "den";rw[if_pos (by rw[len_range];omega),D.q5n (g:=fun w=>match w with|W.int k=>W.bl (decide (mixed c k 2=1))|w=>w)]
 ·walk_at "den";refine⟨(List.range m.toNat).map fun(k:Nat)=>decide (mixed c (k:Int) 2=1),?_,by simp⟩
  congr 3;unfold rangeW;rw[w1k,w1k,w4m];apply w2q;intro k _;simp
 ·intro w hw;obtain⟨k,rfl,hk⟩:=mem_range hw;unfold q8x;rw[x1n (w:=.int c) rfl,x4g (w:=.int c) rfl];walk_at "den";rw[q4i n _ _ (by decide)];walk_at "den";exact⟨_,rfl⟩
noncomputable def isL(c:Nat):Bool:=decide (97<=c)&&decide (c<=122)
noncomputable def six(x:Str):Bool:=decide (x∈(["yes", "no", "not", "and", "odd", "or"]:List Str))
noncomputable def okN(x:Str):Bool:=!six x&&(decide (1<=x.length)&&(decide (x.length<=8)&&x.cps.toList.all isL))
def limS(x:Str):Prop:=x.length<=1000/\∀c∈x.cps.toList,c<1000
theorem z4i{y:Str}:eqS (.str y) (.str x)=decide (x=y):=by
 show(some (decide (y=x))).getD false=_;simp only[Option.getD_some,eq_comm]
theorem x0j:∀ys:List Str,(ys.map W.str).any (fun y=>eqS y (.str x))=decide (x∈ys)
 |[]=>by simp
 |y::ys=>by
  rw[w0n,w2v,x0j ys,z4i,<- Bool.decide_or];simp
theorem q87:∀ys:List Str,(ys.map W.str).all scalW=true
 |[]=>rfl
 |y::ys=>by rw[w0n,w2u,q87 ys];rfl
theorem x73(ys:List Str):inW (.str x) (.tup (ys.map .str))=some (.bl (decide (x∈ys))):=by
 show(if scalW (.str x)=true/\(ys.map W.str).all scalW=true then some (W.bl ((ys.map W.str).any fun y=>eqS y (.str x)))else none)=_
 rw[if_pos ⟨rfl,q87 ys⟩,x0j]
theorem z4j(ys:List Str):inW (.str x) (.lst (ys.map .str))=some (.bl (decide (x∈ys))):=by
 show(if scalW (.str x)=true/\(ys.map W.str).all scalW=true then some (W.bl ((ys.map W.str).any fun y=>eqS y (.str x)))else none)=_
 rw[if_pos ⟨rfl,q87 ys⟩,x0j]
theorem z10:inW (.str x) (.tup [.str "yes", .str "no", .str "not", .str "and", .str "odd", .str "or"])=some (.bl (six x)):=x73 ["yes", "no", "not", "and", "odd", "or"]
theorem y7k:inW (.str x) (.lst [.str "yes", .str "no", .str "not", .str "and", .str "odd", .str "or"])=some (.bl (six x)):=z4j ["yes", "no", "not", "and", "odd", "or"]
theorem y0p(h:x.length<=1000):len1 [.str x]=some (.int x.length):=by rw[y33,if_pos (by omega)]
theorem x2w(n:Nat)(c:Nat):run K a (n+1) q09 [.str ⟨#[c]⟩]=.ok (.fr (.bl (isL c))):=by
 rw[q5j];unfold q2k;walk_at "den";have e1:("a":Str).cps.toList=[97]:=by decide +kernel
 have e2:("z":Str).cps.toList=[122]:=by decide +kernel
 have e3:∀x y:Nat,decide ([x]<[y])=decide (x<y):=fun x y=>by
  rw[decide_eq_decide,List.cons_lt_cons_iff];simp
 have e4:(!decide ((Str.mk #[c]).cps.toList<("a":Str).cps.toList))=decide (97<=c):=by
  rw[e1];show(!decide ([c]<[97]))=_;rw[e3];simp only[<- decide_not,w3z]
 have e5:(!decide (("z":Str).cps.toList<(Str.mk #[c]).cps.toList))=decide (c<=122):=by
  rw[e2];show(!decide ([122]<[c]))=_;rw[e3];simp only[<- decide_not,w3z]
 rw[e4];cases q:decide (97<=c)with
 |false=>
  walk_at "den";simp[isL,q]
 |true=>
  walk_at "den";rw[e5];simp[isL,q]
theorem y0q{d:Den W}(h:∀c:Nat,∃e',d [.fr (.str ⟨#[c]⟩)]=.ok (.bl (isL c)) e')(x:Str):compD dYes d [] (signsW x)=some ((x.cps.toList.map isL).map .bl):=by
 have:=q5n (d:=d) (pe:=[]) (g:=fun w=>match w with|.str z=>.bl (z.cps.toList.all isL)|w=>w) (signsW x) fun w hw=>by
  obtain⟨c,_,rfl⟩:=w1i.mp hw;obtain⟨e',h⟩:=h c;exact⟨e',by rw[h];simp⟩
 rw[this];simp[signsW]
theorem y0r(h:x.length<=1000):(signsW x).length<=16777216:=by
 unfold signsW;rw[w0r,w2c];have:x.cps.size<=1000:=h;omega
theorem x74(n:Nat)(x:Str)(hx:x.length<=1000):run K a (n+2) q39 [.str x]=.ok (.fr (.bl (okN x))):=by
 rw[q9x];unfold q5w;walk_at "den";rw[y0p hx];walk_at "den"
 by_cases h1:(x.length:Int)<1
 ·simp only[h1];walk_at "den";have:¬1<=x.length:=by omega
  simp[okN,this]
 ·simp only[h1];walk_at "den";rw[y0p hx];walk_at "den"
  by_cases h2:(x.length:Int)>8
  ·simp only[h2];walk_at "den";have:¬x.length<=8:=by omega
   simp[okN,this]
  ·simp only[h2];walk_at "den";rw[z10];walk_at "den";cases h3:six x with
   |true=>
    walk_at "den";simp[okN,h3]
   |false=>
    walk_at "den";rw[if_pos (y0r hx),y0q (fun c=>⟨[.fr (.str ⟨#[c]⟩)],by unfold q9w;walk_at "den";rw[x2w n c];walk_at "den"⟩) x]
    walk_at "den";rw[z36];walk_at "den";have g1:1<=x.length:=by omega
    have g2:x.length<=8:=by omega
    simp[okN,h3,g1,g2]
def letters(t:Str):Prop:=∀c∈t.cps.toList,isL c=true
theorem ixS{z:Str}{k:Nat}(hz:z.length<=1000)(h:z.cps.toList[k]?=some c):ixW (.str z) (.int k)=some (.str ⟨#[c]⟩):=by
 show(if z.length<=16777216 then(atI z.cps.toList k).map fun c=>W.str ⟨#[c]⟩else none)=_
 rw[if_pos (by omega),x0y (by omega),w1q,h];rfl
theorem x1a(t:Str):t.cps.toList.length=t.length:=w2c
noncomputable def tx(cs:List Nat):Str:=⟨cs.toArray⟩
theorem q33(cs:List Nat):(tx cs).cps.toList=cs:=by simp[tx]
theorem q2g(cs:List Nat):(tx cs).length=cs.length:=by show cs.toArray.size=_;simp
theorem q7j(x:Str):tx x.cps.toList=x:=by cases x;simp[tx]
theorem x1b(as bs:List Nat):tx as++tx bs=tx (as++bs):=by
 show Str.mk (as.toArray++bs.toArray)=_;simp[tx]
theorem x5d(cs:List Nat)(k:Nat)(h:k<=cs.length):Txt.slice (tx cs) none (some (k:Int))=tx (cs.take k):=by
 have e:Builtin.Str.strSliceIndices none (some (k:Int)) 1 (tx cs).length=Builtin.Str.strSliceIndices (some ((0:Nat):Int)) (some (k:Int)) 1 (tx cs).length:=by
  have:max (0:Int) (min ((0:Nat):Int) ((tx cs).length:Int))=0:=by omega
  simp[Builtin.Str.strSliceIndices];congr 1
 unfold Txt.slice;rw[e,StrLaws.sliced_plain (tx cs) (w1l k) (by rw[q2g];exact h),q33];split
 ·rename_i q;rw[StrLaws.strSliceIndices_plain (w1l k) (by rw[q2g];exact h),q2g]at q;simp at q;rw[w3o (by omega)]
 ·simp[tx]
theorem y7l:("":Str)=tx []:=by decide +kernel
theorem x6p:∀cs:List Nat,Str.join "" (cs.map fun c=>tx [c])=tx cs
 |[]=>rfl
 |[c]=>rfl
 |c::d::cs=>by
  show tx [c]++""++Str.join "" ((d::cs).map fun c=>tx [c])=_
  rw[x6p (d::cs),y7l,x1b,x1b];rfl
theorem y29(cs:List Nat):Txt.join "" (cs.map fun c=>tx [c])=tx cs:=(StrLaws.glued_eq_join _ _).trans (x6p cs)
theorem x6q:∀xs:List Str,strsW (xs.map .str)=some xs
 |[]=>rfl
 |x::xs=>by
  show(strsW (xs.map W.str)).map (x::·)=_;rw[x6q xs];rfl
theorem z11(h0:0<=j)(h1:j<26):ixW (.str "abcdefghijklmnopqrstuvwxyz") (.int j)=some (.str (tx [97+j.toNat])):=by
 have e:("abcdefghijklmnopqrstuvwxyz":Str).cps.toList=(List.range 26).map (97+·):=by decide +kernel
 have e2:("abcdefghijklmnopqrstuvwxyz":Str).length=26:=by decide +kernel
 show(if("abcdefghijklmnopqrstuvwxyz":Str).length<=16777216 then(atI ("abcdefghijklmnopqrstuvwxyz":Str).cps.toList j).map fun c=>W.str ⟨#[c]⟩else none)=_
 rw[if_pos (by rw[e2];decide),e,x0y h0];have:j.toNat<26:=by omega
 rw[w0v,List.getElem?_range this];rfl
theorem x1c(n:Nat)(k:Int):run K a (n+1) q14 [.int k]=.ok (.fr (.str (tx [97+(k%26).toNat]))):=by
 rw[q6w];unfold q3v;walk_at "den";rw[z11 (w2x _ (by decide)) (w2i _ (by decide))];walk_at "den"
theorem x1d(k:Int):isL (97+(k%26).toNat)=true:=by
 have h1:=w2x k (show(26:Int)≠0 by decide);have h2:=w2i k (show(0:Int)<26 by decide);unfold isL;rw[<- w3x];exact decide_eq_true (by omega)
def Nm(q:Prop)(x:Str):Prop:=∃cs,x=tx cs/\1<=cs.length/\cs.length<=8/\(∀c∈cs,isL c=true)/\(q->cs.length=1\/113∈cs)
theorem x6r{α:Type}{d:Den W}{pe:List S}{f:α->W}{P:α->Prop}:∀(ws:List W),(∀w∈ws,∃x e',d (.fr w::pe)=.ok (f x) e'/\P x)->∃xs:List α,compD dYes d pe ws=some (xs.map f)/\xs.length=ws.length/\∀x∈xs,P x
 |[],_=>⟨[],rfl,rfl,by simp⟩
 |w::ws,h=>by
  obtain⟨x,e',he,hx⟩:=h w (by simp);obtain⟨xs,h1,h2,h3⟩:=x6r (f:=f) ws fun u hu=>h u (by simp[hu])
  refine⟨x::xs,?_,by simp[h2],by simpa using ⟨hx,h3⟩⟩;show(match d (.fr w::pe)with|.ok y _=>(compD dYes d pe ws).map (y::·)|_=>none)=_;rw[he,h1];rfl
theorem y7m{ws:List Nat}(h8:ws.length=8)(hl:∀c∈ws,isL c=true)(hq:q->∀c∈ws,c=113){k:Nat}(h:k<8):Nm q (tx (ws.take (k+1))):=by
 refine⟨_,rfl,by rw[w0u];omega,by rw[w0u];omega,fun c hc=>hl c (w2o hc),fun z=>?_⟩
 cases ws with
 |nil=>simp at h8
 |cons w ws=>exact .inr (by rw[<- hq z w (by simp)];simp)
theorem y3a{ws:List Nat}(h8:ws.length=8)(hl:∀c∈ws,isL c=true)(hq:q->∀c∈ws,c=113){k o:Nat}(h:k<7)(ho:isL o=true):Nm q (tx (o::ws.take k)):=by
 refine⟨_,rfl,by simp,by rw[w0j,w0u];omega,fun c hc=>?_,fun z=>?_⟩
 ·rcases w0m.mp hc with rfl|hc
  ·exact ho
  ·exact hl c (w2o hc)
 ·cases k with
  |zero=>exact .inl (by simp)
  |succ k=>cases ws with
   |nil=>simp at h8
   |cons w ws=>exact .inr (by rw[<- hq z w (by simp)];simp)
theorem comp_rng{d:Den W}{pe:List S}{lo hi:Int}{g:Nat->Str}(h:∀k:Nat,(k:Int)<hi-lo->∃e',d (.fr (.int (lo+(k:Int)))::pe)=.ok (.str (g k)) e'):compD dYes d pe (rangeW lo hi)=some (((List.range (hi-lo).toNat).map g).map .str):=by
 have:=q5n (d:=d) (pe:=pe) (g:=fun w=>match w with|.int j=>.str (g (j-lo).toNat)|w=>w) (rangeW lo hi) fun w hw=>by
  obtain⟨k,rfl,hk⟩:=mem_range hw;obtain⟨e',he⟩:=h k hk;refine⟨e',?_⟩;rw[he];show _=R.ok (W.str (g (lo+(k:Int)-lo).toNat)) e';rw[show(lo+(k:Int)-lo).toNat=k by omega]
 rw[this];unfold rangeW;rw[w1k,w1k];congr 1;refine w2q fun k _=>?_
 show W.str (g (lo+(k:Int)-lo).toNat)=_;rw[show(lo+(k:Int)-lo).toNat=k by omega];rfl
theorem q50{x y:List Nat}(h:tx x=tx y):x=y:=by rw[<- q33 x,h,q33]
theorem x5e{f:Nat->Str}(h:∀i j,i<n->j<n->f i=f j->i=j):((List.range n).map f).Nodup:=by
 rw[List.nodup_iff_pairwise_ne,List.pairwise_map,List.pairwise_iff_getElem];intro i j hi hj hij z;rw[w4j,w4j]at z;rw[List.length_range]at hi hj;have:=h i j hi hj z;omega
theorem x75(n:Nat)(q:Prop)(ws:List Nat)(h8:ws.length=8)(hl:∀c∈ws,isL c=true)(hq:q->∀c∈ws,c=113)(m:Nat)(hm:m<=14):
  ∃xs:List Str,run K a (n+1) q15 [.str (tx ws),.int m]=.ok (.fr (.lst (xs.map .str)))/\xs.length=m/\(∀x∈xs,Nm q x)/\xs.Nodup:=by
 obtain⟨o1,ho1⟩:∃o1:Int,(if(8:Int)<(m:Int)then(8:Int)else(m:Int))=o1:=⟨_,rfl⟩
 have ho2:0<=o1/\o1<=8/\(m<=8->o1=m)/\(8<m->o1=8):=by
  rw[<- ho1];split<;>omega
 have h1:=comp_rng (d:=q5g K a (run K a n)) (pe:=[.fr (.str (tx ws))]) (lo:=0) (hi:=o1) (g:=fun k=>tx (ws.take (k+1))) fun k hk=>by
  refine⟨[.fr (.int (0+(k:Int))),.fr (.str (tx ws))],?_⟩;unfold q5g;walk_at "den";rw[x7s (by rw[q2g];omega),show(0+(k:Int)+1)=((k+1:Nat):Int) by omega,x5d ws _ (by omega)];walk_at "den"
 have tl:∀o:Nat,isL o=true->compD dYes (q36 K a (run K a n)) [.fr (.str (tx ws)),.fr (.str (tx [o]))] (rangeW 8 m)=some (((List.range ((m:Int)-8).toNat).map fun k=>tx (o::ws.take k)).map .str):=fun o ho=>comp_rng fun k hk=>by
  refine⟨[.fr (.int (8+(k:Int))),.fr (.str (tx ws)),.fr (.str (tx [o]))],?_⟩;unfold q36;walk_at "den";rw[x7s (by rw[q2g];omega),show(8+(k:Int)-8)=(k:Int) by omega,x5d ws _ (by omega)];walk_at "den";rw[x1b,if_pos (by rw[q2g,q2g,w0u];simp only[w0j,w2l];omega)];rfl
 obtain⟨xs,hxs⟩:∃xs,(List.range (o1-0).toNat).map (fun k=>tx (ws.take (k+1)))=xs:=⟨_,rfl⟩
 have h2:xs.length=o1.toNat:=by rw[<- hxs];simp
 rw[hxs]at h1
 obtain⟨w0,ws',hws⟩:∃w0 ws',ws=w0::ws':=by
  cases ws with
  |nil=>simp at h8
  |cons w ws=>exact⟨w,ws,rfl⟩
 have fin:∀o:Nat,isL o=true->o≠w0->∃xs':List Str,(dRet (dOp addX (dVar 2) (dFz (dCompR rng2 [0,3] (dCons (dC (.int 8)) (dCons (dVar 1) dNil)) dYes (q36 K a (run K a n))))) [.fr (.str (tx ws)),.fr (.int m),.fr (.lst (xs.map .str)),.fr (.str (tx [o]))]).fn=.ok (.fr (.lst (xs'.map .str)))/\xs'.length=m/\(∀x∈xs',Nm q x)/\xs'.Nodup:=fun o ho hne=>by
  have g1:=tl o ho;obtain⟨ys,hys⟩:∃ys,(List.range ((m:Int)-8).toNat).map (fun k=>tx (o::ws.take k))=ys:=⟨_,rfl⟩
  have g2:ys.length=((m:Int)-8).toNat:=by rw[<- hys];simp
  rw[hys]at g1;refine⟨xs++ys,?_,?_,?_,?_⟩
  ·walk_at "den";rw[if_pos ⟨by decide,q62 (by omega) (by omega)⟩];walk_at "den";rw[if_pos (by rw[len_range];omega)];simp only[frz1,pj1,w2e,List.getElem?_cons_zero];rw[g1];walk_at "den";rw[if_pos (by simp only[w0r];omega)];walk_at "den";rw[w0q]
  ·rw[w0k,h2,g2];omega
  ·intro x hx;rcases w2t.mp hx with hx|hx
   ·rw[<- hxs]at hx;obtain⟨k,hk,rfl⟩:=w1i.mp hx;rw[w1d]at hk;exact y7m h8 hl hq (by omega)
   ·rw[<- hys]at hx;obtain⟨k,hk,rfl⟩:=w1i.mp hx;rw[w1d]at hk;exact y3a h8 hl hq (by omega) ho
  ·rw[w3k];refine⟨?_,?_,?_⟩
   ·rw[<- hxs];refine x5e fun i j hi hj z=>?_
    have:=congrArg List.length (q50 z);rw[w0u,w0u]at this;omega
   ·rw[<- hys];refine x5e fun i j hi hj z=>?_
    have:=congrArg List.length (q50 z);rw[w0j,w0j,w0u,w0u]at this;omega
   ·rw[<- hxs,<- hys];intro x hx y hy z;obtain⟨k,hk,rfl⟩:=w1i.mp hx;obtain⟨k',hk',rfl⟩:=w1i.mp hy;have:=q50 z;rw[hws,List.take_succ_cons]at this;exact hne (List.cons.inj this).1.symm
 subst hws;rw[q6x];unfold q3w;walk_at "den";rw[ho1,if_pos (q62 (by omega) (by omega))];walk_at "den";rw[if_pos (by rw[len_range];omega),x1n (w:=.str (tx (w0::ws'))) rfl,x4g (w:=.str (tx (w0::ws'))) rfl,h1];walk_at "den";have hx:("x":Str)=tx [120]:=by decide +kernel
 have hz:("z":Str)=tx [122]:=by decide +kernel
 rw[show(W.int 0)=.int ((0:Nat):Int)from rfl,ixS (by rw[q2g];omega) (show(tx (w0::ws')).cps.toList[0]?=some w0 by rw[q33];rfl)];walk_at "den"
 by_cases hw:Str.mk #[w0]="x"
 ·have hw0:w0=120:=by
   have:=q50 (show tx [w0]=tx [120]from hw.trans hx)
   simpa using this
  simp only[hw];walk_at "den";have:=fin 122 (by decide) (by omega);rw[<- hz]at this;revert this;walk_at "den";exact id
 ·have hw0:120≠w0:=fun z=>hw (by rw[hx,z];rfl)
  simp only[hw];walk_at "den";have:=fin 120 (by decide) hw0;rw[<- hx]at this;revert this;walk_at "den";exact id
noncomputable def wordW(ws:List Nat):W:=.lst (ws.map fun c=>.str (tx [c]))
theorem z12{l:List W}{k:Nat}(h:k<=l.length):cutW l none (some (k:Int))=l.take k:=by
 unfold cutW;rw[HT.sIx_none,HT.sIx_nat,Nat.min_eq_left h];simp
theorem z13{k:Nat}(h:k<n):ixN n (k:Int)=some k:=by
 unfold ixN;rw[if_pos (by omega)]
 first
  |rw[if_pos (by omega),w1q]
  |simp[h]
theorem y7n(cs:List Nat):strsW (cs.map fun c=>.str (tx [c]))=some (cs.map fun c=>tx [c]):=by
 have:=x6q (cs.map fun c=>tx [c])
 rwa [w1k]at this
theorem y0s:∀cs:List Nat,((cs.map fun c=>tx [c]).map fun x=>x.length).sum=cs.length
 |[]=>rfl
 |c::cs=>by
  rw[w0n,w0n,List.sum_cons,y0s cs,q2g];simp;omega
theorem joinE(cs:List Nat)(h:cs.length<=1000):joinW (.str "") [.lst (cs.map fun c=>.str (tx [c]))]=some (.str (tx cs)):=by
 show(match strsW (cs.map fun c=>W.str (tx [c]))with
   |some ys=>if joinOk "" ys=true then some (W.str (Txt.join "" ys))else none
   |none=>none)=_
 rw[y7n];show(if joinOk "" (cs.map fun c=>tx [c])=true then some (W.str (Txt.join "" (cs.map fun c=>tx [c])))else none)=_
 rw[y29,if_pos];unfold joinOk;rw[y0s,show("":Str).length=0 by decide +kernel];exact w3u (by omega)
theorem z14{ws:List Nat}(h8:ws.length=8)(hl:∀c∈ws,isL c=true)(hq:q->∀c∈ws,c=113){size spot o:Nat}(h1:1<=size)(h2:size<=8)(h3:spot<size)(ho:isL o=true):Nm q (tx ((ws.take size).set spot o)):=by
 have hlen:((ws.take size).set spot o).length=size:=by rw[List.length_set,w0u];omega
 refine⟨_,rfl,by omega,by omega,fun c hc=>?_,fun z=>?_⟩
 ·rcases List.mem_or_eq_of_mem_set hc with hc|rfl
  ·exact hl c (w2o hc)
  ·exact ho
 ·by_cases g:size=1
  ·exact .inl (by omega)
  ·right
   obtain⟨j,hj,hne⟩:∃j,j<size/\spot≠j:=by
    by_cases h0:spot=0
    ·exact⟨1,by omega,by omega⟩
    ·exact⟨0,by omega,h0⟩
   have hj8:j<ws.length:=by omega
   have:((ws.take size).set spot o)[j]?=some ws[j]:=by
    rw[w0f hne,w3j hj,w0b hj8]
   have hm:=w1x this
   rwa [hq z _ (w1a hj8)]at hm
noncomputable def nmK(c:Int)(size spot:Nat)(ws:List Nat)(k:Int):Str:=tx ((ws.take size).set spot (97+((mixed c 5 26+5*k)%26).toNat))
theorem y7o{c:Int}{size spot:Nat}{ws:List Nat}(h8:ws.length=8)(h2:size<=8)(h3:spot<size){i j:Nat}(hi:i<26)(hj:j<26)(h:nmK c size spot ws (0+(i:Int))=nmK c size spot ws (0+(j:Int))):i=j:=by
 have z:=q50 h;have z2:=congrArg (fun l=>l[spot]?) z
 have hs:spot<(ws.take size).length:=by rw[w0u];omega
 simp only[w0h hs,Option.some.injEq]at z2;omega
theorem x76(n:Nat)(c k:Int)(m size spot:Nat)(q:Prop)(ws:List Nat)(h8:ws.length=8)(hl:∀c∈ws,isL c=true)(hq:q->∀c∈ws,c=113)(h1:1<=size)(h2:size<=8)(h3:spot<size)(xs:List Str)(hx:xs.length<=100)(s7:S):
  ∃s7',q3b K a (run K a (n+1)) [.fr (.int c),.fr (.int m),.fr (.int size),.fr (.int spot),.own none (xs.map .str),.fr (wordW ws),.fr (.int k),s7] =
   .nx [.fr (.int c),.fr (.int m),.fr (.int size),.fr (.int spot),.own none ((xs++[nmK c size spot ws k]).map .str),.fr (wordW ws),.fr (.int k),s7']/\Nm q (nmK c size spot ws k):=by
 unfold nmK;refine⟨.fr (wordW ((ws.take size).set spot (97+((mixed c 5 26+5*k)%26).toNat))),?_,z14 h8 hl hq h1 h2 h3 (x1d _)⟩;unfold q3b wordW;walk_at "den";rw[z12 (by simp;omega),<- List.map_take];walk_at "den";rw[q4i n _ _ (by decide)];walk_at "den";rw[x1c n];walk_at "den";rw[z13 (by simp;omega)];walk_at "den";rw[<- List.map_set (f:=fun c=>W.str (tx [c])),joinE _ (by simp;omega)]
 walk_at "den";rw[if_pos (by simp;omega)];simp only[w0q,w0n,w4l]
def Hold(s:S)(xs:List Str):Prop:=s=.fr (.lst (xs.map .str))\/s=.own none (xs.map .str)
noncomputable def makeT(K:PySem.W.Frag)(a:Adr)(r:Nat->List W->FR):List S->SR:=
 (dSeq (dSet 4 (dCall (r q15) (dCons (dMeth "str" joinW (dC (.str "")) (dCons (dVar 5) dNil)) (dCons (dVar 1) dNil))))
  (dIfS (dTest (dOp gtW (dCall (r q0t) (dCons (dVar 0) (dCons (dC (.int 6)) (dCons (dC (.int 4)) dNil)))) (dC (.int 0))))
  (dSeq (dSetO 4 (dLst dNil))
  (dForR 6 rng1 (dCons (dVar 1) dNil)
  (q3b K a r)))
  dNx))
theorem q88(r:Nat->List W->FR):q2p K a r=(dIfS (dOr (dBorrowT (dTest (dOp eq2 (dVar 4) (dFz (dLst dNil))))) (dTru (dFn any1 (dCons (dFz (dComp [] (dVar 4) dYes (q2o K a r))) dNil)))) (makeT K a r) dNx):=rfl
theorem q71(n:Nat)(c:Int)(m size spot:Nat)(q:Prop)(ws:List Nat)(h8:ws.length=8)(hl:∀c∈ws,isL c=true)(hq:q->∀c∈ws,c=113)(h1:1<=size)(h2:size<=8)(h3:spot<size)(hm:m<=14)(s4 s6 s7:S):
  ∃xs s4' s6' s7',makeT K a (run K a (n+1)) [.fr (.int c),.fr (.int m),.fr (.int size),.fr (.int spot),s4,.fr (wordW ws),s6,s7]=.nx [.fr (.int c),.fr (.int m),.fr (.int size),.fr (.int spot),s4',.fr (wordW ws),s6',s7']/\Hold s4' xs/\xs.length=m/\(∀x∈xs,Nm q x)/\xs.Nodup:=by
 obtain⟨xs,g1,g2,g3,gN⟩:=x75 (K:=K) (a:=a) n q ws h8 hl hq m hm;unfold makeT;walk_at "den";unfold wordW;rw[joinE ws (by omega)];walk_at "den";rw[g1];walk_at "den";rw[q4i n _ _ (by decide)];walk_at "den"
 by_cases h:mixed c 6 4>0
 ·simp only[h];walk_at "den";rw[if_pos (q62 (by omega) (by omega))];walk_at "den"
  obtain⟨e',f1,ys,s6',s7',f2,f3,f4,f5⟩:=x7j (i:=6) (b:=q3b K a (run K a (n+1))) (lo:=0) (hi:=(m:Int)) m (by omega)
   (fun j e=>∃ys s6 s7,e=[.fr (.int c),.fr (.int m),.fr (.int size),.fr (.int spot),.own none (ys.map .str),.fr (wordW ws),s6,s7]/\ys.length=j/\(∀x∈ys,Nm q x)/\ys=(List.range j).map fun k:Nat=>nmK c size spot ws (0+(k:Int)))
   [.fr (.int c),.fr (.int m),.fr (.int size),.fr (.int spot),.own none [],.fr (wordW ws),s6,s7] ⟨[],s6,s7,rfl,rfl,by simp,rfl⟩ (fun j e hj hI=>by
    obtain⟨ys,s6,s7,rfl,hy,hp,hY⟩:=hI;obtain⟨s7',t1,t2⟩:=x76 (K:=K) (a:=a) n c (0+(j:Int)) m size spot q ws h8 hl hq h1 h2 h3 ys (by omega) s7;refine⟨_,t1,ys++[nmK c size spot ws (0+(j:Int))],_,_,rfl,by simp[hy],fun y hy=>?_,by rw[hY,List.range_succ,w0q];rfl⟩
    rcases w2t.mp hy with hy|hy
    ·exact hp y hy
    ·rw[w1c.mp hy];exact t2)
  unfold wordW at f1 f2;rw[f1,f2];exact⟨ys,_,s6',s7',rfl,.inr rfl,f3,f4,by rw[f5];exact x5e fun i j hi hj z=>y7o h8 h2 h3 (by omega) (by omega) z⟩
 ·simp only[h];walk_at "den";exact⟨xs,_,s6,s7,rfl,.inl rfl,g2,g3,gN⟩
theorem x5f(hq:q)(h:Nm q x):six x=false:=by
 obtain⟨cs,rfl,_,_,_,h⟩:=h;unfold six;refine decide_eq_false fun z=>?_
 have key:∀y∈(["yes", "no", "not", "and", "odd", "or"]:List Str),y.length≠1/\113∉y.cps.toList:=by decide +kernel
 have:=key _ z;rw[q2g,q33]at this;rcases h hq with g|g
 ·exact this.1 g
 ·exact this.2 g
theorem x1e(h:Nm q x)(h6:six x=false):okN x=true:=by
 obtain⟨cs,rfl,h1,h2,h3,_⟩:=h;unfold okN;rw[h6,q2g,q33,decide_eq_true h1,decide_eq_true h2,w1g.mpr h3];rfl
theorem x5g:∀ys:List Str,depWs (ys.map .str)=0
 |[]=>rfl
 |y::ys=>by
  show max (depW (.str y)) (depWs (ys.map .str))=0;rw[x5g ys];rfl
theorem q89{xs:List Str}:eq2 (.lst (xs.map .str)) (.lst [])=some (.bl (decide (xs=[]))):=by
 show(if depWs (xs.map .str)+1<=150 then(eqWs (xs.map .str) []).map W.bl else none)=_;rw[x5g,if_pos (by decide)];cases xs<;>rfl
theorem x6s(n:Nat)(xs:List Str):compD dYes (q2o K a (run K a n)) [] (xs.map .str)=some ((xs.map six).map .bl):=by
 have:=q5n (d:=q2o K a (run K a n)) (pe:=[]) (g:=fun w=>match w with|.str z=>.bl (six z)|w=>w) (xs.map .str) fun w hw=>by
  obtain⟨x,_,rfl⟩:=w1i.mp hw;refine⟨[.fr (.str x)],?_⟩;unfold q2o;walk_at "den";rw[y7k];walk_at "den"
 rw[this,w1k,w1k];rfl
theorem x50(n:Nat)(c:Int)(m size spot:Nat)(ws:List Nat)(h8:ws.length=8)(hl:∀c∈ws,isL c=true)(h1:1<=size)(h2:size<=8)(h3:spot<size)(hm:m<=14)(s6 s7:S):
  ∃xs s4' s6' s7',q2p K a (run K a (n+1)) [.fr (.int c),.fr (.int m),.fr (.int size),.fr (.int spot),.own none [],.fr (wordW ws),s6,s7]=.nx [.fr (.int c),.fr (.int m),.fr (.int size),.fr (.int spot),s4',.fr (wordW ws),s6',s7']/\Hold s4' xs/\xs.length=m/\(∀x∈xs,Nm False x)/\xs.Nodup:=by
 rw[q88];have:=q71 (K:=K) (a:=a) n c m size spot False ws h8 hl (fun z=>z.elim) h1 h2 h3 hm (.own none []) s6 s7
 revert this;walk_at "den";rw[show eq2 (.lst []) (.lst [])=some (.bl true)from q89 (xs:=[])];walk_at "den";exact id
theorem x51(n:Nat)(c:Int)(m size spot:Nat)(ws:List Nat)(h8:ws.length=8)(hl:∀c∈ws,isL c=true)(hq:∀c∈ws,c=113)(h1:1<=size)(h2:size<=8)(h3:spot<size)(hm0:1<=m)(hm:m<=14)(xs:List Str)(hx:xs.length=m)(hN:∀x∈xs,Nm False x)(hD:xs.Nodup)(s4 s6 s7:S)(h4:Hold s4 xs):
  ∃ys s4' s6' s7',q2p K a (run K a (n+1)) [.fr (.int c),.fr (.int m),.fr (.int size),.fr (.int spot),s4,.fr (wordW ws),s6,s7]=.nx [.fr (.int c),.fr (.int m),.fr (.int size),.fr (.int spot),s4',.fr (wordW ws),s6',s7']/\Hold s4' ys/\ys.length=m/\(∀x∈ys,okN x=true)/\ys.Nodup:=by
 rw[q88];have mk:=q71 (K:=K) (a:=a) n c m size spot True ws h8 hl (fun _=>hq) h1 h2 h3 hm (.fr (.lst (xs.map .str))) s6 s7
 have ne:decide (xs=[])=false:=decide_eq_false fun z=>by rw[z]at hx;simp at hx;omega
 have fin:∃ys s4' s6' s7',(if(xs.map six).any id=true then makeT K a (run K a (n+1)) [.fr (.int c),.fr (.int m),.fr (.int size),.fr (.int spot),.fr (.lst (xs.map .str)),.fr (wordW ws),s6,s7]else .nx [.fr (.int c),.fr (.int m),.fr (.int size),.fr (.int spot),.fr (.lst (xs.map .str)),.fr (wordW ws),s6,s7])=.nx [.fr (.int c),.fr (.int m),.fr (.int size),.fr (.int spot),s4',.fr (wordW ws),s6',s7']/\Hold s4' ys/\ys.length=m/\(∀x∈ys,okN x=true)/\ys.Nodup:=by
  cases g:(xs.map six).any id with
  |true=>
   obtain⟨ys,s4',s6',s7',q1,q2,q3,q4,q5⟩:=mk;exact⟨ys,s4',s6',s7',q1,q2,q3,fun x hx=>x1e (q4 x hx) (x5f trivial (q4 x hx)),q5⟩
  |false=>
   refine⟨xs,.fr (.lst (xs.map .str)),s6,s7,rfl,.inl rfl,hx,fun x hx=>x1e (hN x hx) ?_,hD⟩
   rw[List.any_eq_false]at g;have:=g (six x) (w1i.mpr ⟨x,hx,rfl⟩)
   simpa using this
 have key:(dIfS (dOr (dBorrowT (dTest (dOp eq2 (dVar 4) (dFz (dLst dNil))))) (dTru (dFn any1 (dCons (dFz (dComp [] (dVar 4) dYes (q2o K a (run K a (n+1))))) dNil)))) (makeT K a (run K a (n+1))) dNx) [.fr (.int c),.fr (.int m),.fr (.int size),.fr (.int spot),s4,.fr (wordW ws),s6,s7]=(if(xs.map six).any id=true then makeT K a (run K a (n+1)) [.fr (.int c),.fr (.int m),.fr (.int size),.fr (.int spot),.fr (.lst (xs.map .str)),.fr (wordW ws),s6,s7]else .nx [.fr (.int c),.fr (.int m),.fr (.int size),.fr (.int spot),.fr (.lst (xs.map .str)),.fr (wordW ws),s6,s7]):=by
  generalize makeT K a (run K a (n+1))=MT;rcases h4 with rfl|rfl
  ·walk_at "den";rw[q89,ne];walk_at "den";rw[if_pos (show(xs.map W.str).length<=16777216 by simp;omega),x6s];walk_at "den";rw[y36];walk_at "den"
  ·walk_at "den";rw[q89,ne];walk_at "den";rw[if_pos (show(xs.map W.str).length<=16777216 by simp;omega),x6s];walk_at "den";rw[y36];walk_at "den"
 rw[key];exact fin
theorem x52(n:Nat)(c:Int)(size spot:Nat)(ws:List Nat)(h8:ws.length=8)(hl:∀c∈ws,isL c=true)(hq:∀c∈ws,c=113)(h1:1<=size)(h2:size<=8)(h3:spot<size)(s4 s6 s7:S)(h4:Hold s4 []):
  ∃ys s4' s6' s7',q2p K a (run K a (n+1)) [.fr (.int c),.fr (.int (0:Nat)),.fr (.int size),.fr (.int spot),s4,.fr (wordW ws),s6,s7]=.nx [.fr (.int c),.fr (.int (0:Nat)),.fr (.int size),.fr (.int spot),s4',.fr (wordW ws),s6',s7']/\Hold s4' ys/\ys.length=0/\(∀x∈ys,okN x=true)/\ys.Nodup:=by
 rw[q88];rcases h4 with rfl|rfl
 ·have mk:=q71 (K:=K) (a:=a) n c 0 size spot True ws h8 hl (fun _=>hq) h1 h2 h3 (by omega) (.fr (.lst (([]:List Str).map .str))) s6 s7
  obtain⟨ys,s4',s6',s7',q1,q2,q3,q4,q5⟩:=mk;refine⟨ys,s4',s6',s7',?_,q2,q3,fun x hx=>x1e (q4 x hx) (x5f trivial (q4 x hx)),q5⟩
  revert q1;walk_at "den";rw[show eq2 (.lst []) (.lst [])=some (.bl true)from q89 (xs:=[])];walk_at "den";exact id
 ·have mk:=q71 (K:=K) (a:=a) n c 0 size spot True ws h8 hl (fun _=>hq) h1 h2 h3 (by omega) (.own none (([]:List Str).map .str)) s6 s7
  obtain⟨ys,s4',s6',s7',q1,q2,q3,q4,q5⟩:=mk;refine⟨ys,s4',s6',s7',?_,q2,q3,fun x hx=>x1e (q4 x hx) (x5f trivial (q4 x hx)),q5⟩
  revert q1;walk_at "den";rw[show eq2 (.lst []) (.lst [])=some (.bl true)from q89 (xs:=[])];walk_at "den";exact id
theorem x53(n:Nat)(c:Int)(m size spot:Nat)(ws:List Nat)(h8:ws.length=8)(hl:∀c∈ws,isL c=true)(hq:∀c∈ws,c=113)(h1:1<=size)(h2:size<=8)(h3:spot<size)(hm:m<=14)(xs:List Str)(hx:xs.length=m)(hN:∀x∈xs,Nm False x)(hD:xs.Nodup)(s4 s6 s7:S)(h4:Hold s4 xs):
  ∃ys s4' s6' s7',q2p K a (run K a (n+1)) [.fr (.int c),.fr (.int m),.fr (.int size),.fr (.int spot),s4,.fr (wordW ws),s6,s7]=.nx [.fr (.int c),.fr (.int m),.fr (.int size),.fr (.int spot),s4',.fr (wordW ws),s6',s7']/\Hold s4' ys/\ys.length=m/\(∀x∈ys,okN x=true)/\ys.Nodup:=by
 by_cases hm0:1<=m
 ·exact x51 n c m size spot ws h8 hl hq h1 h2 h3 hm0 hm xs hx hN hD s4 s6 s7 h4
 ·obtain rfl:m=0:=by omega
  obtain rfl:xs=[]:=w2f hx;exact x52 n c size spot ws h8 hl hq h1 h2 h3 s4 s6 s7 h4
theorem y0t(n:Nat)(c:Int)(m:Nat)(hm:m<=14):∃xs:List Str,run K a (n+2) q2e [.int c,.int m]=.ok (.fr (.tup (xs.map .str)))/\xs.length=m/\(∀x∈xs,okN x=true)/\xs.Nodup:=by
 have b1:=q7z (c:=c) (k:=2) (m:=8) (by decide);obtain⟨size,hs⟩:∃size:Nat,1+mixed c 2 8=(size:Int):=⟨(1+mixed c 2 8).toNat,by omega⟩;have b2:=q7z (c:=c) (k:=3) (m:=(size:Int)) (by omega);obtain⟨spot,hp⟩:∃spot:Nat,mixed c 3 size=(spot:Int):=⟨(mixed c 3 size).toNat,by omega⟩
 obtain⟨ws,w1,w2,w3⟩:=x6r (d:=q5o K a (run K a (n+1))) (pe:=[.fr (.int c)]) (f:=fun c=>W.str (tx [c])) (P:=fun c=>isL c=true) (rangeW 0 8) fun w hw=>by
  obtain⟨k,rfl,hk⟩:=mem_range hw;refine⟨97+(mixed c (4+(0+(k:Int))) 26%26).toNat,[.fr (.int (0+(k:Int))),.fr (.int c)],?_,x1d _⟩;unfold q5o;walk_at "den";rw[q4i n _ _ (by decide)];walk_at "den";rw[x1c n];walk_at "den"
 rw[len_range]at w2;have w2':ws.length=8:=w2;obtain⟨xs,s4,s6,s7,t1,t2,t3,t4,t5⟩:=x50 (K:=K) (a:=a) n c m size spot ws w2' w3 (by omega) (by omega) (by omega) hm .no .no;obtain⟨ys,s4',s6',s7',u1,u2,u3,u4,u5⟩:=x53 (K:=K) (a:=a) n c m size spot [113,113,113,113,113,113,113,113] rfl (by decide) (by decide) (by omega) (by omega) (by omega) hm xs t3 t4 t5 s4 s6 s7 t2;refine⟨ys,?_,u3,u4,u5⟩
 have eq8:repW (.lst [.str "q"]) (.int 8)=some (wordW [113,113,113,113,113,113,113,113]):=by
  rw[z1v (by decide),show("q":Str)=tx [113] by decide +kernel];rfl
 rw[q7d];unfold q4f;walk_at "den";rw[q4i n _ _ (by decide)];walk_at "den";rw[hs,q4i n _ _ (by omega),hp];walk_at "den";rw[if_pos (by decide)];walk_at "den";rw[if_pos (by rw[len_range];decide),x1n (w:=.int c) rfl,x4g (w:=.int c) rfl,w1];walk_at "den";rw[eq8];walk_at "den";rw[q6m];simp only[w1u,w1v];unfold wordW at t1;rw[t1,q6a,q6m];simp only[w1u,w1v];rw[u1,q6a,y5s];walk_at "den";rcases u2 with rfl|rfl<;>walk_at "den"
noncomputable def pN:Nat->List Str->List (Key×Sv)
 |_,[]=>[]
 |k,x::xs=>(.inr x,.inl (k:Int))::pN (k+1) xs
theorem x6t:∀(k:Nat)(xs:List Str)(x:Str),pN k (xs++[x])=pN k xs++[(.inr x,.inl ((k+xs.length:Nat):Int))]
 |k,[],x=>by simp[pN]
 |k,y::xs,x=>by
  show(_,_)::pN (k+1) (xs++[x])=_;rw[x6t (k+1) xs x];have:k+1+xs.length=k+(y::xs).length:=by simp;omega
  rw[this];rfl
theorem y0u:∀(k:Nat)(xs:List Str),(pN k xs).length=xs.length
 |_,[]=>rfl
 |k,x::xs=>by simp[pN,y0u (k+1) xs]
theorem y0v:∀(k:Nat)(xs:List Str),((pN k xs).any fun p=>decide (p.1=.inr x))=decide (x∈xs)
 |_,[]=>by simp[pN]
 |k,y::xs=>by
  show(decide ((Sum.inr y:Key)=.inr x)||_)=_;rw[y0v (k+1) xs,<- Bool.decide_or,decide_eq_decide];simp[eq_comm]
theorem x3s{x:Str}:∀(k:Nat)(xs:List Str),lk (pN k xs) (.inr x)=(idxS x xs).map fun j=>.inl ((k+j:Nat):Int)
 |_,[]=>rfl
 |k,y::xs=>by
  have ih:=x3s (x:=x) (k+1) xs;unfold lk at ih |-
  show Option.map _ (List.find? _ ((.inr y,.inl (k:Int))::pN (k+1) xs))=_
  by_cases h:y=x
  ·subst h;simp[idxS]
  ·have h1:decide ((Sum.inr y:Key)=.inr x)=false:=by simp[h]
   rw[w1p,h1,ih];show _=Option.map _ (if y=x then _ else _);rw[if_neg h,Option.map_map];congr 1;funext j
   simp only[Function.comp];congr 2;omega
theorem q9l:∀xs:List Str,(idxS x xs).isSome=decide (x∈xs)
 |[]=>by simp[idxS]
 |y::xs=>by
  unfold idxS
  by_cases h:y=x
  ·simp[h]
  ·rw[if_neg h,w1r,q9l xs,decide_eq_decide,w0m];exact⟨.inr,fun z=>z.elim (fun e=>absurd e.symm h) id⟩
noncomputable def okAll:List Str->List Str->Bool
 |_,[]=>true
 |done,x::xs=>okN x&&(!decide (x∈done)&&okAll (done++[x]) xs)
theorem x2x:∀(done xs:List Str),done.Nodup->(okAll done xs=true↔(∀x∈xs,okN x=true)/\(done++xs).Nodup)
 |done,[],h=>by simp[okAll,h]
 |done,x::xs,h=>by
  unfold okAll;rw[w0g,w0g]
  by_cases hx:x∈done
  ·simp only[hx,decide_true,w4g,w2h,false_and,and_false,false_iff,not_and];intro _ hn;rw[w3k]at hn;exact hn.2.2 x hx x (by simp) rfl
  ·have h2:(done++[x]).Nodup:=by
    rw[w3k];exact⟨h,by simp,fun a ha b hb=>by rw[w1c.mp hb];rintro rfl;exact hx ha⟩
   rw[x2x (done++[x]) xs h2];simp[hx,and_assoc]
theorem y3b(h:limS x):(reprText x).length<=1000000:=by
 have:=PySem.StrLaws.reprText_len x fun c hc=>w0l (h.2 c hc) (by decide)
 have:=h.1;omega
theorem y7p(h:x.length<=1000):fmtW (.str x)=some x:=if_pos (by omega)
theorem x77(n k:Nat)(w:W)(x:Str)(done:List Str)(hx:limS x)(hd:done.length<1000)(hk:k=done.length):
  (okN x=true/\x∉done->q1s K a (run K a (n+2)) [.fr w,.dic (.k (pN 0 done)),.fr (.int k),.fr (.str x)]=.nx [.fr w,.dic (.k (pN 0 (done++[x]))),.fr (.int k),.fr (.str x)]) /\
  (¬(okN x=true/\x∉done)->∃e,q1s K a (run K a (n+2)) [.fr w,.dic (.k (pN 0 done)),.fr (.int k),.fr (.str x)]=.ex (.ref a.NoName) e):=by
 unfold q1s;walk_at "den";rw[x74 n x hx.1];walk_at "den";cases h1:okN x with
 |false=>
  walk_at "den";refine⟨fun q=>(by first|exact False.elim q|exact absurd q.1 (by simp)),fun _=>?_⟩
  rw[y61 (y3b hx)];simp only[x7t];walk_at "den";exact⟨_,rfl⟩
 |true=>
  walk_at "den";rw[x3s,w1r,q9l]
  by_cases h2:x∈done
  ·simp only[h2,decide_true];walk_at "den";refine⟨fun q=>(by first|exact False.elim q|exact absurd h2 (by simpa using q)),fun _=>?_⟩
   rw[y7p hx.1];walk_at "den";exact⟨_,rfl⟩
  ·simp only[h2,decide_false];walk_at "den";refine⟨fun _=>?_,fun q=>(by first|exact False.elim q|exact absurd ⟨trivial,h2⟩ q)⟩
   rw[if_pos ⟨by rw[y0u];omega,rfl⟩]
   have e1:putL (pN 0 done) (.inr x) (.inl (k:Int))=pN 0 (done++[x]):=by
    unfold putL;rw[y0v,if_neg (by simp[h2]),x6t,hk];simp
   rw[e1]
theorem x1f(n:Nat)(w:W):∀(xs done:List Str)(z2 z3:S),(∀x∈xs,limS x)->done.length+xs.length<1000 ->
  (okAll done xs=true->∃y2 y3,forP 2 3 (q1s K a (run K a (n+2))) (enumL done.length (xs.map .str)) [.fr w,.dic (.k (pN 0 done)),z2,z3]=.nx [.fr w,.dic (.k (pN 0 (done++xs))),y2,y3]) /\
  (okAll done xs=false->∃e,forP 2 3 (q1s K a (run K a (n+2))) (enumL done.length (xs.map .str)) [.fr w,.dic (.k (pN 0 done)),z2,z3]=.ex (.ref a.NoName) e)
 |[],done,z2,z3,_,_=>⟨fun _=>⟨z2,z3,by rw[w1s];rfl⟩,fun h=>by simp[okAll]at h⟩
 |x::xs,done,z2,z3,hl,hd=>by
  have t:=x77 (K:=K) (a:=a) n done.length w x done (hl x (by simp)) (by simp at hd;omega) rfl;rw[w0n];show(_->∃y2 y3,forP 2 3 _ ((.int (done.length:Nat),.str x)::enumL (done.length+1) (xs.map .str)) _=_)/\(_->∃e,forP 2 3 _ ((.int (done.length:Nat),.str x)::enumL (done.length+1) (xs.map .str)) _=_);rw[q5u];simp only[w1u,w1v];have ih:=x1f n w xs (done++[x]) (.fr (.int done.length)) (.fr (.str x)) (fun y hy=>hl y (by simp[hy])) (by simp at hd |-;omega)
  have e1:(done++[x]).length=done.length+1:=by simp
  have e2:done++[x]++xs=done++x::xs:=by simp
  rw[e1,e2]at ih
  by_cases g:okN x=true/\x∉done
  ·have e3:okAll done (x::xs)=okAll (done++[x]) xs:=by
    show(okN x&&(!decide (x∈done)&&okAll (done++[x]) xs))=_;simp[g.1,g.2]
   rw[e3,t.1 g,q2i];exact ih
  ·have e3:okAll done (x::xs)=false:=by
    show(okN x&&(!decide (x∈done)&&okAll (done++[x]) xs))=_;rw[w3a,w3a]
    by_cases q:okN x=true
    ·exact .inr (.inl (by simpa using fun z=>g ⟨q,z⟩))
    ·exact .inl (by simpa using q)
   obtain⟨e,h⟩:=t.2 g;rw[e3,h,x4k];exact⟨fun z=>(by cases z),fun _=>⟨e,rfl⟩⟩
theorem x6u(n:Nat)(xs:List Str)(hl:∀x∈xs,limS x)(hd:xs.length<1000):
  (okAll [] xs=true->run K a (n+3) q03 [.tup (xs.map .str)]=.ok (.dic (.k (pN 0 xs))))/\(okAll [] xs=false->run K a (n+3) q03 [.tup (xs.map .str)]=.ex (.ref a.NoName)):=by
 rw[q5x];unfold q2u;walk_at "den";have t:=x1f (K:=K) (a:=a) n (.tup (xs.map .str)) xs [] .no .no hl (by simpa using hd);refine⟨fun h=>?_,fun h=>?_⟩
 ·obtain⟨y2,y3,q⟩:=t.1 h;rw[show(pN 0 []:List (Key×Sv))=[]from rfl,show([]:List Str).length=0 from rfl,w2w]at q;rw[q];walk_at "den"
 ·obtain⟨e,q⟩:=t.2 h;rw[show(pN 0 []:List (Key×Sv))=[]from rfl,show([]:List Str).length=0 from rfl]at q;rw[q];walk_at "den"
theorem z15(h:isL c=true):c<1000:=by
 unfold isL at h;rw[<- w3x]at h;have:=of_decide_eq_true h;omega
theorem q2n(h:okN x=true):six x=false/\1<=x.length/\x.length<=8/\letters x:=by
 unfold okN at h;simp only[w0g,Bool.not_eq_true',decide_eq_true_eq,w1g]at h;exact⟨h.1,h.2.1,h.2.2.1,h.2.2.2⟩
theorem x10(h:okN x=true):limS x:=by
 obtain⟨_,_,h2,h3⟩:=q2n h;exact⟨by omega,fun c hc=>z15 (h3 c hc)⟩
noncomputable def lvl:Fm->Nat
 |.or _ _=>0
 |.odd _ _=>1
 |.and _ _=>2
 |.not _=>3
 |.is _=>4
 |.at _=>5
noncomputable def par(b:Bool)(x:Str):Str:=if b=true then "("++(x++")")else x
noncomputable def mid(w:Str)(x y:Str):Str:=x++(" "++(w++(" "++y)))
noncomputable def txt(ns:List Str):Fm->Str
 |.is b=>if b=true then "yes" else "no"
 |.at p=>ns.getD p ""
 |.not f=>"not "++par (decide (lvl f<3)) (txt ns f)
 |.and f g=>mid "and" (par (decide (lvl f<2)) (txt ns f)) (par (decide (lvl g<3)) (txt ns g))
 |.or f g=>mid "or" (par (decide (lvl f<0)) (txt ns f)) (par (decide (lvl g<1)) (txt ns g))
 |.odd f g=>mid "odd" (par (decide (lvl f<1)) (txt ns f)) (par (decide (lvl g<2)) (txt ns g))
theorem z16(h:p<ns.length):atI (ns.map W.str) (p:Int)=some (.str (ns.getD p "")):=by
 refine q56 ?_;simp[List.getD,h]
theorem x78(n:Nat)(ns:List Str)(p:Nat):run K a (n+1) q11 [.tup (ns.map .str),.int p]=if p<ns.length then .ok (.fr (.str (ns.getD p "")))else .ex (.ref a.NoPlace):=by
 rw[q5h];unfold q3l;walk_at "den";rw[if_neg (by omega),w0r]
 by_cases h:p<ns.length
 ·rw[if_pos h,if_neg (by omega),z16 h];walk_at "den"
 ·rw[if_neg h,if_pos (by omega)]
theorem y7q:tabW q1f (.str "not")=some (.int 4):=rfl
noncomputable def head:Fm->Str
 |.is _=>"is"
 |.at _=>"at"
 |.not _=>"not"
 |.and _ _=>"and"
 |.or _ _=>"or"
 |.odd _ _=>"odd"
theorem y3c(f:Fm):tabGet q1f [.str (head f),.int 5]=some (.int (if lvl f<4 then(lvl f:Int)+1 else 5)):=by
 cases f<;>rfl
theorem y39(f:Fm):ixW (enc f) (.int 0)=some (.str (head f)):=by
 cases f<;>rfl
noncomputable def inB(m:Nat):Fm->Bool
 |.is _=>true
 |.at p=>decide (p<m)
 |.not f=>inB m f
 |.and f g=>inB m f&&inB m g
 |.or f g=>inB m f&&inB m g
 |.odd f g=>inB m f&&inB m g
theorem q4t(m:Nat):∀f:Fm,inB m f=true↔f.inb m
 |.is _=>by simp[inB,Fm.inb]
 |.at p=>by simp[inB,Fm.inb]
 |.not f=>by simp only[inB,Fm.inb];exact q4t m f
 |.and f g=>by simp only[inB,Fm.inb,w0g];rw[q4t m f,q4t m g]
 |.or f g=>by simp only[inB,Fm.inb,w0g];rw[q4t m f,q4t m g]
 |.odd f g=>by simp only[inB,Fm.inb,w0g];rw[q4t m f,q4t m g]
noncomputable def textR(a:Adr)(b:Bool)(x:Str):FR:=if b=true then .ok (.fr (.str x))else .ex (.ref a.NoPlace)
theorem q7k(h:x.length<=1000000):fmtW (.str x)=some x:=by
 unfold fmtW;simp[h]
theorem x11(x:Str):x++Str.empty=x:=by
 cases x with
 |mk c=>show Str.mk (c++#[])=_;rw[w4i]
theorem q34(x y:Str):(x++y).length=x.length+y.length:=by
 cases x;cases y;exact Array.size_append
theorem q1t(b:Bool)(x:Str):(par b x).length<=x.length+2:=by
 unfold par;split
 ·rw[q34,q34];have e1:(Str.ofString "(").length=1:=by decide +kernel
  have e2:(Str.ofString ")").length=1:=by decide +kernel
  omega
 ·omega
theorem x12(n:Nat)(f:Fm)(ns:List Str)(l:Nat)(hl:l<=4)(hx:(txt ns f).length<=1000000)(h:run K a (n+1) q1a [enc f,.tup (ns.map .str)]=textR a b (txt ns f)):
  run K a (n+2) q2c [enc f,.int ((l:Int)+1),.tup (ns.map .str)]=textR a b (par (decide (lvl f<l)) (txt ns f)):=by
 rw[q78];unfold q4x;walk_at "den";rw[h];unfold textR;cases b
 ·rfl
 rw[if_pos rfl,if_pos rfl];walk_at "den";rw[y39];walk_at "den";rw[y3c]
 have e:((if lvl f<4 then(lvl f:Int)+1 else 5)<(l:Int)+1)↔lvl f<l:=by
  split<;>omega
 walk_at "den";simp only[e,q7k hx];unfold par
 by_cases q:lvl f<l
 ·simp only[q,decide_true,if_true];walk_at "den";rw[x11]
 ·simp only[q,decide_false,if_false];walk_at "den"
theorem y7r(n:Nat)(b:Bool)(ns:List Str):run K a (n+1) q1a [enc (.is b),.tup (ns.map .str)]=textR a true (txt ns (.is b)):=by
 rw[q41];unfold q3d;simp only[enc];walk_at "den";cases b<;>rfl
theorem y7s(n p:Nat)(ns:List Str):run K a (n+2) q1a [enc (.at p),.tup (ns.map .str)]=textR a (inB ns.length (.at p)) (txt ns (.at p)):=by
 rw[q41];unfold q3d;simp only[enc];walk_at "den";rw[x78];simp only[inB,textR,txt,decide_eq_true_eq];split<;>rfl
theorem y3d(n:Nat)(f:Fm)(ns:List Str)(hx:(txt ns f).length<=900000)(h:run K a (n+1) q1a [enc f,.tup (ns.map .str)]=textR a b (txt ns f)):
  run K a (n+3) q1a [enc (.not f),.tup (ns.map .str)]=textR a b (txt ns (.not f)):=by
 rw[q41];unfold q3d;simp only[enc];walk_at "den";rw[y7q];walk_at "den";have e:=x12 (l:=3) n f ns (by omega) (by omega) h;have e4:((3:Nat):Int)+1=4:=rfl;rw[e4]at e;rw[e];unfold textR;cases b
 ·rfl
 rw[if_pos rfl,if_pos rfl];walk_at "den";rw[q7k (w0o (q1t _ _) (by omega))];walk_at "den";rw[x11];rfl
theorem x0k{mk:Fm->Fm->Fm}{c:Bool}{f g:Fm}{w:String}(hm:enc (mk f g)=.tup [.str w,enc f,enc g])(h1:w≠"is")(h2:w≠"at")(h3:w≠"not")
  (ht:tabW q1f (.str w)=some (.int ((l:Int)+1)))(hl:l<=3)(hw:(Str.ofString w).length<=100)(hT:txt ns (mk f g)=mid w (par (decide (lvl f<l)) (txt ns f)) (par (decide (lvl g<l+1)) (txt ns g)))
  (hx:(txt ns f).length<=900000)(hy:(txt ns g).length<=900000)
  (hf:run K a (n+1) q1a [enc f,.tup (ns.map .str)]=textR a b (txt ns f))(hg:run K a (n+1) q1a [enc g,.tup (ns.map .str)]=textR a c (txt ns g)):
  run K a (n+3) q1a [enc (mk f g),.tup (ns.map .str)]=textR a (b&&c) (txt ns (mk f g)):=by
 rw[q41];unfold q3d;rw[hm,hT];walk_at "den";rw[if_neg (by simpa using h1),if_neg (by simpa using h2),ht];walk_at "den";rw[if_neg (by simpa using h3)];walk_at "den";rw[x12 (l:=l) n f ns (by omega) (by omega) hf];unfold textR;cases b
 ·rfl
 rw[if_pos rfl];walk_at "den";have e:(l:Int)+1+1=((l+1:Nat):Int)+1:=by omega
 rw[e,x12 (l:=l+1) n g ns (by omega) (by omega) hg];unfold textR;cases c
 ·rfl
 rw[if_pos rfl,if_pos (by rfl)];walk_at "den";rw[q7k (w0o (q1t _ _) (by omega))];walk_at "den";rw[q7k (by omega)];walk_at "den";rw[q7k (w0o (q1t _ _) (by omega))];walk_at "den";rw[x11];rfl
theorem q2h(hn:∀x∈ns,x.length<=1000):∀f:Fm,(txt ns f).length<=1010*f.size
 |.is b=>by cases b<;>simp only[txt,Fm.size]<;>decide +kernel
 |.at p=>by
  simp only[txt,Fm.size]
  by_cases h:p<ns.length
  ·have:=hn (ns.getD p "") (by rw[w0y,w0b h];exact w1a h);omega
  ·rw[w0y,w1o (by omega)];decide +kernel
 |.not f=>by
  have h:=q2h hn f;have q:=q1t (decide (lvl f<3)) (txt ns f);have e:(Str.ofString "not ").length=4:=by decide +kernel
  simp only[txt,Fm.size,q34];omega
 |.and f g=>by
  have h1:=q2h hn f;have h2:=q2h hn g;have q1:=q1t (decide (lvl f<2)) (txt ns f);have q2:=q1t (decide (lvl g<3)) (txt ns g);have e:(Str.ofString " ").length=1:=by decide +kernel
  have e1:(Str.ofString "and").length=3:=by decide +kernel
  simp only[txt,Fm.size,mid,q34];omega
 |.or f g=>by
  have h1:=q2h hn f;have h2:=q2h hn g;have q1:=q1t (decide (lvl f<0)) (txt ns f);have q2:=q1t (decide (lvl g<1)) (txt ns g);have e:(Str.ofString " ").length=1:=by decide +kernel
  have e1:(Str.ofString "or").length=2:=by decide +kernel
  simp only[txt,Fm.size,mid,q34];omega
 |.odd f g=>by
  have h1:=q2h hn f;have h2:=q2h hn g;have q1:=q1t (decide (lvl f<1)) (txt ns f);have q2:=q1t (decide (lvl g<2)) (txt ns g);have e:(Str.ofString " ").length=1:=by decide +kernel
  have e1:(Str.ofString "odd").length=3:=by decide +kernel
  simp only[txt,Fm.size,mid,q34];omega
theorem q4n(hn:∀x∈ns,x.length<=1000):∀(f:Fm)(n:Nat),2*f.depth<=n->f.size<=800->run K a (n+1) q1a [enc f,.tup (ns.map .str)]=textR a (inB ns.length f) (txt ns f)
 |.is b,n,hd,hs=>y7r n b ns
 |.at p,n,hd,hs=>by
  obtain⟨n,rfl⟩:∃k,n=k+1:=⟨n-1,by simp only[Fm.depth]at hd;omega⟩;exact y7s n p ns
 |.not f,n,hd,hs=>by
  obtain⟨n,rfl⟩:∃k,n=k+2:=⟨n-2,by simp only[Fm.depth]at hd;omega⟩;simp only[Fm.depth,Fm.size]at hd hs;have:=q2h hn f;exact y3d n f ns (by omega) (q4n hn f n (by omega) (by omega))
 |.and f g,n,hd,hs=>by
  obtain⟨n,rfl⟩:∃k,n=k+2:=⟨n-2,by simp only[Fm.depth]at hd;omega⟩;simp only[Fm.depth,Fm.size]at hd hs;have:=q2h hn f;have:=q2h hn g;exact x0k (mk:=.and) (w:="and") (l:=2) rfl (by decide) (by decide) (by decide) rfl (by omega) (by decide +kernel) rfl (by omega) (by omega) (q4n hn f n (by omega) (by omega)) (q4n hn g n (by omega) (by omega))
 |.or f g,n,hd,hs=>by
  obtain⟨n,rfl⟩:∃k,n=k+2:=⟨n-2,by simp only[Fm.depth]at hd;omega⟩;simp only[Fm.depth,Fm.size]at hd hs;have:=q2h hn f;have:=q2h hn g;exact x0k (mk:=.or) (w:="or") (l:=0) rfl (by decide) (by decide) (by decide) rfl (by omega) (by decide +kernel) rfl (by omega) (by omega) (q4n hn f n (by omega) (by omega)) (q4n hn g n (by omega) (by omega))
 |.odd f g,n,hd,hs=>by
  obtain⟨n,rfl⟩:∃k,n=k+2:=⟨n-2,by simp only[Fm.depth]at hd;omega⟩;simp only[Fm.depth,Fm.size]at hd hs;have:=q2h hn f;have:=q2h hn g;exact x0k (mk:=.odd) (w:="odd") (l:=1) rfl (by decide) (by decide) (by decide) rfl (by omega) (by decide +kernel) rfl (by omega) (by omega) (q4n hn f n (by omega) (by omega)) (q4n hn g n (by omega) (by omega))
noncomputable def brk(ns:List Str)(l:Nat)(f:Fm):Str:=par (decide (lvl f<l)) (txt ns f)
theorem x2y(n:Nat)(hn:∀x∈ns,x.length<=1000)(hl:∀x∈ns,limS x)(hd:ns.length<1000)(f:Fm)(h:2*f.depth<=n+2)(hs:f.size<=800):
  run K a (n+4) q2z [enc f,.tup (ns.map .str)]=if okAll [] ns=true then textR a (inB ns.length f) (txt ns f)else .ex (.ref a.NoName):=by
 rw[x2s];unfold q68;walk_at "den";have p:=x6u (K:=K) (a:=a) n ns hl hd;cases q:okAll [] ns with
 |true=>
  rw[p.1 q];walk_at "den";rw[q4n hn f (n+2) h hs];unfold textR;split<;>rfl
 |false=>
  rw[p.2 q];rfl
noncomputable def upto(cs:List Nat):Nat:=(cs.takeWhile isL).length
noncomputable def stp(cs:List Nat):Nat:=max 1 (upto cs)
theorem x6v(cs:List Nat):upto cs<=cs.length:=(List.takeWhile_sublist _).length_le
theorem lenB(h:cs.length<=100000):len1 [.str (tx cs)]=some (.int cs.length):=by rw[y33,q2g,if_pos (by omega)]
theorem ixB(h:cs.length<=100000){k:Nat}(hc:cs[k]?=some c):ixW (.str (tx cs)) (.int k)=some (.str ⟨#[c]⟩):=by
 show(if(tx cs).length<=16777216 then(atI (tx cs).cps.toList k).map fun c=>W.str ⟨#[c]⟩else none)=_
 rw[if_pos (by rw[q2g];omega),x0y (by omega),w1q,q33,hc];rfl
theorem y0w{k:Nat}(hc:cs[k]?=some c):upto (cs.drop k)=if isL c=true then upto (cs.drop (k+1))+1 else 0:=by
 obtain⟨hk,rfl⟩:=w0a.mp hc;rw[w1n hk];unfold upto;rw[w3e];split<;>rfl
theorem y3e{k:Nat}(h:cs.length<=k):upto (cs.drop k)=0:=by
 rw[w3p h];rfl
theorem x5h(n:Nat)(cs:List Nat)(hcs:cs.length<=100000)(p:Int):∀(m k fuel:Nat),upto (cs.drop k)=m->m<fuel ->
  whileD (q3m K a (run K a (n+1))) (q3n K a (run K a (n+1))) fuel [.fr (.str (tx cs)),.fr (.int p),.fr (.int k)]=.nx [.fr (.str (tx cs)),.fr (.int p),.fr (.int ((k+m:Nat):Int))]
 |m,k,0,_,hf=>by omega
 |m,k,fuel+1,hm,hf=>by
  rw[q6b];unfold q3m;walk_at "den";rw[lenB hcs];walk_at "den"
  by_cases hk:k<cs.length
  ·have hg:cs[k]?=some cs[k]:=w0b hk;have h1:(k:Int)<(cs.length:Int):=by omega
   simp only[h1];walk_at "den";rw[ixB hcs hg];walk_at "den";rw[x2w n];walk_at "den";rw[y0w hg]at hm;cases q:isL cs[k]with
   |false=>
    rw[q,if_neg (by simp)]at hm;subst hm;walk_at "den";simp only[Nat.add_zero]
   |true=>
    rw[q,if_pos rfl]at hm;obtain⟨m',rfl⟩:∃m',m=m'+1:=⟨upto (cs.drop (k+1)),hm.symm⟩;have ih:=x5h n cs hcs p m' (k+1) fuel (by omega) (by omega);unfold q3n;walk_at "den";unfold q3m q3n at ih;rw[show((k:Int)+1)=((k+1:Nat):Int) by omega];rw[show k+(m'+1)=k+1+m' by omega];exact ih
  ·rw[y3e (by omega)]at hm;subst hm;have h1:¬(k:Int)<(cs.length:Int):=by omega
   simp only[h1];walk_at "den";simp only[Nat.add_zero]
theorem y7t{k:Nat}:(if(k:Int)+1>((k+m:Nat):Int)then(k:Int)+1 else((k+m:Nat):Int))=((k+max 1 m:Nat):Int):=by
 split<;>omega
theorem y3f{k:Nat}:(if((k+m:Nat):Int)<(k:Int)+1 then(k:Int)+1 else((k+m:Nat):Int))=((k+max 1 m:Nat):Int):=by
 split<;>omega
theorem y7u(n:Nat)(cs:List Nat)(hcs:cs.length<=100000)(k:Nat):run K a (n+2) q19 [.str (tx cs),.int k]=.ok (.fr (.int ((k+stp (cs.drop k):Nat):Int))):=by
 rw[q6o];unfold q28;walk_at "den";have hu:=x6v (cs.drop k);rw[w1t]at hu;rw[x5h n cs hcs k (upto (cs.drop k)) k 1000000 rfl (by omega)];walk_at "den"
 first|rw[y7t]|rw[y3f]|skip
 rfl
noncomputable def pcs:Nat->List Nat->Nat->List (Nat×List Nat)
 |0,_,_=>[]
 |f+1,cs,k=>if k<cs.length then(if cs[k]?=some 32 then[]else[(k,(cs.drop k).take (stp (cs.drop k)))])++pcs f cs (k+stp (cs.drop k))else[]
theorem x6w:∀(f:Nat)(cs:List Nat)(k:Nat),(pcs f cs k).length<=f
 |0,_,_=>w0e _
 |f+1,cs,k=>by
  unfold pcs;split
  ·rw[w0k];have:=x6w f cs (k+stp (cs.drop k));split
   ·simp only[w2l];omega
   ·simp only[w0j,w2l];omega
  ·simp
noncomputable def encP(p:Nat×List Nat):W:=.tup [.int p.1,.str (tx p.2)]
theorem x2z(c:Nat):(Str.mk #[c]=(" ":Str))=(c=32):=by
 have e:(" ":Str)=tx [32]:=by decide +kernel
 rw[e,eq_iff_iff];constructor
 ·intro z;have:=q50 (show tx [c]=tx [32]from z)
  simpa using this
 ·rintro rfl;rfl
theorem y0x(cs:List Nat)(k m:Nat)(hm:1<=m)(h:k+m<=cs.length):Txt.slice (tx cs) (some (k:Int)) (some ((k+m:Nat):Int))=tx ((cs.drop k).take m):=by
 unfold Txt.slice;rw[StrLaws.sliced_plain (tx cs) (show k<=k+m by omega) (by rw[q2g];exact h),q33];split
 ·rename_i q;rw[StrLaws.strSliceIndices_plain (show k<=k+m by omega) (by rw[q2g];exact h),q2g]at q;simp at q;have:k=0:=by omega
  subst this;rw[List.drop_zero,w3o (by omega)]
 ·rw[show k+m-k=m by omega];simp[tx]
theorem z17{k:Nat}(h:k<cs.length):1<=stp (cs.drop k)/\k+stp (cs.drop k)<=cs.length:=by
 have:=x6v (cs.drop k);rw[w1t]at this;unfold stp;omega
theorem y7v{k:Nat}(h:cs.length<=k):pcs m cs k=[]:=by
 cases m with
 |zero=>rfl
 |succ m=>unfold pcs;rw[if_neg (by omega)]
theorem y0y{k:Nat}(h:k<cs.length)(hc:cs[k]?=some 32):pcs (m+1) cs k=pcs m cs (k+stp (cs.drop k)):=by
 rw[pcs,if_pos h,if_pos hc,w2w]
theorem y3g{k:Nat}(h:k<cs.length)(hc:cs[k]?≠some 32):pcs (m+1) cs k=(k,(cs.drop k).take (stp (cs.drop k)))::pcs m cs (k+stp (cs.drop k)):=by
 rw[pcs,if_pos h,if_neg hc,w3y]
theorem q72(n:Nat)(cs:List Nat)(hcs:cs.length<=100000):∀(m k fuel:Nat)(acc:List W)(s3:S),cs.length-k<=m->m<fuel->acc.length+m<=200000 ->
  ∃q s3',whileD (q3s K a (run K a (n+2))) (q3t K a (run K a (n+2))) fuel [.fr (.str (tx cs)),.own none acc,.fr (.int k),s3]=.nx [.fr (.str (tx cs)),.own none (acc++(pcs m cs k).map encP),.fr (.int q),s3']
 |m,k,0,acc,s3,_,hf,_=>by omega
 |m,k,fuel+1,acc,s3,hm,hf,ha=>by
  rw[q6b];unfold q3s;walk_at "den";rw[lenB hcs];walk_at "den"
  by_cases hk:k<cs.length
  ·obtain⟨m',rfl⟩:∃m',m=m'+1:=⟨m-1,by omega⟩;have hg:cs[k]?=some cs[k]:=w0b hk;have hs:=z17 hk;have h1:(k:Int)<(cs.length:Int):=by omega
   simp only[h1];unfold q3t;walk_at "den";rw[y7u n cs hcs k];walk_at "den";rw[ixB hcs hg];walk_at "den"
   by_cases hb:cs[k]=32
   ·have ih:=q72 n cs hcs m' (k+stp (cs.drop k)) fuel acc (.fr (.int ((k+stp (cs.drop k):Nat):Int))) (by omega) (by omega) (by omega);rw[y0y hk (by rw[hg,hb])];simp only[show(Str.mk #[cs[k]]=(" ":Str))=True by rw[x2z];simpa using hb];walk_at "den";unfold q3s q3t at ih;exact ih
   ·have ih:=q72 n cs hcs m' (k+stp (cs.drop k)) fuel (acc++[encP (k,(cs.drop k).take (stp (cs.drop k)))]) (.fr (.int ((k+stp (cs.drop k):Nat):Int))) (by omega) (by omega) (by simp;omega);rw[y3g hk (by rw[hg];simpa using hb)];simp only[show(Str.mk #[cs[k]]=(" ":Str))=False by rw[x2z];simpa using hb];walk_at "den";rw[x7s (by rw[q2g];omega),y0x cs k _ hs.1 hs.2];walk_at "den";rw[if_pos (by omega)];walk_at "den";unfold q3s q3t at ih;rw[w1b]at ih;exact ih
  ·rw[y7v (by omega)];have h1:¬(k:Int)<(cs.length:Int):=by omega
   simp only[h1];walk_at "den";exact⟨k,s3,by simp⟩
noncomputable def pieces(cs:List Nat):List (Nat×List Nat):=pcs cs.length cs 0
theorem x79(n:Nat)(cs:List Nat)(hcs:cs.length<=100000):run K a (n+3) q23 [.str (tx cs)]=.ok (.own none ((pieces cs).map encP)):=by
 rw[q79];unfold q4y;walk_at "den";obtain⟨q,s3,h⟩:=q72 (K:=K) (a:=a) n cs hcs cs.length 0 1000000 [] .no (by omega) (by omega) (by simp;omega);rw[show(.fr (.int ((0:Nat):Int)):S)=.fr (.int 0)from rfl]at h;rw[h];walk_at "den";rfl
noncomputable def jw:List Str:=["and", "odd", "or"]
noncomputable def flt0(xs:List Str):List (Nat×List Nat)->Bool->Nat->Nat ⊕ (Bool×Nat)
 |[],aw,br=>.inr (aw,br)
 |(k,p)::ps,true,br=>
  if tx p="(" /\ br<12 then flt0 xs ps true (br+1)
  else if tx p∈xs\/tx p="yes"\/tx p="no" then flt0 xs ps false br
  else if tx p="not" then flt0 xs ps true br else .inl k
 |(k,p)::ps,false,br=>
  if tx p=")" /\ 0<br then flt0 xs ps false (br-1)
  else if tx p∈jw then flt0 xs ps true br else .inl k
noncomputable def flt(xs:List Str)(L:Nat)(ps:List (Nat×List Nat)):Option Nat:=match flt0 xs ps true 0 with
 |.inl k=>some k
 |.inr (aw,br)=>if aw=true\/0<br then some L else none
noncomputable def encO:Option Nat->W
 |none=>.non
 |some k=>.int (k:Int)
theorem q73{t:Str}:inW (.str t) (.tup [.str "and", .str "odd", .str "or"])=some (.bl (decide (t∈jw))):=x73 jw
theorem y0z(n:Nat)(t:Str)(br:Nat)(xs:List Str):run K a (n+1) q24 [.str t,.int br,.dic (.k (pN 0 xs))]=.ok (.fr (.bl (if t="(" then decide (br<12)else decide (t∈(["yes", "no", "not"]:List Str))||decide (t∈xs)))):=by
 rw[q8a];unfold q4z;walk_at "den"
 by_cases h1:t="("
 ·simp only[eq_true h1];walk_at "den";simp only[show((br:Int)<12)=(br<12)from propext (by omega)]
 ·simp only[eq_false h1];walk_at "den";have e:inW (.str t) (.tup [.str "yes", .str "no", .str "not"])=some (.bl (decide (t∈(["yes", "no", "not"]:List Str)))):=x73 ["yes", "no", "not"];rw[e];cases q:decide (t∈(["yes", "no", "not"]:List Str))with
  |true=>walk_at "den";rfl
  |false=>
   walk_at "den";rw[x3s,w1r,q9l];rfl
theorem x8a(n:Nat)(t:Str)(br:Nat):run K a (n+1) q2r [.str t,.int br]=.ok (.fr (.bl (if t=")" then decide (0<br)else decide (t∈jw)))):=by
 rw[q69];unfold q4b;walk_at "den"
 by_cases h1:t=")"
 ·simp only[eq_true h1];walk_at "den";simp only[show((br:Int)>0)=(0<br)from propext (by omega)]
 ·simp only[eq_false h1];walk_at "den";rw[q73];walk_at "den"
theorem y7w(n:Nat)(w:W)(xs:List Str)(hx:∀x∈xs,okN x=true)(L:Int)(k:Nat)(p:List Nat)(br:Nat)(s7:S):∃t7,
  q13 K a (run K a (n+1)) [.fr w,.fr (.dic (.k (pN 0 xs))),.fr (.int L),.fr (.bl true),.fr (.int br),.fr (.int k),.fr (.str (tx p)),s7] =
   (if tx p="(" /\ br<12 then .nx [.fr w,.fr (.dic (.k (pN 0 xs))),.fr (.int L),.fr (.bl true),.fr (.int ((br+1:Nat):Int)),.fr (.int k),.fr (.str (tx p)),t7]
   else if tx p∈xs\/tx p="yes"\/tx p="no" then .nx [.fr w,.fr (.dic (.k (pN 0 xs))),.fr (.int L),.fr (.bl false),.fr (.int br),.fr (.int k),.fr (.str (tx p)),t7]
   else if tx p="not" then .nx [.fr w,.fr (.dic (.k (pN 0 xs))),.fr (.int L),.fr (.bl true),.fr (.int br),.fr (.int k),.fr (.str (tx p)),t7]else .rt (.fr (.int k)) [.fr w,.fr (.dic (.k (pN 0 xs))),.fr (.int L),.fr (.bl true),.fr (.int br),.fr (.int k),.fr (.str (tx p)),t7]):=by
 refine⟨.fr (.bl (if tx p="(" then decide (br<12)else decide (tx p∈(["yes", "no", "not"]:List Str))||decide (tx p∈xs))),?_⟩;unfold q13;walk_at "den";rw[y0z n];walk_at "den"
 by_cases h1:tx p="("
 ·have nx:tx p∉xs:=fun z=>by
   have:=(q2n (hx _ z)).2.2.2;rw[h1]at this;exact absurd (this 40 (by decide +kernel)) (by decide)
  have h2:¬tx p="yes":=by rw[h1];decide +kernel
  have h3:¬tx p="no":=by rw[h1];decide +kernel
  have h4:¬tx p="not":=by rw[h1];decide +kernel
  simp only[eq_true h1,eq_false nx,eq_false h2,eq_false h3,eq_false h4];walk_at "den"
  by_cases hb:br<12
  ·simp only[eq_true hb];walk_at "den";rw[show(br:Int)+1=((br+1:Nat):Int) by omega]
  ·simp only[eq_false hb];walk_at "den"
 ·simp only[eq_false h1];walk_at "den"
  by_cases h5:tx p∈xs
  ·have ok:=q2n (hx _ h5);have h6:tx p∉(["yes", "no", "not", "and", "odd", "or"]:List Str):=of_decide_eq_false ok.1;simp only[w0m,w1h,or_false,not_or]at h6;obtain⟨q1,q2,q3,q4,q5,q6⟩:=h6
   have nc:¬tx p=")":=fun z=>by
    have:=ok.2.2.2;rw[z]at this;exact absurd (this 41 (by decide +kernel)) (by decide)
   have m3:¬(tx p∈(["yes", "no", "not"]:List Str)):=by simp[q1,q2,q3]
   have mj:¬(tx p∈jw):=by unfold jw;simp[q4,q5,q6]
   simp only[eq_true h5,eq_false m3,eq_false nc,eq_false q3,Bool.or_true];walk_at "den";rw[q73];simp only[eq_false mj];walk_at "den";try rfl
  ·by_cases q1:tx p="yes"
   ·have m3:tx p∈(["yes", "no", "not"]:List Str):=by rw[q1];simp
    have nc:¬tx p=")":=by rw[q1];decide +kernel
    have q3:¬tx p="not":=by rw[q1];decide +kernel
    have mj:¬(tx p∈jw):=by rw[q1];decide +kernel
    simp only[eq_false h5,eq_true m3,eq_true q1,eq_false nc,eq_false q3,w3v];walk_at "den";rw[q73];simp only[eq_false mj];walk_at "den";try rfl
   ·by_cases q2:tx p="no"
    ·have m3:tx p∈(["yes", "no", "not"]:List Str):=by rw[q2];simp
     have nc:¬tx p=")":=by rw[q2];decide +kernel
     have q3:¬tx p="not":=by rw[q2];decide +kernel
     have mj:¬(tx p∈jw):=by rw[q2];decide +kernel
     simp only[eq_false h5,eq_true m3,eq_false q1,eq_true q2,eq_false nc,eq_false q3,w3v];walk_at "den";rw[q73];simp only[eq_false mj];walk_at "den";try rfl
    ·by_cases q3:tx p="not"
     ·have m3:tx p∈(["yes", "no", "not"]:List Str):=by rw[q3];simp
      have nc:¬tx p=")":=by rw[q3];decide +kernel
      simp only[eq_false h5,eq_true m3,eq_false q1,eq_false q2,eq_false nc,eq_true q3,w3v];walk_at "den";try rfl
     ·have m3:¬(tx p∈(["yes", "no", "not"]:List Str)):=by simp[q1,q2,q3]
      simp only[eq_false h5,eq_false m3,eq_false q1,eq_false q2,eq_false q3,Bool.or_false];walk_at "den";try rfl
theorem y3h(n:Nat)(w:W)(xs:List Str)(L:Int)(k:Nat)(p:List Nat)(br:Nat)(s7:S):∃t7,
  q13 K a (run K a (n+1)) [.fr w,.fr (.dic (.k (pN 0 xs))),.fr (.int L),.fr (.bl false),.fr (.int br),.fr (.int k),.fr (.str (tx p)),s7] =
   (if tx p=")" /\ 0<br then .nx [.fr w,.fr (.dic (.k (pN 0 xs))),.fr (.int L),.fr (.bl false),.fr (.int ((br-1:Nat):Int)),.fr (.int k),.fr (.str (tx p)),t7]
   else if tx p∈jw then .nx [.fr w,.fr (.dic (.k (pN 0 xs))),.fr (.int L),.fr (.bl true),.fr (.int br),.fr (.int k),.fr (.str (tx p)),t7]else .rt (.fr (.int k)) [.fr w,.fr (.dic (.k (pN 0 xs))),.fr (.int L),.fr (.bl false),.fr (.int br),.fr (.int k),.fr (.str (tx p)),t7]):=by
 refine⟨.fr (.bl (if tx p=")" then decide (0<br)else decide (tx p∈jw))),?_⟩;unfold q13;walk_at "den";rw[x8a n];walk_at "den"
 by_cases h1:tx p=")"
 ·have mj:¬(tx p∈jw):=by rw[h1];decide +kernel
  have ho:¬tx p="(":=by rw[h1];decide +kernel
  simp only[eq_true h1,eq_false mj,eq_false ho];walk_at "den"
  by_cases hb:0<br
  ·simp only[eq_true hb];walk_at "den";rw[show(br:Int)-1=((br-1:Nat):Int) by omega]
  ·simp only[eq_false hb];walk_at "den"
 ·simp only[eq_false h1];walk_at "den"
  by_cases hj:tx p∈jw
  ·have ho:¬tx p="(":=fun z=>by rw[z]at hj;exact absurd hj (by decide +kernel)
   simp only[eq_true hj,eq_false ho];walk_at "den";rw[q73];simp only[eq_true hj]
   by_cases hn:tx p="not"
   ·simp only[eq_true hn];walk_at "den"
   ·simp only[eq_false hn];walk_at "den"
  ·simp only[eq_false hj];walk_at "den"
noncomputable def pr2(p:Nat×List Nat):W×W:=(.int p.1,.str (tx p.2))
theorem q9a:∀ps:List (Nat×List Nat),pairsW (ps.map encP)=some (ps.map pr2)
 |[]=>rfl
 |p::ps=>by
  rw[w0n,w0n];show((pairsW (ps.map encP)).map ((W.int p.1,W.str (tx p.2))::·))=_;rw[q9a ps];rfl
theorem q6c(n:Nat)(w:W)(xs:List Str)(hx:∀x∈xs,okN x=true)(L:Int):∀(ps:List (Nat×List Nat))(aw:Bool)(br:Nat)(s5 s6 s7:S),
  match flt0 xs ps aw br with
  |.inl k=>∃e,forP 5 6 (q13 K a (run K a (n+1))) (ps.map pr2) [.fr w,.fr (.dic (.k (pN 0 xs))),.fr (.int L),.fr (.bl aw),.fr (.int br),s5,s6,s7]=.rt (.fr (.int k)) e
  |.inr (aw',br')=>∃t5 t6 t7,forP 5 6 (q13 K a (run K a (n+1))) (ps.map pr2) [.fr w,.fr (.dic (.k (pN 0 xs))),.fr (.int L),.fr (.bl aw),.fr (.int br),s5,s6,s7]=.nx [.fr w,.fr (.dic (.k (pN 0 xs))),.fr (.int L),.fr (.bl aw'),.fr (.int br'),t5,t6,t7]
 |[],aw,br,s5,s6,s7=>⟨s5,s6,s7,rfl⟩
 |(k,p)::ps,true,br,s5,s6,s7=>by
  rw[flt0,w0n,q5u];simp only[pr2,w1v,w1u];obtain⟨t7,e7⟩:=y7w (K:=K) (a:=a) n w xs hx L k p br s7;rw[e7]
  by_cases h1:tx p="(" /\ br<12
  ·rw[if_pos h1,if_pos h1];simp only[q2i];exact q6c n w xs hx L ps true (br+1) _ _ _
  ·rw[if_neg h1,if_neg h1]
   by_cases h2:tx p∈xs\/tx p="yes"\/tx p="no"
   ·rw[if_pos h2,if_pos h2];simp only[q2i];exact q6c n w xs hx L ps false br _ _ _
   ·rw[if_neg h2,if_neg h2]
    by_cases h3:tx p="not"
    ·rw[if_pos h3,if_pos h3];simp only[q2i];exact q6c n w xs hx L ps true br _ _ _
    ·rw[if_neg h3,if_neg h3];exact⟨_,rfl⟩
 |(k,p)::ps,false,br,s5,s6,s7=>by
  rw[flt0,w0n,q5u];simp only[pr2,w1v,w1u];obtain⟨t7,e7⟩:=y3h (K:=K) (a:=a) n w xs L k p br s7;rw[e7]
  by_cases h1:tx p=")" /\ 0<br
  ·rw[if_pos h1,if_pos h1];simp only[q2i];exact q6c n w xs hx L ps false (br-1) _ _ _
  ·rw[if_neg h1,if_neg h1]
   by_cases h2:tx p∈jw
   ·rw[if_pos h2,if_pos h2];simp only[q2i];exact q6c n w xs hx L ps true br _ _ _
   ·rw[if_neg h2,if_neg h2];exact⟨_,rfl⟩
theorem z18(n:Nat)(ps:List (Nat×List Nat))(L:Nat)(xs:List Str)(hx:∀x∈xs,okN x=true):run K a (n+2) q2j [.lst (ps.map encP),.dic (.k (pN 0 xs)),.int L]=.ok (.fr (encO (flt xs L ps))):=by
 rw[q6v];unfold q3u;walk_at "den";rw[q9a];walk_at "den";have h:=q6c (K:=K) (a:=a) n (.lst (ps.map encP)) xs hx L ps true 0 .no .no .no;unfold flt;cases q:flt0 xs ps true 0 with
 |inl k=>
  rw[q]at h;obtain⟨e,h⟩:=h;rw[show(W.int ((0:Nat):Int))=.int 0 from rfl]at h;rw[h];walk_at "den";rfl
 |inr z=>
  obtain⟨aw,br⟩:=z;rw[q]at h;obtain⟨t5,t6,t7,h⟩:=h;rw[show(W.int ((0:Nat):Int))=.int 0 from rfl]at h;rw[h];walk_at "den";cases aw with
  |true=>
   walk_at "den";rfl
  |false=>
   walk_at "den"
   by_cases hb:0<br
   ·have hb':(br:Int)>0:=by omega
    simp only[eq_true hb',eq_true hb];walk_at "den";rfl
   ·have hb':¬(br:Int)>0:=by omega
    simp only[eq_false hb',eq_false hb];walk_at "den";rfl
noncomputable def tgt(t:Str):Nat:=if t="(" then 0 else if t="or" then 1 else if t="odd" then 2 else if t="and" then 3 else 4
noncomputable def wrd5:List Str:=["(", "or", "odd", "and", "not"]
theorem tab5{t:Str}(h:t∈wrd5):tabW q1f (.str t)=some (.int (tgt t)):=by
 unfold wrd5 at h;simp only[w0m,w1h,or_false]at h;rcases h with rfl|rfl|rfl|rfl|rfl<;>rfl
noncomputable def need:List Str->Nat
 |[]=>0
 |t::ts=>(if t="("\/t="not" then 0 else 1)+need ts
noncomputable def opn:List Str->Nat
 |[]=>0
 |t::ts=>(if t="(" then 1 else 0)+opn ts
noncomputable def settleF(l:Nat):List Str->List W->List Str×List W
 |[],fs=>([],fs)
 |t::ts,fs=>if l<=tgt t then
   (if t="not" then(match fs with
    |f::fs=>settleF l ts (.tup [.str "not", f]::fs)
    |[]=>(t::ts,[]))
   else(match fs with
    |g::f::fs=>settleF l ts (.tup [.str t,f,g]::fs)
    |_=>(t::ts,fs)))
  else(t::ts,fs)
theorem y7x{w:W}:atI (ws++[w]) (-1)=some w:=by
 unfold atI
 have:ixN (ws++[w]).length (-1)=some ws.length:=by
  unfold ixN;simp;omega
 rw[this];simp
theorem q6y(n:Nat)(l:Nat):∀(wt:List Str)(fs:List W)(fuel:Nat)(s3 s4:S),(∀t∈wt,t∈wrd5)->need wt<fs.length->(l=0->opn wt=0)->wt.length<fuel->wt.length<=200000->fs.length<=200000 ->
  ∃t3 t4,whileD (q4s K a (run K a n)) (q5e K a (run K a n)) fuel [.own (some 0) fs.reverse,.own (some 1) (wt.reverse.map .str),.fr (.int l),s3,s4]=.nx [.own (some 0) (settleF l wt fs).2.reverse,.own (some 1) ((settleF l wt fs).1.reverse.map .str),.fr (.int l),t3,t4]
 |wt,fs,0,s3,s4,_,_,_,hf,_,_=>by omega
 |[],fs,fuel+1,s3,s4,_,_,_,_,_,hl=>by
  rw[q6b];unfold q4s;walk_at "den";exact⟨s3,s4,rfl⟩
 |t::ts,fs,fuel+1,s3,s4,hw,hn,ho,hf,hl,hl2=>by
  rw[q6b];unfold q4s;have e1:((t::ts).reverse.map W.str)=ts.reverse.map W.str++[.str t]:=by simp
  rw[e1];walk_at "den";have h0:((ts.reverse.map W.str++[W.str t]).length:Int)>0:=by simp
  simp only[eq_true h0];walk_at "den";rw[y7x];walk_at "den";rw[tab5 (hw t (by simp))];walk_at "den";unfold settleF
  by_cases hg:l<=tgt t
  ·have hg':(tgt t:Int)>=(l:Int):=by omega
   simp only[eq_true hg',eq_true hg]
   have hp:t≠"(":=fun z=>by
    subst z
    have hl0:l=0:=by
     have:tgt "("=0:=by decide +kernel
     omega
    have:=ho hl0;unfold opn at this;rw[if_pos rfl]at this;omega
   unfold q5e;walk_at "den";unfold need at hn
   by_cases hn1:t="not"
   ·subst hn1;rw[if_pos (.inr rfl)]at hn;cases fs with
    |nil=>simp at hn
    |cons f fs=>
     have ih:=q6y n l ts (.tup [.str "not", f]::fs) fuel (.fr (.str "not")) (.fr f) (fun t ht=>hw t (by simp[ht])) (by simpa using hn) (fun z=>by
      have:=ho z;unfold opn at this;omega) (by simp at hf;omega) (by simp at hl;omega) (by simpa using hl2)
     rw[w2m]at ih |-
     walk_at "den";rw[if_pos (by simp at hl2 |-;omega)];walk_at "den";unfold q4s q5e at ih;exact ih
   ·rw[if_neg (not_or.mpr ⟨hp,hn1⟩)]at hn
    match fs,hn,hl2 with
    |[],hn,_=>simp at hn
    |[g],hn,_=>simp at hn
    |g::f::fs,hn,hl2=>
     have ih:=q6y n l ts (.tup [.str t,f,g]::fs) fuel (.fr (.str t)) (.fr g) (fun t ht=>hw t (by simp[ht])) (by simp at hn |-;omega) (fun z=>by
      have:=ho z;unfold opn at this;omega) (by simp at hf;omega) (by simp at hl;omega) (by simp at hl2 |-;omega)
     rw[w2m,w2m];rw[w2m]at ih;walk_at "den";simp only[eq_false hn1];walk_at "den";rw[if_pos (by simp at hl2 |-;omega)];walk_at "den";unfold q4s q5e at ih;exact ih
  ·have hg':¬(tgt t:Int)>=(l:Int):=by omega
   simp only[eq_false hg',eq_false hg];walk_at "den";exact⟨s3,s4,by simp⟩
theorem q74(n:Nat)(l:Nat)(wt:List Str)(fs:List W)(hw:∀t∈wt,t∈wrd5)(hn:need wt<fs.length)(hl0:l=0->opn wt=0)(hl:wt.length<=200000)(hl2:fs.length<=200000):
  run K a (n+1) q3k [.lst fs.reverse,.lst (wt.reverse.map .str),.int l]=.ok (.fr (.tup [.lst (settleF l wt fs).2.reverse,.lst ((settleF l wt fs).1.reverse.map .str)])):=by
 rw[x02];unfold q6n;walk_at "den";obtain⟨t3,t4,h⟩:=q6y (K:=K) (a:=a) n l wt fs 1000000 .no .no hw hn hl0 (by omega) hl hl2;rw[h];walk_at "den"
theorem x6x{t:Str}(h:t≠"("):1<=tgt t:=by
 unfold tgt;rw[if_neg h];split<;>(try split)<;>(try split)<;>omega
theorem q54(l:Nat)(h1:1<=l):∀(wt:List Str)(fs:List W),(∀t∈wt,t∈wrd5)->fs.length=need wt+1 ->
  (∀t∈(settleF l wt fs).1,t∈wrd5)/\opn (settleF l wt fs).1=opn wt/\(settleF l wt fs).2.length=need (settleF l wt fs).1+1/\(settleF l wt fs).1.length<=wt.length/\(settleF l wt fs).2.length<=fs.length/\(∀t ts,(settleF l wt fs).1=t::ts->tgt t<l)
 |[],fs,hw,hn=>⟨hw,rfl,hn,w0e _,w0e _,fun t ts z=>by cases z⟩
 |t::ts,fs,hw,hn=>by
  unfold settleF;unfold need at hn
  by_cases hg:l<=tgt t
  ·rw[if_pos hg]
   have hp:t≠"(":=fun z=>by
    subst z;have:tgt "("=0:=by decide +kernel
    omega
   by_cases hn1:t="not"
   ·rw[if_pos hn1];rw[if_pos (.inr hn1)]at hn;cases fs with
    |nil=>simp at hn
    |cons f fs=>
     have ih:=q54 l h1 ts (.tup [.str "not", f]::fs) (fun t ht=>hw t (by simp[ht])) (by simp at hn |-;omega)
     refine⟨ih.1,?_,ih.2.2.1,by simp;omega,ih.2.2.2.2.1,ih.2.2.2.2.2⟩;rw[ih.2.1];unfold opn;rw[if_neg hp];cases ts<;>simp[opn]
   ·rw[if_neg hn1];rw[if_neg (not_or.mpr ⟨hp,hn1⟩)]at hn
    match fs,hn with
    |[],hn=>simp at hn
    |[g],hn=>simp at hn
    |g::f::fs,hn=>
     have ih:=q54 l h1 ts (.tup [.str t,f,g]::fs) (fun t ht=>hw t (by simp[ht])) (by simp at hn |-;omega)
     refine⟨ih.1,?_,ih.2.2.1,by simp;omega,by have:=ih.2.2.2.2.1;simp at this |-;omega,ih.2.2.2.2.2⟩;rw[ih.2.1];unfold opn;rw[if_neg hp];cases ts<;>simp[opn]
  ·rw[if_neg hg];refine⟨hw,rfl,by unfold need;exact hn,w0e _,w0e _,fun t' ts' z=>?_⟩
   cases z;omega
theorem q75:∀(wt:List Str)(fs:List W),(∀t∈wt,t∈wrd5)->opn wt=0->fs.length=need wt+1->∃w,settleF 1 wt fs=([],[w])
 |[],fs,hw,ho,hn=>by
  unfold need at hn
  match fs,hn with
  |[w],_=>exact⟨w,rfl⟩
  |[],hn=>simp at hn
  |_::_::_,hn=>simp at hn
 |t::ts,fs,hw,ho,hn=>by
  unfold settleF;unfold need at hn;unfold opn at ho;have hp:t≠"(":=fun z=>by rw[if_pos z]at ho;omega
  rw[if_neg hp]at ho;rw[if_pos (x6x hp)]
  by_cases hn1:t="not"
  ·rw[if_pos hn1];rw[if_pos (.inr hn1)]at hn;cases fs with
   |nil=>simp at hn
   |cons f fs=>exact q75 ts _ (fun t ht=>hw t (by simp[ht])) (by omega) (by simp at hn |-;omega)
  ·rw[if_neg hn1];rw[if_neg (not_or.mpr ⟨hp,hn1⟩)]at hn
   match fs,hn with
   |[],hn=>simp at hn
   |[g],hn=>simp at hn
   |g::f::fs,hn=>exact q75 ts _ (fun t ht=>hw t (by simp[ht])) (by omega) (by simp at hn |-;omega)
noncomputable def plF(xs:List Str)(t:Str):W:=if t="yes" then .tup [.str "is", .bl true]else if t="no" then .tup [.str "is", .bl false]else .tup [.str "at", match idxS t xs with|some j=>.int (j:Int)|none=>.non]
theorem y00(n:Nat)(t:Str)(xs:List Str)(h:t="yes"\/t="no"\/t∈xs):run K a (n+1) q2s [.str t,.dic (.k (pN 0 xs))]=.ok (.fr (plF xs t)):=by
 rw[q7a];unfold q4c plF;walk_at "den"
 by_cases h1:t="yes"
 ·simp only[eq_true h1];walk_at "den"
 ·simp only[eq_false h1];walk_at "den"
  by_cases h2:t="no"
  ·simp only[eq_true h2];walk_at "den"
  ·simp only[eq_false h2];walk_at "den";have h3:t∈xs:=(h.resolve_left h1).resolve_left h2;have h4:(idxS t xs).isSome=true:=by rw[q9l];exact decide_eq_true h3
   obtain⟨j,hj⟩:=w2r.mp h4;rw[x3s,hj];simp only[w3w,wSv,w3i];walk_at "den"
noncomputable def stepF(xs:List Str)(st:List Str×List W)(t:Str):List Str×List W:=
 if t="("\/t="not" then(t::st.1,st.2)
 else if t=")" then((settleF 1 st.1 st.2).1.tail,(settleF 1 st.1 st.2).2)
 else if t∈jw then(t::(settleF (tgt t) st.1 st.2).1,(settleF (tgt t) st.1 st.2).2)
 else(st.1,plF xs t::st.2)
def Inv(wt:List Str)(fs:List W)(aw:Bool)(br:Nat):Prop:=(∀t∈wt,t∈wrd5)/\opn wt=br/\fs.length=need wt+(if aw=true then 0 else 1)
noncomputable def fst(K:PySem.W.Frag)(w:W)(xs:List Str)(st:List Str×List W)(s4 s5:S):List S:=[.fr w,.fr (.dic (.k (pN 0 xs))),.own none st.2.reverse,.own none (st.1.reverse.map .str),s4,s5]
theorem z19{t:Str}(h:t∈jw):t∈wrd5/\1<=tgt t/\t≠"(" /\ t≠"not" /\ t≠")" /\ t≠"yes" /\ t≠"no":=by
 unfold jw at h;simp only[w0m,w1h,or_false]at h;rcases h with rfl|rfl|rfl<;>decide +kernel
theorem q9b(n:Nat)(w:W)(xs:List Str)(hx:∀x∈xs,okN x=true)(k:Nat)(p:List Nat)(wt:List Str)(fs:List W)(hb:wt.length+fs.length<=200000)(h:tx p="("\/tx p="not"\/(tx p∈xs\/tx p="yes"\/tx p="no")):
  q0w K a (run K a (n+1)) (fst K w xs (wt,fs) (.fr (.int k)) (.fr (.str (tx p))))=.nx (fst K w xs (stepF xs (wt,fs) (tx p)) (.fr (.int k)) (.fr (.str (tx p)))):=by
 unfold q0w fst stepF;walk_at "den"
 by_cases h1:tx p="("
 ·simp only[eq_true h1];walk_at "den";rw[if_pos (by simp;omega)];simp
 ·by_cases h2:tx p="not"
  ·simp only[eq_false h1,eq_true h2];walk_at "den";rw[if_pos (by simp;omega)];simp
  ·have h3:=(h.resolve_left h1).resolve_left h2
   have h4:¬tx p=")" /\ ¬(tx p∈jw):=by
    rcases h3 with h3|h3|h3
    ·have ok:=q2n (hx _ h3);have h6:tx p∉(["yes", "no", "not", "and", "odd", "or"]:List Str):=of_decide_eq_false ok.1;refine⟨fun z=>?_,fun z=>h6 ?_⟩
     ·have:=ok.2.2.2;rw[z]at this;exact absurd (this 41 (by decide +kernel)) (by decide)
     ·unfold jw at z;simp only[w0m,w1h,or_false]at z |-
      rcases z with z|z|z<;>simp[z]
    ·rw[h3];decide +kernel
    ·rw[h3];decide +kernel
   simp only[eq_false h1,eq_false h2,eq_false h4.1,eq_false h4.2];walk_at "den";rw[q73];simp only[eq_false h4.2];walk_at "den";rw[y00 n (tx p) xs (by rcases h3 with h3|h3|h3<;>simp[h3])];walk_at "den";rw[if_pos (by simp;omega)];simp
theorem set1:(W.int ((1:Nat):Int))=.int 1:=rfl
theorem x8b(n:Nat)(w:W)(xs:List Str)(k:Nat)(p:List Nat)(wt:List Str)(fs:List W)(hb:wt.length+fs.length<=200000)(br:Nat)(hI:Inv wt fs false br)(hbr:0<br)(h:tx p=")"):
  q0w K a (run K a (n+1)) (fst K w xs (wt,fs) (.fr (.int k)) (.fr (.str (tx p))))=.nx (fst K w xs (stepF xs (wt,fs) (tx p)) (.fr (.int k)) (.fr (.str (tx p))))/\Inv (stepF xs (wt,fs) (tx p)).1 (stepF xs (wt,fs) (tx p)).2 false (br-1)/\(stepF xs (wt,fs) (tx p)).1.length+(stepF xs (wt,fs) (tx p)).2.length<=wt.length+fs.length:=by
 obtain⟨i1,i2,i3⟩:=hI;have i3:fs.length=need wt+1:=i3;have si:=q54 1 (w0e _) wt fs i1 i3;have sr:=q74 (K:=K) (a:=a) n 1 wt fs i1 (by omega) (fun z=>by omega) (by omega) (by omega)
 rw[set1]at sr;have n1:¬tx p="(":=by rw[h];decide +kernel
 have n2:¬tx p="not":=by rw[h];decide +kernel
 have es:stepF xs (wt,fs) (tx p)=((settleF 1 wt fs).1.tail,(settleF 1 wt fs).2):=by
  unfold stepF;rw[if_neg (not_or.mpr ⟨n1,n2⟩),if_pos h]
 rw[es];generalize settleF 1 wt fs=z at si sr;obtain⟨wt',fs'⟩:=z;dsimp only at si sr |-
 cases wt' with
 |nil=>exfalso;have h0:0=opn wt:=si.2.1;omega
 |cons t ts=>
  have ht:t="(":=by
   by_cases z:t="("
   ·exact z
   ·have:=x6x z;have:=si.2.2.2.2.2 t ts rfl;omega
  subst ht;have so:(if("(":Str)="(" then 1 else 0)+opn ts=opn wt:=si.2.1;have sn:fs'.length=((if("(":Str)="("\/("(":Str)="not" then 0 else 1)+need ts)+1:=si.2.2.1;have sl:=si.2.2.2.1;have sf:=si.2.2.2.2.1;rw[if_pos rfl]at so;rw[if_pos (.inl rfl)]at sn;refine⟨?_,⟨fun t ht=>si.1 t (by simp at ht;simp[ht]),?_,?_⟩,?_⟩
  ·unfold q0w fst;walk_at "den";simp only[eq_false n1,eq_false n2,eq_true h];walk_at "den";rw[sr];walk_at "den";rw[w2m,w0q,w0n,w4l];walk_at "den";rfl
  ·show opn ts=br-1;omega
  ·show fs'.length=need ts+1;omega
  ·show ts.length+fs'.length<=_;simp at sl;omega
theorem y01(n:Nat)(w:W)(xs:List Str)(k:Nat)(p:List Nat)(wt:List Str)(fs:List W)(hb:wt.length+fs.length<=200000)(br:Nat)(hI:Inv wt fs false br)(h:tx p∈jw):
  q0w K a (run K a (n+1)) (fst K w xs (wt,fs) (.fr (.int k)) (.fr (.str (tx p))))=.nx (fst K w xs (stepF xs (wt,fs) (tx p)) (.fr (.int k)) (.fr (.str (tx p))))/\Inv (stepF xs (wt,fs) (tx p)).1 (stepF xs (wt,fs) (tx p)).2 true br/\(stepF xs (wt,fs) (tx p)).1.length+(stepF xs (wt,fs) (tx p)).2.length<=wt.length+fs.length+1:=by
 obtain⟨i1,i2,i3⟩:=hI;have i3:fs.length=need wt+1:=i3;obtain⟨j1,j2,n1,n2,n3,_,_⟩:=z19 h;have si:=q54 (tgt (tx p)) j2 wt fs i1 i3;have sr:=q74 (K:=K) (a:=a) n (tgt (tx p)) wt fs i1 (by omega) (fun z=>by omega) (by omega) (by omega)
 have es:stepF xs (wt,fs) (tx p)=(tx p::(settleF (tgt (tx p)) wt fs).1,(settleF (tgt (tx p)) wt fs).2):=by
  unfold stepF;rw[if_neg (not_or.mpr ⟨n1,n2⟩),if_neg n3,if_pos h]
 rw[es];generalize settleF (tgt (tx p)) wt fs=z at si sr;obtain⟨wt',fs'⟩:=z;dsimp only at si sr |-
 refine⟨?_,⟨fun t ht=>?_,?_,?_⟩,?_⟩
 ·unfold q0w fst;walk_at "den";simp only[eq_false n1,eq_false n2,eq_false n3];walk_at "den";rw[q73];simp only[eq_true h];walk_at "den";rw[tab5 j1];walk_at "den";rw[sr];walk_at "den";rw[if_pos (by simp;omega)];simp
 ·rcases w0m.mp ht with rfl|ht
  ·exact j1
  ·exact si.1 t ht
 ·unfold opn;rw[if_neg n1,si.2.1];omega
 ·show fs'.length=need (tx p::wt')+0;unfold need;rw[if_neg (not_or.mpr ⟨n1,n2⟩),si.2.2.1];omega
 ·show(tx p::wt').length+fs'.length<=_;simp;omega
theorem q46(n:Nat)(w:W)(xs:List Str)(hx:∀x∈xs,okN x=true):∀(ps:List (Nat×List Nat))(aw:Bool)(br:Nat)(st:List Str×List W)(s4 s5:S)(aw':Bool)(br':Nat),flt0 xs ps aw br=.inr (aw',br')->Inv st.1 st.2 aw br->st.1.length+st.2.length+ps.length<=200000 ->
  ∃t4 t5,forP 4 5 (q0w K a (run K a (n+1))) (ps.map pr2) (fst K w xs st s4 s5)=.nx (fst K w xs (ps.foldl (fun st p=>stepF xs st (tx p.2)) st) t4 t5)/\Inv (ps.foldl (fun st p=>stepF xs st (tx p.2)) st).1 (ps.foldl (fun st p=>stepF xs st (tx p.2)) st).2 aw' br'/\(ps.foldl (fun st p=>stepF xs st (tx p.2)) st).1.length+(ps.foldl (fun st p=>stepF xs st (tx p.2)) st).2.length<=200000
 |[],aw,br,st,s4,s5,aw',br',hf,hI,hb=>by
  cases hf;exact⟨s4,s5,rfl,hI,hb⟩
 |(k,p)::ps,true,br,(wt,fs),s4,s5,aw',br',hf,hI,hb=>by
  rw[w0n,q5u,w1f];have hset:((fst K w xs (wt,fs) s4 s5).set 4 (.fr (pr2 (k,p)).1)).set 5 (.fr (pr2 (k,p)).2)=fst K w xs (wt,fs) (.fr (.int k)) (.fr (.str (tx p))):=rfl;rw[hset];rw[flt0]at hf;obtain⟨i1,i2,i3⟩:=hI;have i3:fs.length=need wt:=i3;simp only[w0j]at hb
  by_cases h1:tx p="(" /\ br<12
  ·rw[if_pos h1]at hf;rw[q9b n w xs hx k p wt fs (by omega) (.inl h1.1),q2i];have es:stepF xs (wt,fs) (tx p)=(tx p::wt,fs):=by unfold stepF;rw[if_pos (.inl h1.1)]
   rw[es];refine q46 n w xs hx ps true (br+1) (tx p::wt,fs) _ _ aw' br' hf ⟨fun t ht=>?_,?_,?_⟩ (by simp;omega)
   ·rcases w0m.mp ht with rfl|ht
    ·rw[h1.1];decide +kernel
    ·exact i1 t ht
   ·show opn (tx p::wt)=_;unfold opn;rw[if_pos h1.1,i2];omega
   ·show fs.length=need (tx p::wt)+0;unfold need;rw[if_pos (.inl h1.1)];omega
  ·rw[if_neg h1]at hf
   by_cases h2:tx p∈xs\/tx p="yes"\/tx p="no"
   ·rw[if_pos h2]at hf;rw[q9b n w xs hx k p wt fs (by omega) (.inr (.inr h2)),q2i]
    have h4:¬tx p="(" /\ ¬tx p="not" /\ ¬tx p=")" /\ ¬(tx p∈jw):=by
     rcases h2 with h3|h3|h3
     ·have ok:=q2n (hx _ h3);have h6:tx p∉(["yes", "no", "not", "and", "odd", "or"]:List Str):=of_decide_eq_false ok.1;refine⟨fun z=>?_,fun z=>h6 (by simp[z]),fun z=>?_,fun z=>h6 ?_⟩
      ·have:=ok.2.2.2;rw[z]at this;exact absurd (this 40 (by decide +kernel)) (by decide)
      ·have:=ok.2.2.2;rw[z]at this;exact absurd (this 41 (by decide +kernel)) (by decide)
      ·unfold jw at z;simp only[w0m,w1h,or_false]at z |-
       rcases z with z|z|z<;>simp[z]
     ·rw[h3];decide +kernel
     ·rw[h3];decide +kernel
    have es:stepF xs (wt,fs) (tx p)=(wt,plF xs (tx p)::fs):=by unfold stepF;rw[if_neg (not_or.mpr ⟨h4.1,h4.2.1⟩),if_neg h4.2.2.1,if_neg h4.2.2.2]
    rw[es];exact q46 n w xs hx ps false br (wt,plF xs (tx p)::fs) _ _ aw' br' hf ⟨i1,i2,show(plF xs (tx p)::fs).length=need wt+1 by simp;omega⟩ (by simp;omega)
   ·rw[if_neg h2]at hf
    by_cases h3:tx p="not"
    ·rw[if_pos h3]at hf;rw[q9b n w xs hx k p wt fs (by omega) (.inr (.inl h3)),q2i];have es:stepF xs (wt,fs) (tx p)=(tx p::wt,fs):=by unfold stepF;rw[if_pos (.inr h3)]
     rw[es];refine q46 n w xs hx ps true br (tx p::wt,fs) _ _ aw' br' hf ⟨fun t ht=>?_,?_,?_⟩ (by simp;omega)
     ·rcases w0m.mp ht with rfl|ht
      ·rw[h3];decide +kernel
      ·exact i1 t ht
     ·show opn (tx p::wt)=_;unfold opn;rw[if_neg (by rw[h3];decide +kernel),i2];omega
     ·show fs.length=need (tx p::wt)+0;unfold need;rw[if_pos (.inr h3)];omega
    ·rw[if_neg h3]at hf;cases hf
 |(k,p)::ps,false,br,(wt,fs),s4,s5,aw',br',hf,hI,hb=>by
  rw[w0n,q5u,w1f];have hset:((fst K w xs (wt,fs) s4 s5).set 4 (.fr (pr2 (k,p)).1)).set 5 (.fr (pr2 (k,p)).2)=fst K w xs (wt,fs) (.fr (.int k)) (.fr (.str (tx p))):=rfl;rw[hset];rw[flt0]at hf;simp only[w0j]at hb
  by_cases h1:tx p=")" /\ 0<br
  ·rw[if_pos h1]at hf;obtain⟨c1,c2,c3⟩:=x8b (K:=K) (a:=a) n w xs k p wt fs (by omega) br hI h1.2 h1.1;rw[c1,q2i];exact q46 n w xs hx ps false (br-1) _ _ _ aw' br' hf c2 (by omega)
  ·rw[if_neg h1]at hf
   by_cases h2:tx p∈jw
   ·rw[if_pos h2]at hf;obtain⟨c1,c2,c3⟩:=y01 (K:=K) (a:=a) n w xs k p wt fs (by omega) br hI h2;rw[c1,q2i];exact q46 n w xs hx ps true br _ _ _ aw' br' hf c2 (by omega)
   ·rw[if_neg h2]at hf;cases hf
noncomputable def foldF(xs:List Str)(ps:List (Nat×List Nat)):List Str×List W:=ps.foldl (fun st p=>stepF xs st (tx p.2)) ([],[])
theorem y7y(n:Nat)(ps:List (Nat×List Nat))(xs:List Str)(hx:∀x∈xs,okN x=true)(hp:ps.length<=200000)(h:flt0 xs ps true 0=.inr (false,0)):∃w,settleF 1 (foldF xs ps).1 (foldF xs ps).2=([],[w])/\run K a (n+2) q1p [.lst (ps.map encP),.dic (.k (pN 0 xs))]=.ok (.fr w):=by
 obtain⟨t4,t5,h1,h2,h3⟩:=q46 (K:=K) (a:=a) n (.lst (ps.map encP)) xs hx ps true 0 ([],[]) .no .no false 0 h ⟨by simp,rfl,rfl⟩ (by simpa using hp);obtain⟨i1,i2,i3⟩:=h2;have i3:(foldF xs ps).2.length=need (foldF xs ps).1+1:=i3;obtain⟨w,hw⟩:=q75 (foldF xs ps).1 (foldF xs ps).2 i1 i2 i3;refine⟨w,hw,?_⟩;have h3:(foldF xs ps).1.length+(foldF xs ps).2.length<=200000:=h3;have sr:=q74 (K:=K) (a:=a) n 1 (foldF xs ps).1 (foldF xs ps).2 i1 (by omega) (fun z=>by omega) (by omega) (by omega)
 rw[set1,hw]at sr;rw[q5y];unfold q2v;walk_at "den";rw[q9a];walk_at "den";have h1:forP 4 5 (q0w K a (run K a (n+1))) (ps.map pr2) [.fr (.lst (ps.map encP)),.fr (.dic (.k (pN 0 xs))),.own none [],.own none [],.no,.no]=.nx [.fr (.lst (ps.map encP)),.fr (.dic (.k (pN 0 xs))),.own none (foldF xs ps).2.reverse,.own none ((foldF xs ps).1.reverse.map .str),t4,t5]:=h1;rw[h1];walk_at "den";rw[sr];walk_at "den";rfl
theorem x0l(hx:∀x∈xs,okN x=true)(hd:xs.Nodup):okAll [] xs=true:=(x2x [] xs (by simp)).mpr ⟨hx,by simpa using hd⟩
theorem y3i{L:Nat}{ps:List (Nat×List Nat)}(h:flt xs L ps=none):flt0 xs ps true 0=.inr (false,0):=by
 unfold flt at h;split at h
 ·cases h
 ·rename_i aw br q;rw[q];split at h
  ·cases h
  ·rename_i z
   have:aw=false/\br=0:=by
    cases aw with
    |true=>exact absurd (.inl rfl) z
    |false=>exact⟨rfl,by
      by_cases hb:0<br
      ·exact absurd (.inr hb) z
      ·omega⟩
   rw[this.1,this.2]
theorem y7z(n:Nat)(cs:List Nat)(hcs:cs.length<=100000)(xs:List Str)(hx:∀x∈xs,okN x=true)(hd:xs.Nodup)(hl:xs.length<1000)(h:flt xs cs.length (pieces cs)=none):∃w,settleF 1 (foldF xs (pieces cs)).1 (foldF xs (pieces cs)).2=([],[w])/\run K a (n+4) q5v [.str (tx cs),.tup (xs.map .str)]=.ok (.fr w):=by
 have hp:=x6w cs.length cs 0;obtain⟨w,h1,h2⟩:=y7y (K:=K) (a:=a) (n+1) (pieces cs) xs hx (by show(pcs cs.length cs 0).length<=_;omega) (y3i h);refine⟨w,h1,?_⟩;rw[x4t];unfold q8w;walk_at "den";rw[(x6u n xs (fun x h=>x10 (hx x h)) hl).1 (x0l hx hd)]
 walk_at "den";rw[x79 n cs hcs];walk_at "den";rw[lenB hcs];walk_at "den";rw[z18 (n+1) (pieces cs) cs.length xs hx,h];unfold encO;walk_at "den";rw[h2];walk_at "den"
theorem z2a(x:Str):x=tx x.cps.toList:=(q7j x).symm
theorem y3j(x y:Str):(x++y).cps.toList=x.cps.toList++y.cps.toList:=by
 conv=>lhs;rw[<- q7j x,<- q7j y,x1b,q33]
theorem q4o(hn:∀x∈ns,x.length<=8):∀f:Fm,(txt ns f).length<=12*f.size
 |.is b=>by cases b<;>simp only[txt,Fm.size]<;>decide +kernel
 |.at p=>by
  simp only[txt,Fm.size]
  by_cases h:p<ns.length
  ·have:=hn (ns.getD p "") (by rw[w0y,w0b h];exact w1a h);omega
  ·rw[w0y,w1o (by omega)];decide +kernel
 |.not f=>by
  have h:=q4o hn f;have q:=q1t (decide (lvl f<3)) (txt ns f);have e:(Str.ofString "not ").length=4:=by decide +kernel
  simp only[txt,Fm.size,q34];omega
 |.and f g=>by
  have h1:=q4o hn f;have h2:=q4o hn g;have q1:=q1t (decide (lvl f<2)) (txt ns f);have q2:=q1t (decide (lvl g<3)) (txt ns g);have e:(Str.ofString " ").length=1:=by decide +kernel
  have e1:(Str.ofString "and").length=3:=by decide +kernel
  simp only[txt,Fm.size,mid,q34];omega
 |.or f g=>by
  have h1:=q4o hn f;have h2:=q4o hn g;have q1:=q1t (decide (lvl f<0)) (txt ns f);have q2:=q1t (decide (lvl g<1)) (txt ns g);have e:(Str.ofString " ").length=1:=by decide +kernel
  have e1:(Str.ofString "or").length=2:=by decide +kernel
  simp only[txt,Fm.size,mid,q34];omega
 |.odd f g=>by
  have h1:=q4o hn f;have h2:=q4o hn g;have q1:=q1t (decide (lvl f<1)) (txt ns f);have q2:=q1t (decide (lvl g<2)) (txt ns g);have e:(Str.ofString " ").length=1:=by decide +kernel
  have e1:(Str.ofString "odd").length=3:=by decide +kernel
  simp only[txt,Fm.size,mid,q34];omega
theorem y02(r:Nat->List W->FR)(ms:List Int):compD dYes (q9k K a r) [] (ms.map .int)=some ((ms.map fun c=>c / 16*16+8+c%8).map .int):=by
 have:=q5n (d:=q9k K a r) (pe:=[]) (g:=fun w=>match w with|.int c=>.int (c / 16*16+8+c%8)|w=>w) (ms.map .int) fun w hw=>by
  obtain⟨c,_,rfl⟩:=w1i.mp hw;refine⟨[.fr (.int c)],?_⟩;unfold q9k;walk_at "den"
 rw[this,w1k,w1k];rfl
inductive Tk(ns:List Str):Nat->Fm->List Str->Nat->Prop
 |yn {l:Nat} (b:Bool):Tk ns l (.is b) [if b=true then("yes":Str)else("no":Str)] 0
 |plc {l p:Nat} (h:p<ns.length):Tk ns l (.at p) [ns.getD p ""] 0
 |not {l d:Nat} {f:Fm} {ts:List Str} (h:l<=3) (t:Tk ns 3 f ts d):Tk ns l (.not f) (("not":Str)::ts) d
 |and {l d e:Nat} {f g:Fm} {ts us:List Str} (h:l<=2) (t:Tk ns 2 f ts d) (u:Tk ns 3 g us e):Tk ns l (.and f g) (ts++("and":Str)::us) (max d e)
 |odd {l d e:Nat} {f g:Fm} {ts us:List Str} (h:l<=1) (t:Tk ns 1 f ts d) (u:Tk ns 2 g us e):Tk ns l (.odd f g) (ts++("odd":Str)::us) (max d e)
 |or {l d e:Nat} {f g:Fm} {ts us:List Str} (h:l<=0) (t:Tk ns 0 f ts d) (u:Tk ns 1 g us e):Tk ns l (.or f g) (ts++("or":Str)::us) (max d e)
 |par {l d:Nat} {f:Fm} {ts:List Str} (t:Tk ns 0 f ts d):Tk ns l f (("(":Str)::(ts++[(")":Str)])) (d+1)
def topOk(wt:List Str)(l:Nat):Prop:=∀t ts,wt=t::ts->tgt t<=l
theorem q5r{wt:List Str}{t:Nat}(h:topOk wt l)(hl:l<t)(fs:List W):settleF t wt fs=(wt,fs):=by
 cases wt with
 |nil=>rfl
 |cons w ws=>
  have:=h w ws rfl;unfold settleF;rw[if_neg (by omega)]
theorem x20:∀{ns:List Str}{p:Nat},ns.Nodup->(h:p<ns.length)->idxS ns[p] ns=some p
 |x::ns,0,_,h=>by
  simp[idxS]
 |x::ns,p+1,hd,h=>by
  have hp:p<ns.length:=by simpa using h
  have ih:=x20 (w2j.mp hd).2 hp;have hne:x≠ns[p]:=fun z=>(w2j.mp hd).1 (by rw[z];exact w1a hp)
  rw[List.getElem_cons_succ];unfold idxS;rw[if_neg (by first|exact hne|exact fun z=>hne z.symm),ih]
  rfl
theorem x0m(hx:∀x∈ns,okN x=true)(h:p<ns.length):ns.getD p ""∈ns/\¬ns.getD p ""="(" /\ ¬ns.getD p ""="not" /\ ¬ns.getD p ""=")" /\ ¬ns.getD p ""∈jw/\¬ns.getD p ""="yes" /\ ¬ns.getD p ""="no":=by
 have e:ns.getD p ""=ns[p]:=by rw[w0y,w0b h];rfl
 rw[e];have hm:=w1a h;have ok:=q2n (hx _ hm);have h6:ns[p]∉(["yes", "no", "not", "and", "odd", "or"]:List Str):=of_decide_eq_false ok.1;refine⟨hm,fun z=>?_,fun z=>h6 (by simp[z]),fun z=>?_,fun z=>h6 ?_,fun z=>h6 (by simp[z]),fun z=>h6 (by simp[z])⟩
 ·have:=ok.2.2.2;rw[z]at this;exact absurd (this 40 (by decide +kernel)) (by decide)
 ·have:=ok.2.2.2;rw[z]at this;exact absurd (this 41 (by decide +kernel)) (by decide)
 ·unfold jw at z;simp only[w0m,w1h,or_false]at z |-
  rcases z with z|z|z<;>simp[z]
theorem z2b(hx:∀x∈ns,okN x=true)(hd:ns.Nodup)(h:p<ns.length):plF ns (ns.getD p "")=enc (.at p):=by
 obtain⟨_,_,_,_,_,h1,h2⟩:=x0m hx h;unfold plF;rw[if_neg h1,if_neg h2];have e:ns.getD p ""=ns[p]:=by rw[w0y,w0b h];rfl
 rw[e,x20 hd h];rfl
theorem y03(xs:List Str)(st:List Str×List W):stepF xs st "("=(("(":Str)::st.1,st.2):=by
 unfold stepF;rw[if_pos (.inl rfl)]
theorem y3k(xs:List Str)(st:List Str×List W):stepF xs st "not"=(("not":Str)::st.1,st.2):=by
 unfold stepF;rw[if_pos (.inr rfl)]
theorem x8c(xs:List Str)(st:List Str×List W):stepF xs st ")"=((settleF 1 st.1 st.2).1.tail,(settleF 1 st.1 st.2).2):=by
 unfold stepF;rw[if_neg (by decide +kernel),if_pos rfl]
theorem y3l(xs:List Str)(st:List Str×List W):stepF xs st "and"=(("and":Str)::(settleF 3 st.1 st.2).1,(settleF 3 st.1 st.2).2):=by
 unfold stepF;rw[if_neg (by decide +kernel),if_neg (by decide +kernel),if_pos (by decide +kernel),show tgt "and"=3 by decide +kernel]
theorem y3m(xs:List Str)(st:List Str×List W):stepF xs st "odd"=(("odd":Str)::(settleF 2 st.1 st.2).1,(settleF 2 st.1 st.2).2):=by
 unfold stepF;rw[if_neg (by decide +kernel),if_neg (by decide +kernel),if_pos (by decide +kernel),show tgt "odd"=2 by decide +kernel]
theorem y70(xs:List Str)(st:List Str×List W):stepF xs st "or"=(("or":Str)::(settleF 1 st.1 st.2).1,(settleF 1 st.1 st.2).2):=by
 unfold stepF;rw[if_neg (by decide +kernel),if_neg (by decide +kernel),if_pos (by decide +kernel),show tgt "or"=1 by decide +kernel]
theorem x8d{t:Nat}(h:t<=4)(wt:List Str)(f:W)(fs:List W):settleF t (("not":Str)::wt) (f::fs)=settleF t wt (.tup [.str "not", f]::fs):=by
 rw[settleF,if_pos (by rw[show tgt "not"=4 by decide +kernel];exact h),if_pos rfl]
theorem q76{t k:Nat}{w:Str}(hk:tgt w=k)(hn:w≠"not")(h:t<=k)(wt:List Str)(f g:W)(fs:List W):settleF t (w::wt) (g::f::fs)=settleF t wt (.tup [.str w,f,g]::fs):=by
 rw[settleF,if_pos (by omega),if_neg hn]
theorem q77{w:Str}{wt:List Str}{k:Nat}(hk:tgt w=k)(h:k<=l):topOk (w::wt) l:=fun t ts z=>by
 cases z;omega
theorem Tk.parse(hx:∀x∈ns,okN x=true)(hd:ns.Nodup){f:Fm}(h:Tk ns l f ts d):l<=3->∀(wt:List Str)(fs:List W),(l<=2->topOk wt l)->∀t,t<=l+1 ->
  settleF t (ts.foldl (stepF ns) (wt,fs)).1 (ts.foldl (stepF ns) (wt,fs)).2=settleF t wt (enc f::fs):=by
 induction h with
 |yn b=>
  intro hl wt fs _ t _
  have:stepF ns (wt,fs) (if b=true then("yes":Str)else("no":Str))=(wt,enc (.is b)::fs):=by
   cases b
   ·unfold stepF;rw[if_neg (by decide +kernel),if_neg (by decide +kernel),if_neg (by decide +kernel)];rfl
   ·unfold stepF;rw[if_neg (by decide +kernel),if_neg (by decide +kernel),if_neg (by decide +kernel)];rfl
  rw[w1f,w4c,this]
 | @plc l p h=>
  intro hl wt fs _ t _;obtain⟨_,h1,h2,h3,h4,_,_⟩:=x0m hx h
  have:stepF ns (wt,fs) (ns.getD p "")=(wt,enc (.at p)::fs):=by
   unfold stepF;rw[if_neg (not_or.mpr ⟨h1,h2⟩),if_neg h3,if_neg h4,z2b hx hd h]
  rw[w1f,w4c,this]
 |not h t ih=>
  intro hl wt fs _ s hs;rw[w1f,y3k,ih (w0e _) _ _ (fun z=>by omega) s (by omega),x8d (by omega)]
  rfl
 |and h t u ih1 ih2=>
  intro hl wt fs hw s hs;rw[w2z,w1f,y3l];rw[ih1 (by omega) wt fs (fun _=>fun a b z=>w0o (hw (by omega) a b z) h) 3 (by omega),q5r (hw (by omega)) (by omega)]
  rw[ih2 (by omega) _ _ (fun z=>by omega) s (by omega),q76 (by decide +kernel) (by decide +kernel) (show s<=3 by omega)]
  rfl
 |odd h t u ih1 ih2=>
  intro hl wt fs hw s hs;rw[w2z,w1f,y3m];rw[ih1 (by omega) wt fs (fun _=>fun a b z=>w0o (hw (by omega) a b z) h) 2 (by omega),q5r (hw (by omega)) (by omega)]
  rw[ih2 (by omega) _ _ (fun z=>q77 (k:=2) (by decide +kernel) (by omega)) s (by omega),q76 (by decide +kernel) (by decide +kernel) (show s<=2 by omega)]
  rfl
 |or h t u ih1 ih2=>
  intro hl wt fs hw s hs;rw[w2z,w1f,y70];rw[ih1 (by omega) wt fs (fun _=>fun a b z=>w0o (hw (by omega) a b z) h) 1 (by omega),q5r (hw (by omega)) (by omega)]
  rw[ih2 (by omega) _ _ (fun z=>q77 (k:=1) (by decide +kernel) (by omega)) s (by omega),q76 (by decide +kernel) (by decide +kernel) (show s<=1 by omega)]
  rfl
 |par t ih=>
  intro hl wt fs hw s hs;rw[w1f,y03,w2z,w1f,w4c,x8c];have tp:topOk (("(":Str)::wt) 0:=q77 (k:=0) (by decide +kernel) (w0e _);rw[ih (by omega) _ _ (fun _=>tp) 1 (by omega),q5r tp (by omega)]
  rfl
theorem Tk.whole(hx:∀x∈ns,okN x=true)(hd:ns.Nodup){f:Fm}(h:Tk ns 0 f ts d):settleF 1 (ts.foldl (stepF ns) ([],[])).1 (ts.foldl (stepF ns) ([],[])).2=([],[enc f]):=
 h.parse hx hd (by omega) [] [] (fun _ a b z=>by cases z) 1 (by omega)
theorem Tk.fine(hx:∀x∈ns,okN x=true){f:Fm}(h:Tk ns l f ts d):∀(ps rest:List (Nat×List Nat))(br:Nat),ps.map (fun p=>tx p.2)=ts->br+d<=12->flt0 ns (ps++rest) true br=flt0 ns rest false br:=by
 induction h with
 |yn b=>
  intro ps rest br e hb;obtain⟨⟨k,p⟩,rfl,e'⟩:=w2p.mp e
  ·have e:tx p=if b=true then("yes":Str)else("no":Str):=e';show flt0 ns ((k,p)::rest) true br=_;rw[flt0,if_neg (fun z=>by rw[e]at z;cases b<;>exact absurd z.1 (by decide +kernel)),if_pos (.inr (by cases b;exact .inr e;exact .inl e))]
 | @plc l p h=>
  intro ps rest br e hb;obtain⟨⟨k,q⟩,rfl,e'⟩:=w2p.mp e
  ·have e:tx q=ns.getD p "":=e';obtain⟨h0,h1,_⟩:=x0m hx h;show flt0 ns ((k,q)::rest) true br=_;rw[flt0,if_neg (fun z=>h1 (by rw[<- e];exact z.1)),if_pos (.inl (by rw[e];exact h0))]
 |not h t ih=>
  intro ps rest br e hb;obtain⟨⟨k,q⟩,ps,rfl,e1,e2⟩:=w1y.mp e
  ·have e1:tx q="not":=e1;rw[w1e,flt0,if_neg (fun z=>by rw[e1]at z;exact absurd z.1 (by decide +kernel))]
   by_cases hm:tx q∈ns\/tx q="yes"\/tx q="no"
   ·exfalso;rw[e1]at hm;rcases hm with hm|hm|hm
    ·exact absurd (q2n (hx _ hm)).1 (by decide +kernel)
    ·exact absurd hm (by decide +kernel)
    ·exact absurd hm (by decide +kernel)
   ·rw[if_neg hm,if_pos e1];exact ih ps rest br e2 hb
 | @and l d e f g ts us h t u ih1 ih2=>
  intro ps rest br eq hb;obtain⟨p1,p2,rfl,e1,e2⟩:=w2g.mp eq;obtain⟨⟨k,q⟩,p2,rfl,eq1,e2⟩:=w1y.mp e2
  ·have eq1:tx q="and":=eq1;rw[w1b,ih1 p1 _ br e1 (by omega),w1e,flt0,if_neg (fun z=>by rw[eq1]at z;exact absurd z.1 (by decide +kernel)),if_pos (by rw[eq1];decide +kernel)]
   exact ih2 p2 rest br e2 (by omega)
 | @odd l d e f g ts us h t u ih1 ih2=>
  intro ps rest br eq hb;obtain⟨p1,p2,rfl,e1,e2⟩:=w2g.mp eq;obtain⟨⟨k,q⟩,p2,rfl,eq1,e2⟩:=w1y.mp e2
  ·have eq1:tx q="odd":=eq1;rw[w1b,ih1 p1 _ br e1 (by omega),w1e,flt0,if_neg (fun z=>by rw[eq1]at z;exact absurd z.1 (by decide +kernel)),if_pos (by rw[eq1];decide +kernel)]
   exact ih2 p2 rest br e2 (by omega)
 | @or l d e f g ts us h t u ih1 ih2=>
  intro ps rest br eq hb;obtain⟨p1,p2,rfl,e1,e2⟩:=w2g.mp eq;obtain⟨⟨k,q⟩,p2,rfl,eq1,e2⟩:=w1y.mp e2
  ·have eq1:tx q="or":=eq1;rw[w1b,ih1 p1 _ br e1 (by omega),w1e,flt0,if_neg (fun z=>by rw[eq1]at z;exact absurd z.1 (by decide +kernel)),if_pos (by rw[eq1];decide +kernel)]
   exact ih2 p2 rest br e2 (by omega)
 |par t ih=>
  intro ps rest br eq hb;obtain⟨⟨k,q⟩,ps,rfl,eq1,eq2⟩:=w1y.mp eq
  ·obtain⟨p1,p2,rfl,e1,e2⟩:=w2g.mp eq2;obtain⟨⟨j,r⟩,rfl,e2'⟩:=w2p.mp e2
   ·have e2:tx r=")":=e2';rw[w1e,flt0,if_pos ⟨eq1,by omega⟩,w1b,ih p1 _ (br+1) e1 (by omega)];show flt0 ns ((j,r)::rest) false (br+1)=_;rw[flt0,if_pos ⟨e2,by omega⟩];rfl
noncomputable def lexF:Nat->Nat->List Nat->List (Nat×List Nat)
 |0,_,_=>[]
 |_+1,_,[]=>[]
 |f+1,k,c::cs=>(if c=32 then[]else[(k,(c::cs).take (stp (c::cs)))])++lexF f (k+stp (c::cs)) ((c::cs).drop (stp (c::cs)))
theorem x6y:∀(f:Nat)(cs:List Nat)(k:Nat),pcs f cs k=lexF f k (cs.drop k)
 |0,_,_=>rfl
 |f+1,cs,k=>by
  unfold pcs
  by_cases h:k<cs.length
  ·rw[if_pos h,w1n h,lexF,x6y f,<- w1n h,List.drop_drop];have e:(cs[k]?=some 32)=(cs[k]=32):=by rw[w0b h];simp
   simp only[e]
  ·rw[if_neg h,w3p (by omega)];cases f<;>rfl
theorem y71(cs:List Nat):1<=stp cs:=Nat.le_max_left _ _
theorem x21:∀(f g k:Nat)(cs:List Nat),cs.length<=f->cs.length<=g->lexF f k cs=lexF g k cs
 |0,g,k,cs,hf,_=>by
  obtain rfl:cs=[]:=w2f (by omega);cases g<;>rfl
 |f+1,0,k,cs,_,hg=>by
  obtain rfl:cs=[]:=w2f (by omega);rfl
 |f+1,g+1,k,[],_,_=>rfl
 |f+1,g+1,k,c::cs,hf,hg=>by
  have:=y71 (c::cs);rw[lexF,lexF,x21 f g _ _ (by rw[w1t];omega) (by rw[w1t];omega)]
noncomputable def lex(k:Nat)(cs:List Nat):List (Nat×List Nat):=lexF cs.length k cs
theorem x8e(cs:List Nat):pieces cs=lex 0 cs:=by
 unfold pieces lex;rw[x6y,List.drop_zero]
theorem y72(k:Nat):lex k []=[]:=rfl
theorem x6z(h:isL c=false):stp (c::cs)=1:=by
 unfold stp upto;rw[w3e,h];rfl
theorem q9c(k:Nat)(r:List Nat):lex k (32::r)=lex (k+1) r:=by
 unfold lex;rw[w0j,lexF,if_pos rfl,w2w,x6z (by decide)];rfl
theorem x5i(k:Nat)(r:List Nat)(h:isL c=false)(hb:c≠32):lex k (c::r)=(k,[c])::lex (k+1) r:=by
 unfold lex;rw[w0j,lexF,if_neg hb,x6z h];rfl
def Bd(r:List Nat):Prop:=∀c cs,r=c::cs->isL c=false
theorem y04(hl:∀c∈w,isL c=true)(hr:Bd r):upto (w++r)=w.length:=by
 unfold upto;rw[List.takeWhile_append_of_pos hl,w0k];cases r with
 |nil=>rfl
 |cons c cs=>rw[w3e,hr c cs rfl];rfl
theorem x0n(k:Nat)(hw:w≠[])(hl:∀c∈w,isL c=true)(hr:Bd r):lex k (w++r)=(k,w)::lex (k+w.length) r:=by
 cases w with
 |nil=>exact absurd rfl hw
 |cons c w=>
  have hs:stp (c::w++r)=(c::w).length:=by
   unfold stp;rw[y04 hl hr];simp
  have hc:c≠32:=fun z=>by
   have:=hl c (by simp);rw[z]at this;exact absurd this (by decide)
  show lexF (c::w++r).length k (c::(w++r))=_;rw[w1e,w0j,lexF,if_neg hc];rw[<- w1e,hs,List.take_left' rfl,List.drop_left' rfl];rw[w3y];unfold lex;rw[x21 _ _ _ _ (by rw[w0k];omega) (w0e _)]
def LexTo(cs:List Nat)(ts:List Str):Prop:=∀(k:Nat)(r:List Nat),Bd r->∃ps,ps.map (fun p=>tx p.2)=ts/\lex k (cs++r)=ps++lex (k+cs.length) r
theorem LexTo.word(hw:w≠[])(hl:∀c∈w,isL c=true):LexTo w [tx w]:=fun k r hr=>⟨[(k,w)],rfl,x0n k hw hl hr⟩
theorem q9m(h:isL c=false):Bd (c::r):=fun d ds z=>by cases z;exact h
theorem LexTo.mid{x y:List Nat}{us:List Str}(hx:LexTo x ts)(hy:LexTo y us)(hw:w≠[])(hl:∀c∈w,isL c=true):LexTo (x++(32::(w++(32::y)))) (ts++tx w::us):=fun k r hr=>by
 obtain⟨p1,a1,a2⟩:=hx k (32::(w++(32::(y++r)))) (q9m (by decide));obtain⟨p2,b1,b2⟩:=hy (k+x.length+1+w.length+1) r hr;refine⟨p1++(k+x.length+1,w)::p2,by rw[w0q,w0n,a1,b1],?_⟩;have e:x++(32::(w++(32::y)))++r=x++(32::(w++(32::(y++r)))):=by simp
 rw[e,a2,q9c,x0n _ hw hl (q9m (by decide)),q9c,b2];simp only[w1b,w1e,w0k,w0j];congr 4;omega
theorem LexTo.not{x:List Nat}{w:List Nat}(hx:LexTo x ts)(hw:w≠[])(hl:∀c∈w,isL c=true):LexTo (w++(32::x)) (tx w::ts):=fun k r hr=>by
 obtain⟨p1,a1,a2⟩:=hx (k+w.length+1) r hr;refine⟨(k,w)::p1,by rw[w0n,a1],?_⟩;have e:w++(32::x)++r=w++(32::(x++r)):=by simp
 rw[e,x0n _ hw hl (q9m (by decide)),q9c,a2];simp only[w1e,w0k,w0j];congr 3;omega
theorem LexTo.par{x:List Nat}(hx:LexTo x ts):LexTo (40::(x++[41])) (tx [40]::(ts++[tx [41]])):=fun k r hr=>by
 obtain⟨p1,a1,a2⟩:=hx (k+1) (41::r) (q9m (by decide));refine⟨(k,[40])::(p1++[(k+1+x.length,[41])]),by rw[w0n,w0q,a1];rfl,?_⟩;have e:40::(x++[41])++r=40::(x++(41::r)):=by simp
 rw[e,x5i _ _ (by decide) (by decide),a2,x5i _ _ (by decide) (by decide)];simp only[w1e,w1b,w2w,w0k,w0j,w2l];congr 4;omega
noncomputable def brS(c:Nat):Int:=(if c=40 then 1 else 0)-(if c=41 then 1 else 0)
noncomputable def moS:List Nat->Int->Int->Int
 |[],_,most=>most
 |c::cs,now,most=>moS cs (now+brS c) (max most (now+brS c))
def MoTo(cs:List Nat)(d:Nat):Prop:=∀(now most:Int)(r:List Nat),now<=most->moS (cs++r) now most=moS r now (max most (now+d))
theorem q9n(h:brS c=0)(r:List Nat){now most:Int}(hn:now<=most):moS (c::r) now most=moS r now most:=by
 rw[moS,h,Int.add_zero,Int.max_eq_left hn]
theorem x8f(h:isL c=true):brS c=0:=by
 unfold isL at h;rw[<- w3x,decide_eq_true_eq]at h;unfold brS;rw[if_neg (by omega),if_neg (by omega)];rfl
theorem q9o:∀{w:List Nat},(∀c∈w,isL c=true)->∀(r:List Nat){now most:Int},now<=most->moS (w++r) now most=moS r now most
 |[],_,r,now,most,_=>rfl
 |c::w,h,r,now,most,hn=>by
  rw[w1e,q9n (x8f (h c (by simp))) _ hn,q9o (fun d hd=>h d (by simp[hd])) r hn]
theorem MoTo.word(hl:∀c∈w,isL c=true):MoTo w 0:=fun now most r hn=>by
 rw[q9o hl r hn,Int.max_eq_left (by omega)]
theorem MoTo.mid{x y:List Nat}{e:Nat}(hx:MoTo x d)(hy:MoTo y e)(hl:∀c∈w,isL c=true):MoTo (x++(32::(w++(32::y)))) (max d e):=fun now most r hn=>by
 have eq:x++(32::(w++(32::y)))++r=x++(32::(w++(32::(y++r)))):=by simp
 rw[eq,hx now most _ hn,q9n (by decide) _ (by omega),q9o hl _ (by omega),q9n (by decide) _ (by omega),hy now _ r (by omega)];congr 1;omega
theorem MoTo.not{x w:List Nat}(hx:MoTo x d)(hl:∀c∈w,isL c=true):MoTo (w++(32::x)) d:=fun now most r hn=>by
 have eq:w++(32::x)++r=w++(32::(x++r)):=by simp
 rw[eq,q9o hl _ hn,q9n (by decide) _ hn,hx now most r hn]
theorem MoTo.par{x:List Nat}(hx:MoTo x d):MoTo (40::(x++[41])) (d+1):=fun now most r hn=>by
 have eq:40::(x++[41])++r=40::(x++(41::r)):=by simp
 rw[eq,moS,show brS 40=1 by decide,hx (now+1) _ _ (by omega),moS,show brS 41=-1 by decide];congr 1<;>omega
noncomputable def chs(x:Str):List Nat:=x.cps.toList
theorem q47(x y:Str):chs (x++y)=chs x++chs y:=y3j x y
theorem x60(w x y:Str):chs (mid w x y)=chs x++(32::(chs w++(32::chs y))):=by
 unfold mid;rw[q47,q47,q47,q47,show chs (" ":Str)=[32] by decide +kernel];rfl
theorem x61(x:Str):chs (par true x)=40::(chs x++[41]):=by
 unfold par;rw[if_pos rfl,q47,q47,show chs ("(":Str)=[40] by decide +kernel,show chs (")":Str)=[41] by decide +kernel];rfl
def Told(ns:List Str)(l:Nat)(f:Fm)(x:Str):Prop:=∃ts d,Tk ns l f ts d/\LexTo (chs x) ts/\MoTo (chs x) d
theorem y3n{f:Fm}(h:Told ns 0 f x):Told ns l f (par true x):=by
 obtain⟨ts,d,h1,h2,h3⟩:=h;refine⟨_,_,.par h1,?_,?_⟩
 ·rw[x61];have:=h2.par;rw[show tx [40]=("(":Str) by decide +kernel,show tx [41]=(")":Str) by decide +kernel]at this;exact this
 ·rw[x61];exact h3.par
theorem q43{f:Fm}(h:∀l,l<=min (lvl f) 3->Told ns l f (txt ns f))(hl:l<=3):Told ns l f (brk ns l f):=by
 unfold brk
 by_cases g:lvl f<l
 ·rw[decide_eq_true g];exact y3n (h 0 (by omega))
 ·rw[decide_eq_false g];exact h l (by omega)
theorem q9d{f:Fm}{x:Str}(h:Tk ns l f [x] 0)(hx:chs x≠[])(hl:∀c∈chs x,isL c=true):Told ns l f x:=by
 refine⟨_,_,h,?_,.word hl⟩;have:=LexTo.word hx hl;rw[show tx (chs x)=x from q7j x]at this;exact this
theorem x0o{i j:Nat}{f g h:Fm}{w y:Str}(hw:chs w≠[])(hl:∀c∈chs w,isL c=true)(hf:Told ns i f x)(hg:Told ns j g y)(hh:∀{ts us:List Str}{d e:Nat},Tk ns i f ts d->Tk ns j g us e->Tk ns l h (ts++w::us) (max d e)):Told ns l h (mid w x y):=by
 obtain⟨ts,d,h1,h2,h3⟩:=hf;obtain⟨us,e,g1,g2,g3⟩:=hg;refine⟨_,_,hh h1 g1,?_,?_⟩
 ·rw[x60];have:=h2.mid g2 hw hl;rw[show tx (chs w)=w from q7j w]at this;exact this
 ·rw[x60];exact h3.mid g3 hl
theorem q27(hx:∀x∈ns,okN x=true):∀(f:Fm),f.inb ns.length->∀l,l<=min (lvl f) 3->Told ns l f (txt ns f)
 |.is true,_,l,_=>q9d (x:="yes") (.yn true) (by decide +kernel) (by decide +kernel)
 |.is false,_,l,_=>q9d (x:="no") (.yn false) (by decide +kernel) (by decide +kernel)
 |.at p,h,l,_=>by
  have h:p<ns.length:=h;have e:ns.getD p ""=ns[p]:=by rw[w0y,w0b h];rfl
  have ok:=q2n (hx _ (w1a h));refine q9d (x:=ns.getD p "") (.plc h) ?_ ?_
  ·rw[e];intro z;have:=x1a ns[p];rw[show ns[p].cps.toList=[]from z]at this;simp at this;omega
  ·rw[e];exact ok.2.2.2
 |.not f,h,l,hl=>by
  obtain⟨ts,d,h1,h2,h3⟩:=q43 (q27 hx f h) (l:=3) (w0e _);refine⟨_,_,.not (by omega) h1,?_,?_⟩
  ·show LexTo (chs ("not "++brk ns 3 f)) _;rw[q47,show chs ("not ":Str)=[110,111,116]++[32] by decide +kernel,w1b];have:=h2.not (w:=[110,111,116]) (by decide) (by decide);rw[show tx [110,111,116]=("not":Str) by decide +kernel]at this;exact this
  ·show MoTo (chs ("not "++brk ns 3 f)) _;rw[q47,show chs ("not ":Str)=[110,111,116]++[32] by decide +kernel,w1b];exact h3.not (by decide)
 |.and f g,h,l,hl=>x0o (by decide +kernel) (by decide +kernel) (q43 (q27 hx f h.1) (l:=2) (by omega)) (q43 (q27 hx g h.2) (l:=3) (by omega)) fun a b=>.and (by have:lvl (.and f g)=2:=rfl;omega) a b
 |.odd f g,h,l,hl=>x0o (by decide +kernel) (by decide +kernel) (q43 (q27 hx f h.1) (l:=1) (by omega)) (q43 (q27 hx g h.2) (l:=2) (by omega)) fun a b=>.odd (by have:lvl (.odd f g)=1:=rfl;omega) a b
 |.or f g,h,l,hl=>x0o (by decide +kernel) (by decide +kernel) (q43 (q27 hx f h.1) (l:=0) (by omega)) (q43 (q27 hx g h.2) (l:=1) (by omega)) fun a b=>.or (by have:lvl (.or f g)=0:=rfl;omega) a b
theorem z2c:Bd []:=fun c cs z=>by cases z
theorem q5s(h:LexTo cs ts):(pieces cs).map (fun p=>tx p.2)=ts:=by
 rw[x8e];obtain⟨ps,h1,h2⟩:=h 0 [] z2c;rw[w1s]at h2;rw[h2,y72,w1s];exact h1
theorem y3o(hx:∀x∈ns,okN x=true){f:Fm}{L:Nat}(h:Tk ns 0 f ts d)(hl:LexTo cs ts)(hd:d<=12):flt ns L (pieces cs)=none:=by
 have:=h.fine hx (pieces cs) [] 0 (q5s hl) (by omega);rw[w1s]at this;unfold flt;rw[this];rfl
theorem y3p(xs:List Str)(ps:List (Nat×List Nat)):foldF xs ps=(ps.map fun p=>tx p.2).foldl (stepF xs) ([],[]):=by
 unfold foldF;rw[List.foldl_map]
theorem y05(n:Nat)(cs:List Nat)(hcs:cs.length<=100000)(xs:List Str)(hx:∀x∈xs,okN x=true)(hd:xs.Nodup)(hl:xs.length<1000){f:Fm}(h:Tk xs 0 f ts d)(hL:LexTo cs ts)(hd2:d<=12):run K a (n+4) q5v [.str (tx cs),.tup (xs.map .str)]=.ok (.fr (enc f)):=by
 obtain⟨w,h1,h2⟩:=y7z (K:=K) (a:=a) n cs hcs xs hx hd hl (y3o hx h hL hd2);rw[y3p,q5s hL,h.whole hx hd]at h1;cases h1;exact h2
theorem q0q{f g:Fm}(h:enc f=enc g):head f=head g:=by
 have:=congrArg (fun w=>ixW w (.int 0)) h
 simp only[y39,Option.some.injEq,W.str.injEq]at this;exact this
theorem q48:∀{f g:Fm},enc f=enc g->f=g
 |.is b,.is c,h=>by simp only[enc,W.tup.injEq,List.cons.injEq,W.bl.injEq]at h;rw[h.2.1]
 |.at p,.at q,h=>by
  simp only[enc,W.tup.injEq,List.cons.injEq,W.int.injEq]at h;have:p=q:=by have:=h.2.1;omega
  rw[this]
 |.not f,.not g,h=>by
  simp only[enc,W.tup.injEq,List.cons.injEq]at h;rw[q48 h.2.1]
 |.and f g,.and f' g',h=>by
  simp only[enc,W.tup.injEq,List.cons.injEq]at h;rw[q48 h.2.1,q48 h.2.2.1]
 |.or f g,.or f' g',h=>by
  simp only[enc,W.tup.injEq,List.cons.injEq]at h;rw[q48 h.2.1,q48 h.2.2.1]
 |.odd f g,.odd f' g',h=>by
  simp only[enc,W.tup.injEq,List.cons.injEq]at h;rw[q48 h.2.1,q48 h.2.2.1]
 |.is _,.at _,h=>absurd (q0q h) (show("is":Str)≠"at" by decide +kernel)
 |.is _,.not _,h=>absurd (q0q h) (show("is":Str)≠"not" by decide +kernel)
 |.is _,.and _ _,h=>absurd (q0q h) (show("is":Str)≠"and" by decide +kernel)
 |.is _,.or _ _,h=>absurd (q0q h) (show("is":Str)≠"or" by decide +kernel)
 |.is _,.odd _ _,h=>absurd (q0q h) (show("is":Str)≠"odd" by decide +kernel)
 |.at _,.is _,h=>absurd (q0q h) (show("at":Str)≠"is" by decide +kernel)
 |.at _,.not _,h=>absurd (q0q h) (show("at":Str)≠"not" by decide +kernel)
 |.at _,.and _ _,h=>absurd (q0q h) (show("at":Str)≠"and" by decide +kernel)
 |.at _,.or _ _,h=>absurd (q0q h) (show("at":Str)≠"or" by decide +kernel)
 |.at _,.odd _ _,h=>absurd (q0q h) (show("at":Str)≠"odd" by decide +kernel)
 |.not _,.is _,h=>absurd (q0q h) (show("not":Str)≠"is" by decide +kernel)
 |.not _,.at _,h=>absurd (q0q h) (show("not":Str)≠"at" by decide +kernel)
 |.not _,.and _ _,h=>absurd (q0q h) (show("not":Str)≠"and" by decide +kernel)
 |.not _,.or _ _,h=>absurd (q0q h) (show("not":Str)≠"or" by decide +kernel)
 |.not _,.odd _ _,h=>absurd (q0q h) (show("not":Str)≠"odd" by decide +kernel)
 |.and _ _,.is _,h=>absurd (q0q h) (show("and":Str)≠"is" by decide +kernel)
 |.and _ _,.at _,h=>absurd (q0q h) (show("and":Str)≠"at" by decide +kernel)
 |.and _ _,.not _,h=>absurd (q0q h) (show("and":Str)≠"not" by decide +kernel)
 |.and _ _,.or _ _,h=>absurd (q0q h) (show("and":Str)≠"or" by decide +kernel)
 |.and _ _,.odd _ _,h=>absurd (q0q h) (show("and":Str)≠"odd" by decide +kernel)
 |.or _ _,.is _,h=>absurd (q0q h) (show("or":Str)≠"is" by decide +kernel)
 |.or _ _,.at _,h=>absurd (q0q h) (show("or":Str)≠"at" by decide +kernel)
 |.or _ _,.not _,h=>absurd (q0q h) (show("or":Str)≠"not" by decide +kernel)
 |.or _ _,.and _ _,h=>absurd (q0q h) (show("or":Str)≠"and" by decide +kernel)
 |.or _ _,.odd _ _,h=>absurd (q0q h) (show("or":Str)≠"odd" by decide +kernel)
 |.odd _ _,.is _,h=>absurd (q0q h) (show("odd":Str)≠"is" by decide +kernel)
 |.odd _ _,.at _,h=>absurd (q0q h) (show("odd":Str)≠"at" by decide +kernel)
 |.odd _ _,.not _,h=>absurd (q0q h) (show("odd":Str)≠"not" by decide +kernel)
 |.odd _ _,.and _ _,h=>absurd (q0q h) (show("odd":Str)≠"and" by decide +kernel)
 |.odd _ _,.or _ _,h=>absurd (q0q h) (show("odd":Str)≠"or" by decide +kernel)
theorem y73(hx:∀x∈ns,okN x=true)(hd:ns.Nodup){f g:Fm}(hf:f.inb ns.length)(hg:g.inb ns.length)(h:txt ns f=txt ns g):f=g:=by
 obtain⟨ts,d,h1,h2,_⟩:=q27 hx f hf 0 (by omega);obtain⟨us,e,g1,g2,_⟩:=q27 hx g hg 0 (by omega);have e1:=q5s h2;have e2:=q5s g2;rw[h]at e1;rw[e1]at e2;subst e2;have z:=h1.whole hx hd;rw[g1.whole hx hd]at z;injection z with _ z
 injection z with z _
 exact(q48 z).symm
theorem x22(r:Nat->List W->FR)(w:W):∀(cs:List Nat)(now most:Int)(s3:S),∃t2 t3,forD 3 (q22 K a r) (cs.map fun c=>W.str ⟨#[c]⟩) [.fr w,.fr (.int most),.fr (.int now),s3]=.nx [.fr w,.fr (.int (moS cs now most)),t2,t3]
 |[],now,most,s3=>⟨_,_,rfl⟩
 |c::cs,now,most,s3=>by
  obtain⟨t2,t3,ih⟩:=x22 r w cs (now+brS c) (max most (now+brS c)) (.fr (.str ⟨#[c]⟩));refine⟨t2,t3,?_⟩;rw[w0n,q6m];simp only[w1v,w1u]
  have e1:(Str.mk #[c]=("(":Str))=(c=40):=by
   rw[show("(":Str)=tx [40] by decide +kernel,eq_iff_iff];exact⟨fun z=>by simpa using q50 (show tx [c]=tx [40]from z),fun z=>by rw[z];rfl⟩
  have e2:(Str.mk #[c]=(")":Str))=(c=41):=by
   rw[show(")":Str)=tx [41] by decide +kernel,eq_iff_iff];exact⟨fun z=>by simpa using q50 (show tx [c]=tx [41]from z),fun z=>by rw[z];rfl⟩
  have step:q22 K a r [.fr w,.fr (.int most),.fr (.int now),.fr (.str ⟨#[c]⟩)]=.nx [.fr w,.fr (.int (max most (now+brS c))),.fr (.int (now+brS c)),.fr (.str ⟨#[c]⟩)]:=by
   unfold q22;walk_at "den";simp only[e1,e2]
   have hm:now+(if c=40 then 1 else 0)-(if c=41 then 1 else 0)=now+brS c:=by
    unfold brS;omega
   rw[hm];generalize brS c=b;rw[show(if now+b>most then now+b else most)=max most (now+b) by split<;>omega]
  rw[step,q6a,ih,moS]
theorem y3q(n:Nat)(cs:List Nat):run K a (n+1) q1q [.str (tx cs)]=.ok (.fr (.int (moS cs 0 0))):=by
 rw[q5z];unfold q2y;walk_at "den";unfold signsW;rw[q33];obtain⟨t2,t3,h⟩:=x22 (K:=K) (a:=a) (run K a n) (.str (tx cs)) cs 0 0 .no;rw[h];walk_at "den"
mutual
noncomputable def plW:W->Bool
 |.non=>true|.bl _=>true|.int _=>true|.str _=>true
 |.tup ws=>plWs ws
 |_=>false
noncomputable def plWs:List W->Bool
 |[]=>true
 |w::ws=>plW w&&plWs ws
end
mutual
theorem y3r:∀(x y:W),plW x=true->plW y=true->∃b,eqW x y=some b
 |.non,.non,_,_=>⟨_,rfl⟩|.non,.bl _,_,_=>⟨_,rfl⟩|.non,.int _,_,_=>⟨_,rfl⟩|.non,.str _,_,_=>⟨_,rfl⟩|.non,.tup _,_,_=>⟨_,rfl⟩
 |.bl _,.non,_,_=>⟨_,rfl⟩|.bl _,.bl _,_,_=>⟨_,rfl⟩|.bl _,.int _,_,_=>⟨_,rfl⟩|.bl _,.str _,_,_=>⟨_,rfl⟩|.bl _,.tup _,_,_=>⟨_,rfl⟩
 |.int _,.non,_,_=>⟨_,rfl⟩|.int _,.bl _,_,_=>⟨_,rfl⟩|.int _,.int _,_,_=>⟨_,rfl⟩|.int _,.str _,_,_=>⟨_,rfl⟩|.int _,.tup _,_,_=>⟨_,rfl⟩
 |.str _,.non,_,_=>⟨_,rfl⟩|.str _,.bl _,_,_=>⟨_,rfl⟩|.str _,.int _,_,_=>⟨_,rfl⟩|.str _,.str _,_,_=>⟨_,rfl⟩|.str _,.tup _,_,_=>⟨_,rfl⟩
 |.tup _,.non,_,_=>⟨_,rfl⟩|.tup _,.bl _,_,_=>⟨_,rfl⟩|.tup _,.int _,_,_=>⟨_,rfl⟩|.tup _,.str _,_,_=>⟨_,rfl⟩
 |.tup xs,.tup ys,h1,h2=>q9e xs ys h1 h2
theorem q9e:∀(xs ys:List W),plWs xs=true->plWs ys=true->∃b,eqWs xs ys=some b
 |[],[],_,_=>⟨_,rfl⟩
 |[],_::_,_,_=>⟨_,rfl⟩
 |_::_,[],_,_=>⟨_,rfl⟩
 |x::xs,y::ys,h1,h2=>by
  have h1:(plW x&&plWs xs)=true:=h1;have h2:(plW y&&plWs ys)=true:=h2;rw[w0g]at h1 h2;obtain⟨b,e⟩:=y3r x y h1.1 h2.1;obtain⟨c,e'⟩:=q9e xs ys h1.2 h2.2;refine⟨b&&c,?_⟩;rw[eqWs,e,e']
end
noncomputable def ftl:Fm->List W
 |.is b=>[.bl b]
 |.at p=>[.int p]
 |.not f=>[enc f]
 |.and f g=>[enc f,enc g]
 |.or f g=>[enc f,enc g]
 |.odd f g=>[enc f,enc g]
theorem y06(f:Fm):enc f=.tup (.str (head f)::ftl f):=by cases f<;>rfl
theorem q51:∀f:Fm,plW (enc f)=true
 |.is _=>rfl
 |.at _=>rfl
 |.not f=>by simp[enc,plW,plWs,q51 f]
 |.and f g=>by simp[enc,plW,plWs,q51 f,q51 g]
 |.or f g=>by simp[enc,plW,plWs,q51 f,q51 g]
 |.odd f g=>by simp[enc,plW,plWs,q51 f,q51 g]
theorem y4a(f:Fm):plWs (ftl f)=true:=by
 cases f<;>simp[ftl,plWs,plW,q51]
theorem q7l{f g:Fm}(h:head f≠head g):∃b,eqW (enc f) (enc g)=some b/\(b=true↔f=g):=by
 obtain⟨b,e⟩:=q9e (ftl f) (ftl g) (y4a f) (y4a g);refine⟨false,?_,by constructor;intro z;cases z;intro z;rw[z]at h;exact absurd rfl h⟩;rw[y06 f,y06 g,eqW,eqWs,e,eqW];have:(head f==head g)=false:=by rw[beq_eq_false_iff_ne];exact h
 rw[this];rfl
theorem z2d{f f':Fm}(h:eqW (enc f) (enc f')=some b)(w:Str):eqW (.tup [.str w,enc f]) (.tup [.str w,enc f'])=some b:=by
 simp[eqW,eqWs,h]
theorem x13{f f' g g':Fm}{c:Bool}(h:eqW (enc f) (enc f')=some b)(h':eqW (enc g) (enc g')=some c)(w:Str):eqW (.tup [.str w,enc f,enc g]) (.tup [.str w,enc f',enc g'])=some (b&&c):=by
 simp[eqW,eqWs,h,h']
theorem eqF:∀(f g:Fm),∃b,eqW (enc f) (enc g)=some b/\(b=true↔f=g)
 |.is b,g=>by
  cases g with
  |is c=>exact⟨b==c,by simp[enc,eqW,eqWs],by simp⟩
  |_=>exact q7l (by simp only[head];decide +kernel)
 |.at p,g=>by
  cases g with
  | «at» q=>
   refine⟨(p:Int)==(q:Int),by simp[enc,eqW,eqWs],?_⟩;simp;omega
  |_=>exact q7l (by simp only[head];decide +kernel)
 |.not f,g=>by
  cases g with
  |not f'=>
   obtain⟨b,h1,h2⟩:=eqF f f';exact⟨b,z2d h1 "not", by rw[h2];simp⟩
  |_=>exact q7l (by simp only[head];decide +kernel)
 |.and f1 f2,g=>by
  cases g with
  |and g1 g2=>
   obtain⟨b,h1,h2⟩:=eqF f1 g1;obtain⟨c,h3,h4⟩:=eqF f2 g2;exact⟨b&&c,x13 h1 h3 "and", by rw[w0g,h2,h4];simp⟩
  |_=>exact q7l (by simp only[head];decide +kernel)
 |.or f1 f2,g=>by
  cases g with
  |or g1 g2=>
   obtain⟨b,h1,h2⟩:=eqF f1 g1;obtain⟨c,h3,h4⟩:=eqF f2 g2;exact⟨b&&c,x13 h1 h3 "or", by rw[w0g,h2,h4];simp⟩
  |_=>exact q7l (by simp only[head];decide +kernel)
 |.odd f1 f2,g=>by
  cases g with
  |odd g1 g2=>
   obtain⟨b,h1,h2⟩:=eqF f1 g1;obtain⟨c,h3,h4⟩:=eqF f2 g2;exact⟨b&&c,x13 h1 h3 "odd", by rw[w0g,h2,h4];simp⟩
  |_=>exact q7l (by simp only[head];decide +kernel)
theorem eq2F(f g:Fm)(h:f.depth<=100):∃b,eq2 (enc f) (enc g)=some (.bl b)/\(b=true↔f=g):=by
 obtain⟨b,h1,h2⟩:=eqF f g;refine⟨b,?_,h2⟩;unfold eq2;rw[if_pos (w0o (q4m f) (by omega)),h1];rfl
theorem q4p:∀(f:Fm){fs:List Fm}{g:Fm}{s:Nat},f.put fs=some g->(∀x∈fs,x.size<=s)->1<=s->g.size<=f.size*s
 |.is b,fs,g,s,h,_,h1=>by cases h;simp only[Fm.size];omega
 |.at p,fs,g,s,h,hx,h1=>by
  have h:fs[p]?=some g:=h;obtain⟨k1,k2⟩:=w0a.mp h;have:=hx g (k2 ▸ w1a k1);simp only[Fm.size];omega
 |.not f,fs,g,s,h,hx,h1=>by
  obtain⟨f',k1,rfl⟩:=w0d.mp (show(f.put fs).map Fm.not=some g from h);have:=q4p f k1 hx h1;simp only[Fm.size,w4e];omega
 |.and f g,fs,x,s,h,hx,h1=>by
  obtain⟨f',k1,k2⟩:=w0s.mp (show(f.put fs).bind (fun f'=>(g.put fs).map fun g'=>Fm.and f' g')=some x from h)
  obtain⟨g',k3,rfl⟩:=w0d.mp k2;have:=q4p f k1 hx h1;have:=q4p g k3 hx h1;simp only[Fm.size,w4e];omega
 |.or f g,fs,x,s,h,hx,h1=>by
  obtain⟨f',k1,k2⟩:=w0s.mp (show(f.put fs).bind (fun f'=>(g.put fs).map fun g'=>Fm.or f' g')=some x from h)
  obtain⟨g',k3,rfl⟩:=w0d.mp k2;have:=q4p f k1 hx h1;have:=q4p g k3 hx h1;simp only[Fm.size,w4e];omega
 |.odd f g,fs,x,s,h,hx,h1=>by
  obtain⟨f',k1,k2⟩:=w0s.mp (show(f.put fs).bind (fun f'=>(g.put fs).map fun g'=>Fm.odd f' g')=some x from h)
  obtain⟨g',k3,rfl⟩:=w0d.mp k2;have:=q4p f k1 hx h1;have:=q4p g k3 hx h1;simp only[Fm.size,w4e];omega
theorem q3p:∀(f:Fm){m k:Nat},f.inb m->m<=k->f.inb k
 |.is _,_,_,_,_=>trivial
 |.at p,m,k,h,hk=>w0l (show p<m from h) hk
 |.not f,_,_,h,hk=>q3p f h hk
 |.and f g,_,_,h,hk=>⟨q3p f h.1 hk,q3p g h.2 hk⟩
 |.or f g,_,_,h,hk=>⟨q3p f h.1 hk,q3p g h.2 hk⟩
 |.odd f g,_,_,h,hk=>⟨q3p f h.1 hk,q3p g h.2 hk⟩
theorem y07(M:Exs K mg a)(hx:∀x∈xs,okN x=true)(hd:xs.Nodup)(hl:xs.length<=12)(hr:row.length=12){f:Fm}(hf:f.inb xs.length)(h1:f.depth<=60)(h2:f.size<=800):
  run K a 150 q02 [enc f,.tup (xs.map .str),.tup (row.map .bl)]=.ok (.fr (.bl true)):=by
 have xl:∀x∈xs,x.length<=8:=fun x h=>(q2n (hx x h)).2.2.1
 have sh:=x2y (K:=K) (a:=a) 145 (ns:=xs) (fun x h=>w0o (xl x h) (by decide)) (fun x h=>x10 (hx x h)) (by omega) f (by omega) h2
 rw[if_pos (x0l hx hd)]at sh;unfold textR at sh;rw[if_pos ((q4t _ f).mpr hf),z2a (txt xs f)]at sh;have tl:=q4o xl f;rw[<- x1a]at tl;have ht:=q27 hx f hf 0 (by omega);obtain⟨ts,d,t1,t2,t3⟩:=ht;have hm:=t3 0 0 [] (by omega);rw[w1s,moS]at hm;have hb:f.inb row.length:=q3p f hf (by omega);rw[q7e];unfold q4g;walk_at "den";rw[sh];walk_at "den";rw[q67 M.t_str_str];walk_at "den";rw[y3q 148,show(txt xs f).cps.toList=chs (txt xs f)from rfl,hm];walk_at "den"
 by_cases h12:d<=12
 ·have g:¬(max (0:Int) (0+(d:Int))>12):=by omega
  simp only[eq_false g];walk_at "den";rw[y05 145 (chs (txt xs f)) (by show(txt xs f).cps.toList.length<=_;omega) xs hx hd (by omega) t1 t2 h12];walk_at "den";rw[q4j M f 148 (by omega)];walk_at "den";rw[q3f f 148 (by omega) hb];walk_at "den";rw[q3e f 149 (by omega) hb];walk_at "den"
 ·have g:max (0:Int) (0+(d:Int))>12:=by omega
  simp only[eq_true g];walk_at "den"
theorem x14(ns:List Int)(lo hi:Option Int):∃ms:List Int,cutW (ns.map .int) lo hi=ms.map .int/\(∀c∈ms,c∈ns)/\ms.length=min (HT.sIx ns.length ns.length hi-HT.sIx ns.length 0 lo) (ns.length-HT.sIx ns.length 0 lo):=by
 unfold cutW;rw[<- List.map_drop,<- List.map_take,w0r];refine⟨_,rfl,fun c hc=>List.mem_of_mem_drop (w2o hc),?_⟩
 rw[w0u,w1t]
theorem x23(n:Nat)(ns:List Int)(m:Nat)(hl:ns.length<=900)(h16:∀c∈ns,c%16≠5):∃f:Fm,run K a (n+4) q1r [.lst (ns.map .int),.int m]=.ok (.fr (enc f))/\f.inb m/\f.depth<=max 1 ns.length/\f.size<=max 1 (2*ns.length):=by
 rw[q6q];unfold q3a;walk_at "den"
 have rest:∃f:Fm,(((forD 3 (q2x K a (run K a (n+3))) (ns.map W.int) [.fr (.lst (ns.map .int)),.fr (.int m),.own none [],.no,.no,.no]).seq
   (dSeq (dIfS (dTest (dOp eq2 (dFnV 2 len1) (dC (.int 0)))) (dRet (dTup (dCons (dC (.str "is")) (dCons (dC (.bl false)) dNil)))) dNx)
    (dSeq (whileD (q2w K a (run K a (n+3))) (q3o K a (run K a (n+3))) 1000000) (dRet (dIxV 2 (dC (.int 0))))))).fn)=.ok (.fr (enc f))/\f.inb m/\f.depth<=max 1 ns.length/\f.size<=max 1 (2*ns.length):=by
  have step:∀(j:Nat)(w:W)(e:List S),w∈ns.map W.int->(j<1000->∃(st:List Fm)(z1 z2 z3:S),e=[.fr (.lst (ns.map .int)),.fr (.int m),.own none (st.map enc),z1,z2,z3]/\Ok m st j j)->j<1000->∃e',q2x K a (run K a (n+3)) (e.set 3 (.fr w))=.nx e'/\∃(st:List Fm)(z1 z2 z3:S),e'=[.fr (.lst (ns.map .int)),.fr (.int m),.own none (st.map enc),z1,z2,z3]/\Ok m st (j+1) (j+1):=by
   intro j w e hw h hj;obtain⟨c,_,rfl⟩:=w1i.mp hw;exact x71 (n+1) _ m j c e hj (h hj)
  obtain⟨e',h1,st,z1,z2,z3,rfl,ok⟩:=x5b (i:=3) 1000 (fun k e=>∃(st:List Fm)(z1 z2 z3:S),e=[.fr (.lst (ns.map .int)),.fr (.int m),.own none (st.map enc),z1,z2,z3]/\Ok m st k k) (ns.map W.int) 0 [.fr (.lst (ns.map .int)),.fr (.int m),.own none [],.no,.no,.no] ⟨[],_,_,_,rfl,(fun f hf=>nomatch hf),w0e _,w0e _⟩ (by simp;omega) (fun j w e hj hw h=>step j w e hw (fun _=>h) hj)
  rw[h1];rw[w0r,w3i]at ok;walk_at "den"
  by_cases h0:st.length=0
  ·rw[if_pos (by rw[q3c];omega)];exact⟨.is false,rfl,trivial,by show 1<=_;omega,by show 1<=_;omega⟩
  ·rw[if_neg (by rw[q3c];omega)];obtain⟨f,y1,y2,y3,h2,h3,h4,h5⟩:=x5c (K:=K) (a:=a) (n+3) (.lst (ns.map .int)) m (st.length-1) st ns.length ns.length 1000000 z1 z2 z3 (by omega) (by have:=ok.len;omega) ok (by omega);rw[h2];walk_at "den";have:=ok.len;exact⟨f,rfl,h3,by omega,by omega⟩
 cases ns with
 |nil=>exact rest
 |cons c cs=>
  walk_at "den";rw[if_pos (by simp),if_neg (h16 c (by simp))];exact rest
theorem y74(w:W)(m:Nat)(h:m<=1000):repW (.lst [w]) (.int (m:Int))=some (.lst (List.replicate m w)):=by
 rw[x93,if_pos ⟨q62 (by omega) (by omega),by simp;omega⟩,w1q];congr 2
 induction m with
 |zero=>rfl
 |succ m ih=>rw[w0w,w1m,ih (by omega),w0w];rfl
theorem y3s(M:Exs K mg a)(ns:List Int)(hl:ns.length<=63):run K a 151 q6u [.lst (ns.map .int)]=.ok (.fr (.bl true)):=by
 obtain⟨c,hc⟩:∃c,ns.getD (Int.toNat 1) 0=c:=⟨_,rfl⟩;obtain⟨c2,hc2⟩:∃c,ns.getD (Int.toNat 2) 0=c:=⟨_,rfl⟩;obtain⟨c0,hc0⟩:∃c,ns.getD (Int.toNat 0) 0=c:=⟨_,rfl⟩;obtain⟨m,hm,hm2⟩:∃m:Nat,c0%13=(m:Int)/\m<=12:=⟨(c0%13).toNat,by omega,by omega⟩;obtain⟨ms,e1,_,e3⟩:=x14 ns (some 3) (some 27);rw[show(some (3:Int))=some ((3:Nat):Int)from rfl,show(some (27:Int))=some ((27:Nat):Int)from rfl,HT.sIx_nat,HT.sIx_nat]at e3;have eL:ms.length<=24:=by omega
 obtain⟨ks,hks⟩:∃ks,(ms.map fun c=>c / 16*16+8+c%8)=ks:=⟨_,rfl⟩
 have kl:ks.length=ms.length:=by rw[<- hks,w0r]
 have k16:∀c∈ks,c%16≠5:=fun c hc=>by
  rw[<- hks]at hc;obtain⟨d,_,rfl⟩:=w1i.mp hc;omega
 obtain⟨h,hh,hh2⟩:∃h:Nat,(ks.length:Int) / 2=(h:Int)/\h=ks.length / 2:=⟨ks.length / 2,by omega,rfl⟩;obtain⟨k1,a1,a2,a3⟩:=x14 ks none (some (h:Int));obtain⟨k2,b1,b2,b3⟩:=x14 ks (some (h:Int)) none;rw[HT.sIx_nat,HT.sIx_none]at a3 b3;obtain⟨f,f1,f2,f3,f4⟩:=x23 (K:=K) (a:=a) 146 k1 m (by omega) (fun c hc=>k16 c (a2 c hc))
 obtain⟨g0,g1,g2,g3,g4⟩:=x23 (K:=K) (a:=a) 146 k2 m (by omega) (fun c hc=>k16 c (b2 c hc))
 obtain⟨g,gg,q2,q3,q4⟩:∃g:Fm,(if c0 / 13%4=1 then f else g0)=g/\g.inb m/\g.depth<=24/\g.size<=24:=by
  refine⟨_,rfl,?_⟩;split
  ·exact⟨f2,by omega,by omega⟩
  ·exact⟨g2,by omega,by omega⟩
 obtain⟨xs,x1,x2,x3,x4⟩:=y0t (K:=K) (a:=a) 148 c m (by omega);obtain⟨row,r1,r2⟩:=y7j (K:=K) (a:=a) 148 c2 12 (by decide) (by decide);have r2:row.length=12:=r2;have fin:f.inb xs.length:=by rw[x2];exact f2
 have gin:g.inb xs.length:=by rw[x2];exact q2
 have xl:∀x∈xs,x.length<=8:=fun x h=>(q2n (x3 x h)).2.2.1
 have sh:∀f:Fm,f.inb xs.length->f.depth<=60->f.size<=800->run K a 150 q2z [enc f,.tup (xs.map .str)]=.ok (.fr (.str (txt xs f))):=fun f hf h1 h2=>by
  have sh:=x2y (K:=K) (a:=a) 146 (ns:=xs) (fun x h=>w0o (xl x h) (by decide)) (fun x h=>x10 (x3 x h)) (by omega) f (by omega) h2
  rw[if_pos (x0l x3 x4)]at sh;unfold textR at sh;rw[if_pos ((q4t _ f).mpr hf)]at sh;exact sh
 have rr:∀f:Fm,f.inb xs.length->f.depth<=60->f.size<=800->run K a 150 q02 [enc f,.tup (xs.map .str),.tup (row.map .bl)]=.ok (.fr (.bl true)):=fun f hf h1 h2=>y07 M x3 x4 (by omega) r2 hf h1 h2
 obtain⟨p,p1⟩:=q4k f (fs:=List.replicate m g) (by rw[w2k];exact f2);obtain⟨_,_,p3,p4⟩:=q4l f p1;have pin:p.inb xs.length:=p3 xs.length fun x hx=>by rw[w2s hx];exact gin
 have pdp:p.depth<=60:=by
  have:=p4 24 fun x hx=>by rw[w2s hx];exact q3
  omega
 have psz:p.size<=800:=by
  have:=q4p f p1 (s:=24) (fun x hx=>by rw[w2s hx];exact q4) (by omega)
  have:f.size*24<=24*24:=Nat.mul_le_mul_right _ (by omega);omega
 have pr:=q45 (K:=K) (a:=a) f 149 (t:=false) (fs:=List.replicate m g) (by omega) (q3p f f2 (by omega));rw[p1]at pr
 have pr:run K a 150 q1o [enc f,.lst (List.replicate m (enc g))]=.ok (.fr (enc p)):=by
  rw[List.map_replicate]at pr;exact pr
 obtain⟨b,eb1,eb2⟩:=eq2F f g (by omega)
 have eqt:decide (txt xs f=txt xs g)=b:=by
  rw[w2a,decide_eq_true_eq,eb2];exact⟨fun z=>y73 x3 x4 fin gin z,fun z=>by rw[z]⟩
 rw[x6m];unfold x01;walk_at "den";rw[q70 149 ns (by decide),hc0];walk_at "den";rw[hm,e1,if_pos (by simp;omega),y02,hks];walk_at "den";rw[show((ks.map W.int).length:Int)=(ks.length:Int) by simp,hh];rw[a1,f1];walk_at "den";rw[show((ks.map W.int).length:Int)=(ks.length:Int) by simp,hh];rw[b1,g1];walk_at "den";rw[q70 149 ns (by decide),hc0];walk_at "den"
 have tl:∀s2:S,((dSeq (dSet 5 (dCall (run K a 150 q2e) (dCons (dCall (run K a 150 q0v) (dCons (dVar 0) (dCons (dC (.int 1)) dNil))) (dCons (dVar 1) dNil))))
  (dSeq (dSet 6 (dCall (run K a 150 q21) (dCons (dCall (run K a 150 q0v) (dCons (dVar 0) (dCons (dC (.int 2)) dNil))) (dCons (dC (.int 12)) dNil))))
  (dSeq (dIfS (dOr (dNot (dTru (dCall (run K a 150 q02) (dCons (dVar 3) (dCons (dVar 5) (dCons (dVar 6) dNil)))))) (dNot (dTru (dCall (run K a 150 q02) (dCons (dVar 4) (dCons (dVar 5) (dCons (dVar 6) dNil)))))))
  (dRet (dC (.bl false)))
  dNx)
  (dSeq (dIfS (dTest (dOp ne2 (dOp eq2 (dCall (run K a 150 q2z) (dCons (dVar 3) (dCons (dVar 5) dNil))) (dCall (run K a 150 q2z) (dCons (dVar 4) (dCons (dVar 5) dNil)))) (dOp eq2 (dVar 3) (dVar 4))))
  (dRet (dC (.bl false)))
  dNx)
  (dRet (dCall (run K a 150 q02) (dCons (dCall (run K a 150 q1o) (dCons (dVar 3) (dCons (dOp repW (dFz (dLst (dCons (dVar 4) dNil))) (dVar 1)) dNil))) (dCons (dVar 5) (dCons (dVar 6) dNil)))))))))
  [.fr (.lst (ns.map .int)),.fr (.int m),s2,.fr (enc f),.fr (enc g),.no,.no]).fn=.ok (.fr (.bl true)):=fun s2=>by
  walk_at "den";rw[q70 149 ns (by decide),hc];walk_at "den";rw[x1];walk_at "den";rw[q70 149 ns (by decide),hc2];walk_at "den";rw[r1];walk_at "den";rw[rr f fin (by omega) (by omega)];walk_at "den";rw[rr g gin (by omega) (by omega)];walk_at "den";rw[sh f fin (by omega) (by omega)];walk_at "den";rw[sh g gin (by omega) (by omega)];walk_at "den";rw[eb1];walk_at "den";rw[eqt];have nb:(!decide (b=b))=false:=by simp
  simp only[nb];walk_at "den";rw[y74 (enc g) m (by omega)];walk_at "den";rw[pr];walk_at "den";rw[rr p pin pdp psz];walk_at "den"
 by_cases h4:c0 / 13%4=1
 ·rw[if_pos h4]at gg;subst gg;simp only[eq_true h4];have:=tl (.fr (.lst (ks.map .int)));revert this;walk_at "den";exact id
 ·rw[if_neg h4]at gg;subst gg;simp only[eq_false h4];have:=tl (.fr (.lst (ks.map .int)));revert this;walk_at "den";exact id
theorem walk{l:PySem.W.OpenLaw}{q:Program}{loose:List Str}{XP:(Str->Option Value)->Heap->Prop}{YP:World->Heap->Prop}{d:DefRec}{K:Params->PySem.W.Frag}(hn:l.most=some 63)(hdf:d.params.defaults=[])
  (hY:∀(w:World)(h:Heap),YP w h->(K w.params).In h)
  (F:∀(w:World)(mg:Str->Option Value)(fa:Addr)(h:Heap),(K w.params).In h->h.Ns mainGlobals mg->mg d.name=some (.ref fa) ->
   ∃fd:FuncData,(∀(s:Shared)(u:Value),BindsTo s fd ⟨[u],[]⟩ [("_law_script", u)])/\∀base:Heap,(K w.params).In base->base.Ns mainGlobals mg->FnOk l.prog w (K w.params) mg base (CX1 l.prog w) 151 fa fd ["_law_script"] (spLaw (K w.params)))(hNM:∀w:World,noMark (K w.params)=true):
  PySem.W.WalkO q loose XP YP l.row.toRowW d [] (fun f vs=>PySem.call f vs):=
 L2.x58 (n:=63) (k:=151) (x:="_law_script") (CX:=fun w=>CX1 l.prog w) (sp:=fun w=>spLaw (K w.params)) hn (by decide) hdf ⟨rfl,by decide,by decide,rfl⟩ hY F (fun _ _ a ns hl _ hS=>⟨a,ns,rfl,hS,hl,fun _=>rfl⟩) (fun _ _ _ _ _ z=>y9j z) hNM
end Q
open PySem PySem.W PyProof.Rows
set_option maxRecDepth 100000 in
set_option maxHeartbeats 0 in
theorem PySem.Challenge.cw_circuits_k08_whole_written_holds : PySem.Challenge.rw_circuits_k08_whole_written.Holds := by
 w_on; o_law; k_head; (case hw => w_witness2)
 k_fill
 refine Q.walk (l := PySem.Challenge.rw_circuits_k08_whole_written) rfl rfl (fun w h Y => PySem.W.kIn_of Y) ?F (fun w => by kernel_rfl)
 case F =>
  intro w mg fa h KX G hmg;refine' Q.mk KX G hmg ?a0 ?l0 ?c0 ?k0 ?a1 ?l1 ?c1 ?k1 ?a2 ?l2 ?c2 ?k2 ?a3 ?l3 ?c3 ?k3 ?a4 ?l4 ?c4 ?k4 ?a5 ?l5 ?c5 ?k5 ?a6 ?l6 ?c6 ?k6 ?a7 ?l7 ?c7 ?k7 ?a8 ?l8 ?c8 ?k8 ?a9 ?l9 ?c9 ?k9 ?a10 ?l10 ?c10 ?k10 ?a11 ?l11 ?c11 ?k11 ?a12 ?l12 ?c12 ?k12 ?a13 ?l13 ?c13 ?k13 ?a14 ?l14 ?c14 ?k14 ?a15 ?l15 ?c15 ?k15 ?a16 ?l16 ?c16 ?k16 ?a17 ?l17 ?c17 ?k17 ?a18 ?l18 ?c18 ?k18 ?a19 ?l19 ?c19 ?k19 ?a20 ?l20 ?c20 ?k20 ?a21 ?l21 ?c21 ?k21 ?a22 ?l22 ?c22 ?k22 ?a23 ?l23 ?c23 ?k23 ?a24 ?l24 ?c24 ?k24 ?a25 ?l25 ?c25 ?k25 ?a26 ?l26 ?c26 ?k26 ?a27 ?l27 ?c27 ?k27 ?a28 ?l28 ?c28 ?k28 ?a29 ?l29 ?c29 ?k29 ?a30 ?l30 ?c30 ?k30 ?a31 ?l31 ?c31 ?k31 ?a32 ?l32 ?c32 ?k32 ?n_CircuitError ?n_NoPlace ?n_NoName ?n_BadText ?n_WORDS ?n_JOINING ?n_LONGEST_NAME ?n_MOST_BRACKETS ?n_LOOSEST_WORD ?n_WHOLE ?n_TIGHTNESS ?tab_TIGHTNESS ?z_all ?z_any ?z_bool ?z_enumerate ?z_int ?z_isinstance ?z_len ?z_list ?z_max ?z_min ?z_range ?z_str ?z_tuple ?g_WORDS ?g_JOINING ?g_LONGEST_NAME ?g_MOST_BRACKETS ?g_LOOSEST_WORD ?g_WHOLE ?e_BadText ?e_NoName ?e_NoPlace ?c_BadText ?c_NoName ?c_NoPlace ?t_NoneType_int ?t_bool_int ?t_int_int ?t_str_int ?t_tuple_int ?t_list_int ?t_NoneType_bool ?t_bool_bool ?t_int_bool ?t_str_bool ?t_tuple_bool ?t_list_bool ?t_NoneType_tuple ?t_bool_tuple ?t_int_tuple ?t_str_tuple ?t_tuple_tuple ?t_list_tuple ?t_NoneType_str ?t_bool_str ?t_int_str ?t_str_str ?t_tuple_str ?t_list_str 150 ?hL
  (case a0 => k_is)
  (case l0 => k_is)
  (case c0 => k_is)
  (case k0 => k_is)
  (case a1 => k_is)
  (case l1 => k_is)
  (case c1 => k_is)
  (case k1 => k_is)
  (case a2 => k_is)
  (case l2 => k_is)
  (case c2 => k_is)
  (case k2 => k_is)
  (case a3 => k_is)
  (case l3 => k_is)
  (case c3 => k_is)
  (case k3 => k_is)
  (case a4 => k_is)
  (case l4 => k_is)
  (case c4 => k_is)
  (case k4 => k_is)
  (case a5 => k_is)
  (case l5 => k_is)
  (case c5 => k_is)
  (case k5 => k_is)
  (case a6 => k_is)
  (case l6 => k_is)
  (case c6 => k_is)
  (case k6 => k_is)
  (case a7 => k_is)
  (case l7 => k_is)
  (case c7 => k_is)
  (case k7 => k_is)
  (case a8 => k_is)
  (case l8 => k_is)
  (case c8 => k_is)
  (case k8 => k_is)
  (case a9 => k_is)
  (case l9 => k_is)
  (case c9 => k_is)
  (case k9 => k_is)
  (case a10 => k_is)
  (case l10 => k_is)
  (case c10 => k_is)
  (case k10 => k_is)
  (case a11 => k_is)
  (case l11 => k_is)
  (case c11 => k_is)
  (case k11 => k_is)
  (case a12 => k_is)
  (case l12 => k_is)
  (case c12 => k_is)
  (case k12 => k_is)
  (case a13 => k_is)
  (case l13 => k_is)
  (case c13 => k_is)
  (case k13 => k_is)
  (case a14 => k_is)
  (case l14 => k_is)
  (case c14 => k_is)
  (case k14 => k_is)
  (case a15 => k_is)
  (case l15 => k_is)
  (case c15 => k_is)
  (case k15 => k_is)
  (case a16 => k_is)
  (case l16 => k_is)
  (case c16 => k_is)
  (case k16 => k_is)
  (case a17 => k_is)
  (case l17 => k_is)
  (case c17 => k_is)
  (case k17 => k_is)
  (case a18 => k_is)
  (case l18 => k_is)
  (case c18 => k_is)
  (case k18 => k_is)
  (case a19 => k_is)
  (case l19 => k_is)
  (case c19 => k_is)
  (case k19 => k_is)
  (case a20 => k_is)
  (case l20 => k_is)
  (case c20 => k_is)
  (case k20 => k_is)
  (case a21 => k_is)
  (case l21 => k_is)
  (case c21 => k_is)
  (case k21 => k_is)
  (case a22 => k_is)
  (case l22 => k_is)
  (case c22 => k_is)
  (case k22 => k_is)
  (case a23 => k_is)
  (case l23 => k_is)
  (case c23 => k_is)
  (case k23 => k_is)
  (case a24 => k_is)
  (case l24 => k_is)
  (case c24 => k_is)
  (case k24 => k_is)
  (case a25 => k_is)
  (case l25 => k_is)
  (case c25 => k_is)
  (case k25 => k_is)
  (case a26 => k_is)
  (case l26 => k_is)
  (case c26 => k_is)
  (case k26 => k_is)
  (case a27 => k_is)
  (case l27 => k_is)
  (case c27 => k_is)
  (case k27 => k_is)
  (case a28 => k_is)
  (case l28 => k_is)
  (case c28 => k_is)
  (case k28 => k_is)
  (case a29 => k_is)
  (case l29 => k_is)
  (case c29 => k_is)
  (case k29 => k_is)
  (case a30 => k_is)
  (case l30 => k_is)
  (case c30 => k_is)
  (case k30 => k_is)
  (case a31 => k_is)
  (case l31 => k_is)
  (case c31 => k_is)
  (case k31 => k_is)
  (case a32 => k_is)
  (case l32 => k_is)
  (case c32 => k_is)
  (case k32 => k_is)
  (case n_CircuitError => k_is)
  (case n_NoPlace => k_is)
  (case n_NoName => k_is)
  (case n_BadText => k_is)
  (case n_WORDS => k_is)
  (case n_JOINING => k_is)
  (case n_LONGEST_NAME => k_is)
  (case n_MOST_BRACKETS => k_is)
  (case n_LOOSEST_WORD => k_is)
  (case n_WHOLE => k_is)
  (case n_TIGHTNESS => k_is)
  (case tab_TIGHTNESS => exact D.y64 (by kernel_rfl) (by decide) (by kernel_rfl) ⟨_, by k_is, rfl, rfl⟩)
  (case z_all => k_is)
  (case z_any => k_is)
  (case z_bool => k_is)
  (case z_enumerate => k_is)
  (case z_int => k_is)
  (case z_isinstance => k_is)
  (case z_len => k_is)
  (case z_list => k_is)
  (case z_max => k_is)
  (case z_min => k_is)
  (case z_range => k_is)
  (case z_str => k_is)
  (case z_tuple => k_is)
  (case g_WORDS => kernel_rfl)
  (case g_JOINING => kernel_rfl)
  (case g_LONGEST_NAME => kernel_rfl)
  (case g_MOST_BRACKETS => kernel_rfl)
  (case g_LOOSEST_WORD => kernel_rfl)
  (case g_WHOLE => kernel_rfl)
  (case e_BadText => kernel_rfl)
  (case e_NoName => kernel_rfl)
  (case e_NoPlace => kernel_rfl)
  (case c_BadText => kernel_rfl)
  (case c_NoName => kernel_rfl)
  (case c_NoPlace => kernel_rfl)
  (case t_NoneType_int => kernel_rfl)
  (case t_bool_int => kernel_rfl)
  (case t_int_int => kernel_rfl)
  (case t_str_int => kernel_rfl)
  (case t_tuple_int => kernel_rfl)
  (case t_list_int => kernel_rfl)
  (case t_NoneType_bool => kernel_rfl)
  (case t_bool_bool => kernel_rfl)
  (case t_int_bool => kernel_rfl)
  (case t_str_bool => kernel_rfl)
  (case t_tuple_bool => kernel_rfl)
  (case t_list_bool => kernel_rfl)
  (case t_NoneType_tuple => kernel_rfl)
  (case t_bool_tuple => kernel_rfl)
  (case t_int_tuple => kernel_rfl)
  (case t_str_tuple => kernel_rfl)
  (case t_tuple_tuple => kernel_rfl)
  (case t_list_tuple => kernel_rfl)
  (case t_NoneType_str => kernel_rfl)
  (case t_bool_str => kernel_rfl)
  (case t_int_str => kernel_rfl)
  (case t_str_str => kernel_rfl)
  (case t_tuple_str => kernel_rfl)
  (case t_list_str => kernel_rfl)
  (case hL => exact fun a M ns hl => Q.y3s M ns hl)
