import PyProof.Rows.All
import Wide.All
import OpenK.AllK
import Wide.FinOn
import PyProof.TupleKey
import PyProof.EqAt
import PyProof.EqKinds
import Wide.Seal
import Lean
import PyProof.TupleCall
import KE.KTryMore
import KE.KRevIter
import PyProof.CollectIter
import PyProof.ConsumeWalk
import PyProof.TupleOfStr
import KE.KIsAll
import PyProof.ExcArgs
import PyProof.ExcAttrAll.ValueError
import PyProof.CompUse
import PyProof.NeKinds
import PyProof.EnumIter
import PyProof.EnumFor
import PyProof.EnumMake
import PyProof.EnumStmt
import PyProof.ListMulRoad
import PyProof.ZipIter
import PyProof.TupleIter
import PyProof.Rows.SortWalk
import PyProof.SetKind
import PyProof.Rows.SetFrom
import PyProof.FactsAll.set_1
import KE.KDictSum
import PyProof.FactsAll.set_2
import PyProof.FactsAll.tuple_2
import PyProof.ReprRoads
import PyProof.Rows.SeqMore
import PyProof.ReprLen
import PyProof.WalkInts
import PyProof.SeqI3
import PyProof.Rows.TupIter
import PyProof.ListRange
import PyProof.SumWalk
import PyProof.DictIter
import PyProof.DictWalks
import PyProof.DictRoadsH
import PyProof.DictTruth
import KE.KDictList
import PyProof.Rows.TupDisplay
import PyProof.Draws
import PyProof.StrBlockI
import PyProof.StrLawsIn
import PyProof.StrOps2
import PyProof.ReprStr
import PyProof.ListNew
import PyProof.Rows.SortRev
import KE.KMinKey
import PyProof.Rows.SortStr
import PyProof.Rows.SortRunsK
import PyProof.Rows.SortKeyStr
import KE.RegMulBits
import KE.KRevSl
import PyProof.CallStr
import PySem.Challenge.RW_circuits_k25_whole_none_fewer
set_option Elab.async false
set_option linter.all false
set_option maxRecDepth 100000
set_option maxHeartbeats 1000000
local macro_rules | `(tactic| omega) => `(tactic| first | with_reducible assumption | decide | with_reducible exact Nat.le_refl _ | with_reducible exact Nat.zero_le _ | lia)
set_option genSizeOf false
set_option genInjectivity false
local macro_rules | `(tactic| walk_at "2") => `(tactic| (first | exact .inl rfl | exact .inr rfl | assumption))
local macro_rules | `(tactic| walk_at "3") => `(tactic| (first | exact Or.inl rfl | exact Or.inr rfl))
open PySem.W (codeHdIn findIn hideAll_get keepIn kia_one kitOne kla_fn kla_obj methodObj mg_none_of mg_of pyHash_slot specialIn tabObj takesIn)
def w0a:=@List.length_map
def w0b:=@List.getElem?_eq_getElem
def w0c:=@List.size_toArray
def w0d:=@List.getElem?_eq_some_iff
def w0e:=@List.getElem?_cons_succ
def w0f:=@Nat.le_refl
def w0g:=@List.mem_cons_of_mem
def w0h:=@List.mem_cons
def w0i:=@List.mem_append_right
def w0j:=@Bool.and_eq_true
def w0k:=@List.mem_cons_self
def w0l:=@Nat.le_trans
def w0m:=@List.getElem?_cons_zero
def w0n:=@List.map_cons
def w0o:=@Option.map_eq_some_iff
def w0p:=@List.length_cons
def w0q:=@List.length_append
def w0r:=@Nat.ne_of_lt
def w0s:=@List.mem_filter
def w0t:=@List.all_eq_true
def w0u:=@List.mem_range
def w0v:=@Nat.lt_of_lt_of_le
def w0w:=@List.getElem?_map
def w0x:=@Nat.pow_le_pow_right
def w0y:=@List.getElem?_set_self
def w0z:=@List.lookup_cons
def w1a:=@List.getElem?_set_ne
def w1b:=@Nat.zero_le
def w1c:=@List.length_filter_le
def w1d:=@List.not_mem_nil
def w1e:=@Bool.false_ne_true
def w1f:=@List.mem_map
def w1g:=@List.mem_of_getElem?
def w1h:=@List.mem_singleton
def w1i:=@Bool.eq_false_iff
def w1j:=@Int.toNat_natCast
def w1k:=@Bool.eq_iff_iff
def w1l:=@List.map_append
def w1m:=@List.getElem?_eq_none
def w1n:=@List.append_nil
def w1o:=@Array.getElem?_append_left
def w1p:=@List.getElem?_append_right
def w1q:=@List.getElem?_append_left
def w1r:=@List.pairwise_cons
def w1s:=@List.all_cons
def w1t:=@List.map_nil
def w1u:=@List.reverse_cons
def w1v:=@List.length_range
def w1w:=@List.nodup_cons
def w1x:=@Array.getElem?_eq_some_iff
def w1y:=@List.any_eq_true
def w1z:=@Nat.lt_irrefl
def w2a:=@Int.emod_lt_of_pos
def w2b:=@List.set_cons_succ
def w2c:=@List.set_cons_zero
def w2d:=@List.mem_iff_getElem
def w2e:=@List.mem_append
def w2f:=@List.length_nil
def w2g:=@List.eq_nil_iff_forall_not_mem
def w2h:=@Bool.true_and
def w2i:=@Int.eq_ofNat_of_zero_le
def w2j:=@List.length_take
def w2k:=@List.length_drop
def w2l:=@List.filter_cons
def w2m:=@Bool.false_eq_true
def w2n:=@List.mem_filterMap
def w2o:=@List.forIn_cons
def w2p:=@List.length_singleton
def w2q:=@List.length_zip
def w2r:=@List.map_map
def w2s:=@Int.emod_nonneg
def w2t:=@List.cons_lt_cons_iff
def w2u:=@Nat.lt_succ_of_lt
def w2v:=@List.append_assoc
def w2w:=@List.mem_append_left
def w2x:=@List.pairwise_iff_getElem
def w2y:=@List.getElem_mem
def w2z:=@Nat.zero_add
def w3a:=@List.of_mem_zip
def w3b:=@List.getElem?_replicate
def w3c:=@List.any_cons
def w3d:=@List.filter_cons_of_pos
def w3e:=@List.zip_cons_cons
def w3f:=@List.length_eq_zero_iff
def w3g:=@List.ext_getElem?
def w3h:=@Bool.not_eq_true'
def w3i:=@Nat.ne_of_gt
def w3j:=@List.length_replicate
def w3k:=@Nat.le_of_ble_eq_true
def w3l:=@List.drop_length
def w3m:=@Int.mul_le_mul_of_nonneg_left
def w3n:=@List.filterMap_cons
def w3o:=@Array.length_toList
def w3p:=@Nat.le_succ
def w3q:=@List.length_reverse
def w3r:=@List.nodup_iff_pairwise_ne
def w3s:=@List.all_map
def w3t:=@Int.pow_succ
def w3u:=@Nat.pow_succ
def w3v:=@List.contains_cons
def w3w:=@Bool.false_and
def w3x:=@List.getElem?_zip_eq_some
def w3y:=@List.drop_eq_getElem_cons
def w3z:=@Option.isSome_iff_exists
def w4a:=@List.pairwise_map
def w4b:=@Option.bind_eq_some_iff
def w4c:=@List.filter_cons_of_neg
def w4d:=@Nat.le_mul_of_pos_right
def w4e:=@Nat.min_le_right
def w4f:=@Nat.succ_ne_self
def w4g:=@Array.toList_inj
def w4h:=@Bool.not_eq_true
def w4i:=@List.isEmpty_iff
def w4j:=@List.find?_cons_of_pos
def w4k:=@Nat.le_of_lt
def w4l:=@Bool.or_eq_true
def w4m:=@List.getElem?_reverse
def w4n:=@List.nil_append
def w4o:=@List.find?_cons
def w4p:=@List.pairwise_flatMap
def w4q:=@List.contains_iff_mem
def w4r:=@Array.toArray_toList
def w4s:=@Bool.and_assoc
def w4t:=@Bool.and_false
def w4u:=@List.forIn_nil
def w4v:=@List.lt_irrefl
def w4w:=@List.getElem_of_mem
def w4x:=@Array.toList_append
def w4y:=@List.replicate_zero
def w4z:=@List.map_congr_left
def w5a:=@Nat.pow_pos
def w5b:=@List.length_pos_iff
def w5c:=@Nat.mul_le_mul_left
def w5d:=@Int.toNat_of_nonneg
def w5e:=@List.getElem?_range
def w5f:=@Array.forIn_toList
def w5g:=@Bool.or_false
def w5h:=@Bool.and_true
def w5i:=@List.lookup_append
def w5j:=@Nat.not_lt
def w5k:=@Int.sub_zero
def w5l:=@List.any_map
def w5m:=@Int.mul_comm
def w5n:=@Nat.mul_comm
def w5o:=@Nat.add_zero
namespace PySem.W.Fast
theorem tw3285938516905469479:True:=trivial
theorem tw2763232071398362955:True:=trivial
theorem tw4293418701394363588:True:=trivial
theorem tw4873817676831639546:True:=trivial
theorem tw16304984447684026374:True:=trivial
theorem tw1356552601548880406:True:=trivial
theorem tw10723297640349361151:True:=trivial
theorem tw14006793424018938306:True:=trivial
theorem tw4186545242924946742:True:=trivial
theorem tw1347003246915946972:True:=trivial
theorem tw2309281132049158975:True:=trivial
theorem tw16417926654146981903:True:=trivial
theorem tw11269194968946978701:True:=trivial
theorem tw5178157171650604867:True:=trivial
theorem tw10736558889358259408:True:=trivial
theorem tw1283615727832086622:True:=trivial
theorem tw3211199306061234774:True:=trivial
theorem tw6389628725316691463:True:=trivial
theorem tw1231423877237463240:True:=trivial
theorem tw12558728814623370605:True:=trivial
theorem tw480446768170646512:True:=trivial
theorem tw614359367838148391:True:=trivial
theorem tw6853007197562985243:True:=trivial
theorem tw11573095106923590336:True:=trivial
theorem tw5747086170470227196:True:=trivial
theorem tw13596964639151863842:True:=trivial
theorem tw4803268180865916500:True:=trivial
theorem tw16409600555333773980:True:=trivial
theorem tw8426926463699280710:True:=trivial
theorem tw2446788944654249322:True:=trivial
theorem tw18173608767719595207:True:=trivial
theorem tw3876413575049172679:True:=trivial
theorem tw13465620883515469736:True:=trivial
theorem tw3886834282333698935:True:=trivial
theorem tw9288967030706542417:True:=trivial
theorem tw4717598718671027265:True:=trivial
theorem tw12535278613117160518:True:=trivial
theorem tw5333521758686398530:True:=trivial
theorem tw3542718586275931877:True:=trivial
theorem tw16976430495669970775:True:=trivial
theorem tw12535851041860076131:True:=trivial
theorem tw7488232741869423625:True:=trivial
theorem tw10007767879464278742:True:=trivial
theorem tw5575682498589511264:True:=trivial
theorem tw4232496246078481414:True:=trivial
theorem tw13813395675740648142:True:=trivial
theorem tw8911680710541367978:True:=trivial
theorem tw1998479117709622644:True:=trivial
theorem tw818707692492729128:True:=trivial
theorem tw15017541748127355232:True:=trivial
theorem tw12055448426141442326:True:=trivial
theorem tw15048977218975951251:True:=trivial
theorem tw10635483897786175859:True:=trivial
theorem tw8414200146215582937:True:=trivial
theorem tw2413245980743109650:True:=trivial
theorem tw6645722207226967071:True:=trivial
theorem tw3899310652128841405:True:=trivial
theorem tw4321076170256046870:True:=trivial
theorem tw11331149577205666256:True:=trivial
theorem tw9882579474110203021:True:=trivial
end PySem.W.Fast
namespace L2
open PySem PySem.Spec PyProof.Rows
variable{C a b:Addr}{A:Around}{op:CmpOp}{c e tg:Expr}{fd:FuncData}{base h h':Heap}{pins:List (Addr×Obj)}{ch fp:List Addr}{es:List Expr}{N ps:List Str}{us:List Value}{M:Model}{i k t':Nat}{p pos:Pos}{P prog:Program}{K:PySem.W.Frag}{s:Shared}{x:Str}{mg:Str->Option Value}{u:Value}{E:Value->Shared->Prop}{f:Value->Value->Sem Value}{w:World}
set_option genInjectivity true in
inductive Kx where
 |non|bl (b:Bool)|int (i:Int)|str (x:Str)|tup (ks:List Kx)
inductive Sh where
 |ob|bl|int|str|tup (ss:List Sh)|many (s:Sh)
noncomputable instance:DecidableEq Kx:=fun _ _=>Classical.propDecidable _
mutual
noncomputable def Kx.depth:Kx->Nat
 |.tup ks=>Kx.depths ks+1
 |_=>0
noncomputable def Kx.depths:List Kx->Nat
 |[]=>0
 |k::ks=>max k.depth (Kx.depths ks)
end
mutual
def Conf:Kx->Sh->Prop
 |.non,.ob=>True
 |.bl _,.ob=>True
 |.bl _,.bl=>True
 |.int _,.int=>True
 |.str _,.str=>True
 |.tup ks,.tup ss=>Confs ks ss
 |.tup ks,.many s=>ConfM ks s
 |_,_=>False
def Confs:List Kx->List Sh->Prop
 |[],[]=>True
 |k::ks,s::ss=>Conf k s/\Confs ks ss
 |_,_=>False
def ConfM:List Kx->Sh->Prop
 |[],_=>True
 |k::ks,s=>Conf k s/\ConfM ks s
end
mutual
def KIs(h:Heap):Kx->Value->Prop
 |.non,v=>v=.none
 |.bl b,v=>v=.bool b
 |.int i,v=>∃t,v=.int i t
 |.str x,v=>∃t,v=.str x t
 |.tup ks,v=>∃a o items n,v=.ref a/\h.get? a=some o/\o.cls=.type "tuple" /\ o.data=.seq items n/\KAre h ks items.toList
def KAre(h:Heap):List Kx->List Value->Prop
 |[],vs=>vs=[]
 |k::ks,vs=>∃v r,vs=v::r/\KIs h k v/\KAre h ks r
end
mutual
theorem x8h{h:Heap}:∀(k k':Kx){v:Value},KIs h k v->KIs h k' v->k=k'
 |.non,k',v,x,y=>by
  cases(show v=.none from x);cases k' with
  |non=>rfl
  |bl c=>cases(show Value.none=.bool c from y)
  |int i=>obtain⟨t,e⟩:=y;cases e
  |str i=>obtain⟨t,e⟩:=y;cases e
  |tup ks=>obtain⟨_,_,_,_,e,_⟩:=y;cases e
 |.bl b,k',v,x,y=>by
  cases(show v=.bool b from x);cases k' with
  |non=>cases(show Value.bool b=.none from y)
  |bl c=>cases(show Value.bool b=.bool c from y);rfl
  |int i=>obtain⟨t,e⟩:=y;cases e
  |str i=>obtain⟨t,e⟩:=y;cases e
  |tup ks=>obtain⟨_,_,_,_,e,_⟩:=y;cases e
 |.int b,k',v,x,y=>by
  obtain⟨t,rfl⟩:=x;cases k' with
  |non=>cases y
  |bl c=>cases y
  |int i=>obtain⟨t,e⟩:=y;cases e;rfl
  |str i=>obtain⟨t,e⟩:=y;cases e
  |tup ks=>obtain⟨_,_,_,_,e,_⟩:=y;cases e
 |.str b,k',v,x,y=>by
  obtain⟨t,rfl⟩:=x;cases k' with
  |non=>cases y
  |bl c=>cases y
  |int i=>obtain⟨t,e⟩:=y;cases e
  |str i=>obtain⟨t,e⟩:=y;cases e;rfl
  |tup ks=>obtain⟨_,_,_,_,e,_⟩:=y;cases e
 |.tup ks,k',v,x,y=>by
  obtain⟨a,o,it,n,rfl,h1,h2,h3,h4⟩:=x;cases k' with
  |non=>cases y
  |bl c=>cases y
  |int i=>obtain⟨t,e⟩:=y;cases e
  |str i=>obtain⟨t,e⟩:=y;cases e
  |tup ks'=>
   obtain⟨a',o',it',n',e,g1,g2,g3,g4⟩:=y;cases e;rw[h1]at g1;cases g1;rw[h3]at g3;injection g3 with e1 _
   subst e1;rw[x0q ks ks' h4 g4]
theorem x0q{h:Heap}:∀(ks ks':List Kx){vs:List Value},KAre h ks vs->KAre h ks' vs->ks=ks'
 |[],ks',vs,x,y=>by
  cases(show vs=[]from x);cases ks' with
  |nil=>rfl
  |cons k ks'=>obtain⟨v,r,e,_⟩:=y;cases e
 |k::ks,ks',vs,x,y=>by
  obtain⟨v,r,rfl,h1,h2⟩:=x;cases ks' with
  |nil=>cases(show v::r=[]from y)
  |cons k' ks'=>
   obtain⟨v',r',e,g1,g2⟩:=y;cases e;rw[x8h k k' h1 g1,x0q ks ks' h2 g2]
end
mutual
theorem x3i{h h':Heap}(hk:∀a o,h.get? a=some o->o.cls=.type "tuple"->(∃it n,o.data=.seq it n)->h'.get? a=some o):∀(k:Kx){v:Value},KIs h k v->KIs h' k v
 |.non,v,x=>x
 |.bl b,v,x=>x
 |.int b,v,x=>x
 |.str b,v,x=>x
 |.tup ks,v,x=>by
  obtain⟨a,o,it,n,rfl,h1,h2,h3,h4⟩:=x;exact⟨a,o,it,n,rfl,hk a o h1 h2 ⟨it,n,h3⟩,h2,h3,x1b hk ks h4⟩
theorem x1b{h h':Heap}(hk:∀a o,h.get? a=some o->o.cls=.type "tuple"->(∃it n,o.data=.seq it n)->h'.get? a=some o):∀(ks:List Kx){vs:List Value},KAre h ks vs->KAre h' ks vs
 |[],vs,x=>x
 |k::ks,vs,x=>by
  obtain⟨v,r,rfl,h1,h2⟩:=x;exact⟨v,r,rfl,x3i hk k h1,x1b hk ks h2⟩
end
theorem KAre.length:∀(ks:List Kx){vs:List Value},KAre h ks vs->vs.length=ks.length
 |[],vs,x=>by cases(show vs=[]from x);rfl
 |k::ks,vs,x=>by
  obtain⟨v,r,rfl,h1,h2⟩:=x;rw[w0p,w0p,KAre.length ks h2]
mutual
noncomputable def kHash(w:World):Kx->Int
 |.non=>PySem.W.hashW w.params .none
 |.bl b=>reduceHash (if b=true then 1 else 0)
 |.int i=>hashInt i
 |.str x=>hashStr w x
 |.tup ks=>reduceHash (Builtin.Tuple.tupleHashOf (kHashes w ks))
noncomputable def kHashes(w:World):List Kx->List Int
 |[]=>[]
 |k::ks=>kHash w k::kHashes w ks
end
mutual
noncomputable def kDraws:Kx->Nat
 |.tup ks=>kDrawss ks+1
 |_=>1
noncomputable def kDrawss:List Kx->Nat
 |[]=>0
 |k::ks=>kDraws k+kDrawss ks
end
mutual
theorem x8i:∀(k:Kx)(v:Value)(A:Around)(s:Shared)(Q:Int->Shared->Prop),KIs s.heap k v->A.units+k.depth<cLine->Q (kHash w k) {s with toks:=s.toks+kDraws k}->wpAny (model prog w) A (pyHash v) Q E s
 |.non,v,A,s,Q,x,hu,h=>by
  cases(show v=.none from x);exact pyHash_slot (T:="NoneType") rfl F.slot_NoneType_hash F.entry_NoneType_hash (F.args_NoneType_hash_1 _) (beq_builtin_none _) (.inr (by omega)) (wpAny_bind (wpAny_pure (wpAny_bind (wpAny_mkInt (wpAny_pure ⟨_,_,rfl,h⟩)))))
 |.bl b,v,A,s,Q,x,hu,h=>by
  cases(show v=.bool b from x);refine pyHash_slot (T:="bool") rfl F.slot_bool_hash entry_int_hash (args_int_hash _) (beq_builtin_none _) (.inr (by omega)) ?_;cases b
  ·exact(show wpAny _ _ (do ret (<- mkInt 0)) _ _ s from wpAny_bind (wpAny_mkInt (wpAny_pure ⟨_,_,rfl,h⟩)))
  ·exact(show wpAny _ _ (do ret (<- mkInt 1)) _ _ s from wpAny_bind (wpAny_mkInt (wpAny_pure ⟨_,_,rfl,h⟩)))
 |.int i,v,A,s,Q,x,hu,h=>by
  obtain⟨t,rfl⟩:=x;exact wpAny_pyHash_int h
 |.str i,v,A,s,Q,x,hu,h=>by
  obtain⟨t,rfl⟩:=x;exact wpAny_pyHash_str h
 |.tup ks,v,A,s,Q,x,hu,h=>by
  obtain⟨a,o,it,n,rfl,h1,h2,h3,h4⟩:=x;refine pyHash_slot (T:="tuple") ⟨_,h1,h2⟩ F.slot_tuple_hash F.entry_tuple_hash (F.args_tuple_hash_1 _) (beq_builtin_none _) (.inr (by omega)) ?_;show wpAny _ _ (Builtin.Tuple.tupleItemsOf (.ref a) >>= _) _ _ s;refine wpAny_bind (wpAny_tupleItemsOf h1 h3 ?_);refine wpAny_bind ?_;rw[<- w5f];refine x3j ks it.toList A.in1 s #[] _ h4 (by simp only[Kx.depth,Around.in1_units]at hu |-;omega) fun b hb=>?_
  show wpAny _ _ (retInt (Builtin.Tuple.tupleHashOf b.toList)) _ _ _;rw[hb];exact wpAny_bind (wpAny_mkInt (wpAny_pure ⟨_,_,rfl,by simpa [kHash,kDraws,Nat.add_assoc]using h⟩))
theorem x3j:∀(ks:List Kx)(vs:List Value)(A:Around)(s:Shared)(b:Array Int)(Q:Array Int->Shared->Prop),KAre s.heap ks vs->A.units+Kx.depths ks<cLine ->
  (∀b',b'.toList=b.toList++kHashes w ks->Q b' {s with toks:=s.toks+kDrawss ks}) ->
  wpAny (model prog w) A (forIn vs b fun x r=>do let h <- pyHash x;pure PUnit.unit;pure (ForInStep.yield (r.push h))) Q E s
 |[],vs,A,s,b,Q,x,hu,h=>by
  cases(show vs=[]from x);exact wpAny_pure (h b (by simp[kHashes]))
 |k::ks,vs,A,s,b,Q,x,hu,h=>by
  obtain⟨v,r,rfl,h1,h2⟩:=x;simp only[Kx.depths]at hu;rw[w2o];refine wpAny_bind (wpAny_bind (x8i k v A s _ h1 (by omega) ?_));refine wpAny_bind (wpAny_pure (wpAny_pure ?_))
  exact x3j ks r A _ _ Q h2 (by omega) fun b' hb=>by
   have:=h b' (by simp[hb,kHashes])
   simpa [kDrawss,Nat.add_assoc]using this
end
theorem x8j(a b:Bool):decide (Kx.bl a=Kx.bl b)=(a==b):=by
 by_cases e:a=b
 ·subst e;simp
 ·rw[decide_eq_false (fun z=>e (by injection z))];exact(beq_eq_false_iff_ne.mpr e).symm
theorem y3h(a b:Int):decide (Kx.int a=Kx.int b)=(a==b):=by
 by_cases e:a=b
 ·subst e;simp
 ·rw[decide_eq_false (fun z=>e (by injection z))];exact(beq_eq_false_iff_ne.mpr e).symm
theorem y3i(a b:Str):decide (Kx.str a=Kx.str b)=(a==b):=by
 by_cases e:a=b
 ·subst e;simp
 ·rw[decide_eq_false (fun z=>e (by injection z))];exact(beq_eq_false_iff_ne.mpr e).symm
noncomputable def sameAt(ks ks':List Kx)(j:Nat):Bool:=decide (ks[j]?=ks'[j]?)
theorem y3j:∀ks ks':List Kx,((List.range (min ks.length ks'.length)).all (sameAt ks ks')&&ks.length==ks'.length)=decide (Kx.tup ks=Kx.tup ks'):=by
 intro ks ks'
 by_cases e:ks=ks'
 ·subst e;rw[decide_eq_true rfl];simp[sameAt]
 ·rw[decide_eq_false (fun z=>e (by injection z))]
  rw[Bool.and_eq_false_iff]
  by_cases hl:ks.length=ks'.length
  ·left
   rw[w1i];intro ha;refine e (w3g fun j=>?_)
   by_cases hj:j<ks.length
   ·have:=w0t.mp ha j (w0u.mpr (by omega));exact of_decide_eq_true this
   ·rw[w1m (by omega),w1m (by omega)]
  ·right
   simpa using hl
theorem q7w:∀(ks:List Kx){vs:List Value},KAre h ks vs->∀(j:Nat)(v:Value),vs[j]?=some v->∃k,ks[j]?=some k/\KIs h k v
 |[],vs,x,j,v,e=>by cases(show vs=[]from x);simp at e
 |k::ks,vs,x,j,v,e=>by
  obtain⟨u,r,rfl,h1,h2⟩:=x;cases j with
  |zero=>cases e;exact⟨k,rfl,h1⟩
  |succ j=>exact q7w ks h2 j v (by simpa using e)
theorem q8r:∀(ks:List Kx)(j:Nat)(k:Kx),ks[j]?=some k->k.depth<=Kx.depths ks
 |[],j,k,e=>by simp at e
 |x::ks,j,k,e=>by
  simp only[Kx.depths];cases j with
  |zero=>cases e;omega
  |succ j=>have:=q8r ks j k (by simpa using e);omega
theorem q8s:∀(ks:List Kx)(ss:List Sh),Confs ks ss->∀(j:Nat)(k:Kx),ks[j]?=some k->∃s,ss[j]?=some s/\Conf k s
 |[],ss,_,j,k,e=>by simp at e
 |x::ks,[],c,j,k,e=>c.elim
 |x::ks,s::ss,c,j,k,e=>by
  cases j with
  |zero=>cases e;exact⟨s,rfl,c.1⟩
  |succ j=>exact q8s ks ss c.2 j k (by simpa using e)
theorem q8t:∀(ks:List Kx)(s:Sh),ConfM ks s->∀(j:Nat)(k:Kx),ks[j]?=some k->Conf k s
 |[],s,_,j,k,e=>by simp at e
 |x::ks,s,c,j,k,e=>by
  cases j with
  |zero=>cases e;exact c.1
  |succ j=>exact q8t ks s c.2 j k (by simpa using e)
theorem z24(s:Shared):∀(n:Nat)(k k':Kx)(sh:Sh)(v v':Value)(A:Around),k.depth<=n->Conf k sh->Conf k' sh->KIs s.heap k v->KIs s.heap k' v'->A.units+n<cLine->SeqAt.EqAt A s v v' (decide (k=k')):=by
 intro n
 induction n with
 |zero=>
  intro k k' sh v v' A hd c c' x y hu;cases k with
  |non=>
   cases sh with
   |ob=>
    cases k' with
    |non=>cases(show v=.none from x);cases(show v'=.none from y);rw[decide_eq_true rfl];exact .same _
    |bl b=>cases(show v=.none from x);cases(show v'=.bool b from y);rw[decide_eq_false (fun z=>nomatch z)];exact .none_bool b
    |_=>exact c'.elim
   |_=>exact c.elim
  |bl a=>
   cases sh with
   |ob=>
    cases k' with
    |non=>cases(show v=.bool a from x);cases(show v'=.none from y);rw[decide_eq_false (fun z=>nomatch z)];exact .bool_none a
    |bl b=>cases(show v=.bool a from x);cases(show v'=.bool b from y);rw[x8j];exact .bool_bool a b
    |_=>exact c'.elim
   |bl=>
    cases k' with
    |bl b=>cases(show v=.bool a from x);cases(show v'=.bool b from y);rw[x8j];exact .bool_bool a b
    |_=>exact c'.elim
   |_=>exact c.elim
  |int a=>
   cases sh with
   |int=>
    cases k' with
    |int b=>obtain⟨t,rfl⟩:=x;obtain⟨u,rfl⟩:=y;rw[y3h];exact .int_int a t b u
    |_=>exact c'.elim
   |_=>exact c.elim
  |str a=>
   cases sh with
   |str=>
    cases k' with
    |str b=>obtain⟨t,rfl⟩:=x;obtain⟨u,rfl⟩:=y;rw[y3i];exact .str_str a t b u
    |_=>exact c'.elim
   |_=>exact c.elim
  |tup ks=>simp only[Kx.depth]at hd;omega
 |succ n ih=>
  intro k k' sh v v' A hd c c' x y hu;cases k with
  |non=>exact ih .non k' sh v v' A (w1b _) c c' x y (by omega)
  |bl a=>exact ih (.bl a) k' sh v v' A (w1b _) c c' x y (by omega)
  |int a=>exact ih (.int a) k' sh v v' A (w1b _) c c' x y (by omega)
  |str a=>exact ih (.str a) k' sh v v' A (w1b _) c c' x y (by omega)
  |tup ks=>
   obtain⟨a,o,it,m,rfl,h1,h2,h3,h4⟩:=x
   have tail:∀ks',k'=.tup ks'->(∀(j:Nat)(u u':Kx),ks[j]?=some u->ks'[j]?=some u'->∃s,Conf u s/\Conf u' s)->SeqAt.EqAt A s (.ref a) v' (decide (Kx.tup ks=k')):=by
    rintro ks' rfl hc;obtain⟨b,o',it',m',rfl,g1,g2,g3,g4⟩:=y
    by_cases hab:a=b
    ·subst hab;rw[h1]at g1;cases g1;rw[h3]at g3;injection g3 with e1 _
     subst e1;rw[x0q ks ks' h4 g4,decide_eq_true rfl];exact .same _
    ·have l1:=KAre.length ks h4;have l2:=KAre.length ks' g4;rw[<- y3j]
     have:=SeqAt.RcAt.tuples (A:=A) (s:=s) (e:=sameAt ks ks') (show s.heap.IsTuple a it from⟨o,h1,h2,m,h3⟩) (show s.heap.IsTuple b it' from⟨o',g1,g2,m',g3⟩) (by omega) (fun j j1 j2=>by
      obtain⟨u,u1,u2⟩:=q7w ks h4 j it[j] (by simp[j1]);obtain⟨u',u1',u2'⟩:=q7w ks' g4 j it'[j] (by simp[j2]);obtain⟨sh',c1,c2⟩:=hc j u u' u1 u1';have hdj:=q8r ks j u u1;simp only[Kx.depth]at hd;have z:=ih u u' sh' _ _ A.in1 (by omega) c1 c2 u2 u2' (by rw[Around.in1_units];omega)
      have e:sameAt ks ks' j=decide (u=u'):=by
       unfold sameAt;rw[u1,u1']
       by_cases q:u=u'
       ·rw[q];simp
       ·rw[decide_eq_false q,decide_eq_false (fun z=>q (Option.some.inj z))]
      rw[e];exact z)
     rw[show it.size=ks.length by simpa using l1,show it'.size=ks'.length by simpa using l2]at this;exact .of_refs hab this
   cases sh with
   |tup ss=>
    cases k' with
    |tup ks'=>
     refine tail ks' rfl fun j u u' e1 e2=>?_
     obtain⟨s1,q1,q2⟩:=q8s ks ss c j u e1;obtain⟨s2,q3,q4⟩:=q8s ks' ss c' j u' e2;rw[q1]at q3;cases q3;exact⟨s1,q2,q4⟩
    |_=>exact c'.elim
   |many s1=>
    cases k' with
    |tup ks'=>exact tail ks' rfl fun j u u' e1 e2=>⟨s1,q8t ks s1 c j u e1,q8t ks' s1 c' j u' e2⟩
    |_=>exact c'.elim
   |_=>exact c.elim
theorem y3k:∀(n:Nat)(k:Kx)(v:Value)(s:Shared)(Q:Bool->Shared->Prop),k.depth<=n->KIs s.heap k v->Q true s->wpAny (model prog w) A (eqIsQuiet n v) Q E s:=by
 intro n
 induction n with
 |zero=>
  intro k v s Q hd x h;cases k with
  |non=>cases(show v=.none from x);rw[eqIsQuiet_byValue _ rfl];exact wpAny_pure h
  |bl b=>cases(show v=.bool b from x);rw[eqIsQuiet_byValue _ rfl];exact wpAny_pure h
  |int i=>obtain⟨t,rfl⟩:=x;rw[eqIsQuiet_byValue _ rfl];exact wpAny_pure h
  |str i=>obtain⟨t,rfl⟩:=x;rw[eqIsQuiet_byValue _ rfl];exact wpAny_pure h
  |tup ks=>simp only[Kx.depth]at hd;omega
 |succ n ih=>
  intro k v s Q hd x h;cases k with
  |non=>cases(show v=.none from x);rw[eqIsQuiet_byValue _ rfl];exact wpAny_pure h
  |bl b=>cases(show v=.bool b from x);rw[eqIsQuiet_byValue _ rfl];exact wpAny_pure h
  |int i=>obtain⟨t,rfl⟩:=x;rw[eqIsQuiet_byValue _ rfl];exact wpAny_pure h
  |str i=>obtain⟨t,rfl⟩:=x;rw[eqIsQuiet_byValue _ rfl];exact wpAny_pure h
  |tup ks=>
   obtain⟨a,o,it,m,rfl,h1,h2,h3,h4⟩:=x;have hT:s.TypeIs (.ref a) "tuple":=⟨o,h1,h2⟩;unfold eqIsQuiet;refine wpAny_bind (wpAny_specialOf hT F.slot_tuple_eq.lookup ?_);show wpAny _ _ (isInstance (.ref a) (.type "tuple") >>= _) _ _ s;refine wpAny_bind (wpAny_isInstance hT isSubtype_tuple_tuple ?_);simp only[Bool.not_true,w2m,if_false];refine wpAny_bind (wpAny_seqItems h1 h3 ?_);refine wpAny_bind ?_;show wpAny _ _ (forIn it _ _) _ _ s;rw[<- w5f];refine wpAny_forIn_list _ (fun rest r s'=>r.1=none/\s'=s/\∀v∈rest,∃k:Kx,k.depth<=n/\KIs s.heap k v) _ ?_ ?_ _ _ ⟨rfl,rfl,fun v hv=>?_⟩
   ·rintro v rest r s' ⟨hr,rfl,hall⟩;obtain⟨k,k1,k2⟩:=hall v w0k;refine wpAny_bind (ih k v _ _ k1 k2 ?_);simp only[Bool.not_true,w2m,if_false];exact wpAny_pure ⟨rfl,rfl,fun u hu'=>hall u (w0g _ hu')⟩
   ·rintro⟨r1,r2⟩ s' ⟨hr,rfl,_⟩;simp only at hr;subst hr;exact wpAny_pure h
   ·obtain⟨j,hj,e⟩:=w2d.mp hv;obtain⟨k,k1,k2⟩:=q7w ks h4 j v (by rw[w0b hj,e]);have:=q8r ks j k k1;simp only[Kx.depth]at hd;exact⟨k,by omega,k2⟩
noncomputable def treeKind(prog:Program)(w:World)(sh:Sh):HeapKind prog w Kx where
 is:=fun h k a=>KIs h k (.ref a)/\Conf k sh/\k.depth<=7
 hash:=kHash w
 draws:=kDraws
 room:=fun A=>A.units+8<cLine
 inj:=fun hx hy=>x8h _ _ hx.1 hy.1
 keeps:=fun {h h' k a d o es ep} x ho hd hs=>⟨x3i (fun b ob e1 e2 e3=>by
  have hne:b≠d:=by
   rintro rfl;rw[ho]at e1;cases e1;obtain⟨it,n,e⟩:=e3;rw[hd]at e;cases e
  exact(hs.2 b hne).trans e1) _ x.1,x.2⟩
 pyHash:=fun {A E s k a Q} hu hk h=>x8i k _ A s Q hk.1 (by have:=hk.2.2;omega) h
 eqBool:=fun {A E s x y a b Q} hu hx hy h=>z24 s 7 x y sh _ _ A hx.2.2 hx.2.1 hy.2.1 hx.1 hy.1 (by omega) prog w E Q h
 quiet:=fun {A E s k a Q} hk h=>y3k 8 k _ s Q (by have:=hk.2.2;omega) hk.1 h
set_option Elab.async false
set_option linter.all false
set_option maxRecDepth 100000
noncomputable abbrev Key:=Sum Int Str
noncomputable def keyIs:Key->Value->Bool
 |.inl k,v=>Value.isInt k v
 |.inr x,v=>Value.isStrOf x v
noncomputable def keyH(w:World):Key->Int
 |.inl k=>hashInt k
 |.inr x=>hashStr w x
theorem q2b:∀{k:Key}{v:Value},keyIs k v=true->(∃i t,k=Sum.inl i/\v=Value.int i t)\/(∃x t,k=Sum.inr x/\v=Value.str x t)
 |.inl i,v,h=>by
  obtain⟨t,e⟩:=Value.isInt_shape (k:=i) (v:=v) h;exact .inl ⟨i,t,rfl,e⟩
 |.inr x,v,h=>by
  obtain⟨t,e⟩:=Value.isStrOf_shape (x:=x) (v:=v) h;exact .inr ⟨x,t,rfl,e⟩
theorem y9o(a b:Int):decide ((Sum.inl a:Key)=Sum.inl b)=(a==b):=by
 by_cases e:a=b
 ·subst e;simp
 ·have h:¬(Sum.inl a:Key)=Sum.inl b:=fun q=>e (Sum.inl.inj q)
  rw[decide_eq_false h];exact(beq_eq_false_iff_ne.mpr e).symm
theorem y9p(a b:Str):decide ((Sum.inr a:Key)=Sum.inr b)=decide (a=b):=by
 by_cases e:a=b
 ·subst e;simp
 ·have h:¬(Sum.inr a:Key)=Sum.inr b:=fun q=>e (Sum.inr.inj q)
  rw[decide_eq_false h,decide_eq_false e]
theorem y9q(a:Int)(b:Str):decide ((Sum.inl a:Key)=Sum.inr b)=false:=decide_eq_false (fun q=>nomatch q)
theorem y9r(a:Str)(b:Int):decide ((Sum.inr a:Key)=Sum.inl b)=false:=decide_eq_false (fun q=>nomatch q)
noncomputable def mixKind(prog:Program)(w:World):PySem.KeyKind prog w Key where
 is:=keyIs
 hash:=keyH w
 inj:=fun v a b ha hb=>by
  rcases q2b ha with⟨i,t,rfl,rfl⟩|⟨x,t,rfl,rfl⟩
  ·rcases q2b hb with⟨j,u,rfl,e⟩|⟨y,u,rfl,e⟩
   ·injection e with e1 _;rw[e1]
   ·exact nomatch e
  ·rcases q2b hb with⟨j,u,rfl,e⟩|⟨y,u,rfl,e⟩
   ·exact nomatch e
   ·injection e with e1 _;rw[e1]
 byValue:=fun k v h=>by
  rcases q2b h with⟨i,t,rfl,rfl⟩|⟨x,t,rfl,rfl⟩<;>rfl
 pyHash:=fun hv h=>by
  rcases q2b hv with⟨i,t,rfl,rfl⟩|⟨x,t,rfl,rfl⟩
  ·exact wpAny_pyHash_int h
  ·exact wpAny_pyHash_str h
 eqBool:=fun hu hv h=>by
  rcases q2b hu with⟨i,t,rfl,rfl⟩|⟨x,t,rfl,rfl⟩
  ·rcases q2b hv with⟨j,u,rfl,rfl⟩|⟨y,u,rfl,rfl⟩
   ·rw[y9o]at h;exact wpAny_eqBool_int h
   ·rw[y9q]at h;exact SeqAt.EqAt.int_str i t y u _ _ _ _ h
  ·rcases q2b hv with⟨j,u,rfl,rfl⟩|⟨y,u,rfl,rfl⟩
   ·rw[y9r]at h;exact SeqAt.EqAt.str_int x t j u _ _ _ _ h
   ·rw[y9p]at h;exact wpAny_eqBool_str h
 «strs»:=fun k x t v h=>by
  rcases q2b h with⟨i,u,rfl,e⟩|⟨y,u,rfl,e⟩
  ·exact nomatch e
  ·injection e with e1 _
   subst e1;cases v<;>rfl
set_option genInjectivity true in
inductive V where
 |non|bl (b:Bool)|int (i:Int)|str (x:Str)|byt (b:Array UInt8)|flt (b:UInt64)|ref (a:Addr)|ty (n:String)
 deriving DecidableEq
variable{xs:List V}{v:V}
def RelV:V->Value->Prop
 |.non,u=>u=Value.none
 |.bl b,u=>u=Value.bool b
 |.int i,u=>∃t,u=Value.int i t
 |.str x,u=>∃t,u=Value.str x t
 |.byt b,u=>∃t,u=Value.bytes b t
 |.flt b,u=>∃t,u=Value.float b t
 |.ref a,u=>u=Value.ref a
 |.ty n,u=>u=Value.type n
abbrev Vals:List V->List Value->Prop:=Paired RelV
theorem Vals.length(r:Vals xs us):xs.length=us.length:=Paired.length r
theorem Vals.get:∀{xs:List V}{us:List Value}{i:Nat}{x:V},Vals xs us->xs[i]?=some x->∃u,us[i]?=some u/\RelV x u
 |_,_,_,_,.nil,e=>by simp at e
 |_,_,0,_,.cons r _,e=>by simp at e;subst e;exact⟨_,rfl,r⟩
 |_,_,i+1,x,.cons _ t,e=>by
  obtain⟨u,h1,h2⟩:=Vals.get (i:=i) (x:=x) t (by simpa using e);exact⟨u,by simpa using h1,h2⟩
theorem Vals.append:∀{xs ys:List V}{us ws:List Value},Vals xs us->Vals ys ws->Vals (xs++ys) (us++ws)
 |_,_,_,_,.nil,s=>s
 |_,_,_,_,.cons r t,s=>.cons r (Vals.append t s)
theorem Vals.take:∀{xs:List V}{us:List Value}(n:Nat),Vals xs us->Vals (xs.take n) (us.take n)
 |_,_,0,_=>.nil
 |_,_,_+1,.nil=>.nil
 |_,_,n+1,.cons r t=>.cons r (Vals.take n t)
theorem Vals.drop:∀{xs:List V}{us:List Value}(n:Nat),Vals xs us->Vals (xs.drop n) (us.drop n)
 |_,_,0,r=>r
 |_,_,_+1,.nil=>.nil
 |_,_,n+1,.cons _ t=>Vals.drop n t
def RelO:Option V->Option Value->Prop
 |some v,some u=>RelV v u
 |none,none=>True
 |_,_=>False
def KV{κ:Type}:List (κ×V)->List (κ×Value)->Prop:=Paired fun(p:κ×V) (q:κ×Value)=>p.1=q.1/\RelV p.2 q.2
noncomputable def kV:Key->V
 |.inl i=>.int i
 |.inr x=>.str x
inductive HO where
 /-- a list -/
 |lst (xs:List V)
 /-- a tuple (never changes) -/
 |tup (xs:List V)
 /-- a dict whose keys are ints and texts;one whose keys are tuples of ints and texts (the empty one is both) -/
 |dK (kvs:List (Key×V))|dT (sh:Sh) (kvs:List (Kx×V)) (kas:List Addr)
 /-- a set of ints: its members,its size -/
 |set (S:Int->Bool) (n:Nat)
 /-- an instance of the class at C,its dict at dx,its attributes -/
 |ins (C dx:Addr) (fs:List (Str×V))
 /-- the dict of the instance at x -/
 |own (x:Addr)
 /-- the dict of an exception -/
 |xd (fs:List (Str×V))
 /-- a bound method,f of x -/
 |met (f x:Addr)
 /-- a range object lo,lo+1,.. below hi -/
 |rng (lo hi:Int)
 /-- a thing that is known to the object (the script;a dict while a loop walks it): read,never written while it is so -/
 |frz (o:Obj) (u:HO)
 /-- a code object's table -/
 |tbl (ps:Array Value)
 /-- any other thing,by what is true of its one object (a def of one's own: SetO a S n:=HO.ext fun h=>..) -/
 |ext (φ:Heap->Prop)
noncomputable abbrev Hp:=Addr->Option HO
variable{H H':Hp}
def TupLike:HO->Prop
 |.tup _=>True
 |.frz _ (.tup _)=>True
 |.frz _ (.own _)=>True
 |_=>False
mutual
def KRep(H:Hp):Kx->V->Prop
 |.non,v=>v=.non
 |.bl b,v=>v=.bl b
 |.int i,v=>v=.int i
 |.str x,v=>v=.str x
 |.tup ks,v=>∃a xs,v=.ref a/\(H a=some (.tup xs)\/∃o,H a=some (.frz o (.tup xs)))/\KReps H ks xs
def KReps(H:Hp):List Kx->List V->Prop
 |[],vs=>vs=[]
 |k::ks,vs=>∃v r,vs=v::r/\KRep H k v/\KReps H ks r
end
mutual
theorem KRep.keeps{H H':Hp}(ht:∀b u,TupLike u->H b=some u->H' b=some u):∀(k:Kx){v:V},KRep H k v->KRep H' k v
 |.non,_,x=>x
 |.bl _,_,x=>x
 |.int _,_,x=>x
 |.str _,_,x=>x
 |.tup ks,_,x=>by
  obtain⟨a,xs,e,q,r⟩:=x;refine⟨a,xs,e,?_,KReps.keeps ht ks r⟩;rcases q with q|⟨o,q⟩
  ·exact .inl (ht _ _ True.intro q)
  ·exact .inr ⟨o,ht _ _ True.intro q⟩
theorem KReps.keeps{H H':Hp}(ht:∀b u,TupLike u->H b=some u->H' b=some u):∀(ks:List Kx){vs:List V},KReps H ks vs->KReps H' ks vs
 |[],_,x=>x
 |k::ks,_,x=>by
  obtain⟨v,r,e,h1,h2⟩:=x;exact⟨v,r,e,KRep.keeps ht k h1,KReps.keeps ht ks h2⟩
end
noncomputable def upd(H:Hp)(a:Addr)(o:HO):Hp:=fun b=>if b=a then some o else H b
theorem q0l{o:HO}:upd H a o a=some o:=by unfold upd;rw[if_pos rfl]
theorem q0c{o:HO}(h:b≠a):upd H a o b=H b:=by unfold upd;rw[if_neg h]
theorem x2m{o u:HO}:upd (upd H a o) a u=upd H a u:=by
 funext b;unfold upd;split<;>rfl
theorem q06{o u:HO}(h:H a=some o)(h':H b=some u)(d:o≠u):a≠b:=by
 intro e;subst e;rw[h]at h';exact d (Option.some.inj h')
theorem q0q{o:HO}(h:H a=some o)(h':H b=none):a≠b:=by
 intro e;subst e;rw[h]at h';cases h'
section
variable(P:Program)(w:World)
def BareT(h:Heap)(a:Addr):Prop:=∃o,h.get? a=some o/\o.dict=none
def ObjOk(H:Hp)(h:Heap)(a:Addr):HO->Prop
 |.lst xs=>xs.length<=sizeLine/\∃(its:List Value)(n:Nat),Vals xs its/\h.get? a=some {cls:=.type "list", data:=.seq its.toArray n}
 |.tup xs=>xs.length<=sizeLine/\∃its:List Value,Vals xs its/\IsTup h a its.toArray/\BareT h a
 |.dK kvs=>kvs.length<=sizeLine/\(a==sysModules)=false/\∃vs,KV kvs vs/\h.DictOf (mixKind P w) a vs
 |.dT sh kvs kas=>kvs.length<=sizeLine/\(a==sysModules)=false/\∃xs:List (Kx×Addr×Value),
   Paired (fun(p:Kx×V) (q:Kx×Addr×Value)=>p.1=q.1/\(KRep H p.1 (.ref q.2.1)/\Conf p.1 sh/\p.1.depth<=7)/\RelV p.2 q.2.2) kvs xs/\xs.map (·.2.1)=kas /\
   ∃o es ep,h.get? a=some o/\o.ExactDict/\o.data=.dict es ep/\es.toList=xs.map (entryOfKey (treeKind P w sh))/\(xs.map (·.1)).Nodup
 |.set S n=>h.SetOf (intKind P w) a S n
 |.ins C dx fs=>H dx=some (.own a)/\fs.length<=1000/\dx≠a/\h.get? a=some (PySem.W.instObj C dx) /\
   ∃mA,h.Ns1 dx mA/\(∀f,RelO (fs.lookup f) (mA f))/\PySem.Within mA (fs.map (·.1))
 |.own _=>∃o,h.get? a=some o
 |.xd fs=>∃mA,h.Ns1 a mA/\∀f,RelO (fs.lookup f) (mA f)
 |.rng lo hi=>∃t u v,h.get? a=some {cls:=.type "range", data:=.fields #[.int lo t,.int hi u,.int 1 v]}
 |.frz o u=>h.get? a=some o/\ObjOk H h a u
 |.tbl ps=>(∃(q:Str)(qs:Array Value),ps[0]?=some (.bool true)/\ps[1]?=some (.str q 0)/\h.get? a=some {cls:=.none,data:=.fields qs}/\TriplesOk qs.toList/\∀(pos:Pos)(cv:Value),codeAmong pos qs.toList=some cv ->
   ∃(c:Addr)(oc:Obj)(vs:Array Value)(t:Tok),cv=.ref c/\H c=some (.frz oc (.own 0))/\oc.data=.fields vs/\vs[1]?=some (.str q t)) \/
   ∃(q:Str)(c:Addr)(oc ob:Obj)(vs:Array Value)(t:Tok),ps[0]?=some (.bool false)/\ps[1]?=some (.str q 0)/\ps[2]?=some (.ref c)/\H c=some (.frz oc (.own 0))/\oc.data=.fields vs/\vs[1]?=some (.str q t)/\h.get? a=some ob
 |.met f x=>h.get? a=some (methodObj (.ref f) (.ref x))
 |.ext φ=>φ h/\(∃o,h.get? a=some o)/\∀h1 h2:Heap,φ h1->(∀o,h1.get? a=some o->h2.get? a=some o)->φ h2
def HOk(H:Hp)(h:Heap):Prop:=∀a o,H a=some o->ObjOk P w H h a o
end
section
variable{o:HO}
theorem ObjOk.lt(x:ObjOk P w H h a o):a<h.objs.size:=by
 cases o with
 |lst xs=>obtain⟨_,_,_,_,e⟩:=x;exact Heap.lt_size e
 |tup xs=>obtain⟨_,_,_,p,_⟩:=x;exact p.lt
 |dK kvs=>obtain⟨_,_,_,_,o,_,_,e,_⟩:=x;exact Heap.lt_size e
 |dT sh kvs kas=>obtain⟨_,_,_,_,_,o,_,_,e,_⟩:=x;exact Heap.lt_size e
 |set S n=>obtain⟨o,_,_,_,e,_⟩:=x;exact Heap.lt_size e
 |ins C dx fs=>obtain⟨_,_,_,e,_⟩:=x;exact Heap.lt_size e
 |own y=>obtain⟨_,e⟩:=x;exact Heap.lt_size e
 |xd fs=>obtain⟨_,⟨_,_,_,e,_⟩,_⟩:=x;exact Heap.lt_size e
 |rng lo hi=>obtain⟨_,_,_,e⟩:=x;exact Heap.lt_size e
 |frz ob u=>obtain⟨e,_⟩:=x;exact Heap.lt_size e
 |tbl ps=>rcases x with⟨_,_,_,_,e,_⟩|⟨_,_,_,_,_,_,_,_,_,_,_,_,e⟩<;>exact Heap.lt_size e
 |met f y=>exact Heap.lt_size (show h.get? a=some _ from x)
 |ext φ=>obtain⟨_,⟨_,e⟩,_⟩:=x;exact Heap.lt_size e
theorem Paired.mapP{α β:Type}{F G:α->β->Prop}:∀{l₁:List α}{l₂:List β},Paired F l₁ l₂->(∀a b,F a b->G a b)->Paired G l₁ l₂
 |_,_,.nil,_=>.nil
 |_,_,.cons r t,f=>.cons (f _ _ r) (Paired.mapP t f)
theorem ObjOk.stay(x:ObjOk P w H h a o)(k:∀b u,(b=a\/H b=some (.own a))->h.get? b=some u->h'.get? b=some u)
  (ho:∀b,H b=some (.own a)->H' b=some (.own a))(ht:∀b u,TupLike u->H b=some u->H' b=some u):ObjOk P w H' h' a o:=by
 induction o with
 |lst xs=>obtain⟨z,its,n,r,e⟩:=x;exact⟨z,its,n,r,k _ _ (.inl rfl) e⟩
 |tup xs=>obtain⟨z,its,r,⟨ob,e,c⟩,⟨o2,e2,c2⟩⟩:=x;exact⟨z,its,r,⟨ob,k _ _ (.inl rfl) e,c⟩,⟨o2,k _ _ (.inl rfl) e2,c2⟩⟩
 |dK kvs=>obtain⟨z,y,vs,r,ob,es,ep,e,c⟩:=x;exact⟨z,y,vs,r,ob,es,ep,k _ _ (.inl rfl) e,c⟩
 |dT sh kvs kas=>
  obtain⟨z,y,xs,r,ka,ob,es,ep,e,c⟩:=x;exact⟨z,y,xs,Paired.mapP r fun p q z=>⟨z.1,⟨KRep.keeps ht _ z.2.1.1,z.2.1.2⟩,z.2.2⟩,ka,ob,es,ep,k _ _ (.inl rfl) e,c⟩
 |set S n=>obtain⟨ob,es,ep,t,e,c⟩:=x;exact⟨ob,es,ep,t,k _ _ (.inl rfl) e,c⟩
 |ins C dx fs=>
  obtain⟨d,z,ne,e,mA,⟨od,es,ep,e2,c⟩,r⟩:=x;exact⟨ho _ d,z,ne,k _ _ (.inl rfl) e,mA,⟨od,es,ep,k _ _ (.inr d) e2,c⟩,r⟩
 |own y=>obtain⟨ob,e⟩:=x;exact⟨ob,k _ _ (.inl rfl) e⟩
 |xd fs=>obtain⟨mA,⟨od,es,ep,e,c⟩,r⟩:=x;exact⟨mA,⟨od,es,ep,k _ _ (.inl rfl) e,c⟩,r⟩
 |rng lo hi=>obtain⟨t,u,v,e⟩:=x;exact⟨t,u,v,k _ _ (.inl rfl) e⟩
 |frz ob u ih=>obtain⟨e,q⟩:=x;exact⟨k _ _ (.inl rfl) e,ih q⟩
 |tbl ps=>
  rcases x with⟨q,qs,p0,p1,e,tr,cd⟩|⟨q,c,oc,ob,vs,t,p0,p1,p2,h3,h4,h5,e⟩
  ·refine .inl ⟨q,qs,p0,p1,k _ _ (.inl rfl) e,tr,fun pos cv z=>?_⟩
   obtain⟨c,oc,vs,t,h1,h3,h4,h5⟩:=cd pos cv z;exact⟨c,oc,vs,t,h1,ht _ _ True.intro h3,h4,h5⟩
  ·exact .inr ⟨q,c,oc,ob,vs,t,p0,p1,p2,ht _ _ True.intro h3,h4,h5,k _ _ (.inl rfl) e⟩
 |met f y=>
  have e:h.get? a=some (methodObj (.ref f) (.ref y)):=x;show h'.get? a=some (methodObj (.ref f) (.ref y));exact k a _ (.inl rfl) e
 |ext φ=>obtain⟨p,⟨o,e⟩,st⟩:=x;exact⟨st _ _ p fun o q=>k _ _ (.inl rfl) q,⟨o,k _ _ (.inl rfl) e⟩,st⟩
theorem HOk.lt(x:HOk P w H h)(e:H a=some o):a<h.objs.size:=(x a o e).lt
theorem HOk.fresh(x:HOk P w H h)(e:h.objs.size<=a):H a=none:=by
 cases q:H a with
 |none=>rfl
 |some u=>exact absurd (w0v (x.lt q) e) (w1z _)
theorem HOk.kept(x:HOk P w H h)(k:∀b u,h.get? b=some u->h'.get? b=some u):HOk P w H h':=fun a o e=>
 (x a o e).stay (fun b u _ q=>k b u q) (fun _ q=>q) fun _ _ _ q=>q
theorem HOk.laid(x:HOk P w H h)(k:∀b u,h.get? b=some u->h'.get? b=some u)(hp:h.objs.size<=a)(new:ObjOk P w (upd H a o) h' a o):HOk P w (upd H a o) h':=fun b u e=>by
 have hn:=x.fresh hp
 by_cases hb:b=a
 ·subst hb;rw[q0l]at e;cases e;exact new
 ·rw[q0c hb]at e;exact(x b u e).stay (fun c v _ q=>k c v q) (fun c q=>by rw[q0c (q0q q hn)];exact q) fun c xs _ q=>by rw[q0c (q0q q hn)];exact q
end
def Rd(H:Hp)(a:Addr)(u:HO):Prop:=H a=some u\/∃o,H a=some (.frz o u)
theorem Rd.ok{u:HO}(r:Rd H a u)(x:HOk P w H h):ObjOk P w H h a u:=by
 rcases r with r|⟨o,r⟩
 ·exact x a u r
 ·obtain⟨_,q⟩:=x a _ r;exact q
def Mut:Option HO->Prop
 |some (.lst _)=>True
 |some (.dK _)=>True
 |some (.dT _ _ _)=>True
 |some (.set _ _)=>True
 |some (.ins _ _ _)=>True
 |some (.ext _)=>True
 |_=>False
section
variable{x e:Addr}{o':HO}
theorem HOk.write(ok:HOk P w H h)(mu:Mut (H x))(he:e=x\/H e=some (.own x))(k:∀b u,b≠e->h.get? b=some u->h'.get? b=some u)(heo:∃u,h'.get? e=some u)
  (new:ObjOk P w (upd H x o') h' x o'):HOk P w (upd H x o') h':=fun b u q=>by
 have nown:∀c y,H c=some (.own y)->c≠x:=fun c y r z=>by subst z;rw[r]at mu;exact mu
 have ntup:∀c u,TupLike u->H c=some u->c≠x:=fun c u t r z=>by
  subst z;rw[r]at mu;cases u<;>first|exact mu|exact t
 by_cases hb:b=x
 ·subst hb;rw[q0l]at q;cases q;exact new
 ·rw[q0c hb]at q
  by_cases hbe:b=e
  ·have q':H b=some (.own x):=by
    rcases he with z|z
    ·exact absurd (hbe.trans z) hb
    ·rw[hbe];exact z
   rw[q]at q';cases q';obtain⟨v,hv⟩:=heo;exact⟨v,by rw[hbe];exact hv⟩
  ·refine(ok b u q).stay (fun c v hc r=>k c v ?_ r) (fun c r=>by rw[q0c (nown c b r)];exact r) fun c xs t r=>by rw[q0c (ntup c xs t r)];exact r
   rcases hc with rfl|hc
   ·exact hbe
   ·rintro rfl;rcases he with z|z
    ·exact nown c b hc z
    ·rw[hc]at z;cases z;exact hb rfl
end
structure Un(fs ex:List Addr)(H H':Hp)(h h':Heap):Prop where
 keep:∀b o,h.get? b=some o->H b=none->b∉fs->b∉ex->h'.get? b=some o
 slot:∀b o,h.get? b=some o->H b=none->b∈fs->b∉ex->∃sl,h'.get? b=some {o with slots:=sl}
 free:∀b o,h.get? b=some o->H b=none->b∉ex->H' b=none
 there:∀b o,h.get? b=some o->b∉ex->∃o',h'.get? b=some o'
 tups:∀b xs,H b=some (.tup xs)->H' b=some (.tup xs)
 frzs:∀b o u,H b=some (.frz o u)->H' b=some (.frz o u)
 tbls:∀b ps,H b=some (.tbl ps)->∃more,H' b=some (.tbl (ps++more))
section
variable{fs fs' ex ex':List Addr}{H1 H2:Hp}{h1 h2:Heap}{x e:Addr}{o:HO}
theorem Un.any(u:Un fs ex H H1 h h1){ob:Obj}(q:h.get? b=some ob)(n:H b=none)(hx:b∉ex):∃sl,h1.get? b=some {ob with slots:=sl}:=by
 by_cases hb:b∈fs
 ·exact u.slot b ob q n hb hx
 ·exact⟨ob.slots,u.keep b ob q n hb hx⟩
theorem Un.kept(k:∀b u,h.get? b=some u->h'.get? b=some u):Un fs ex H H h h':=
 ⟨fun b ob q _ _ _=>k b ob q,fun b ob q _ _ _=>⟨ob.slots,k b ob q⟩,fun _ _ _ n _=>n,fun b ob q _=>⟨ob,k b ob q⟩,fun _ _ q=>q,fun _ _ _ q=>q,fun _ ps q=>⟨#[],by rw[q];simp⟩⟩
theorem Un.refl:Un fs ex H H h h:=Un.kept fun _ _ q=>q
theorem Un.laid(k:∀b u,h.get? b=some u->h'.get? b=some u)(hp:h.objs.size<=a)(hn:H a=none):Un fs ex H (upd H a o) h h' where
 keep:=fun b u q _ _ _=>k b u q
 slot:=fun b u q _ _ _=>⟨u.slots,k b u q⟩
 free:=fun b u q n _=>by rw[q0c (w0r (w0v (Heap.lt_size q) hp))];exact n
 there:=fun b u q _=>⟨u,k b u q⟩
 tups:=fun b xs q=>by rw[q0c (q0q q hn)];exact q
 frzs:=fun b u xs q=>by rw[q0c (q0q q hn)];exact q
 tbls:=fun b ps q=>⟨#[],by rw[q0c (q0q q hn),q];simp⟩
theorem Un.write(mu:Mut (H x))(he:e=x\/H e=some (.own x))(k:∀b u,b≠e->h.get? b=some u->h'.get? b=some u)(heo:∃u,h'.get? e=some u):Un fs ex H (upd H x o) h h':=by
 have hx:∀b,H b=none->b≠x:=fun b n z=>by subst z;rw[n]at mu;exact mu
 have hb:∀b,H b=none->b≠e:=fun b n z=>by
  subst z;rcases he with r|r
  ·exact hx b n r
  ·rw[n]at r;cases r
 have hm:∀b u,H b=some u->¬Mut (some u)->b≠x:=fun b u q nm z=>by subst z;rw[q]at mu;exact nm mu
 refine⟨fun b u q n _ _=>k b u (hb b n) q,fun b u q n _ _=>⟨u.slots,k b u (hb b n) q⟩,fun b u q n _=>by rw[q0c (hx b n)];exact n,fun b u q _=>?_,
  fun b xs q=>by rw[q0c (hm b _ q fun z=>z)];exact q,fun b u xs q=>by rw[q0c (hm b _ q fun z=>z)];exact q,fun b ps q=>⟨#[],by rw[q0c (hm b _ q fun z=>z),q];simp⟩⟩
 by_cases hbe:b=e
 ·subst hbe;exact heo
 ·exact⟨u,k b u hbe q⟩
end
noncomputable def trk(h:Heap)(H:Hp):List Addr:=(List.range h.objs.size).filter fun a=>(H a).isSome
noncomputable def hidT(h:Heap)(H:Hp):Heap:=PySem.W.hideAll h (trk h H)
theorem x3k(h:Heap)(H:Hp):(hidT h H).objs.size=h.objs.size:=PySem.W.hideAll_size _ _
theorem x5g{o:Obj}(e:h.get? b=some o)(n:H b=none):(hidT h H).get? b=some o:=
 hideAll_get _ e fun hm=>by
  have q:(H b).isSome=true:=(w0s.mp hm).2;rw[n]at q;simp at q
theorem x8k{o:Obj}(e:(hidT h H).get? b=some o):h.get? b=some o/\H b=none:=by
 have e':h.get? b=some o:=PySem.W.of_hideAll (trk h H) e;refine⟨e',?_⟩;cases q:H b with
 |none=>rfl
 |some x=>
  have hm:b∈trk h H:=w0s.mpr ⟨w0u.mpr (Heap.lt_size e'),by simp[q]⟩;have z:(hidT h H).get? b=none:=PySem.W.hideAll_none (trk h H) hm;rw[z]at e;cases e
noncomputable def allNews(g h:Heap)(L:Addr):List (Addr×Obj):=(List.range h.objs.size).filterMap fun a=>if a=L\/(g.get? a).isSome=true then none else(h.get? a).map fun o=>(a,o)
noncomputable def rest(g h:Heap)(L d:Addr):List (Addr×Obj):=(allNews g h L).filter fun p=>decide (p.1≠d)
structure Mod(K:PySem.W.Frag)(mg:Str->Option Value)(base:Heap):Prop where
 kin:K.In base
 glob:base.Ns mainGlobals mg
 blt:∃mb,base.Ns builtinsNs mb/\∀x:Str,x≠"__name__"->mb x=bootBuiltins x
 nolimit:base.NoLimit
structure Cx where
 prog:Program
 w:World
 K:PySem.W.Frag
 mg:Str->Option Value
 base:Heap
 A:Around
 N:List Str
 s₀:Shared
 H₀:Hp
 env:Env
 outer:List Env
 stack:List Env
 ex:List Addr
 fn:Str->Bool
 calm:Bool
 pn:List (Addr×Obj)
 xe:Value->Shared->Prop
variable{X:Cx}
noncomputable def frs(l:List Env):List Addr:=l.filterMap (·.frame)
noncomputable abbrev Cx.fs(X:Cx):List Addr:=frs X.outer
def Vis(sc:Scope)(x:Str):Prop:=sc.names.lookup x=some .local\/sc.names.lookup x=some .cell\/sc.names.lookup x=some .free
def Loc(sc:Scope)(x:Str):Prop:=sc.names.lookup x=some .local\/sc.names.lookup x=some .cell
def Look(env:Env)(h:Heap)(m:Str->Option Value)(x:Str)(u:Value):Prop:=
 (env.kindOf x=some .local/\m x=some u)\/((env.kindOf x=some .cell\/env.kindOf x=some .free)/\∃c,env.cells.lookup x=some c/\h.IsCell c (some u))
noncomputable abbrev markO(P:Addr)(q:Str):Obj:={cls:=.str q 0,data:=.fields #[.ref P]}
def TabOk(K:PySem.W.Frag)(H:Hp):Prop:=∀(a:Addr)(q:Str)(P:Addr),(a,markO P q)∈K->∃ps:Array Value,H P=some (.tbl ps)/\ps[0]?=some (.bool true)/\ps[1]?=some (.str q 0)
noncomputable def noMark(K:PySem.W.Frag):Bool:=K.all fun p=>match p.2.cls with
 |.str _ _=>false
 |_=>true
theorem TabOk.vac(h:noMark K=true):TabOk K H:=fun a q P m=>by
 have:=w0t.mp h _ m;cases this
theorem TabOk.un{fs ex:List Addr}{h':Heap}(t:TabOk K H)(u:Un fs ex H H' h h'):TabOk K H':=fun a q P m=>by
 obtain⟨ps,e,p0,p1⟩:=t a q P m;obtain⟨more,e'⟩:=u.tbls P ps e;refine⟨_,e',?_,?_⟩
 ·rw[w1o (by obtain⟨z,_⟩:=w1x.mp p0;exact z)];exact p0
 ·rw[w1o (by obtain⟨z,_⟩:=w1x.mp p1;exact z)];exact p1
theorem TabOk.laid{D:Addr}{o:HO}(t:TabOk K H)(hn:H D=none):TabOk K (upd H D o):=fun a q P m=>by
 obtain⟨ps,e,p⟩:=t a q P m;exact⟨ps,by rw[q0c (q0q e hn)];exact e,p⟩
structure Cx.Ok(X:Cx):Prop where
 mod:Mod X.K X.mg X.base
 kind:X.env.scope.kind=.function
 glob:X.env.globals=mainGlobals
 blt:X.env.builtins=builtinsNs
 above:X.s₀.heap.objs.size<=X.env.locals
 inj:∀x y c,X.env.cells.lookup x=some c->X.env.cells.lookup y=some c->x=y
 has:∀x,(X.env.kindOf x=some .cell\/X.env.kindOf x=some .free)->∃c,X.env.cells.lookup x=some c
 cab:∀x c,X.fn x=true->X.env.cells.lookup x=some c->X.s₀.heap.objs.size<=c
 hd:X.calm=true->X.A.handled=none
 frames:X.A.frames=some X.stack
 stk:X.stack=X.outer\/(X.stack=X.env::X.outer/\X.env.frame=some X.env.locals)
 exf:∀b∈X.ex,b≠X.env.locals/\∀x c,X.env.cells.lookup x=some c->c≠b
 bs:∀b o,X.base.get? b=some o->X.s₀.heap.get? b=some o/\X.H₀ b=none
 bsz:X.base.objs.size<=X.s₀.heap.objs.size
 noex:∀b o,X.base.get? b=some o->b∉X.ex
 exfs:∀b∈X.ex,b∉X.fs
 funs:X.s₀.heap.FunFrames X.base X.outer
 frf:∀b∈X.fs,X.H₀ b=none
 tab:TabOk X.K X.H₀
structure Inv(X:Cx)(pins:List (Addr×Obj))(σ:List (Option V))(H:Hp)(s:Shared):Prop where
 ok:X.Ok
 os:s.os=X.s₀.os
 bare:AllBare s.gens
 base:Un X.fs X.ex X.H₀ H X.s₀.heap s.heap
 loc:∃m,s.heap.Ns X.env.locals m/\∀(i:Nat)(x:Str)(v:V),X.N[i]?=some x->σ[i]?=some (some v)->Vis X.env.scope x->∃u,RelV v u/\Look X.env s.heap m x u
 cell:∀x c,X.env.cells.lookup x=some c->∃v,s.heap.IsCell c v
 free:H X.env.locals=none
 freeC:∀x c,X.env.cells.lookup x=some c->H c=none
 pin:∀p∈X.pn++pins,s.heap.get? p.1=some p.2/\H p.1=none/\p.1≠X.env.locals/\p.1∉X.fs/\∀v,p.2.data≠.cell v
 hok:HOk X.prog X.w H s.heap
 len:σ.length=X.N.length
section
variable{σ:List (Option V)}
theorem Cx.Ok.nofr(ok:X.Ok){o:Obj}(e:X.base.get? b=some o):b∉X.fs:=fun hb=>by
 have:=(ok.funs.mem hb).1
 rw[e]at this;cases this
theorem Inv.bs(I:Inv X pins σ H s):∀b o,X.base.get? b=some o->s.heap.get? b=some o/\H b=none:=fun b o e=>
 ⟨I.base.keep b o (I.ok.bs b o e).1 (I.ok.bs b o e).2 (I.ok.nofr e) (I.ok.noex b o e),I.base.free b o (I.ok.bs b o e).1 (I.ok.bs b o e).2 (I.ok.noex b o e)⟩
theorem Inv.bk(I:Inv X pins σ H s):∀b o,X.base.get? b=some o->s.heap.get? b=some o:=fun b o e=>(I.bs b o e).1
theorem Inv.mod(I:Inv X pins σ H s):Mod X.K X.mg X.base:=I.ok.mod
theorem Inv.kIn(I:Inv X pins σ H s):X.K.In s.heap:=I.ok.mod.kin.keeps I.bk
theorem Inv.fr(I:Inv X pins σ H s):∃m,Fr X.base X.env.locals s.heap m:=
 let ⟨m,hn,_⟩:=I.loc
 ⟨m,hn,I.bk,w0l I.ok.bsz I.ok.above⟩
theorem Inv.lt(I:Inv X pins σ H s):X.env.locals<s.heap.objs.size:=let ⟨_,hn,_⟩:=I.loc;hn.lt
theorem Inv.sz(I:Inv X pins σ H s):X.s₀.heap.objs.size<=s.heap.objs.size:=w0l I.ok.above (w4k I.lt)
theorem Inv.nofs(I:Inv X pins σ H s)(h:s.heap.objs.size<=a):a∉X.fs:=fun hb=>by
 obtain⟨_,o,ho,_⟩:=I.ok.funs.mem hb
 exact absurd (w0v (Heap.lt_size ho) (w0l I.sz h)) (w1z _)
theorem Inv.cne(I:Inv X pins σ H s):∀x c,X.env.cells.lookup x=some c->c≠X.env.locals:=fun x c e z=>by
 obtain⟨v,o,ho,hd⟩:=I.cell x c e;obtain⟨m,⟨o',es,ep,ho',hd',_⟩,_⟩:=I.loc;rw[z,ho']at ho;cases ho;rw[hd']at hd;cases hd
theorem Inv.funs(I:Inv X pins σ H s):s.heap.FunFrames X.base X.outer:=by
 have all:∀(l:List Env),(∀b∈frs l,b∈X.fs)->X.s₀.heap.FunFrames X.base l->s.heap.FunFrames X.base l:=by
  intro l
  induction l with
  |nil=>intro _ _;trivial
  |cons env r ih=>
   intro hs hl;obtain⟨hk,⟨L,o,hf,hn,ho,hd⟩,hr⟩:=hl;have hL:L∈X.fs:=hs L (by unfold frs;rw[w3n,hf];exact w0k);obtain⟨sl,e⟩:=I.base.slot L o ho (I.ok.frf L hL) hL fun z=>I.ok.exfs L z hL
   exact⟨hk,⟨L,_,hf,hn,e,hd⟩,ih (fun b hb=>hs b (by unfold frs;rw[w3n,hf];exact w0g _ hb)) hr⟩
 exact all X.outer (fun _ hb=>hb) I.ok.funs
theorem Inv.stack(I:Inv X pins σ H s):s.heap.FunFrames X.base X.stack:=by
 rcases I.ok.stk with e|⟨e,hf⟩
 ·rw[e];exact I.funs
 ·rw[e];obtain⟨m,hn,_⟩:=I.loc;refine .cons (by rw[I.ok.kind];decide) hf hn ?_ I.funs
  exact Heap.get?_none_of_le (w0l I.ok.bsz I.ok.above)
theorem Inv.stkSub(I:Inv X pins σ H s):∀b∈frs X.stack,b∈X.env.locals::X.fs:=fun b hb=>by
 rcases I.ok.stk with e|⟨e,hf⟩
 ·rw[e]at hb;exact w0g _ hb
 ·rw[e]at hb;unfold frs at hb;rw[w3n,hf]at hb;exact hb
theorem Inv.stkFree(I:Inv X pins σ H s):∀b∈frs X.stack,H b=none:=fun b hb=>by
 rcases w0h.mp (I.stkSub b hb)with e|hb
 ·rw[e];exact I.free
 ·obtain⟨_,o,ho,_⟩:=I.ok.funs.mem hb
  exact I.base.free b o ho (I.ok.frf b hb) fun z=>I.ok.exfs b z hb
theorem Inv.step{g':Array GenState}{d':Drawn}{ch:List Addr}(I:Inv X pins σ H s)
  (hch:∀b∈ch,(b∈X.ex\/X.s₀.heap.objs.size<=b)/\b≠X.env.locals/\(∀x c,X.env.cells.lookup x=some c->c≠b)/\∀p∈X.pn++pins,p.1≠b)
  (keep:∀b o,b≠X.env.locals->b∉X.fs->b∉ch->s.heap.get? b=some o->H b=none->h'.get? b=some o)
  (slot:∀b o,b≠X.env.locals->b∈X.fs->b∉ch->s.heap.get? b=some o->H b=none->∃sl,h'.get? b=some {o with slots:=sl})(free:∀b o,b∉ch->s.heap.get? b=some o->H b=none->H' b=none)
  (there:∀b o,b∉ch->s.heap.get? b=some o->∃o',h'.get? b=some o')
  (tups:∀b xs,H b=some (.tup xs)->H' b=some (.tup xs))(frzs:∀b o u,H b=some (.frz o u)->H' b=some (.frz o u))(tbls:∀b ps,H b=some (.tbl ps)->∃more,H' b=some (.tbl (ps++more)))
  (ns:∀m,s.heap.Ns X.env.locals m->h'.Ns X.env.locals m)(hok:HOk X.prog X.w H' h')(hg:AllBare g'):
  Inv X pins σ H' {s with heap:=h',gens:=g',drawn:=d',toks:=t'}:=by
 have neL:∀b o,X.s₀.heap.get? b=some o->b≠X.env.locals:=fun b o e=>w0r (w0v (Heap.lt_size e) I.ok.above)
 have neC:∀b o,X.s₀.heap.get? b=some o->b∉X.ex->b∉ch:=fun b o e hx hb=>by
  rcases(hch b hb).1 with z|z
  ·exact hx z
  ·exact absurd (w0v (Heap.lt_size e) z) (w1z _)
 have cellK:∀x c,X.env.cells.lookup x=some c->∀v,s.heap.IsCell c v->h'.IsCell c v:=fun x c e v ⟨o,ho,hd⟩=>by
  have nch:c∉ch:=fun z=>(hch c z).2.2.1 x c e rfl
  by_cases hc:c∈X.fs
  ·obtain⟨sl,q⟩:=slot c o (I.cne x c e) hc nch ho (I.freeC x c e);exact⟨_,q,hd⟩
  ·exact⟨o,keep c o (I.cne x c e) hc nch ho (I.freeC x c e),hd⟩
 refine⟨I.ok,I.os,hg,⟨fun b o e n hb hx=>?_,fun b o e n hb hx=>?_,fun b o e n hx=>?_,fun b o e hx=>?_,fun b xs e=>tups b xs (I.base.tups b xs e),fun b o xs e=>frzs b o xs (I.base.frzs b o xs e),fun b ps e=>?_⟩,?_,fun x c e=>?_,?_,fun x c e=>?_,fun p hp=>?_,hok,I.len⟩
 ·exact keep b o (neL b o e) hb (neC b o e hx) (I.base.keep b o e n hb hx) (I.base.free b o e n hx)
 ·obtain⟨sl,e1⟩:=I.base.slot b o e n hb hx;obtain⟨sl',e2⟩:=slot b _ (neL b o e) hb (neC b o e hx) e1 (I.base.free b o e n hx);exact⟨sl',e2⟩
 ·obtain⟨o',e1⟩:=I.base.there b o e hx;exact free b o' (neC b o e hx) e1 (I.base.free b o e n hx)
 ·obtain⟨o',e1⟩:=I.base.there b o e hx;exact there b o' (neC b o e hx) e1
 ·obtain⟨m1,e1⟩:=I.base.tbls b ps e;obtain⟨m2,e2⟩:=tbls b _ e1;exact⟨m1++m2,by rw[e2,Array.append_assoc]⟩
 ·obtain⟨m,hn,hl⟩:=I.loc;refine⟨m,ns m hn,fun i x v e1 e2 e3=>?_⟩
  obtain⟨u,r,l⟩:=hl i x v e1 e2 e3;refine⟨u,r,?_⟩;rcases l with l|⟨k,c,e,z⟩
  ·exact .inl l
  ·exact .inr ⟨k,c,e,cellK x c e _ z⟩
 ·obtain⟨v,z⟩:=I.cell x c e;exact⟨v,cellK x c e v z⟩
 ·obtain⟨m,⟨o,_,_,ho,_⟩,_⟩:=I.loc;exact free _ o (fun z=>(hch _ z).2.1 rfl) ho I.free
 ·obtain⟨v,o,ho,hd⟩:=I.cell x c e;exact free c o (fun z=>(hch c z).2.2.1 x c e rfl) ho (I.freeC x c e)
 ·obtain⟨e,n,ne,nf,d⟩:=I.pin p hp;have nch:p.1∉ch:=fun z=>(hch p.1 z).2.2.2 p hp rfl
  exact⟨keep p.1 p.2 ne nf nch e n,free p.1 p.2 nch e n,ne,nf,d⟩
theorem Inv.un(I:Inv X pins σ H s)(u:Un X.fs [] H H' s.heap h')(hok:HOk X.prog X.w H' h'):Inv X pins σ H' {s with heap:=h',toks:=t'}:=by
 obtain⟨m,⟨o,es,ep,ho,r⟩,_⟩:=id I.loc;obtain⟨sl,hL⟩:=u.any ho I.free (by simp)
 exact I.step (g':=s.gens) (d':=s.drawn) (ch:=[]) (fun _ z=>nomatch z) (fun b o _ hb _ e n=>u.keep b o e n hb (by simp)) (fun b o _ hb _ e n=>u.slot b o e n hb (by simp)) (fun b o _ e n=>u.free b o e n (by simp)) (fun b o _ e=>u.there b o e (by simp)) u.tups u.frzs u.tbls (fun m' hm=>by
  obtain⟨o',es',ep',ho',r'⟩:=hm;rw[ho]at ho';cases ho';exact⟨_,es',ep',hL,r'⟩) hok I.bare
theorem Inv.call{g':Array GenState}{d':Drawn}(I:Inv X pins σ H s)(u:Un (frs X.stack) ch H H' s.heap h')(hok:HOk X.prog X.w H' h')(hg:AllBare g')
  (hch:∀b∈ch,(b∈X.ex\/X.s₀.heap.objs.size<=b)/\b≠X.env.locals/\(∀x c,X.env.cells.lookup x=some c->c≠b)/\∀p∈X.pn++pins,p.1≠b):
  Inv X pins σ H' {s with heap:=h',gens:=g',drawn:=d',toks:=t'}:=by
 obtain⟨m,⟨o,es,ep,ho,r⟩,_⟩:=id I.loc;obtain⟨sl,hL⟩:=u.any ho I.free fun z=>(hch _ z).2.1 rfl
 exact I.step (ch:=ch) hch (fun b o hL hb hc e n=>u.keep b o e n (fun z=>(w0h.mp (I.stkSub b z)).elim hL hb) hc) (fun b o _ _ hc e n=>u.any e n hc) (fun b o hc e n=>u.free b o e n hc) (fun b o hc e=>u.there b o e hc) u.tups u.frzs u.tbls (fun m' hm=>by
  obtain⟨o',es',ep',ho',r'⟩:=hm;rw[ho]at ho';cases ho';exact⟨_,es',ep',hL,r'⟩) hok hg
theorem Inv.turned{t':Nat}{it:Addr}(I:Inv X pins σ H s)(k:∀b o,b≠it->s.heap.get? b=some o->h'.get? b=some o)(hn:H it=none)(hL:it≠X.env.locals)
  (h1:it∈X.ex\/X.s₀.heap.objs.size<=it)(h2:∀x c,X.env.cells.lookup x=some c->c≠it)(h3:∀p∈X.pn++pins,p.1≠it):Inv X pins σ H {s with heap:=h',toks:=t'}:=by
 have nit:∀b u,H b=some u->b≠it:=fun b u e z=>by rw[z,hn]at e;cases e
 refine I.step (g':=s.gens) (d':=s.drawn) (ch:=[it]) (fun b hb=>?_) (fun b o _ _ hc e _=>k b o (fun z=>hc (by simp[z])) e) (fun b o _ _ hc e _=>⟨o.slots,k b o (fun z=>hc (by simp[z])) e⟩) (fun _ _ _ _ n=>n)
  (fun b o hc e=>⟨o,k b o (fun z=>hc (by simp[z])) e⟩) (fun _ _ e=>e) (fun _ _ _ e=>e) (fun b ps e=>⟨#[],by rw[e];simp⟩) (fun m hm=>?_) (fun b u e=>?_) I.bare
 ·have e:b=it:=by simpa using hb
  subst e;exact⟨h1,hL,h2,h3⟩
 ·obtain⟨o,es,ep,ho,r⟩:=hm;exact⟨o,es,ep,k _ o (Ne.symm hL) ho,r⟩
 ·refine(I.hok b u e).stay (fun c v hc q=>k c v ?_ q) (fun _ q=>q) fun _ _ _ q=>q
  rcases hc with z|z
  ·rw[z];exact nit b u e
  ·exact nit c _ z
theorem Inv.tok(I:Inv X pins σ H s)(t:Nat):Inv X pins σ H {s with toks:=t}:=I.un (h':=s.heap) (t':=t) Un.refl I.hok
theorem Inv.kept{t':Nat}(I:Inv X pins σ H s)(k:∀b u,s.heap.get? b=some u->h'.get? b=some u):Inv X pins σ H {s with heap:=h',toks:=t'}:=I.un (Un.kept k) (I.hok.kept k)
theorem Inv.laid{o:HO}{t':Nat}(I:Inv X pins σ H s)(k:∀b u,s.heap.get? b=some u->h'.get? b=some u)(hp:s.heap.objs.size<=a)(new:ObjOk X.prog X.w (upd H a o) h' a o):
  Inv X pins σ (upd H a o) {s with heap:=h',toks:=t'}:=I.un (Un.laid k hp (I.hok.fresh hp)) (I.hok.laid k hp new)
theorem Inv.write{x e:Addr}{o:HO}{t':Nat}(I:Inv X pins σ H s)(mu:Mut (H x))(he:e=x\/H e=some (.own x))(k:∀b u,b≠e->s.heap.get? b=some u->h'.get? b=some u)(heo:∃u,h'.get? e=some u)
  (new:ObjOk X.prog X.w (upd H x o) h' x o):Inv X pins σ (upd H x o) {s with heap:=h',toks:=t'}:=I.un (Un.write mu he k heo) (I.hok.write mu he k heo new)
theorem Inv.weak{σ':List (Option V)}(I:Inv X pins σ H s)(hl:σ'.length=σ.length)(w:∀(i:Nat) v,σ'[i]?=some (some v)->σ[i]?=some (some v)):Inv X pins σ' H s:=
 ⟨I.ok,I.os,I.bare,I.base,let ⟨m,hn,hl'⟩:=I.loc;⟨m,hn,fun i x v e1 e2 e3=>hl' i x v e1 (w i v e2) e3⟩,I.cell,I.free,I.freeC,I.pin,I.hok,hl.trans I.len⟩
theorem Inv.pins_of{pins':List (Addr×Obj)}(I:Inv X pins σ H s)(h:∀p∈pins',s.heap.get? p.1=some p.2/\H p.1=none/\p.1≠X.env.locals/\p.1∉X.fs/\∀v,p.2.data≠.cell v):Inv X pins' σ H s:=
 ⟨I.ok,I.os,I.bare,I.base,I.loc,I.cell,I.free,I.freeC,fun p hp=>(w2e.mp hp).elim (fun z=>I.pin p (w2w _ z)) (h p),I.hok,I.len⟩
theorem x5h(hN:N.Nodup){j:Nat}(a:N[i]?=some x)(b:N[j]?=some x):i=j:=by
 obtain⟨h1,e1⟩:=w0d.mp a;obtain⟨h2,e2⟩:=w0d.mp b;exact(List.getElem_inj hN).mp (e1.trans e2.symm)
theorem y0p{Q:Unit->Shared->Prop}(I:Inv X pins σ H s)(hN:X.N.Nodup)(hi:X.N[i]?=some x)(hx:Loc X.env.scope x)(r:RelV v u)
  (h:∀s',Inv X pins (σ.set i (some v)) H s'->(∃a,Heap.SameBut a s.heap s'.heap/\(a=X.env.locals\/X.env.cells.lookup x=some a))->Q () s')(hf:X.fn x=true\/X.env.scope.names.lookup x=some .local:=by walk_at "2"):wpAny M A (storeName X.env x u) Q E s:=by
 obtain⟨m,hn,hl⟩:=id I.loc;have hcls:(X.env.scope.kind==.class||(X.env.scope.kind==.module&&X.env.locals != X.env.globals))=false:=by rw[I.ok.kind];rfl
 have hiσ:i<σ.length:=by rw[I.len];exact(w0d.mp hi).1
 have cne:=I.cne
 have tracked:∀{a:Addr}{h':Heap},(∃o,s.heap.get? a=some o/\H a=none)->Heap.SameBut a s.heap h'->HOk X.prog X.w H h':=fun {a h'} ha hs b ob e=>by
  obtain⟨_,_,hfree⟩:=ha;refine(I.hok b ob e).stay (fun c w' hc q=>(hs.2 c ?_).trans q) (fun _ q=>q) fun _ _ _ q=>q
  rintro rfl;rcases hc with rfl|hc
  ·rw[hfree]at e;cases e
  ·rw[hfree]at hc;cases hc
 rcases hx with hk|hk
 ·refine wpAny_storeName_local hk hn (fun h' hn' hs=>?_) hcls
  obtain⟨oL,_,_,hoL,_⟩:=id hn;refine h _ ⟨I.ok,I.os,I.bare,⟨fun b o e n hb hx=>?_,fun b o e n hb hx=>?_,I.base.free,fun b o e hx=>?_,I.base.tups,I.base.frzs,I.base.tbls⟩,⟨_,hn',fun j y v' e1 e2 e3=>?_⟩,fun y c e=>?_,I.free,I.freeC,fun p hp=>?_,tracked ⟨oL,hoL,I.free⟩ hs,by simpa using I.len⟩ ⟨_,hs,.inl rfl⟩
  ·exact(hs.2 b (w0r (w0v (Heap.lt_size e) I.ok.above))).trans (I.base.keep b o e n hb hx)
  ·obtain⟨sl,e1⟩:=I.base.slot b o e n hb hx;exact⟨sl,(hs.2 b (w0r (w0v (Heap.lt_size e) I.ok.above))).trans e1⟩
  ·obtain⟨o',e1⟩:=I.base.there b o e hx;exact⟨o',(hs.2 b (w0r (w0v (Heap.lt_size e) I.ok.above))).trans e1⟩
  ·by_cases hj:j=i
   ·subst hj;rw[hi]at e1;cases e1;rw[w0y hiσ]at e2;cases e2;exact⟨u,r,.inl ⟨hk,by simp⟩⟩
   ·rw[w1a (Ne.symm hj)]at e2;obtain⟨u',r',q⟩:=hl j y v' e1 e2 e3;refine⟨u',r',?_⟩;rcases q with⟨k,e⟩|⟨k,c,e,z⟩
    ·refine .inl ⟨k,?_⟩;have:y≠x:=fun e=>hj (x5h hN e1 (e ▸ hi))
     simp[this,e]
    ·exact .inr ⟨k,c,e,z.sameBut hs (cne y c e)⟩
  ·obtain⟨w',z⟩:=I.cell y c e;exact⟨w',z.sameBut hs (cne y c e)⟩
  ·obtain⟨e,n,ne,nf,d⟩:=I.pin p hp;exact⟨(hs.2 p.1 ne).trans e,n,ne,nf,d⟩
 ·have hfn:X.fn x=true:=by
   rcases hf with z|z
   ·exact z
   ·rw[z]at hk;cases hk
  obtain⟨c,hc⟩:=I.ok.has x (.inl hk);obtain⟨w',z⟩:=I.cell x c hc;refine wpAny_storeName_cell I.ok.kind hk hc z (fun h' hc' hs=>?_)
  obtain⟨oc,hoc,hocd⟩:=id z;refine h {s with heap:=h'} ⟨I.ok,I.os,I.bare,⟨fun b o e n hb hx=>?_,fun b o e n hb hx=>?_,I.base.free,fun b o e hx=>?_,I.base.tups,I.base.frzs,I.base.tbls⟩,⟨m,hn.sameBut hs (Ne.symm (cne x c hc)),fun j y v' e1 e2 e3=>?_⟩,fun y c' e=>?_,I.free,I.freeC,fun p hp=>?_,tracked ⟨oc,hoc,I.freeC x c hc⟩ hs,by simpa using I.len⟩ ⟨c,hs,.inr hc⟩
  ·exact(hs.2 b (w0r (w0v (Heap.lt_size e) (I.ok.cab x c hfn hc)))).trans (I.base.keep b o e n hb hx)
  ·obtain⟨sl,e1⟩:=I.base.slot b o e n hb hx;exact⟨sl,(hs.2 b (w0r (w0v (Heap.lt_size e) (I.ok.cab x c hfn hc)))).trans e1⟩
  ·obtain⟨o',e1⟩:=I.base.there b o e hx;exact⟨o',(hs.2 b (w0r (w0v (Heap.lt_size e) (I.ok.cab x c hfn hc)))).trans e1⟩
  ·by_cases hj:j=i
   ·subst hj;rw[hi]at e1;cases e1;rw[w0y hiσ]at e2;cases e2;exact⟨u,r,.inr ⟨.inl hk,c,hc,hc'⟩⟩
   ·rw[w1a (Ne.symm hj)]at e2;obtain⟨u',r',q⟩:=hl j y v' e1 e2 e3;refine⟨u',r',?_⟩;rcases q with q|⟨k,c',e,z'⟩
    ·exact .inl q
    ·refine .inr ⟨k,c',e,z'.sameBut hs ?_⟩;rintro rfl;exact hj (x5h hN e1 (I.ok.inj _ _ _ e hc ▸ hi))
  ·by_cases hcc:c'=c
   ·subst hcc;exact⟨_,hc'⟩
   ·obtain⟨w2,z2⟩:=I.cell y c' e;exact⟨w2,z2.sameBut hs hcc⟩
  ·obtain⟨e,n,ne,nf,d⟩:=I.pin p hp;refine⟨(hs.2 p.1 ?_).trans e,n,ne,nf,d⟩;intro q;rw[q,hoc]at e;have q':oc=p.2:=Option.some.inj e;exact d w' (by rw[<- q'];exact hocd)
theorem x5i{Q:Unit->Shared->Prop}(I:Inv X pins σ H s)(hN:X.N.Nodup)(hi:X.N[i]?=some x)(hx:Loc X.env.scope x)(r:RelV v u)
  (h:∀s',Inv X pins (σ.set i (some v)) H s'->Q () s')(hf:X.fn x=true\/X.env.scope.names.lookup x=some .local:=by walk_at "2"):wpAny M A (storeName X.env x u) Q E s:=
 y0p I hN hi hx r (fun s' I' _=>h s' I') hf
theorem Inv.call'{s':Shared}{ch:List Addr}(I:Inv X pins σ H s)(ho:s'.os=s.os)(u:Un (frs X.stack) ch H H' s.heap s'.heap)(hok:HOk X.prog X.w H' s'.heap)(hg:AllBare s'.gens)
  (hch:∀b∈ch,(b∈X.ex\/X.s₀.heap.objs.size<=b)/\b≠X.env.locals/\(∀x c,X.env.cells.lookup x=some c->c≠b)/\∀p∈X.pn++pins,p.1≠b):Inv X pins σ H' s':=by
 obtain⟨h',g',d',t',o'⟩:=s';have e:o'=s.os:=ho;subst e;exact I.call (g':=g') (t':=t') (d':=d') u hok hg hch
end
abbrev XK:=Value->Option Addr->Hp->Prop
noncomputable abbrev St:=List (Option V)
variable{σ:St}
abbrev VK:=V->Hp->Prop
abbrev TE:=St->Hp->VK->Prop
variable{ta te:TE}
abbrev TT:=St->Hp->(Bool->Hp->Prop)->Prop
abbrev TA:=St->Hp->(List V->Hp->Prop)->Prop
variable{t:TA}
structure Ends where
 nx:St->Hp->Prop
 rt:VK
 bk:St->Hp->Prop:=fun _ _=>False
 ct:St->Hp->Prop:=fun _ _=>False
abbrev TS:=Ends->St->Hp->Prop
variable{tb:TS}
def EP(X:Cx)(pins:List (Addr×Obj))(σ:St)(Q:VK)(u:Value)(s':Shared):Prop:=∃v H',Inv X pins σ H' s'/\RelV v u/\Q v H'
def TP(X:Cx)(pins:List (Addr×Obj))(σ:St)(Q:Bool->Hp->Prop)(b:Bool)(s':Shared):Prop:=∃H',Inv X pins σ H' s'/\Q b H'
def AP(X:Cx)(pins:List (Addr×Obj))(σ:St)(Q:List V->Hp->Prop)(us:List Value)(s':Shared):Prop:=∃vs H',Inv X pins σ H' s'/\Vals vs us/\Q vs H'
def SP(X:Cx)(pins:List (Addr×Obj))(D:Ends)(f:Flow)(s':Shared):Prop:=
 match f with
 |.next=>∃σ' H',Inv X pins σ' H' s'/\D.nx σ' H'
 |.brk=>∃σ' H',Inv X pins σ' H' s'/\D.bk σ' H'
 |.cont=>∃σ' H',Inv X pins σ' H' s'/\D.ct σ' H'
 |.ret u=>∃v σ' H',Inv X pins σ' H' s'/\RelV v u/\D.rt v H'
def PE(X:Cx)(e:Expr)(t:TE):Prop:=
 ∀(pins:List (Addr×Obj))(s:Shared)(σ:St)(H:Hp)(Q:VK),Inv X pins σ H s->t σ H Q->wpAny (model X.prog X.w) X.A (eval e X.env) (EP X pins σ Q) X.xe s
def PT(X:Cx)(e:Expr)(t:TT):Prop:=
 ∀(pins:List (Addr×Obj))(s:Shared)(σ:St)(H:Hp)(Q:Bool->Hp->Prop),Inv X pins σ H s->t σ H Q->wpAny (model X.prog X.w) X.A (isTrue e X.env (eval e X.env)) (TP X pins σ Q) X.xe s
def PW(X:Cx)(e:Expr)(t:TT):Prop:=
 ∀(whole:Sem Value)(pins:List (Addr×Obj))(s:Shared)(σ:St)(H:Hp)(Q:Bool->Hp->Prop),Inv X pins σ H s->t σ H Q->wpAny (model X.prog X.w) X.A (isTrue e X.env whole) (TP X pins σ Q) X.xe s
theorem PW.pt{t:TT}(h:PW X e t):PT X e t:=h _
def PA(X:Cx)(es:List Expr)(t:TA):Prop:=
 ∀(pos:Pos)(pins:List (Addr×Obj))(s:Shared)(σ:St)(H:Hp)(Q:List V->Hp->Prop),Inv X pins σ H s->t σ H Q->wpAny (model X.prog X.w) X.A (spliced (backTo pos (starEach es X.env))) (AP X pins σ Q) X.xe s
def PS(X:Cx)(st:Stmt)(t:TS):Prop:=
 ∀(pins:List (Addr×Obj))(s:Shared)(σ:St)(H:Hp)(D:Ends),Inv X pins σ H s->t D σ H->wpAny (model X.prog X.w) X.A (exec st X.env) (SP X pins D) X.xe s
def PSs(X:Cx)(st:List Stmt)(t:TS):Prop:=
 ∀(pins:List (Addr×Obj))(s:Shared)(σ:St)(H:Hp)(D:Ends),Inv X pins σ H s->t D σ H->wpAny (model X.prog X.w) X.A (execs st X.env) (SP X pins D) X.xe s
theorem thn{α:Type}{t:Sem α}{Q Q':α->Shared->Prop}(h:wpAny M A t Q E s)(hQ:∀a s,Q a s->Q' a s):wpAny M A t Q' E s:=wpAny_mono h hQ fun _ _ x=>x
section
def tVar(i:Nat):TE:=fun σ H Q=>∃v,σ[i]?=some (some v)/\Q v H
def tC(v:V):TE:=fun _ H Q=>Q v H
theorem y9s(hN:X.N[i]?=some x)(hv:Vis X.env.scope x)(hd:(x==("__debug__":Str))=false:=by decide)(hcd:(x==("__classdict__":Str))=false:=by decide):PE X (.Name x pos) (tVar i):=by
 intro pins s σ H Q I h;obtain⟨v,e,h⟩:=h;obtain⟨m,hn,hl⟩:=I.loc;obtain⟨u,r,l⟩:=hl i x v hN e hv;have fin:EP X pins σ Q u s:=⟨v,H,I,r,h⟩;rcases l with⟨hk,hm⟩|⟨hk,c,hc,hcell⟩
 ·exact wpAny_Name (wpAny_loadName_local I.ok.kind hk hn hm fin) hd
 ·rcases hk with hk|hk
  ·exact wpAny_Name (wpAny_loadName_cell I.ok.kind hk hc hcell fin) hd
  ·exact wpAny_Name (wpAny_loadName_free I.ok.kind hk hc hcell fin hcd) hd
theorem y9t{i j pos}:PE X (.Constant (.int i) j pos) (tC (.int i)):=fun _ _ _ H _ I h=>wpAny_Constant_int ⟨.int i,H,I.tok _,⟨_,rfl⟩,h⟩
theorem z25{b j pos}:PE X (.Constant (.bool b) j pos) (tC (.bl b)):=fun _ _ _ H _ I h=>Constant_bool ⟨.bl b,H,I,rfl,h⟩
theorem y9u{j pos}:PE X (.Constant .none j pos) (tC .non):=fun _ _ _ H _ I h=>Constant_none ⟨.non,H,I,rfl,h⟩
theorem y9v{x j pos}:PE X (.Constant (.str x) j pos) (tC (.str x)):=fun _ _ _ H _ I h=>Calls.Constant_str ⟨.str x,H,I.tok _,⟨_,rfl⟩,h⟩
def Gl(X:Cx)(x:Str):Prop:=X.env.kindOf x=some .globalImplicit
theorem q9o{Q:Value->Shared->Prop}(I:Inv X pins σ H s)(hg:Gl X x)(hm:X.mg x=some u)(h:Q u s)
  (hd:(x==("__debug__":Str))=false:=by decide):wpAny (model X.prog X.w) X.A (eval (.Name x pos) X.env) Q E s:=
 Calls.Name_function_global I.ok.kind hg (Calls.loadGlobal_global (by rw[I.ok.glob];exact I.mod.glob.keeps I.bk) hm h) hd
theorem q4l{Q:Value->Shared->Prop}(I:Inv X pins σ H s)(hg:Gl X x)(hm:X.mg x=none)(hv:bootBuiltins x=some u)(h:Q u s)
  (hn:x≠"__name__":=by decide)(hd:(x==("__debug__":Str))=false:=by decide):wpAny (model X.prog X.w) X.A (eval (.Name x pos) X.env) Q E s:=by
 obtain⟨mb,h1,h2⟩:=I.mod.blt;exact Calls.Name_function_global I.ok.kind hg (Calls.loadGlobal_builtin (by rw[I.ok.glob];exact I.mod.glob.keeps I.bk) hm (by rw[I.ok.blt];exact h1.keeps I.bk) ((h2 x hn).trans hv) h) hd
theorem x8l{v:V}(hg:Gl X x)(hm:X.mg x=some u)(r:RelV v u)(hd:(x==("__debug__":Str))=false:=by decide):PE X (.Name x pos) (tC v):=
 fun _ _ _ H _ I h=>q9o I hg hm ⟨v,H,I,r,h⟩ hd
theorem y6c{v:V}(hg:Gl X x)(hm:X.mg x=none)(hv:bootBuiltins x=some u)(r:RelV v u)(hn:x≠"__name__":=by decide)(hd:(x==("__debug__":Str))=false:=by decide):PE X (.Name x pos) (tC v):=
 fun _ _ _ H _ I h=>q4l I hg hm hv ⟨v,H,I,r,h⟩ hn hd
variable{a b:Expr}{tb:TE}
def PC(X:Cx)(op:CmpOp)(a b:Expr)(t:TE):Prop:=
 ∀(pins:List (Addr×Obj))(s:Shared)(σ:St)(H:Hp)(Q:VK),Inv X pins σ H s->t σ H Q ->
  wpAny (model X.prog X.w) X.A (eval a X.env) (fun v s₁=>wpAny (model X.prog X.w) X.A (eval b X.env) (fun u s₂=>wpAny (model X.prog X.w) X.A (compareOp op v u) (EP X pins σ Q) X.xe s₂) X.xe s₁) X.xe s
variable{tA tB':TT}{rest:List Expr}
def tAnd(t u:TT):TT:=fun σ H Q=>t σ H fun c H1=>if c=true then u σ H1 Q else Q false H1
def tOr(t u:TT):TT:=fun σ H Q=>t σ H fun c H1=>if c=true then Q true H1 else u σ H1 Q
def tNot(t:TT):TT:=fun σ H Q=>t σ H fun c H1=>Q (!c) H1
theorem y6d(ha:PT X a tA):PW X (.BoolOp .And [a] pos) tA:=by
 intro wh pins s σ H Q I h;refine isTrue_and (thn (ha pins s σ H Q I h) fun c s1 e=>?_)
 cases c with
 |true=>exact isTrue_and_nil e
 |false=>exact e
theorem y9w(ha:PT X a tA):PW X (.BoolOp .Or [a] pos) tA:=by
 intro wh pins s σ H Q I h;refine isTrue_or (thn (ha pins s σ H Q I h) fun c s1 e=>?_)
 cases c with
 |false=>exact isTrue_or_nil e
 |true=>exact e
theorem y9x(ha:PT X a tA)(hb:PW X (.BoolOp .And (b::rest) pos) tB'):PW X (.BoolOp .And (a::b::rest) pos) (tAnd tA tB'):=by
 intro wh pins s σ H Q I h;refine isTrue_and (thn (ha pins s σ H _ I h) fun c s1 ⟨H1,I1,q1⟩=>?_)
 cases c with
 |true=>exact hb wh pins s1 σ H1 Q I1 q1
 |false=>exact⟨H1,I1,q1⟩
theorem z26(ha:PT X a tA)(hb:PW X (.BoolOp .Or (b::rest) pos) tB'):PW X (.BoolOp .Or (a::b::rest) pos) (tOr tA tB'):=by
 intro wh pins s σ H Q I h;refine isTrue_or (thn (ha pins s σ H _ I h) fun c s1 ⟨H1,I1,q1⟩=>?_)
 cases c with
 |true=>exact⟨H1,I1,q1⟩
 |false=>exact hb wh pins s1 σ H1 Q I1 q1
theorem y9y(ha:PT X a tA):PT X (.UnaryOp .Not a pos) (tNot tA):=by
 intro pins s σ H Q I h;exact isTrue_not (ha pins s σ H (fun c H1=>Q (!c) H1) I h)
def tAndV(ta tb:TE):TE:=fun σ H Q=>ta σ H fun x H1=>∃c,x=.bl c/\if c=true then tb σ H1 Q else Q (.bl false) H1
def tOrV(ta tb:TE):TE:=fun σ H Q=>ta σ H fun x H1=>∃c,x=.bl c/\if c=true then Q (.bl true) H1 else tb σ H1 Q
def tNotV(ta:TE):TE:=fun σ H Q=>ta σ H fun x H1=>∃c,x=.bl c/\Q (.bl (!c)) H1
theorem y9z{op}{t:TE}(h:PE X a t):PE X (.BoolOp op [a] pos) t:=fun pins s σ H Q I hw=>BoolOp_one (h pins s σ H Q I hw)
theorem y90(ha:PE X a ta)(hb:PE X (.BoolOp .And (b::rest) pos) tb):PE X (.BoolOp .And (a::b::rest) pos) (tAndV ta tb):=by
 intro pins s σ H Q I h;refine BoolOp_and (thn (ha pins s σ H _ I h) fun v s1 ⟨x,H1,I1,r1,q1⟩=>?_)
 obtain⟨c,rfl,q1⟩:=q1;cases r1;refine wpAny_truthy_bool ?_;cases c with
 |true=>exact hb pins s1 σ H1 Q I1 q1
 |false=>exact⟨.bl false,H1,I1,rfl,q1⟩
theorem z27(ha:PE X a ta)(hb:PE X (.BoolOp .Or (b::rest) pos) tb):PE X (.BoolOp .Or (a::b::rest) pos) (tOrV ta tb):=by
 intro pins s σ H Q I h;refine BoolOp_or (thn (ha pins s σ H _ I h) fun v s1 ⟨x,H1,I1,r1,q1⟩=>?_)
 obtain⟨c,rfl,q1⟩:=q1;cases r1;refine wpAny_truthy_bool ?_;cases c with
 |false=>exact hb pins s1 σ H1 Q I1 q1
 |true=>exact⟨.bl true,H1,I1,rfl,q1⟩
theorem y91(ha:PE X a ta):PE X (.UnaryOp .Not a pos) (tNotV ta):=by
 intro pins s σ H Q I h;refine UnaryOp_ (thn (ha pins s σ H _ I h) fun v s1 ⟨x,H1,I1,r1,q1⟩=>?_)
 obtain⟨c,rfl,q1⟩:=q1;cases r1;exact not_of (wpAny_truthy_bool ⟨.bl (!c),H1,I1,rfl,q1⟩)
end
def SqL(K:PySem.W.Frag)(H:Hp)(a:Addr)(xs:List V):Prop:=
 Rd H a (.lst xs) \/
  ∃(o:Obj)(its:Array Value)(n:Nat),K.lookup a=some o/\o.cls=.type "list" /\ o.dict=none/\o.data=.seq its n/\its.size<=sizeLine/\Vals xs its.toList
def SqT(K:PySem.W.Frag)(H:Hp)(a:Addr)(xs:List V):Prop:=
 Rd H a (.tup xs) \/
  ∃(o:Obj)(its:Array Value)(n:Nat),K.lookup a=some o/\o.cls=.type "tuple" /\ o.dict=none/\o.data=.seq its n/\its.size<=sizeLine/\Vals xs its.toList
noncomputable def absV:Value->Option V
 |.none=>some .non
 |.bool b=>some (.bl b)
 |.int i _=>some (.int i)
 |.str x _=>some (.str x)
 |.bytes b _=>some (.byt b)
 |.float b _=>some (.flt b)
 |.ref a=>some (.ref a)
 |.type n=>some (.ty n)
 |_=>none
theorem RelV.abs{x:V}(r:RelV x u):absV u=some x:=by
 cases x with
 |non=>cases r;rfl
 |bl _=>cases r;rfl
 |int _=>obtain⟨t,rfl⟩:=r;rfl
 |str _=>obtain⟨t,rfl⟩:=r;rfl
 |byt _=>obtain⟨t,rfl⟩:=r;rfl
 |flt _=>obtain⟨t,rfl⟩:=r;rfl
 |ref _=>cases r;rfl
 |ty _=>cases r;rfl
theorem RelV.inj{x y:V}(r:RelV x u)(q:RelV y u):x=y:=Option.some.inj (r.abs.symm.trans q.abs)
theorem Vals.inj:∀{xs ys:List V}{us:List Value},Vals xs us->Vals ys us->xs=ys
 |_,_,_,.nil,.nil=>rfl
 |_,_,_,.cons r t,.cons r' t'=>by rw[r.inj r',Vals.inj t t']
section
variable{ys:List V}
theorem SqL.of(h:H a=some (.lst xs)):SqL K H a xs:=.inl (.inl h)
theorem SqT.of(h:H a=some (.tup xs)):SqT K H a xs:=.inl (.inl h)
theorem Inv.list(I:Inv X pins σ H s)(h:SqL X.K H a xs):∃its:List Value,Vals xs its/\PlainL s.heap a its.toArray/\xs.length<=sizeLine:=by
 rcases h with h|⟨o,its,n,hk,hc,hd,hs,hz,r⟩
 ·obtain⟨z,its,n,r,e⟩:=h.ok I.hok;exact⟨its,r,⟨_,n,e,rfl,rfl,rfl⟩,z⟩
 ·refine⟨its.toList,r,⟨o,n,I.kIn a o hk,hc,hd,by simpa using hs⟩,?_⟩;have e:=r.length;simp only[w3o]at e;omega
theorem Inv.tuple(I:Inv X pins σ H s)(h:SqT X.K H a xs):∃its:List Value,Vals xs its/\IsTup s.heap a its.toArray/\xs.length<=sizeLine:=by
 rcases h with h|⟨o,its,n,hk,hc,_,hs,hz,r⟩
 ·obtain⟨z,its,r,p,_⟩:=h.ok I.hok;exact⟨its,r,p,z⟩
 ·refine⟨its.toList,r,⟨o,I.kIn a o hk,hc,n,by simpa using hs⟩,?_⟩;have e:=r.length;simp only[w3o]at e;omega
theorem Inv.list_inj(I:Inv X pins σ H s)(h:SqL X.K H a xs)(h':SqL X.K H a ys):xs=ys:=by
 obtain⟨its,r,⟨o,n,e,_,_,d⟩,_⟩:=I.list h;obtain⟨its',r',⟨o',n',e',_,_,d'⟩,_⟩:=I.list h';rw[e]at e';cases e';rw[d]at d';injection d' with d1 _
 have:its=its':=by simpa using congrArg Array.toList d1
 subst this;exact r.inj r'
theorem Inv.tuple_inj(I:Inv X pins σ H s)(h:SqT X.K H a xs)(h':SqT X.K H a ys):xs=ys:=by
 obtain⟨its,r,⟨o,e,_,n,d⟩,_⟩:=I.tuple h;obtain⟨its',r',⟨o',e',_,n',d'⟩,_⟩:=I.tuple h';rw[e]at e';cases e';rw[d]at d';injection d' with d1 _
 have:its=its':=by simpa using congrArg Array.toList d1
 subst this;exact r.inj r'
end
section
variable{st:Stmt}{rest:List Stmt}{t u:TS}
def tNext:TS:=fun D σ H=>D.nx σ H
def tSeq(t u:TS):TS:=fun D σ H=>t {D with nx:=u D} σ H
theorem y6e:PSs X [] tNext:=fun _ _ σ H _ I h=>wpAny_execs_nil ⟨σ,H,I,h⟩
theorem y3l(h1:PS X st t)(h2:PSs X rest u):PSs X (st::rest) (tSeq t u):=by
 intro pins s σ H D I h;refine wpAny_execs_cons (thn (h1 pins s σ H {D with nx:=u D} I h) fun f s1 q=>?_)
 cases f with
 |next=>
  obtain⟨σ',H',I',q⟩:=q;exact h2 pins s1 σ' H' D I' q
 |ret v=>exact q
 |brk=>exact q
 |cont=>exact q
theorem y6f(h1:PS X st t):PSs X [st] t:=by
 intro pins s σ H D I h;refine wpAny_execs_cons (thn (h1 pins s σ H D I h) fun f s1 q=>?_)
 cases f with
 |next=>exact wpAny_execs_nil q
 |ret v=>exact q
 |brk=>exact q
 |cont=>exact q
theorem Inv.quiet(I:Inv X pins σ H s):interactive X.env=false:=by simp[interactive,I.ok.kind]
def tDrop(te:TE):TS:=fun D σ H=>te σ H fun _ H1=>D.nx σ H1
theorem x2n(he:PE X e te)(hs:swapsWith e none pos.line X.env=pure false:=by rfl):PS X (.Expr e pos) (tDrop te):=by
 intro pins s σ H D I h;exact wpAny_Expr_any (thn (he pins s σ H _ I h) fun v s1 ⟨x,H1,I1,r1,q1⟩=>⟨σ,H1,I1,q1⟩) I.quiet hs
def tRet(te:TE):TS:=fun D σ H=>te σ H D.rt
theorem x5j(he:PE X e te):PS X (.Return (some e) pos) (tRet te):=by
 intro pins s σ H D I h;exact wpAny_Return_some (thn (he pins s σ H _ I h) fun v s1 ⟨x,H1,I1,r1,q1⟩=>⟨x,σ,H1,I1,r1,q1⟩)
def tIfS(c:TT)(t u:TS):TS:=fun D σ H=>c σ H fun b H1=>if b=true then t D σ H1 else u D σ H1
theorem z28{a b:List Stmt}{tc:TT}(hc:PT X c tc)(ha:PSs X a t)(hb:PSs X b u):PS X (.If c a b pos) (tIfS tc t u):=by
 intro pins s σ H D I h;refine wpAny_If (thn (hc pins s σ H _ I h) fun d s1 ⟨H1,I1,q1⟩=>?_)
 cases d with
 |true=>exact ha pins s1 σ H1 D I1 q1
 |false=>exact hb pins s1 σ H1 D I1 q1
end
abbrev TG:=V->St->Hp->(St->Hp->Prop)->Prop
abbrev TGs:=List V->St->Hp->(St->Hp->Prop)->Prop
def PG(X:Cx)(target:Expr)(t:TG):Prop:=
 ∀(pins:List (Addr×Obj))(s:Shared)(σ:St)(H:Hp)(v:V)(u:Value)(Q:St->Hp->Prop),Inv X pins σ H s->RelV v u->t v σ H Q ->
  wpAny (model X.prog X.w) X.A (assign target X.env u) (fun _ s'=>∃σ' H',Inv X pins σ' H' s'/\Q σ' H') X.xe s
def PGs(X:Cx)(ts:List Expr)(t:TGs):Prop:=
 ∀(pins:List (Addr×Obj))(s:Shared)(σ:St)(H:Hp)(vs:List V)(us:List Value)(Q:St->Hp->Prop),Inv X pins σ H s->Vals vs us->t vs σ H Q ->
  wpAny (model X.prog X.w) X.A (assignInOrder ((assignEach ts X.env).map (·.2)) us) (fun _ s'=>∃σ' H',Inv X pins σ' H' s'/\Q σ' H') X.xe s
def gName(i:Nat):TG:=fun v σ H Q=>Q (σ.set i (some v)) H
theorem y6g(hN:X.N.Nodup)(hi:X.N[i]?=some x)(hx:Loc X.env.scope x)(hf:X.fn x=true\/X.env.scope.names.lookup x=some .local:=by walk_at "2"):PG X (.Name x pos) (gName i):=by
 intro pins s σ H v u Q I r h;exact wpAny_assign_Name (x5i I hN hi hx r (fun s' I'=>⟨_,H,I',h⟩) hf)
noncomputable def gNil:TGs:=fun vs σ H Q=>vs=[]/\Q σ H
noncomputable def gCons(t:TG)(u:TGs):TGs:=fun vs σ H Q=>∃v r,vs=v::r/\t v σ H fun σ' H'=>u r σ' H' Q
theorem x2o:PGs X [] gNil:=by
 intro pins s σ H vs us Q I r h;obtain⟨e,h⟩:=h;subst e;cases r;exact assignInOrder_nil ⟨σ,H,I,h⟩
theorem q5c{t:TG}{u:TGs}(h1:PG X e t)(h2:PGs X es u)
  (hs:(assignEach (e::es) X.env).map (·.2)=assign e X.env::(assignEach es X.env).map (·.2):=by rfl):PGs X (e::es) (gCons t u):=by
 intro pins s σ H vs us Q I r h;obtain⟨v,vr,e1,h⟩:=h;subst e1;cases r with
 |cons r rr=>
  rw[hs];refine assignInOrder_cons (thn (h1 pins s σ H _ _ _ I r h) fun _ s1 ⟨σ1,H1,I1,q1⟩=>?_)
  exact h2 pins s1 σ1 H1 _ _ Q I1 rr q1
def gTup(K:PySem.W.Frag)(n:Nat)(t:TGs):TG:=fun v σ H Q=>∃a xs,v=.ref a/\SqT K H a xs/\xs.length=n/\t xs σ H Q
theorem x5k{t:TGs}{n:Nat}(hc:X.calm=true)(h:PGs X es t)
  (hn:(assignEach es X.env).length=n:=by rfl)(hst:(assignEach es X.env).findIdx? (·.1)=none:=by rfl):PG X (.Tuple es k pos) (gTup X.K n t):=by
 intro pins s σ H v u Q I r hw;obtain⟨a,xs,e1,hq,hl,hw⟩:=hw;subst e1;cases r;obtain⟨its,rv,ht,hz⟩:=I.tuple hq;refine assign_Tuple_tuple (I.ok.hd hc) ht (by simp[hn,<- hl,rv.length]) hst fun h' hx=>?_
 have I1:Inv X pins σ H {s with heap:=h'}:=I.kept (t':=s.toks) fun b o e=>hx b o (w0r (Heap.lt_size e)) e
 exact h pins _ σ H xs _ Q I1 (by simpa using rv) hw
def tAsg(te:TE)(g:TG):TS:=fun D σ H=>te σ H fun x H1=>g x σ H1 D.nx
theorem y92{g:TG}(he:PE X e te)(hg:PG X tg g)(hs:swapsWithSole [tg] e pos.line X.env=pure false:=by rfl)(hw:swappedStores [tg] e X.env=pure none:=by rfl)
  (h1:(assignEach [tg] X.env).map (·.2)=[assign tg X.env]:=by rfl):PS X (.Assign [tg] e pos) (tAsg te g):=by
 intro pins s σ H D I h;refine wpAny_Assign_stores (thn (he pins s σ H _ I h) fun v s1 ⟨x,H1,I1,r1,q1⟩=>?_) hs hw
 rw[h1];exact thn (hg pins s1 σ H1 x v _ I1 r1 q1) fun _ s2 q=>q
theorem y93{pos':Pos}(hN:X.N.Nodup)(hi:X.N[i]?=some x)(hx:Loc X.env.scope x)(he:PE X e te)(hs:swapsWith e (some (.Name x pos')) pos.line X.env=pure false:=by rfl)(hf:X.fn x=true\/X.env.scope.names.lookup x=some .local:=by walk_at "2"):
  PS X (.Assign [.Name x pos'] e pos) (tAsg te (gName i)):=by
 intro pins s σ H D I h;refine wpAny_Assign_Name (thn (he pins s σ H _ I h) fun v s1 ⟨y,H1,I1,r1,q1⟩=>?_) hs
 exact x5i I1 hN hi hx r1 (fun s2 I2=>⟨_,H1,I2,q1⟩) hf
def tWhile(c:TT)(tb:TS):TS:=fun D σ H=>∃W:Nat->St->Hp->Prop,(∃m,W m σ H)/\∀m σ H,W m σ H ->
 c σ H fun b H1=>if b=true then ∃N:St->Hp->Prop,(∀σ' H',N σ' H'->∃m',m'<m/\W m' σ' H')/\tb {D with nx:=N,ct:=N,bk:=D.nx} σ H1 else D.nx σ H1
theorem y3m{body:List Stmt}{tc:TT}(hp:PassesOwn (model X.prog X.w) X.A X.env X.xe)(hc:PT X c tc)(hb:PSs X body tb):PS X (.While c body [] pos) (tWhile tc tb):=by
 intro pins s σ H D I h;obtain⟨W,⟨m0,w0⟩,turn⟩:=h;refine wpAny_While (codeAny_whileLoop (fun n s'=>∃σ' H',Inv X pins σ' H' s'/\W n σ' H') ?_ m0 ⟨σ,H,I,w0⟩)
 rintro n s1 ⟨σ1,H1,I1,w1⟩;refine wpAny_passesOwn hp (thn (hc pins s1 σ1 H1 _ I1 (turn n σ1 H1 w1)) fun b s2 ⟨H2,I2,q2⟩=>?_)
 cases b with
 |true=>
  obtain⟨N,hN,q2⟩:=q2;rw[if_pos rfl];refine wpAny_passesOwn hp (thn (hb pins s2 σ1 H2 _ I2 q2) fun f s3 q3=>?_)
  cases f with
  |next=>
   obtain⟨σ3,H3,I3,n3⟩:=q3;obtain⟨m',hm,w3⟩:=hN σ3 H3 n3;exact⟨m',hm,σ3,H3,I3,w3⟩
  |cont=>
   obtain⟨σ3,H3,I3,n3⟩:=q3;obtain⟨m',hm,w3⟩:=hN σ3 H3 n3;exact⟨m',hm,σ3,H3,I3,w3⟩
  |brk=>exact q3
  |ret v=>exact q3
 |false=>
  rw[if_neg w1e];exact wpAny_execs_nil ⟨σ1,H2,I2,q2⟩
structure It where
 go:Nat->Hp->Prop
 yld:Nat->Hp->V->Hp->Prop
 stop:Nat->Hp->Prop
def FpOk(X:Cx)(pins:List (Addr×Obj))(H:Hp)(b:Addr):Prop:=
 H b=none/\b≠X.env.locals/\b∉X.fs/\(b∈X.ex\/X.s₀.heap.objs.size<=b)/\(∀x c,X.env.cells.lookup x=some c->c≠b)/\∀p∈X.pn++pins,p.1≠b
theorem Inv.fpOk(I:Inv X pins σ H s)(hb:s.heap.objs.size<=b)(hn:H' b=none):FpOk X pins H' b:=by
 refine⟨hn,w3i (w0v I.lt hb),I.nofs hb,.inr (w0l I.sz hb),fun x c e z=>?_,fun p hp z=>?_⟩
 ·obtain⟨v,q⟩:=I.cell x c e;exact absurd (w0v q.lt (by rw[z];exact hb)) (w1z _)
 ·exact absurd (w0v (Heap.lt_size (I.pin p hp).1) (by rw[z];exact hb)) (w1z _)
structure Turn(P:Program)(w:World)(K:PySem.W.Frag)(tg:Expr)(J:It)(fp:List Addr)(it:Addr)(tn:Nat->Heap->Prop):Prop where
 mem:it∈fp
 obj:∀i h,tn i h->∀b∈fp,∃o,h.get? b=some o/\∀v,o.data≠.cell v
 keep:∀i h h',tn i h->(∀b∈fp,∀o,h.get? b=some o->h'.get? b=some o)->tn i h'
 item:∀(X:Cx),X.prog=P->X.w=w->X.K=K->X.calm=true->∀(i:Nat)(pins:List (Addr×Obj))(s:Shared)(σ:St)(H:Hp)(E:Value->Shared->Prop),Inv X pins σ H s->(∀b∈fp,FpOk X pins H b)->tn i s.heap->J.go i H ->
  wpAny (model P w) X.A (pyNext (.ref it)) (fun r s1=>∃u,r=some u /\
   wpAny (model P w) X.A (letOwnedTupleGo tg (.ref it) u) (fun _ s2=>∃x H',Inv X pins σ H' s2/\RelV x u/\J.yld i H x H'/\tn (i+1) s2.heap/\∀b∈fp,H' b=none) E s1) E s
 done:∀(X:Cx),X.prog=P->X.w=w->X.K=K->X.calm=true->∀(i:Nat)(pins:List (Addr×Obj))(s:Shared)(σ:St)(H:Hp)(E:Value->Shared->Prop),Inv X pins σ H s->(∀b∈fp,FpOk X pins H b)->tn i s.heap->J.stop i H ->
  wpAny (model P w) X.A (pyNext (.ref it)) (fun r s1=>r=none/\Inv X pins σ H s1) E s
 self:∀(A:Around)(i:Nat)(s:Shared)(Q:Value->Shared->Prop)(E:Value->Shared->Prop),tn i s.heap->Q (.ref it) s->wpAny (model P w) A (pyIter (.ref it)) Q E s
abbrev TI:=St->Hp->(It->Hp->Prop)->Prop
def PIE(X:Cx)(pins:List (Addr×Obj))(σ:St)(tg:Expr)(R:It->Hp->Prop)(itv:Value)(s2:Shared):Prop:=
 ∃(it:Addr)(fp:List Addr)(tn:Nat->Heap->Prop)(J:It)(H':Hp),itv=.ref it/\Inv X pins σ H' s2/\Turn X.prog X.w X.K tg J fp it tn/\tn 0 s2.heap/\(∀b∈fp,FpOk X pins H' b)/\R J H'
def PI(X:Cx)(tg iter:Expr)(wi:TI):Prop:=
 ∀(pins:List (Addr×Obj))(s:Shared)(σ:St)(H:Hp)(R:It->Hp->Prop),Inv X pins σ H s->wi σ H R ->
  wpAny (model X.prog X.w) X.A (eval iter X.env) (fun v s1=>wpAny (model X.prog X.w) X.A (pyIter v) (PIE X pins σ tg R) X.xe s1) X.xe s
theorem x9l{E : Value -> Shared -> Prop}{s : Shared}{it : Addr}{o : Obj}{n : String}{vs : Array Value}{Q : Unit -> Shared -> Prop}(ho : s.heap.get? it = some o)(hc : o.cls = .type n)(hd : o.data = .fields vs)
    (hn : ["enumerate", "zip", "dict_itemiterator", "dict_reverseitemiterator", "odict_iterator", "itertools.zip_longest", "itertools.pairwise"].contains n = false)(hQ : Q () s) : wpAny M A (letOwnedTupleGo tg (.ref it) u) Q E s := by
  unfold letOwnedTupleGo
  cases tg <;> first
    | exact wpAny_pure hQ
    | (cases u <;> first
        | exact wpAny_pure hQ
        | (refine wpAny_bind (wpAny_load ho ?_)
           rw [hc, hd];show wpAny M A (if (["enumerate", "zip", "dict_itemiterator", "dict_reverseitemiterator", "odict_iterator", "itertools.zip_longest", "itertools.pairwise"].contains n && vs[0]? == some (rawInt _)) = true then _ else _) Q E s;rw [if_neg (by intro h; rw [hn, w3w] at h; cases h)];exact wpAny_pure hQ))
noncomputable def Itl(K:PySem.W.Frag)(a:Addr):It:=
 ⟨fun i H=>∃xs x,SqL K H a xs/\xs[i]?=some x,fun i H x H'=>H'=H/\∀xs,SqL K H a xs->xs[i]?=some x,fun i H=>∃xs,SqL K H a xs/\xs.length<=i⟩
noncomputable def Itt(K:PySem.W.Frag)(a:Addr):It:=
 ⟨fun i H=>∃xs x,SqT K H a xs/\xs[i]?=some x,fun i H x H'=>H'=H/\∀xs,SqT K H a xs->xs[i]?=some x,fun i H=>∃xs,SqT K H a xs/\xs.length<=i⟩
noncomputable def Itr(lo:Int)(n:Nat):It:=⟨fun i _=>i<n,fun i H x H'=>H'=H/\x=.int (lo+i),fun i _=>n<=i⟩
theorem y0q(a it:Addr):Turn P w K tg (Itl K a) [it] it (fun i h=>h.IsListIter it a i) where
 mem:=by simp
 obj:=fun i h st b hb=>by
  have e:b=it:=by simpa using hb
  subst e;obtain⟨o,e,c,d⟩:=st;exact⟨o,e,fun v z=>by rw[d]at z;cases z⟩
 keep:=fun i h h' st k=>st.at fun o e=>k it (by simp) o e
 item:=by
  intro X hP hw hK hc i pins s σ H E I hf st hg;subst hP hw hK;obtain⟨xs,x,hq,hx⟩:=hg;obtain⟨its,rv,p,hz⟩:=I.list hq;obtain⟨u,hu,ru⟩:=rv.get hx;obtain⟨f0,f1,f2,f3,f4,f5⟩:=hf it (by simp);refine wpAny_pyNext_list_item st p.isList (x:=u) (by simpa using hu) fun h' st' sb=>?_
  have I1:Inv X pins σ H {s with heap:=h'}:=I.turned (t':=s.toks) (fun b o hb e=>(sb.2 b hb).trans e) f0 f1 f3 f4 f5
  obtain⟨o,e,c,d⟩:=id st';exact⟨u,rfl,x9l (s:={s with heap:=h'}) e c d (by decide) ⟨x,H,I1,ru,⟨rfl,fun ys hy=>by rw[I.list_inj hy hq];exact hx⟩,st',fun b hb=>(hf b hb).1⟩⟩
 done:=by
  intro X hP hw hK hc i pins s σ H E I hf st hg;subst hP hw hK;obtain⟨xs,hq,hx⟩:=hg;obtain⟨its,rv,p,hz⟩:=I.list hq;obtain⟨f0,f1,f2,f3,f4,f5⟩:=hf it (by simp);have hl:=rv.length;exact wpAny_pyNext_list_end (I.ok.hd hc) st p.isList (by simp;omega) fun h' eb=>⟨rfl,I.turned (t':=s.toks) (fun b o hb e=>eb b o hb e) f0 f1 f3 f4 f5⟩
 self:=fun _ _ _ _ _ st h=>wpAny_pyIter_listiter st h
theorem x9m(a it:Addr):Turn P w K tg (Itt K a) [it] it (fun i h=>h.IsTupleIter it a i) where
 mem:=by simp
 obj:=fun i h st b hb=>by
  have e:b=it:=by simpa using hb
  subst e;obtain⟨o,e,c,d⟩:=st;exact⟨o,e,fun v z=>by rw[d]at z;cases z⟩
 keep:=fun i h h' st k=>st.at fun o e=>k it (by simp) o e
 item:=by
  intro X hP hw hK hc i pins s σ H E I hf st hg;subst hP hw hK;obtain⟨xs,x,hq,hx⟩:=hg;obtain⟨its,rv,p,hz⟩:=I.tuple hq;obtain⟨u,hu,ru⟩:=rv.get hx;obtain⟨f0,f1,f2,f3,f4,f5⟩:=hf it (by simp);refine wpAny_pyNext_tuple_item st (show s.heap.IsTuple a its.toArray from p) (x:=u) (by simpa using hu) fun h' st' sb=>?_
  have I1:Inv X pins σ H {s with heap:=h'}:=I.turned (t':=s.toks) (fun b o hb e=>(sb.2 b hb).trans e) f0 f1 f3 f4 f5
  obtain⟨o,e,c,d⟩:=id st';exact⟨u,rfl,x9l (s:={s with heap:=h'}) e c d (by decide) ⟨x,H,I1,ru,⟨rfl,fun ys hy=>by rw[I.tuple_inj hy hq];exact hx⟩,st',fun b hb=>(hf b hb).1⟩⟩
 done:=by
  intro X hP hw hK hc i pins s σ H E I hf st hg;subst hP hw hK;obtain⟨xs,hq,hx⟩:=hg;obtain⟨its,rv,p,hz⟩:=I.tuple hq;obtain⟨f0,f1,f2,f3,f4,f5⟩:=hf it (by simp);have hl:=rv.length;exact wpAny_pyNext_tuple_end (I.ok.hd hc) st (show s.heap.IsTuple a its.toArray from p) (by simp;omega) fun h' eb=>⟨rfl,I.turned (t':=s.toks) (fun b o hb e=>eb b o hb e) f0 f1 f3 f4 f5⟩
 self:=fun _ _ _ _ _ st h=>wpAny_pyIter_tupleiter st h
theorem x9n(it:Addr)(lo:Int)(n:Nat):Turn P w K tg (Itr lo n) [it] it (fun i h=>IsRangeIter h it (lo+(i:Nat)*1) ((n:Int)-(i:Nat)) 1) where
 mem:=by simp
 obj:=fun i h st b hb=>by
  have e:b=it:=by simpa using hb
  subst e
  exact⟨_,st,fun v z=>by
   have z':Data.fields _=Data.cell v:=z;cases z'⟩
 keep:=fun i h h' st k=>k it (by simp) _ st
 item:=by
  intro X hP hw hK hc i pins s σ H E I hf st hg;subst hP hw hK;obtain⟨f0,f1,f2,f3,f4,f5⟩:=hf it (by simp);have W:=Walks.range (prog:=X.prog) (w:=X.w) (I.ok.hd hc) it lo 1 n;refine W.item i s _ _ hg st fun v h' tk hv st' kk=>?_
  obtain⟨t,rfl⟩:=hv;have I1:Inv X pins σ H {s with heap:=h',toks:=tk}:=I.turned (fun b o hb e=>kk b o (by simpa using hb) e) f0 f1 f3 f4 f5
  refine⟨_,rfl,x9l (s:={s with heap:=h',toks:=tk}) (n:="range_iterator") st' rfl rfl (by decide) ⟨.int (lo+i),H,I1,⟨t,?_⟩,⟨rfl,rfl⟩,st',fun b hb=>(hf b hb).1⟩⟩
  rw[Int.mul_one]
 done:=by
  intro X hP hw hK hc i pins s σ H E I hf st hg;subst hP hw hK;obtain⟨f0,f1,f2,f3,f4,f5⟩:=hf it (by simp);exact wpAny_pyNext_range_end (I.ok.hd hc) st (by have:n<=i:=hg;omega) fun h' eb=>⟨rfl,I.turned (t':=s.toks) (fun b o hb e=>eb b o hb e) f0 f1 f3 f4 f5⟩
 self:=fun _ _ _ _ _ st h=>wpAny_pyIter_rangeiter st h
theorem y3n{R:It->Hp->Prop}{lo hi:Int}{t u v:Tok}{tk:Nat}(I:Inv X pins σ H s)(h1:-(2^62)<=lo)(h2:lo<2^62)(h3:-(2^62)<=hi)(h4:hi<2^62)
  (q:R (Itr lo (hi-lo).toNat) H):wpAny (model X.prog X.w) X.A (pyIter (.ref s.heap.objs.size)) (PIE X pins σ tg R) E {s with heap:=s.heap.push {cls:=.type "range", data:=.fields #[.int lo t,.int hi u,.int 1 v]},toks:=tk}:=by
 refine wpAny_pyIter_range (IsRange.new ..) (small_one h1 h2 h3 h4) ?_;have I1:Inv X pins σ H {s with heap:=s.heap.push {cls:=.type "range", data:=.fields #[.int lo t,.int hi u,.int 1 v]},toks:=tk}:=I.kept fun b o e=>Heap.get?_push_of_some _ e
 refine⟨(s.heap.push {cls:=.type "range", data:=.fields #[.int lo t,.int hi u,.int 1 v]}).objs.size,[(s.heap.push {cls:=.type "range", data:=.fields #[.int lo t,.int hi u,.int 1 v]}).objs.size],_,_,H,rfl,
  I1.kept (t':=tk) fun b o e=>Heap.get?_push_of_some _ e,x9n _ lo (hi-lo).toNat,?_,fun b hb=>?_,q⟩
 ·have e1:lo+((0:Nat):Int)*1=lo:=by simp
  have e2:(((hi-lo).toNat:Nat):Int)-((0:Nat):Int)=Builtin.Range.rangeSize lo hi 1:=by rw[rangeSize_one];split<;>omega
  show IsRangeIter _ _ (lo+((0:Nat):Int)*1) ((((hi-lo).toNat:Nat):Int)-((0:Nat):Int)) 1;rw[e1,e2];exact Heap.get?_push_size _ rfl
 ·have e:b=(s.heap.push {cls:=.type "range", data:=.fields #[.int lo t,.int hi u,.int 1 v]}).objs.size:=by simpa using hb
  subst e;exact I1.fpOk (w0f _) (I1.hok.fresh (w0f _))
def iRng1(ta:TA):TI:=fun σ H R=>ta σ H fun vs H1=>∃j:Int,vs=[.int j]/\-(2^62)<=j/\j<2^62/\R (Itr 0 j.toNat) H1
theorem q8u{a:Expr}{ta:TA}(hg:Gl X "range")(hm:X.mg "range"=none)(ha:PA X [a] ta)(hs:starEach [a] X.env=[(false,eval a X.env)]:=by rfl):PI X tg (.Call (.Name "range" p) [a] [] pos) (iRng1 ta):=by
 intro pins s σ H R I h;refine Call_ (q4l I hg hm boot_range (PyProof.Rows.callWith_type1 (thn (ha pos pins s σ H _ I h) fun us s1 ⟨vs,H1,I1,r1,q1⟩=>?_) hs rfl))
 obtain⟨j,e,q1,q2,q⟩:=q1;subst e;cases r1 with
 |cons r rr=>
  cases rr;obtain⟨t,rfl⟩:=r;exact call_range_1 (y3n I1 (by omega) (by omega) q1 q2 (by simpa using q))
def tFor(wi:TI)(g:TG)(tb:TS):TS:=fun D σ H=>wi σ H fun J H1=>∃W:Nat->Nat->St->Hp->Prop,(∃m,W 0 m σ H1)/\∀i m σ H,W i m σ H ->
 (J.stop i H/\D.nx σ H)\/(J.go i H/\∃N:St->Hp->Prop,(∀σ' H',N σ' H'->∃m',m'<m/\W (i+1) m' σ' H')/\∀x H',J.yld i H x H'->g x σ H' fun σ2 H2=>tb {D with nx:=N,ct:=N,bk:=D.nx} σ2 H2)
noncomputable def pinsAt(fp:List Addr)(h:Heap):List (Addr×Obj):=fp.filterMap fun b=>(h.get? b).map fun o=>(b,o)
theorem q3l{o:Obj}(hb:b∈fp)(e:h.get? b=some o):(b,o)∈pinsAt fp h:=w2n.mpr ⟨b,hb,by rw[e];rfl⟩
theorem y0r{p:Addr×Obj}(hp:p∈pinsAt fp h):p.1∈fp/\h.get? p.1=some p.2:=by
 obtain⟨b,hb,e⟩:=w2n.mp hp;cases q:h.get? b with
 |none=>rw[q]at e;cases e
 |some o=>
  rw[q]at e;have e':(b,o)=p:=Option.some.inj e;subst e';exact⟨hb,q⟩
theorem Inv.pinned(I:Inv X pins σ H s)(hf:∀b∈fp,FpOk X pins H b)(ho:∀b∈fp,∃o,s.heap.get? b=some o/\∀v,o.data≠.cell v):Inv X (pins++pinsAt fp s.heap) σ H s:=
 I.pins_of fun p hp=>(w2e.mp hp).elim (fun z=>I.pin p (w0i _ z)) fun z=>by
  obtain⟨hb,e⟩:=y0r z;obtain⟨f0,f1,f2,_⟩:=hf p.1 hb;obtain⟨o,e',d⟩:=ho p.1 hb;rw[e]at e';cases e';exact⟨e,f0,f1,f2,d⟩
theorem Inv.unpinned{pl:List (Addr×Obj)}(I:Inv X (pins++pl) σ H s):Inv X pins σ H s:=I.pins_of fun p hp=>I.pin p (w0i _ (w2w _ hp))
theorem x5l{iter:Expr}{body:List Stmt}{wi:TI}{g:TG}(hp:PassesOwn (model X.prog X.w) X.A X.env X.xe)(hc:X.calm=true)(hi:PI X tg iter wi)(hg:PG X tg g)(hb:PSs X body tb)
  (hs:∀x,foldedSetIterable iter X.env x=pure x:=by intro _;rfl):PS X (.For tg iter body [] pos) (tFor wi g tb):=by
 intro pins s σ H D I h;refine wpAny_For (thn (hi pins s σ H _ I h) fun v s1 h1=>thn h1 fun itv s2 h2=>?_) hs
 obtain⟨it,fp,tn,J,H2,e,I2,T,st2,f2,W,⟨m0,w0⟩,turn⟩:=h2;subst e;have stat:∀{H':Hp},(∀b∈fp,H' b=none)->∀b∈fp,FpOk X pins H' b:=fun hn b hb=>⟨hn b hb,(f2 b hb).2⟩
 refine codeAny_forLoop_any (fun n s'=>∃i σ' H',Inv X pins σ' H' s'/\tn i s'.heap/\(∀b∈fp,H' b=none)/\W i n σ' H') ?_ m0 ⟨0,σ,H2,I2,st2,fun b hb=>(f2 b hb).1,w0⟩
 rintro n s3 ⟨i,σ3,H3,I3,st3,fr3,w3⟩;rcases turn i n σ3 H3 w3 with⟨stop,qn⟩|⟨go,N,hN,step⟩
 ·refine wpAny_passesOwn hp (thn (T.done X rfl rfl rfl hc i pins s3 σ3 H3 X.xe I3 (stat fr3) st3 stop) fun r s4 ⟨hr,I4⟩=>?_)
  subst hr;exact wpAny_execs_nil ⟨σ3,H3,I4,qn⟩
 ·refine wpAny_passesOwn hp (thn (T.item X rfl rfl rfl hc i pins s3 σ3 H3 X.xe I3 (stat fr3) st3 go) fun r s4 ⟨u,hr,h4⟩=>?_)
  subst hr;refine wpAny_passesOwn hp (thn h4 fun _ s5 ⟨x,H5,I5,r5,y5,st5,fr5⟩=>?_)
  have I5':=I5.pinned (stat fr5) (T.obj _ _ st5);refine wpAny_passesOwn hp (thn (hg _ s5 σ3 H5 x u _ I5' r5 (step x H5 y5)) fun _ s6 ⟨σ6,H6,I6,q6⟩=>?_)
  refine wpAny_passesOwn hp (thn (hb _ s6 σ6 H6 _ I6 q6) fun f s7 q7=>?_)
  have again:∀{σ7:St}{H7:Hp},Inv X (pins++pinsAt fp s5.heap) σ7 H7 s7->N σ7 H7->∃m,m<n/\∃i σ' H',Inv X pins σ' H' s7/\tn i s7.heap/\(∀b∈fp,H' b=none)/\W i m σ' H':=fun {σ7 H7} I7 n7=>by
   obtain⟨m',hm,w7⟩:=hN σ7 H7 n7;refine⟨m',hm,i+1,σ7,H7,I7.unpinned,T.keep _ _ _ st5 fun b hb o e=>(I7.pin (b,o) (w0i _ (w0i _ (q3l hb e)))).1,fun b hb=>?_,w7⟩
   obtain⟨o,e,d⟩:=T.obj _ _ st5 b hb;exact(I7.pin (b,o) (w0i _ (w0i _ (q3l hb e)))).2.1
  cases f with
  |next=>obtain⟨σ7,H7,I7,n7⟩:=q7;exact again I7 n7
  |cont=>obtain⟨σ7,H7,I7,n7⟩:=q7;exact again I7 n7
  |brk=>obtain⟨σ7,H7,I7,q7⟩:=q7;exact⟨σ7,H7,I7.unpinned,q7⟩
  |ret v=>obtain⟨x7,σ7,H7,I7,r7,q7⟩:=q7;exact⟨x7,σ7,H7,I7.unpinned,r7,q7⟩
theorem y3o{g:TG}{D:Ends}(Pv:Nat->St->Hp->Prop)(h0:Pv 0 σ H)(hl:∀i σ H,i<=xs.length->Pv i σ H->SqL K H a xs)
  (hs:∀i x σ H,xs[i]?=some x->Pv i σ H->g x σ H fun σ2 H2=>tb {D with nx:=Pv (i+1),ct:=Pv (i+1),bk:=D.nx} σ2 H2)(hd:∀σ H,Pv xs.length σ H->D.nx σ H):
  ∃W:Nat->Nat->St->Hp->Prop,(∃m,W 0 m σ H)/\∀i m σ H,W i m σ H ->
   ((Itl K a).stop i H/\D.nx σ H)\/((Itl K a).go i H/\∃N:St->Hp->Prop,(∀σ' H',N σ' H'->∃m',m'<m/\W (i+1) m' σ' H')/\∀x H',(Itl K a).yld i H x H'->g x σ H' fun σ2 H2=>tb {D with nx:=N,ct:=N,bk:=D.nx} σ2 H2):=by
 refine⟨fun i m σ H=>m=xs.length-i/\i<=xs.length/\Pv i σ H,⟨xs.length,by simp,w1b _,h0⟩,?_⟩
 rintro i m σ H ⟨rfl,hi,p⟩;have q:=hl i σ H hi p
 by_cases hlt:i<xs.length
 ·refine .inr ⟨⟨xs,xs[i],q,by simp[hlt]⟩,Pv (i+1),fun σ' H' p'=>⟨xs.length-(i+1),by omega,rfl,hlt,p'⟩,fun x H' y=>?_⟩
  obtain⟨e,y⟩:=y;subst e;exact hs i x σ _ (y xs q) p
 ·have e:i=xs.length:=by omega
  subst e;exact .inl ⟨⟨xs,q,w0f _⟩,hd σ H p⟩
theorem y6h{g:TG}{D:Ends}(Pv:Nat->St->Hp->Prop)(h0:Pv 0 σ H)(hl:∀i σ H,i<=xs.length->Pv i σ H->SqT K H a xs)
  (hs:∀i x σ H,xs[i]?=some x->Pv i σ H->g x σ H fun σ2 H2=>tb {D with nx:=Pv (i+1),ct:=Pv (i+1),bk:=D.nx} σ2 H2)(hd:∀σ H,Pv xs.length σ H->D.nx σ H):
  ∃W:Nat->Nat->St->Hp->Prop,(∃m,W 0 m σ H)/\∀i m σ H,W i m σ H ->
   ((Itt K a).stop i H/\D.nx σ H)\/((Itt K a).go i H/\∃N:St->Hp->Prop,(∀σ' H',N σ' H'->∃m',m'<m/\W (i+1) m' σ' H')/\∀x H',(Itt K a).yld i H x H'->g x σ H' fun σ2 H2=>tb {D with nx:=N,ct:=N,bk:=D.nx} σ2 H2):=by
 refine⟨fun i m σ H=>m=xs.length-i/\i<=xs.length/\Pv i σ H,⟨xs.length,by simp,w1b _,h0⟩,?_⟩
 rintro i m σ H ⟨rfl,hi,p⟩;have q:=hl i σ H hi p
 by_cases hlt:i<xs.length
 ·refine .inr ⟨⟨xs,xs[i],q,by simp[hlt]⟩,Pv (i+1),fun σ' H' p'=>⟨xs.length-(i+1),by omega,rfl,hlt,p'⟩,fun x H' y=>?_⟩
  obtain⟨e,y⟩:=y;subst e;exact hs i x σ _ (y xs q) p
 ·have e:i=xs.length:=by omega
  subst e;exact .inl ⟨⟨xs,q,w0f _⟩,hd σ H p⟩
theorem y0s{lo:Int}{n:Nat}{g:TG}{D:Ends}(Pv:Nat->St->Hp->Prop)(h0:Pv 0 σ H)
  (hs:∀i σ H,i<n->Pv i σ H->g (.int (lo+i)) σ H fun σ2 H2=>tb {D with nx:=Pv (i+1),ct:=Pv (i+1),bk:=D.nx} σ2 H2)(hd:∀σ H,Pv n σ H->D.nx σ H):
  ∃W:Nat->Nat->St->Hp->Prop,(∃m,W 0 m σ H)/\∀i m σ H,W i m σ H ->
   ((Itr lo n).stop i H/\D.nx σ H)\/((Itr lo n).go i H/\∃N:St->Hp->Prop,(∀σ' H',N σ' H'->∃m',m'<m/\W (i+1) m' σ' H')/\∀x H',(Itr lo n).yld i H x H'->g x σ H' fun σ2 H2=>tb {D with nx:=N,ct:=N,bk:=D.nx} σ2 H2):=by
 refine⟨fun i m σ H=>m=n-i/\i<=n/\Pv i σ H,⟨n,by simp,w1b _,h0⟩,?_⟩
 rintro i m σ H ⟨rfl,hi,p⟩
 by_cases hlt:i<n
 ·refine .inr ⟨hlt,Pv (i+1),fun σ' H' p'=>⟨n-(i+1),by omega,rfl,hlt,p'⟩,fun x H' y=>?_⟩
  obtain⟨e,y⟩:=y;subst e y;exact hs i σ _ hlt p
 ·have e:i=n:=by omega
  subst e;exact .inl ⟨w0f _,hd σ H p⟩
abbrev R2:=V->V->Hp->VK->Prop
variable{r:R2}
def OpR(X:Cx)(f:Value->Value->Sem Value)(r:R2):Prop:=
 ∀(pins:List (Addr×Obj))(s:Shared)(σ:St)(H:Hp)(x y:V)(v u:Value)(Q:VK),Inv X pins σ H s->RelV x v->RelV y u->r x y H Q ->
  wpAny (model X.prog X.w) X.A (f v u) (EP X pins σ Q) X.xe s
def UnR(X:Cx)(f:Value->Sem Value)(r:V->Hp->VK->Prop):Prop:=
 ∀(pins:List (Addr×Obj))(s:Shared)(σ:St)(H:Hp)(x:V)(v:Value)(Q:VK),Inv X pins σ H s->RelV x v->r x H Q ->
  wpAny (model X.prog X.w) X.A (f v) (EP X pins σ Q) X.xe s
def CallR(X:Cx)(f:Value)(r:List V->Hp->VK->Prop):Prop:=
 ∀(pins:List (Addr×Obj))(s:Shared)(σ:St)(H:Hp)(xs:List V)(us:List Value)(Q:VK),Inv X pins σ H s->Vals xs us->r xs H Q ->
  wpAny (model X.prog X.w) X.A (call f us) (EP X pins σ Q) X.xe s
def TruR(X:Cx)(r:V->Hp->(Bool->Hp->Prop)->Prop):Prop:=
 ∀(pins:List (Addr×Obj))(s:Shared)(σ:St)(H:Hp)(x:V)(v:Value)(Q:Bool->Hp->Prop),Inv X pins σ H s->RelV x v->r x H Q ->
  wpAny (model X.prog X.w) X.A (truthy v) (TP X pins σ Q) X.xe s
def tOp(r:R2)(ta tb:TE):TE:=fun σ H Q=>ta σ H fun x H1=>tb σ H1 fun y H2=>r x y H2 Q
def tUn(r:V->Hp->VK->Prop)(ta:TE):TE:=fun σ H Q=>ta σ H fun x H1=>r x H1 Q
def rI(C:Int->Int->Prop)(g:Int->Int->V):R2:=fun x y H Q=>∃i j,x=.int i/\y=.int j/\C i j/\Q (g i j) H
def rI0(g:Int->Int->V):R2:=fun x y H Q=>∃i j,x=.int i/\y=.int j/\Q (g i j) H
def rU(g:Int->V):V->Hp->VK->Prop:=fun x H Q=>∃i,x=.int i/\Q (g i) H
section
variable{a b:Expr}{tb tc:TE}
theorem binT(ha:PE X a ta)(hb:PE X b tb){R:V->V->Hp->Prop}(I:Inv X pins σ H s)
  (h:ta σ H fun x H1=>tb σ H1 fun y H2=>R x y H2){Q:Value->Shared->Prop}
  (hf:∀v u s2 x y H2,Inv X pins σ H2 s2->RelV x v->RelV y u->R x y H2->wpAny (model X.prog X.w) X.A (f v u) Q X.xe s2):
  wpAny (model X.prog X.w) X.A (eval a X.env) (fun v s₁=>wpAny (model X.prog X.w) X.A (eval b X.env) (fun u s₂=>wpAny (model X.prog X.w) X.A (f v u) Q X.xe s₂) X.xe s₁) X.xe s:=by
 refine thn (ha pins s σ H _ I h) fun v s1 ⟨x,H1,I1,r1,q1⟩=>?_
 refine thn (hb pins s1 σ H1 _ I1 q1) fun u s2 ⟨y,H2,I2,r2,q2⟩=>?_
 exact hf v u s2 x y H2 I2 r1 r2 q2
theorem z29{op:Operator}(ho:OpR X (binaryOp op) r)(ha:PE X a ta)(hb:PE X b tb):PE X (.BinOp a op b pos) (tOp r ta tb):=by
 intro pins s σ H Q I h;exact wpAny_BinOp (binT ha hb I h fun v u s2 x y H2 I2 rx ry q=>ho pins s2 σ H2 x y v u Q I2 rx ry q)
theorem opI{C:Int->Int->Prop}{g:Int->Int->Int}
  (rule:∀(i j:Int)(t u:Tok)(s:Shared)(Q:Value->Shared->Prop)(E:Value->Shared->Prop),C i j->Q (.int (g i j) s.toks) {s with toks:=s.toks+1}->wpAny (model X.prog X.w) X.A (f (.int i t) (.int j u)) Q E s):
  OpR X f (rI C fun i j=>.int (g i j)):=by
 intro pins s σ H x y v u Q I rx ry h;obtain⟨i,j,rfl,rfl,hc,q⟩:=h;obtain⟨t,rfl⟩:=rx;obtain⟨t',rfl⟩:=ry;exact rule i j t t' s _ _ hc ⟨.int (g i j),H,I.tok _,⟨_,rfl⟩,q⟩
theorem opI0{g:Int->Int->Int}
  (rule:∀(i j:Int)(t u:Tok)(s:Shared)(Q:Value->Shared->Prop)(E:Value->Shared->Prop),Q (.int (g i j) s.toks) {s with toks:=s.toks+1}->wpAny (model X.prog X.w) X.A (f (.int i t) (.int j u)) Q E s):
  OpR X f (rI0 fun i j=>.int (g i j)):=by
 intro pins s σ H x y v u Q I rx ry h;obtain⟨i,j,rfl,rfl,q⟩:=h;obtain⟨t,rfl⟩:=rx;obtain⟨t',rfl⟩:=ry;exact rule i j t t' s _ _ ⟨.int (g i j),H,I.tok _,⟨_,rfl⟩,q⟩
theorem opB0{g:Int->Int->Bool}
  (rule:∀(i j:Int)(t u:Tok)(s:Shared)(Q:Value->Shared->Prop)(E:Value->Shared->Prop),Q (.bool (g i j)) s->wpAny (model X.prog X.w) X.A (f (.int i t) (.int j u)) Q E s):
  OpR X f (rI0 fun i j=>.bl (g i j)):=by
 intro pins s σ H x y v u Q I rx ry h;obtain⟨i,j,rfl,rfl,q⟩:=h;obtain⟨t,rfl⟩:=rx;obtain⟨t',rfl⟩:=ry;exact rule i j t t' s _ _ ⟨.bl (g i j),H,I,rfl,q⟩
def CDiv(i j:Int):Prop:=0<j/\j<1073741824
def CMul(i j:Int):Prop:=(-(2^64)<i/\i<2^64)\/(-(2^64)<j/\j<2^64)
theorem CMul.ok{i j:Int}(h:CMul i j):IntMulOk i j:=by
 rcases h with⟨h1,h2⟩|⟨h1,h2⟩
 ·exact .of_left (intBits_le_64 h1 h2)
 ·exact .of_right (intBits_le_64 h1 h2)
theorem op_add:OpR X (binaryOp .Add) (rI0 fun i j=>.int (i+j)):=opI0 fun _ _ _ _ _ _ _ q=>add_int q
theorem y94:OpR X (binaryOp .Sub) (rI0 fun i j=>.int (i-j)):=opI0 fun _ _ _ _ _ _ _ q=>sub_int q
theorem y95:OpR X (binaryOp .Mult) (rI CMul fun i j=>.int (i*j)):=opI fun _ _ _ _ _ _ _ hc q=>mul_int q hc.ok
theorem y6i:OpR X (binaryOp .FloorDiv) (rI CDiv fun i j=>.int (i / j)):=opI fun i j _ _ _ _ _ hc q=>by
 have h1:(0:Int)<j:=hc.1;have h2:j<1073741824:=hc.2;exact floordiv_int (by omega) (by rw[Int.fdiv_eq_ediv_of_nonneg i (by omega)];exact q) (.inl (PyProof.noPylong_small (by omega)))
theorem y96:OpR X (binaryOp .Mod) (rI (fun _ j=>0<j) fun i j=>.int (i%j)):=opI fun i j _ _ _ _ _ hc q=>by
 have h1:(0:Int)<j:=hc;exact mod_int' (by omega) (by rw[Int.fmod_eq_emod_of_nonneg i (by omega)];exact q)
end
section
variable{a b:Expr}{tb tc:TE}
theorem y0t{Q:VK}{k k':Bool}(I:Inv X pins σ H s)(q:Q (.bl k) H)(e:k=k'):EP X pins σ Q (.bool k') s:=by
 subst e;exact⟨.bl k,H,I,rfl,q⟩
theorem z3a:OpR X (compareOp .Lt) (rI0 fun i j=>.bl (decide (i<j))):=opB0 fun _ _ _ _ _ _ _ q=>lt_int q
theorem z3b:OpR X (compareOp .Gt) (rI0 fun i j=>.bl (decide (j<i))):=opB0 fun _ _ _ _ _ _ _ q=>gt_int q
theorem OpR.or{r':R2}(h:OpR X f r)(h':OpR X f r'):OpR X f (fun x y H Q=>r x y H Q\/r' x y H Q):=by
 intro pins s σ H x y v u Q I rx ry q;rcases q with q|q
 ·exact h pins s σ H x y v u Q I rx ry q
 ·exact h' pins s σ H x y v u Q I rx ry q
theorem nomark(b:Expr)(h:op≠.In:=by decide)(h2:op≠.NotIn:=by decide):behindInMarks op b=false:=by
 have e1:(op==CmpOp.In)=false:=by cases op<;>first|rfl|exact absurd rfl h
 have e2:(op==CmpOp.NotIn)=false:=by cases op<;>first|rfl|exact absurd rfl h2
 cases b<;>simp[behindInMarks,e1,e2]
theorem y6j(ho:OpR X (compareOp op) r)(ha:PE X a ta)(hb:PE X b tb)(hm:behindInMarks op b=false):PE X (.Compare a [op] [b] pos) (tOp r ta tb):=by
 intro pins s σ H Q I h;exact wpAny_Compare1 (binT ha hb I h fun v u s2 x y H2 I2 rx ry q=>ho pins s2 σ H2 x y v u Q I2 rx ry q) hm
def tTest(t:TE):TT:=fun σ H Q=>t σ H fun x H'=>∃k,x=.bl k/\Q k H'
theorem y6k(ho:OpR X (compareOp op) r)(ha:PE X a ta)(hb:PE X b tb)(hm:behindInMarks op b=false):PT X (.Compare a [op] [b] pos) (tTest (tOp r ta tb)):=by
 intro pins s σ H Q I h
 refine wpAny_isTrue_Compare1 (thn (ha pins s σ H _ I h) fun v s1 ⟨x,H1,I1,r1,q1⟩=>thn (hb pins s1 σ H1 _ I1 q1) fun u s2 ⟨y,H2,I2,r2,q2⟩=>
  thn (ho pins s2 σ H2 x y v u _ I2 r1 r2 q2) fun c s3 ⟨z,H3,I3,r3,k,e,q3⟩=>?_) hm
 subst e;cases r3;exact wpAny_truthy_bool ⟨H3,I3,q3⟩
def TruV(K:PySem.W.Frag)(x:V)(H:Hp)(k:Bool):Prop:=
 match x with
 |.non=>k=false
 |.bl b=>k=b
 |.int i=>k=(i != 0)
 |.str y=>y.length<=sizeLine/\k=((y.length:Int) != 0)
 |.byt y=>y.size<=sizeLine/\k=((y.size:Int) != 0)
 |.ref p=>(∃xs,SqL K H p xs/\k=!xs.isEmpty)\/(∃xs,SqT K H p xs/\k=!xs.isEmpty)\/∃kvs,H p=some (.dK kvs)/\k=!kvs.isEmpty
 |_=>False
theorem x9o{κ:Type}{kvs:List (κ×V)}{vs:List (κ×Value)}(r:KV kvs vs):(!vs.isEmpty)=!kvs.isEmpty:=by
 cases r<;>rfl
theorem x1c{its:List Value}(r:Vals xs its):(!its.toArray.isEmpty)=!xs.isEmpty:=by
 cases r<;>simp
theorem line63:(sizeLine:Nat)<2^63:=by rw[sizeLine_eq];decide
theorem y97:TruR X (fun x H Q=>∃k,TruV X.K x H k/\Q k H):=by
 intro pins s σ H x v Q I rx h;obtain⟨k,e,q⟩:=h;have hl:=line63;have hs:sizeLine=16777216:=sizeLine_eq;cases x with
 |non=>
  cases rx;have e':k=false:=e;subst e';exact truthy_none ⟨H,I,q⟩
 |bl b=>
  cases rx;have e':k=b:=e;subst e';exact wpAny_truthy_bool ⟨H,I,q⟩
 |int i=>
  obtain⟨t,rfl⟩:=rx;have e':k=(i != 0):=e;subst e';exact PySem.P.truthy_int ⟨H,I,q⟩
 |str y=>
  obtain⟨t,rfl⟩:=rx;obtain⟨hy,e'⟩:y.length<=sizeLine/\k=((y.length:Int) != 0):=e;subst e';exact PySem.P.truthy_str (by omega) ⟨H,I.tok _,q⟩
 |byt y=>
  obtain⟨t,rfl⟩:=rx;obtain⟨hy,e'⟩:y.size<=sizeLine/\k=((y.size:Int) != 0):=e;subst e';exact PySem.W.truthy_bytes (by omega) ⟨H,I.tok _,q⟩
 |ref p=>
  cases rx;have e':(∃xs,SqL X.K H p xs/\k=!xs.isEmpty)\/(∃xs,SqT X.K H p xs/\k=!xs.isEmpty)\/∃kvs,H p=some (.dK kvs)/\k=!kvs.isEmpty:=e;rcases e' with⟨xs,hx,e'⟩|⟨xs,hx,e'⟩|⟨kvs,hx,e'⟩
  ·subst e';obtain⟨its,r,pl,hz⟩:=I.list hx;have hlen:=r.length;exact wpAny_truthy_list pl.isList (by simp only[w0c];omega) ⟨H,I.tok _,by rw[x1c r];exact q⟩
  ·subst e';obtain⟨its,r,pl,hz⟩:=I.tuple hx;have hlen:=r.length;exact truthy_tuple pl (by simp only[w0c];omega) ⟨H,I.tok _,by rw[x1c r];exact q⟩
  ·subst e';obtain⟨hz,hS,vs,r,m⟩:kvs.length<=sizeLine/\(p==sysModules)=false/\∃vs,KV kvs vs/\s.heap.DictOf (mixKind X.prog X.w) p vs:=I.hok p _ hx;have hlen:kvs.length=vs.length:=Paired.length r;exact wpAny_truthy_dict hS m (by omega) ⟨H,I.tok _,by rw[x9o r];exact q⟩
 |_=>exact(show False from e).elim
theorem y3p(ha:PE X a ta)(he:∀whole,isTrue a X.env whole=(do let v <- whole;standAt a.pos;holding [v] (truthy v))):
  PT X a (fun σ H Q=>ta σ H fun x H'=>∃k,TruV X.K x H' k/\Q k H'):=by
 intro pins s σ H Q I h;exact isTrue_plain (thn (ha pins s σ H _ I h) fun v s1 ⟨x,H1,I1,r1,q1⟩=>y97 pins s1 σ H1 x v Q I1 r1 q1) (he _)
theorem op_add_str:OpR X (binaryOp .Add) (fun x y H Q=>∃i j,x=.str i/\y=.str j/\i.length+j.length<=sizeLine/\Q (.str (i++j)) H):=by
 intro pins s σ H x y v u Q I rx ry h;obtain⟨i,j,rfl,rfl,hz,q⟩:=h;obtain⟨t,rfl⟩:=rx;obtain⟨t',rfl⟩:=ry;exact add_str (fun t' tk=>⟨.str (i++j),H,I.tok _,⟨_,rfl⟩,q⟩) hz
theorem vals1{x:V}(r:Vals [x] us):∃u,us=[u]/\RelV x u:=by
 cases r with
 |cons r1 r2=>cases r2;exact⟨_,rfl,r1⟩
theorem vals2{x y:V}(r:Vals [x,y] us):∃u w',us=[u,w']/\RelV x u/\RelV y w':=by
 cases r with
 |cons r1 r2=>
  cases r2 with
  |cons r3 r4=>cases r4;exact⟨_,_,rfl,r1,r3⟩
theorem y0u:CallR X (.type "int") (fun xs H Q=>(∃i,xs=[.int i]/\Q (.int i) H)\/∃k,xs=[.bl k]/\Q (.int (if k then 1 else 0)) H):=by
 intro pins s σ H xs us Q I r h;rcases h with⟨i,rfl,q⟩|⟨k,rfl,q⟩
 ·obtain⟨u,rfl,t,rfl⟩:=vals1 r;exact call_int_int ⟨.int i,H,I,⟨_,rfl⟩,q⟩
 ·obtain⟨u,rfl,r1⟩:=vals1 r;cases r1;exact call_int_bool ⟨.int (if k then 1 else 0),H,I.tok _,⟨_,rfl⟩,q⟩
def LenV(K:PySem.W.Frag)(x:V)(H:Hp)(n:Nat):Prop:=
 match x with
 |.str y=>y.length<=sizeLine/\n=y.length
 |.byt y=>y.size<=sizeLine/\n=y.size
 |.ref p=>(∃xs,SqL K H p xs/\n=xs.length)\/∃xs,SqT K H p xs/\n=xs.length
 |_=>False
theorem y3q:CallR X (.builtin "len") (fun xs H Q=>∃x n,xs=[x]/\LenV X.K x H n/\Q (.int n) H):=by
 intro pins s σ H xs us Q I r h;obtain⟨x,n,rfl,e,q⟩:=h;obtain⟨u,rfl,rx⟩:=vals1 r;have hl:=line63;have hs:sizeLine=16777216:=sizeLine_eq;cases x with
 |str y=>
  obtain⟨t,rfl⟩:=rx;obtain⟨hy,e'⟩:y.length<=sizeLine/\n=y.length:=e;subst e';exact len_str (by omega) ⟨.int _,H,I.tok _,⟨_,rfl⟩,q⟩
 |byt y=>
  obtain⟨t,rfl⟩:=rx;obtain⟨hy,e'⟩:y.size<=sizeLine/\n=y.size:=e;subst e';exact PySem.W.len_bytes (by omega) ⟨.int _,H,I.tok _,⟨_,rfl⟩,q⟩
 |ref p=>
  cases rx;have e':(∃xs,SqL X.K H p xs/\n=xs.length)\/∃xs,SqT X.K H p xs/\n=xs.length:=e;rcases e' with⟨xs,hx,e'⟩|⟨xs,hx,e'⟩
  ·subst e';obtain⟨its,r',pl,hz⟩:=I.list hx;have hlen:=r'.length;exact Calls.call_len_list pl.isList (by simp only[w0c];omega) ⟨.int xs.length,H,I.tok _,⟨_,by simp only[w0c];rw[hlen]⟩,q⟩
  ·subst e';obtain⟨its,r',pl,hz⟩:=I.tuple hx;have hlen:=r'.length;exact len_tuple pl (by simp only[w0c];omega) ⟨.int xs.length,H,I.tok _,⟨_,by simp only[w0c];rw[hlen]⟩,q⟩
 |_=>exact(show False from e).elim
end
structure ObjM(h:Heap)(x dx C:Addr)(mA:Str->Option Value):Prop where
 obj:h.get? x=some (PySem.W.instObj C dx)
 ns:h.Ns1 dx mA
 ne:dx≠x
structure Cls(K:PySem.W.Frag)(C:Addr):Prop where
 pg:PySem.W.plainGet K C Str.empty=true
 hd:PySem.W.hasDictIn K C=true
 po:PySem.W.plainOver K C=true
 sa:findIn K (.ref C) "__setattr__"=some (some (.builtin "object.__setattr__"))
structure Con(K:PySem.W.Frag)(C:Addr)(f:Str)(v:V)(u:Value):Prop where
 at_:findIn K (.ref C) f=some (some u)
 rel:RelV v u
 get:specialIn K u "__get__"=some none
 cp:PySem.W.copiedNames.contains f=false
structure Meth(K:PySem.W.Frag)(C:Addr)(m:Str)(f:Addr):Prop where
 at_:findIn K (.ref C) m=some (some (.ref f))
 fn:PySem.W.isFn K (.ref f)=true
 kp:keepIn K (.ref f)=true
section
variable{Q:Value->Shared->Prop}{c:Value}{b:Bool}
inductive TyOf(K:PySem.W.Frag)(H:Hp):V->Value->Prop where
 |non:TyOf K H .non (.type "NoneType")
 |bl (x:Bool):TyOf K H (.bl x) (.type "bool")
 |int (i:Int):TyOf K H (.int i) (.type "int")
 |str (x:Str):TyOf K H (.str x) (.type "str")
 |flt (x:UInt64):TyOf K H (.flt x) (.type "float")
 |lst {a:Addr} {xs:List V} (e:H a=some (.lst xs)):TyOf K H (.ref a) (.type "list")
 |frz {a:Addr} {o:Obj} {xs:List V} (e:H a=some (.frz o (.lst xs))):TyOf K H (.ref a) (.type "list")
 |tup {a:Addr} {xs:List V} (e:H a=some (.tup xs)):TyOf K H (.ref a) (.type "tuple")
 |dK {a:Addr} {kvs:List (Key×V)} (e:H a=some (.dK kvs)):TyOf K H (.ref a) (.type "dict")
 |dT {a:Addr} {sh:Sh} {kvs:List (Kx×V)} {kas:List Addr} (e:H a=some (.dT sh kvs kas)):TyOf K H (.ref a) (.type "dict")
 |ins {a C dx:Addr} {fs:List (Str×V)} (e:H a=some (.ins C dx fs)) (cl:Cls K C) (ha:findIn K (.ref C) "__class__"=some (some (.builtin "object.__class__")))
   (hn:specialIn K (.builtin "object.__class__") "__get__"=some (some (.builtin "getset_descriptor.__get__"))) (htk:takesIn K (.builtin "object.__class__")=some true)
   (hm:PySem.W.mroIn K C (.type "object")=some true):TyOf K H (.ref a) (.ref C)
end
structure Room(k:Nat)(A:Around):Prop where
 hd:A.handled=none
 dp:A.depth+3*k+5<recursionLimit
 un:A.units+16*k+200<cLine
 gd:A.guards=some []
theorem Room.mono{j:Nat}(r:Room k A)(h:j<=k):Room j A:=⟨r.hd,by have:=r.dp;omega,by have:=r.un;omega,r.gd⟩
theorem Room.deeper(r:Room (k+1) A)(env:Env):Room k (A.deeper env):=
 ⟨r.hd,by have:=r.dp;show A.depth+1+3*k+5<_;omega,by have:=r.un;show A.units+3+16*k+200<_;omega,r.gd⟩
theorem Room.in1(r:Room (k+1) A):Room k A.in1:=
 ⟨r.hd,by have:=r.dp;show A.depth+3*k+5<_;omega,by have:=r.un;show A.units+1+16*k+200<_;omega,r.gd⟩
theorem Room.depth(r:Room k A):A.depth<recursionLimit:=by have:=r.dp;omega
def tNil:TA:=fun _ H Q=>Q [] H
def tCons(ta:TE)(tr:TA):TA:=fun σ H Q=>ta σ H fun x H1=>tr σ H1 fun xs H2=>Q (x::xs) H2
theorem y0v:PA X [] tNil:=fun _ _ _ _ H Q I h=>Calls.spliced_nil ⟨[],H,I,.nil,h⟩
theorem x2p(ha:PE X e te)(hr:PA X es t)(hs:starEach (e::es) X.env=(false,eval e X.env)::starEach es X.env:=by rfl):PA X (e::es) (tCons te t):=by
 intro pos pins s σ H Q I h;rw[hs];show wpAny _ _ (spliced ((false,eval e X.env)::backTo pos (starEach es X.env))) _ _ s;refine Calls.spliced_cons (thn (ha pins s σ H _ I h) fun u s1 ⟨x,H1,I1,r1,q1⟩=>?_)
 exact thn (hr pos pins s1 σ H1 _ I1 q1) fun us s2 ⟨xs,H2,I2,r2,q2⟩=>⟨x::xs,H2,I2,.cons r1 r2,q2⟩
def tTup(t:TA):TE:=fun σ H Q=>t σ H fun xs H1=>xs.length<=sizeLine/\∀p,H1 p=none->Q (.ref p) (upd H1 p (.tup xs))
def tLst(t:TA):TE:=fun σ H Q=>t σ H fun xs H1=>xs.length<=sizeLine/\∀p,H1 p=none->Q (.ref p) (upd H1 p (.lst xs))
theorem y98{x1}(h:PA X es t):PE X (.Tuple es x1 pos) (tTup t):=by
 intro pins s σ H Q I hq;refine wpAny_Tuple_spliced (thn (h pos pins s σ H _ I hq) fun us s1 ⟨xs,H1,I1,r,z,q⟩=>⟨by rw[<- r.length];exact z,?_⟩)
 have hf:H1 s1.heap.objs.size=none:=I1.hok.fresh (w0f _);refine⟨.ref s1.heap.objs.size,upd H1 s1.heap.objs.size (.tup xs),I1.laid (t':=s1.toks) (fun b u e=>Heap.get?_push_of_some _ e) (w0f _) ?_,rfl,q _ hf⟩
 exact⟨z,us,r,⟨_,Heap.get?_push_size _ rfl,rfl,_,rfl⟩,⟨_,Heap.get?_push_size _ rfl,rfl⟩⟩
theorem y99(h:PA X es t):PE X (.List es pos) (tLst t):=by
 intro pins s σ H Q I hq;refine wpAny_List_spliced (thn (h pos pins s σ H _ I hq) fun us s1 ⟨xs,H1,I1,r,z,q⟩=>⟨by rw[<- r.length];exact z,?_⟩)
 have hf:H1 s1.heap.objs.size=none:=I1.hok.fresh (w0f _);refine⟨.ref s1.heap.objs.size,upd H1 s1.heap.objs.size (.lst xs),I1.laid (t':=s1.toks) (fun b u e=>Heap.get?_push_of_some _ e) (w0f _) ?_,rfl,q _ hf⟩
 exact⟨z,us,0,r,Heap.get?_push_size _ rfl⟩
abbrev Sp:=List V->Hp->VK->XK->Prop
variable{sp:Sp}
abbrev CXT:=List Env->Hp->Shared->XK->Value->Shared->Prop
variable{CX:CXT}
structure Env0(P:Program)(w:World)(K:PySem.W.Frag)(mg:Str->Option Value)(base:Heap)(A:Around)(outer:List Env)(s:Shared)(H:Hp):Prop where
 frames:A.frames=some outer
 mod:Mod K mg base
 bs:∀b o,base.get? b=some o->s.heap.get? b=some o/\H b=none
 bsz:base.objs.size<=s.heap.objs.size
 funs:s.heap.FunFrames base outer
 frf:∀b∈frs outer,H b=none
 hok:HOk P w H s.heap
 bare:AllBare s.gens
 tab:TabOk K H
def CE(outer:List Env)(P:Program)(w:World)(H:Hp)(s:Shared)(Q:VK)(u:Value)(s':Shared):Prop:=
 ∃v H',s'.os=s.os/\AllBare s'.gens/\Un (frs outer) [] H H' s.heap s'.heap/\HOk P w H' s'.heap/\RelV v u/\Q v H'
def CR(CX:CXT)(outer:List Env)(P:Program)(w:World)(H:Hp)(s:Shared)(Q:VK)(E:XK)(r:Result)(s':Shared):Prop:=
 match r with
 |.ok (.ret u)=>CE outer P w H s Q u s'
 |.ok _=>False
 |.error e=>CX outer H s E e s'
structure FnOk(P:Program)(w:World)(K:PySem.W.Frag)(mg:Str->Option Value)(base:Heap)(CX:CXT)(k:Nat)(f:Addr)(fd:FuncData)(ps:List Str)(sp:Sp):Prop where
 len:∀vs H Q E,sp vs H Q E->vs.length=ps.length
 run:∀(A:Around)(outer:List Env)(s:Shared)(H:Hp)(args:Args)(us:List Value)(vs:List V)(Q:VK)(E:XK),Room k A->Env0 P w K mg base A outer s H->BindsTo s fd args (ps.zip us)->Vals vs us->sp vs H Q E ->
  codeAny (model P w) A (.call (.ref f) args) (CR CX outer P w H s Q E) s
theorem FnOk.imp{f:Addr}{sp':Sp}(F:FnOk P w K mg base CX k f fd ps sp)
  (h:∀vs H Q E,sp' vs H Q E->sp vs H Q E):FnOk P w K mg base CX k f fd ps sp':=
 ⟨fun vs H Q E q=>F.len vs H Q E (h _ _ _ _ q),fun A outer s H args us vs Q E hr he hb hv hs=>F.run A outer s H args us vs Q E hr he hb hv (h _ _ _ _ hs)⟩
section
variable{s':Shared}
theorem Inv.env0(I:Inv X pins σ H s):Env0 X.prog X.w X.K X.mg X.base X.A X.stack s H:=
 ⟨I.ok.frames,I.ok.mod,I.bs,w0l I.ok.bsz I.sz,I.stack,I.stkFree,I.hok,I.bare,I.ok.tab.un I.base⟩
theorem Inv.after{Q:VK}(I:Inv X pins σ H s)(h:CE X.stack X.prog X.w H s Q u s'):EP X pins σ Q u s':=by
 obtain⟨v,H',os,bare,un,hok,r,q⟩:=h;obtain⟨hh,g,d,t,os'⟩:=s';obtain rfl:os'=s.os:=os;exact⟨v,H',I.call (h':=hh) (g':=g) (d':=d) (t':=t) (ch:=[]) un hok bare (fun b z=>absurd z (by simp)),r,q⟩
end
def Binds(K:PySem.W.Frag)(fd:FuncData)(ps:List Str)(ds:List Value):Prop:=
 ∀(s:Shared)(us:List Value),K.In s.heap->(us++ds).length=ps.length->BindsTo s fd ⟨us,[]⟩ (ps.zip (us++ds))
theorem Binds.all(h:∀us:List Value,us.length=ps.length->bindArgs fd ⟨us,[]⟩=pure (ps.zip us)):Binds K fd ps []:=fun s us _ hl=>by
 rw[w1n]at hl |-
 exact .of_eq (h us hl)
section
variable{f:Addr}{dvs:List V}{ds:List Value}{E:XK}{m:Str}{apos:Pos}{o:Expr}
structure Mk(K:PySem.W.Frag)(C f:Addr):Prop where
 makes:PySem.W.makesIn K C=true
 init:findIn K (.ref C) "__init__"=some (some (.ref f))
 fn:PySem.W.isFn K (.ref f)=true
 kp:keepIn K (.ref C)=true
end
section
variable{f:Addr}{ks:List Str}{E:XK}{m:Str}{apos kpos:Pos}{o:Expr}{kws:List Keyword}{tk:TA}{nm:Option Str}
structure KBinds(K:PySem.W.Frag)(fd:FuncData)(ps ks:List Str)(g:List Value->List Value->List Value)(gV:List V->List V->List V):Prop where
 to:∀(s:Shared)(us ws:List Value),K.In s.heap->(g us ws).length=ps.length->BindsTo s fd ⟨us,ks.zip ws⟩ (ps.zip (g us ws))
 rel:∀{vs:List V}{us:List Value}{zs:List V}{ws:List Value},Vals vs us->Vals zs ws->Vals (gV vs zs) (g us ws)
variable{g:List Value->List Value->List Value}{gV:List V->List V->List V}
end
structure FnScope(N P:List Str)(sc:Scope):Prop where
 kind:sc.kind=.function
 co:sc.isCoroutine=false
 gen:sc.isGenerator=false
 nd:N.Nodup
 pre:N.take P.length=P
 par:∀x∈P,sc.names.lookup x=some .local\/sc.names.lookup x=some .cell
 nofree:∀y∈sc.names,y.2≠.free
theorem x3l{kindOf:Str->Option NameKind}:∀{binds:List (Str×Value)}{m:Str->Option Value},(∀v,(x,v)∉binds)->bindL kindOf binds m x=m x
 |[],_,_=>rfl
 |(n,v)::r,m,h=>by
  unfold bindL;rw[x3l fun w hw=>h w (w0g _ hw)]
  split
  ·have:x≠n:=by rintro rfl;exact h v w0k
   simp[this]
  ·rfl
theorem x3m{kindOf:Str->Option NameKind}:∀{binds:List (Str×Value)}{m:Str->Option Value},(∀v,(x,v)∉binds)->bindC kindOf binds m x=m x
 |[],_,_=>rfl
 |(n,v)::r,m,h=>by
  unfold bindC;rw[x3m fun w hw=>h w (w0g _ hw)]
  split
  ·rfl
  ·have:x≠n:=by rintro rfl;exact h v w0k
   simp[this]
theorem x3n{kindOf:Str->Option NameKind}{x:Str}{v:Value}:∀{P:List Str}{vs:List Value}{i:Nat}{m:Str->Option Value},P.Nodup->P[i]?=some x->vs[i]?=some v->kindOf x=some .local ->
  bindL kindOf (P.zip vs) m x=some v
 |[],_,_,_,_,h,_,_=>by simp at h
 |_::_,[],_,_,_,_,h,_=>by simp at h
 |p::P,w::vs,0,m,nd,h1,h2,hk=>by
  simp at h1 h2;subst h1;subst h2;show bindL kindOf ((p,w)::P.zip vs) m p=_;unfold bindL;rw[x3l fun v hv=>(w1w.mp nd).1 (w3a hv).1,if_pos hk]
  simp
 |p::P,w::vs,i+1,m,nd,h1,h2,hk=>by
  show bindL kindOf ((p,w)::P.zip vs) m x=_;unfold bindL;exact x3n (i:=i) (w1w.mp nd).2 (by simpa using h1) (by simpa using h2) hk
theorem x3o{kindOf:Str->Option NameKind}{x:Str}{v:Value}:∀{P:List Str}{vs:List Value}{i:Nat}{m:Str->Option Value},P.Nodup->P[i]?=some x->vs[i]?=some v->kindOf x≠some .local ->
  bindC kindOf (P.zip vs) m x=some v
 |[],_,_,_,_,h,_,_=>by simp at h
 |_::_,[],_,_,_,_,h,_=>by simp at h
 |p::P,w::vs,0,m,nd,h1,h2,hk=>by
  simp at h1 h2;subst h1;subst h2;show bindC kindOf ((p,w)::P.zip vs) m p=_;unfold bindC;rw[x3m fun v hv=>(w1w.mp nd).1 (w3a hv).1,if_neg hk]
  simp
 |p::P,w::vs,i+1,m,nd,h1,h2,hk=>by
  show bindC kindOf ((p,w)::P.zip vs) m x=_;unfold bindC;exact x3o (i:=i) (w1w.mp nd).2 (by simpa using h1) (by simpa using h2) hk
noncomputable def start(N:List Str)(vs:List V):St:=vs.map some++List.replicate (N.length-vs.length) none
noncomputable def cxOf(CX:CXT)(P:Program)(w:World)(K:PySem.W.Frag)(mg:Str->Option Value)(base:Heap)(N:List Str)(qual:Str)(scope:Scope)(f:Addr)(cd:Value)(A:Around)(outer:List Env)(s:Shared)(H:Hp)(E:XK):Cx where
 prog:=P
 w:=w
 K:=K
 mg:=mg
 base:=base
 A:=A.deeper (envOfC qual scope s.heap.objs.size f cd)
 N:=N
 s₀:=s
 H₀:=H
 env:=envOfC qual scope s.heap.objs.size f cd
 outer:=outer
 stack:=envOfC qual scope s.heap.objs.size f cd::outer
 ex:=[]
 calm:=true
 fn:=fun _=>true
 pn:=[]
 xe:=fun e s'=>wpAny (model P w) (A.deeper (envOfC qual scope s.heap.objs.size f cd)) (leaving (envOfC qual scope s.heap.objs.size f cd) e) (fun _ s''=>CX outer H s E e s'') (fun e' s''=>CX outer H s E e' s'') s'
theorem x5m{sc:Scope}{n:Nat}(h:sc.names.lookup x=some .cell):∃c,(cellsFrom n sc.names []).lookup x=some c:=by
 have q:=PySem.W.cellsFrom_some sc.names n [] (.inl h);exact w3z.mp q
theorem y0w{qual:Str}{scope:Scope}{f:Addr}{cd:Value}{outer:List Env}{s1:Shared}{E:XK}{vs:List V}
  (S:FnScope N ps scope)(hd:A.handled=none)(e0:Env0 P w K mg base A outer s H)(hl:vs.length=ps.length)(r:Vals vs us)
  (x:InCallC s s.heap.objs.size (bindL (envOfC qual scope s.heap.objs.size f cd).kindOf (ps.zip us) fun _=>none) (cellsFrom (s.heap.objs.size+1) scope.names []) (bindC (envOfC qual scope s.heap.objs.size f cd).kindOf (ps.zip us) fun _=>none) s1):
  Inv (cxOf CX P w K mg base N qual scope f cd A outer s H E) [] (start N vs) H s1:=by
 have hpl:ps.length<=N.length:=by have:=congrArg List.length S.pre;rw[w2j]at this;omega
 obtain⟨h1,tk,rfl,hk⟩:=x.done;have noA:∀b:Addr,b∉(cxOf CX P w K mg base N qual scope f cd A outer s H E).ex:=fun b z=>absurd (show b∈([]:List Addr)from z) (by simp)
 refine⟨⟨e0.mod,S.kind,rfl,rfl,w0f _,fun y z c h1 h2=>?_,fun y hy=>?_,fun y c _ h=>?_,fun _=>hd,Around.frames_deeper e0.frames,.inr ⟨rfl,rfl⟩,fun b z=>absurd z (noA b),e0.bs,e0.bsz,fun b _ _=>noA b,fun b z=>absurd z (noA b),e0.funs,e0.frf,e0.tab⟩,
  rfl,e0.bare,Un.kept hk,⟨_,x.toInCall.ns,fun i y v h1 h2 h3=>?_⟩,fun y c h=>⟨_,x.cell y c h⟩,e0.hok.fresh (w0f _),fun y c h=>?_,fun p hp=>absurd (show p∈([]:List (Addr×Obj))from hp) (by simp),e0.hok.kept hk,?_⟩
 ·exact name_of_addr x.apart (PySem.mem_of_lookup h1) (PySem.mem_of_lookup h2)
 ·have hy:scope.names.lookup y=some .cell\/scope.names.lookup y=some .free:=hy;rcases hy with hy|hy
  ·exact x5m hy
  ·exact absurd rfl (S.nofree _ (PySem.mem_of_lookup hy))
 ·exact w4k (x.above y c (PySem.mem_of_lookup h))
 ·have hi:i<vs.length:=by
   unfold start at h2
   by_cases hi:i<vs.length
   ·exact hi
   ·rw[w1p (by simpa using hi)]at h2;rw[w3b]at h2;split at h2<;>cases h2
  have ha:vs[i]?=some v:=by
   unfold start at h2;rw[w1q (by simpa using hi),w0w]at h2;cases e:vs[i]? with
   |none=>rw[e]at h2;cases h2
   |some a=>rw[e]at h2;cases h2;rfl
  obtain⟨u,hu,rv⟩:=r.get ha
  have hp:ps[i]?=some y:=by
   rw[<- S.pre,List.getElem?_take_of_lt (by omega)];exact h1
  have ndP:ps.Nodup:=by rw[<- S.pre];exact S.nd.sublist (List.take_sublist _ _)
  refine⟨u,rv,?_⟩;rcases S.par y (w1g hp)with k|k
  ·exact .inl ⟨k,x3n ndP hp hu k⟩
  ·obtain⟨c,e⟩:=x5m (n:=s.heap.objs.size+1) k;refine .inr ⟨.inl k,c,e,?_⟩;have q:=x.cell y c e;rw[x3o ndP hp hu (by show scope.names.lookup y≠_;rw[k];decide)]at q;exact q
 ·exact e0.hok.fresh (w4k (x.above y c (PySem.mem_of_lookup h)))
 ·unfold start;show _=N.length;rw[w0q,w0a,w3j];omega
theorem y53{f:Addr}{name qual:Str}{params:Arguments}{body:List Stmt}{scope:Scope}{dV kV doc pm cdv ct oc:Value}{an od:Option Addr}
  {osl:Array (Option Value)}(lk:K.lookup f=some ⟨oc,od,.func (PySem.W.fnOf name qual params body scope dV kV doc pm an cdv ct),osl⟩)(hcd:PySem.W.codeIn K cdv qual=true)(S:FnScope N ps scope)
  (len:∀vs H Q E,sp vs H Q E->vs.length=ps.length)
  (hbody:∀(A:Around)(outer:List Env)(s:Shared)(H:Hp)(vs:List V)(Q:VK)(E:XK),Room k (A.deeper (envOfC qual scope s.heap.objs.size f cdv))->sp vs H Q E ->
   ∃t,PSs (cxOf CX P w K mg base N qual scope f cdv A outer s H E) body t/\t {nx:=fun _ H'=>Q .non H',rt:=Q} (start N vs) H):
  FnOk P w K mg base CX (k+1) f (PySem.W.fnOf name qual params body scope dV kV doc pm an cdv ct) ps sp:=by
 refine⟨len,fun A outer s H args us vs Q E hr e0 hb r hsp=>?_⟩
 have hl:=len _ _ _ _ hsp;have KX:K.In s.heap:=e0.mod.kin.keeps fun b o e=>(e0.bs b o e).1
 have lim:s.heap.NoLimit:=e0.mod.nolimit.keeps fun b o e=>(e0.bs b o e).1
 have hkind:∀y∈ps.zip us,scope.names.lookup y.1=some .local\/(scope.names.lookup y.1=some .cell/\((cellsFrom (s.heap.objs.size+1) scope.names []).lookup y.1).isSome=true):=fun⟨n,v⟩ hy=>by
  rcases S.par n (w3a hy).1 with q|q
  ·exact .inl q
  ·exact .inr ⟨q,PySem.W.cellsFrom_some _ _ _ (.inl q)⟩
 refine codeAny_call_function hr.depth (KX _ _ lk) rfl S.co S.gen rfl (PySem.W.codeRec_of KX hcd) (hb _ _ _ _ ?_)
 refine wpAny_newFunctionEnv_cells S.kind hkind fun env he s1 x=>?_
 subst he;refine⟨lim.keeps x.toInCall.keep,codeAny_func ?_⟩
 obtain⟨t,ht,hq⟩:=hbody A outer s H vs Q E (hr.deeper _) hsp;have I:Inv (cxOf CX P w K mg base N qual scope f cdv A outer s H E) [] (start N vs) H s1:=y0w S hr.hd e0 hl r x;refine wpAny_mono (ht [] s1 (start N vs) H _ I hq) (fun fl s' hs=>?_) fun e s' hs=>hs
 have fin:∀{σ':St}{H':Hp}{v:V}{u:Value},Inv (cxOf CX P w K mg base N qual scope f cdv A outer s H E) [] σ' H' s'->RelV v u->Q v H'->CE outer P w H s Q u s':=
  fun {σ' H' v u} J rv q=>⟨v,H',J.os,J.bare,J.base,J.hok,rv,q⟩
 cases fl with
 |ret u=>
  obtain⟨v,σ',H',J,rv,q⟩:=hs;exact fin J rv q
 |next=>
  obtain⟨σ',H',J,q⟩:=hs;exact fin (v:=V.non) (u:=Value.none) J rfl q
 |brk=>
  obtain⟨_,_,_,q⟩:=hs;exact False.elim q
 |cont=>
  obtain⟨_,_,_,q⟩:=hs;exact False.elim q
section
variable{id T:String}{r:List V->Hp->VK->Prop}
def tCB(r:List V->Hp->VK->Prop)(t:TA):TE:=fun σ H Q=>t σ H fun vs H1=>r vs H1 Q
theorem x5n(hc:CallR X (.builtin id) r)(hg:Gl X x)(hm:X.mg x=none)(hv:bootBuiltins x=some (.builtin id))(ha:PA X (e::es) t)(hn:x≠"__name__":=by decide)(hdb:(x==("__debug__":Str))=false:=by decide)
  (he:starEach (e::es) X.env=(false,eval e X.env)::starEach es X.env:=by rfl)(hpl:(backTo pos (starEach es X.env)).any (·.1)=false:=by rfl):PE X (.Call (.Name x p) (e::es) [] pos) (tCB r t):=by
 intro pins s σ H Q I h;refine wpAny_Call_Name_kw (q4l I hg hm hv ?_ hn hdb);exact PyProof.Rows.callWith_builtin1 (thn (ha pos pins s σ H _ I h) fun us s1 ⟨vs,H1,I1,r1,q1⟩=>hc pins s1 σ H1 vs us Q I1 r1 q1) he hpl
theorem x3p(hc:CallR X (.type T) r)(hg:Gl X x)(hm:X.mg x=none)(hv:bootBuiltins x=some (.type T))(ha:PA X (e::es) t)(hn:x≠"__name__":=by decide)(hdb:(x==("__debug__":Str))=false:=by decide)
  (he:starEach (e::es) X.env=(false,eval e X.env)::starEach es X.env:=by rfl)(hpl:(backTo pos (starEach es X.env)).any (·.1)=false:=by rfl):PE X (.Call (.Name x p) (e::es) [] pos) (tCB r t):=by
 intro pins s σ H Q I h;refine wpAny_Call_Name_kw (q4l I hg hm hv ?_ hn hdb);exact PyProof.Rows.callWith_type1 (thn (ha pos pins s σ H _ I h) fun us s1 ⟨vs,H1,I1,r1,q1⟩=>hc pins s1 σ H1 vs us Q I1 r1 q1) he hpl
end
end L2
namespace HT
open PySem PyProof.Rows
section
variable{prog:Program}{w:World}{A:Around}{E:Value->Shared->Prop}{s:Shared}
theorem cat_tup{t b:Addr}{vs ws:List Value}{Q:Value->Shared->Prop}(ht:IsTup s.heap t vs.toArray)(hb:IsTup s.heap b ws.toArray)(hv:vs≠[])
  (h1:ws=[]->Q (.ref t) s)(h2:ws≠[]->Q (.ref s.heap.objs.size) {s with heap:=s.heap.push {cls:=.type "tuple", data:=.seq (vs++ws).toArray}})
  (hsz:vs.length+ws.length<=sizeLine):wpAny (model prog w) A (binaryOp .Add (.ref t) (.ref b)) Q E s:=by
 obtain⟨⟨cls,dd,data,sl⟩,ho,hc,n,hd⟩:=id ht;obtain⟨⟨cls2,dd2,data2,sl2⟩,ho2,hc2,n2,hd2⟩:=id hb;simp only at hc hd hc2 hd2;subst hc hd hc2 hd2;have e:vs.toArray++ws.toArray=(vs++ws).toArray:=by simp
 by_cases hw:ws=[]
 ·exact concat_meets ⟨_,ho,rfl⟩ ⟨_,ho2,rfl⟩ noFill_tuple_add seq_tuple_add PySem.F.slot_tuple_add PySem.F.entry_tuple_add (PySem.F.args_tuple_add_2 _ _)
   (tuple_addW1 t b vs.toArray ws.toArray n n2 dd dd2 sl sl2 (by simpa using hv) (by simp[hw])) ⟨ho,ho2,h1 hw⟩
 ·refine concat_meets ⟨_,ho,rfl⟩ ⟨_,ho2,rfl⟩ noFill_tuple_add seq_tuple_add PySem.F.slot_tuple_add PySem.F.entry_tuple_add (PySem.F.args_tuple_add_2 _ _)
   (tuple_addW2 t b vs.toArray ws.toArray n n2 dd dd2 sl sl2 (by simpa using hv) (by simpa using hw) (by rw[w0c,w0c];exact hsz)) ⟨ho,ho2,?_⟩
  rw[e];exact h2 hw
noncomputable def sIx(n d:Nat):Option Int->Nat
 |none=>d
 |some v=>if v<0 then(v+(n:Int)).toNat else min v.toNat n
theorem sIx_none(n d:Nat):sIx n d none=d:=rfl
theorem sIx_nat(n d k:Nat):sIx n d (some (k:Int))=min k n:=by
 show(if(k:Int)<0 then((k:Int)+(n:Int)).toNat else min (k:Int).toNat n)=min k n;rw[if_neg (by omega),w1j]
theorem z0a(n d:Nat)(hd:d<=n)(o:Option Int):sIx n d o<=n:=by
 cases o with
 |none=>exact hd
 |some v=>
  show(if v<0 then(v+(n:Int)).toNat else min v.toNat n)<=n
  by_cases hv:v<0
  ·rw[if_pos hv];omega
  ·rw[if_neg hv];exact w4e _ _
theorem x8m(v:Int)(n d:Nat):(if v<0 then max (v+(n:Int)) 0 else min v (n:Int))=((sIx n d (some v):Nat):Int):=by
 show(if v<0 then max (v+(n:Int)) 0 else min v (n:Int))=(((if v<0 then(v+(n:Int)).toNat else min v.toNat n):Nat):Int)
 by_cases hv:v<0
 ·simp only[if_pos hv];omega
 ·simp only[if_neg hv];omega
theorem x9p(lo hi:Option Int)(n:Nat):Builtin.Slice.sliceAdjust lo hi 1 (n:Int)=(((sIx n 0 lo:Nat):Int),((sIx n n hi:Nat):Int)):=by
 have h1:¬((1:Int)<0):=by omega
 unfold Builtin.Slice.sliceAdjust;simp only[h1,if_false];refine Prod.ext ?_ ?_
 ·cases lo with
  |none=>rfl
  |some v=>exact x8m v n 0
 ·cases hi with
  |none=>rfl
  |some v=>exact x8m v n n
theorem x9q(i j:Nat):Builtin.Slice.slicePlaces (i:Int) (j:Int) 1=j-i:=by
 unfold Builtin.Slice.slicePlaces;have h1:(1:Int)>0:=by omega
 simp only[h1,if_true,Int.ediv_one];split<;>omega
theorem x1d{v:Value}{o:Option Int}{Q:Option Int->Shared->Prop}(p:IsPart v o)(h:Q o s):wpAny (model prog w) A (Builtin.Slice.slicePartIndex v) Q E s:=by
 cases p with
 |none=>exact slicePart_none h
 |int i t=>exact slicePart_int h
theorem x0r{sl:Addr}{vl vu:Value}{lo hi:Option Int}{n:Nat}{Q:Int×Int×Nat->Shared->Prop}(hs:s.heap.IsSliceOf sl vl vu .none)(pl:IsPart vl lo)(pu:IsPart vu hi)
  (h:Q (((sIx n 0 lo:Nat):Int),1,sIx n n hi-sIx n 0 lo) s):wpAny (model prog w) A (Builtin.Slice.sliceApplied (.ref sl) (pure (n:Int))) Q E s:=by
 obtain⟨os,hos,hcs,hds⟩:=id hs;unfold Builtin.Slice.sliceApplied Builtin.Slice.sliceFields;refine wpAny_bind (wpAny_bind (wpAny_field hos hds (x:=vl) rfl (wpAny_bind (wpAny_field hos hds (x:=vu) rfl (wpAny_bind (wpAny_field hos hds (x:=.none) rfl (wpAny_pure ?_)))))));refine wpAny_bind (slicePart_none ?_);show wpAny _ _ (if((1:Int)==0)=true then _ else _) _ _ s;rw[if_neg (by decide)];refine wpAny_bind (x1d pl (wpAny_bind (x1d pu (wpAny_bind (wpAny_pure ?_)))));show wpAny _ _ (match Builtin.Slice.sliceAdjust lo hi 1 (n:Int)with|(lo,hi)=>pure (lo,(1:Int),Builtin.Slice.slicePlaces lo hi 1)) _ _ s;rw[x9p lo hi n];show wpAny _ _ (pure (((sIx n 0 lo:Nat):Int),(1:Int),Builtin.Slice.slicePlaces ((sIx n 0 lo:Nat):Int) ((sIx n n hi:Nat):Int) 1)) _ _ s;rw[x9q];exact wpAny_pure h
theorem y3r(xs:Array Value)(i k:Nat):((List.range k).filterMap fun(m:Nat)=>xs[((i:Int)+(m:Int)*1).toNat]?).toArray=((xs.toList.drop i).take k).toArray:=by
 have e:(fun(m:Nat)=>xs[((i:Int)+(m:Int)*1).toNat]?)=fun m=>xs[i+m]?:=by
  funext m
  have:((i:Int)+(m:Int)*1).toNat=i+m:=by omega
  rw[this]
 rw[e];have:=pick_run xs i k;rw[List.filterMap_map]at this;have e2:((fun x=>xs[x]?) ∘ fun x=>i+x)=fun m=>xs[i+m]?:=rfl
 rw[e2]at this;rw[this]
theorem getItem_tuple_cut{t sl:Addr}{items:Array Value}{vl vu:Value}{lo hi:Option Int}{Q:Value->Shared->Prop}(ht:IsTup s.heap t items)(hs:s.heap.IsSliceOf sl vl vu .none)(pl:IsPart vl lo)(pu:IsPart vu hi)
  (hw:¬(sIx items.size 0 lo=0/\sIx items.size items.size hi=items.size))
  (h:Q (.ref s.heap.objs.size) {s with heap:=s.heap.push {cls:=.type "tuple", data:=.seq ((items.toList.drop (sIx items.size 0 lo)).take (sIx items.size items.size hi-sIx items.size 0 lo)).toArray}})
  (hsz:items.size<=sizeLine):wpAny (model prog w) A (getItem (.ref t) (.ref sl)) Q E s:=by
 have htake:sizeOk (.seq ((items.toList.drop (sIx items.size 0 lo)).take (sIx items.size items.size hi-sIx items.size 0 lo)).toArray):=by
  show((items.toList.drop (sIx items.size 0 lo)).take (sIx items.size items.size hi-sIx items.size 0 lo)).toArray.size<=sizeLine;rw[w0c,w2j,w2k,w3o];exact w0l (w4e _ _) (w0l (Nat.sub_le _ _) hsz)
 have hj:sIx items.size items.size hi<=items.size:=z0a _ _ (w0f _) hi;obtain⟨os,hos,hcs,hds⟩:=id hs;have hTs:s.TypeIs (.ref sl) "slice":=⟨os,hos,hcs⟩;unfold getItem;try with_reducible refine wpAny_holding ?_
 first|refine wpAny_bind (wpAny_pure ?_)|skip
 refine wpAny_bind (wpAny_sequenceKey ht.typeIs (by decide) ?_)
 refine wpAny_bind (wpAny_callSpecial?_slot (name:=Str.ofString "__getitem__") ht.typeIs PyProof.Rows.slot_tuple_getitem
  (wpAny_call_entry PyProof.Rows.slot_tuple_getitem ht.typeIs entry_tuple_getitem ?_ (args_tuple_getitem _ _)))
 show wpAny _ _ (Builtin.Tuple.tupleItemsOf (.ref t) >>= _) _ _ s;refine wpAny_bind (tupleItemsOf_ ht ?_);refine wpAny_bind (wpAny_typeOf hTs ?_);rw[if_pos (by decide)];refine wpAny_bind (x0r hs pl pu ?_)
 have hno:¬((((sIx items.size 0 lo:Nat):Int)==0&&(1:Int)==1&&(sIx items.size items.size hi-sIx items.size 0 lo)==items.size)=true):=by
  intro q;rw[w0j,w0j]at q;have q1:((sIx items.size 0 lo:Nat):Int)=0:=eq_of_beq q.1.1;have q2:sIx items.size items.size hi-sIx items.size 0 lo=items.size:=eq_of_beq q.2;exact hw ⟨by omega,by omega⟩
 show wpAny _ _ (if(((sIx items.size 0 lo:Nat):Int)==0&&(1:Int)==1&&(sIx items.size items.size hi-sIx items.size 0 lo)==items.size)=true then _ else _) _ _ s;rw[if_neg hno,y3r]
 first
  |exact wpAny_bind (m:=Builtin.Tuple.tupleExact _) (wpAny_newObj_type (wpAny_pure ⟨_,rfl,wpAny_pure h⟩) htake)
  |exact wpAny_bind (m:=Builtin.Tuple.tupleExact _) (wpAny_newObj_type (wpAny_bind (wpAny_pure (wpAny_pure ⟨_,rfl,wpAny_pure h⟩))) htake)
  |exact wpAny_bind (wpAny_bind (m:=Builtin.Tuple.tupleExact _) (wpAny_newObj_type (wpAny_pure (wpAny_pure ⟨_,rfl,wpAny_pure h⟩)) htake))
  |exact wpAny_bind (wpAny_bind (m:=Builtin.Tuple.tupleExact _) (wpAny_newObj_type (wpAny_pure ⟨_,rfl,wpAny_pure h⟩) htake))
end
end HT
namespace L2
open PySem PySem.Spec PyProof.Rows
variable{A:Around}{X:Cx}{xs:List V}{us:List Value}{n:Nat}{s:Shared}{α:Type}{x:V}{v:Value}
abbrev TO:=St->Hp->(Option Int->Hp->Prop)->Prop
def PO(X:Cx)(e:Option Expr)(t:TO):Prop:=
 ∀(pins:List (Addr×Obj))(s:Shared)(σ:St)(H:Hp)(Q:Option Int->Hp->Prop),Inv X pins σ H s->t σ H Q ->
  wpAny (model X.prog X.w) X.A (evalPart e X.env) (fun u s'=>∃o H',Inv X pins σ H' s'/\IsPart u o/\Q o H') X.xe s
def tNoPart:TO:=fun _ H Q=>Q none H
def tPart(t:TE):TO:=fun σ H Q=>t σ H fun x H1=>∃i,x=.int i/\Q (some i) H1
section
variable{e:Expr}{te:TE}{lo hi:Option Expr}{tl th:TO}{pos p2:Pos}
theorem y6l:PO X none tNoPart:=by
 intro pins s σ H Q I h;rw[evalPart_none];exact wpAny_pure ⟨none,H,I,.none,h⟩
theorem y6m(h:PE X e te):PO X (some e) (tPart te):=by
 intro pins s σ H Q I hw;rw[evalPart_some];refine thn (h pins s σ H _ I hw) fun u s1 ⟨x,H1,I1,r1,q1⟩=>?_
 obtain⟨i,rfl,q⟩:=q1;obtain⟨t,rfl⟩:=r1;exact⟨some i,H1,I1,.int i t,q⟩
def SlR(X:Cx)(r:V->Option Int->Option Int->Hp->VK->Prop):Prop:=
 ∀(pins:List (Addr×Obj))(s:Shared)(σ:St)(H:Hp)(x:V)(v vl vu:Value)(lo hi:Option Int)(sl:Addr)(Q:VK),Inv X pins σ H s->RelV x v->s.heap.IsSliceOf sl vl vu .none->IsPart vl lo->IsPart vu hi->r x lo hi H Q ->
  ∃T id,typeLookup (.type T) "__getitem__"=pure (some (.builtin id))/\s.TypeIs v T/\wpAny (model X.prog X.w) X.A (getItem v (.ref sl)) (EP X pins σ Q) X.xe s
theorem SlR.or{r r':V->Option Int->Option Int->Hp->VK->Prop}(h:SlR X r)(h':SlR X r'):SlR X (fun x lo hi H Q=>r x lo hi H Q\/r' x lo hi H Q):=by
 intro pins s σ H x v vl vu lo hi sl Q I rx hs pl pu q;rcases q with q|q
 ·exact h pins s σ H x v vl vu lo hi sl Q I rx hs pl pu q
 ·exact h' pins s σ H x v vl vu lo hi sl Q I rx hs pl pu q
def tSl(r:V->Option Int->Option Int->Hp->VK->Prop)(te:TE)(tl th:TO):TE:=fun σ H Q=>te σ H fun x H1=>tl σ H1 fun l H2=>th σ H2 fun u H3=>r x l u H3 Q
theorem y3s{r:V->Option Int->Option Int->Hp->VK->Prop}(hr:SlR X r)(he:PE X e te)(hl:PO X lo tl)(hu:PO X hi th):PE X (.Subscript e (.Slice lo hi none p2) pos) (tSl r te tl th):=by
 intro pins s σ H Q I h;refine Subscript_ (thn (he pins s σ H _ I h) fun v s1 ⟨x,H1,I1,r1,q1⟩=>?_)
 refine wpAny_Slice (thn (hl pins s1 σ H1 _ I1 q1) fun vl s2 ⟨l,H2,I2,pl,q2⟩=>thn (hu pins s2 σ H2 _ I2 q2) fun vu s3 ⟨u,H3,I3,pu,q3⟩=>?_)
 rw[evalPart_none];refine wpAny_pure ?_;have I4:Inv X pins σ H3 {s3 with heap:=s3.heap.push {cls:=.type "slice", data:=.fields #[vl,vu,.none]}}:=I3.kept (t':=s3.toks) fun b ob q=>Heap.get?_push_of_some _ q
 obtain⟨T,id,hT,ht,hg⟩:=hr pins {s3 with heap:=s3.heap.push {cls:=.type "slice", data:=.fields #[vl,vu,.none]}} σ H3 x v vl vu l u s3.heap.objs.size Q I4 r1 (Heap.IsSliceOf.new ..) pl pu q3;show wpAny (model X.prog X.w) X.A (subscriptTail e (.Slice lo hi none p2) v (.ref s3.heap.objs.size)) (EP X pins σ Q) X.xe {s3 with heap:=s3.heap.push {cls:=.type "slice", data:=.fields #[vl,vu,.none]}};exact tail_any (ops:=[.ref s3.heap.objs.size,v]) ht hT hg (by with_unfolding_all rfl)
noncomputable def cutV(xs:List V)(lo hi:Option Int):List V:=(xs.drop (HT.sIx xs.length 0 lo)).take (HT.sIx xs.length xs.length hi-HT.sIx xs.length 0 lo)
theorem q91(xs:List V)(lo hi:Option Int):(cutV xs lo hi).length<=xs.length:=by
 unfold cutV;rw[w2j,w2k];exact w0l (w4e _ _) (Nat.sub_le _ _)
def rSlT(K:PySem.W.Frag):V->Option Int->Option Int->Hp->VK->Prop:=fun x lo hi H Q=>∃a xs,x=.ref a/\SqT K H a xs /\
 ¬(HT.sIx xs.length 0 lo=0/\HT.sIx xs.length xs.length hi=xs.length)/\∀p,H p=none->Q (.ref p) (upd H p (.tup (cutV xs lo hi)))
theorem z0b:SlR X (rSlT X.K):=by
 intro pins s σ H x v vl vu lo hi sl Q I rx hs pl pu h;obtain⟨a,xs,rfl,hx,hw,q⟩:=h;cases rx;obtain⟨its,r,ht,hz⟩:=I.tuple hx;have hlen:its.toArray.size=xs.length:=by rw[w0c];exact r.length.symm
 refine⟨"tuple", _,PyProof.Rows.slot_tuple_getitem.lookup,ht.typeIs,?_⟩;refine HT.getItem_tuple_cut ht hs pl pu (by rw[hlen];exact hw) ?_ (by rw[hlen];exact hz);rw[hlen];refine⟨.ref s.heap.objs.size,_,I.laid (t':=s.toks) (o:=.tup (cutV xs lo hi)) (fun b ob q=>Heap.get?_push_of_some _ q) (w0f _) ?_,rfl,q _ (I.hok.fresh (w0f _))⟩
 exact⟨w0l (q91 xs lo hi) hz,_,(r.drop (HT.sIx xs.length 0 lo)).take (HT.sIx xs.length xs.length hi-HT.sIx xs.length 0 lo),IsTup.new _ _,_,Heap.get?_push_size _ rfl,rfl⟩
def rCatT(K:PySem.W.Frag):R2:=fun x y H Q=>∃a b xs ys,x=.ref a/\y=.ref b/\SqT K H a xs/\SqT K H b ys/\xs≠[]/\xs.length+ys.length<=sizeLine /\
 (ys=[]->Q (.ref a) H)/\(ys≠[]->∀p,H p=none->Q (.ref p) (upd H p (.tup (xs++ys))))
theorem Vals.nil_iff(r:Vals xs us):us=[]↔xs=[]:=by
 cases r with
 |nil=>simp
 |cons _ _=>simp
theorem op_catT:OpR X (binaryOp .Add) (rCatT X.K):=by
 intro pins s σ H x y v u Q I rx ry h;obtain⟨a,b,xs,ys,rfl,rfl,ha,hb,hx,hz,q1,q2⟩:=h;cases rx;cases ry;obtain⟨its,r1,p1,_⟩:=I.tuple ha;obtain⟨its2,r2,p2,_⟩:=I.tuple hb;refine HT.cat_tup p1 p2 (fun z=>hx (r1.nil_iff.mp z)) (fun z=>⟨.ref a,H,I,rfl,q1 (r2.nil_iff.mp z)⟩) (fun z=>?_) (by rw[<- r1.length,<- r2.length];exact hz)
 refine⟨.ref s.heap.objs.size,_,I.laid (t':=s.toks) (o:=.tup (xs++ys)) (fun b ob q=>Heap.get?_push_of_some _ q) (w0f _) ?_,rfl,q2 (fun w=>z (r2.nil_iff.mpr w)) _ (I.hok.fresh (w0f _))⟩
 exact⟨by rw[w0q];exact hz,_,r1.append r2,IsTup.new _ _,_,Heap.get?_push_size _ rfl,rfl⟩
end
noncomputable def ixN(n:Nat)(i:Int):Option Nat:=if 0<=i then(if i<n then some i.toNat else none)else if -(n:Int)<=i then some (i+n).toNat else none
noncomputable def atI(xs:List α)(i:Int):Option α:=(ixN xs.length i).bind fun j=>xs[j]?
theorem y6n{i:Int}{j:Nat}(h:ixN n i=some j):seqIndex? i n=some j/\j<n/\-(n:Int)<=i/\i<n:=by
 unfold ixN at h
 by_cases h0:0<=i
 ·rw[if_pos h0]at h
  by_cases h1:i<n
  ·rw[if_pos h1]at h;have e:i.toNat=j:=Option.some.inj h;exact⟨by rw[seqIndex_of h0 h1,e],by omega,by omega,h1⟩
  ·rw[if_neg h1]at h;cases h
 ·rw[if_neg h0]at h
  by_cases h1:-(n:Int)<=i
  ·rw[if_pos h1]at h;have e:(i+n).toNat=j:=Option.some.inj h;exact⟨by rw[seqIndex_neg (by omega) h1,e],by omega,h1,by omega⟩
  ·rw[if_neg h1]at h;cases h
theorem x2q{xs:List α}{i:Int}{v:α}(h:atI xs i=some v):∃j,seqIndex? i xs.length=some j/\xs[j]?=some v/\j<xs.length/\-(xs.length:Int)<=i/\i<xs.length:=by
 unfold atI at h;cases e:ixN xs.length i with
 |none=>rw[e]at h;cases h
 |some j=>
  rw[e]at h;obtain⟨h1,h2,h3,h4⟩:=y6n e;exact⟨j,h1,h,h2,h3,h4⟩
theorem q7i{xs:List α}{j:Nat}{v:α}(h:xs[j]?=some v):atI xs (j:Int)=some v:=by
 have hj:j<xs.length:=(w0d.mp h).1
 have e:ixN xs.length (j:Int)=some j:=by
  unfold ixN;rw[if_pos (by omega),if_pos (by omega)];simp
 unfold atI;rw[e];exact h
def PlainIx(b:Expr):Prop:=∀o i,subscripted b false o i=operate [o,i] (getItem o i)
def IxR(X:Cx)(r:R2):Prop:=
 ∀(value slice:Expr)(pins:List (Addr×Obj))(s:Shared)(σ:St)(H:Hp)(x y:V)(v u:Value)(Q:VK),Inv X pins σ H s->RelV x v->RelV y u->r x y H Q ->
  subscripted slice false v u=operate [v,u] (getItem v u)->wpAny (model X.prog X.w) X.A (subscriptTail value slice v u) (EP X pins σ Q) X.xe s
def MtR(X:Cx)(id:String)(r:V->List V->Hp->VK->Prop):Prop:=
 ∀(pins:List (Addr×Obj))(s:Shared)(σ:St)(H:Hp)(x:V)(xs:List V)(v:Value)(us:List Value)(Q:VK),Inv X pins σ H s->RelV x v->Vals xs us->r x xs H Q ->
  wpAny (model X.prog X.w) X.A (call (.builtin id) (v::us)) (EP X pins σ Q) X.xe s
section
variable{a b:Expr}{ta tb:TE}{pos:Pos}
theorem IxR.or{r r':R2}(h:IxR X r)(h':IxR X r'):IxR X (fun x y H Q=>r x y H Q\/r' x y H Q):=by
 intro value slice pins s σ H x y v u Q I rx ry q hs;rcases q with q|q
 ·exact h value slice pins s σ H x y v u Q I rx ry q hs
 ·exact h' value slice pins s σ H x y v u Q I rx ry q hs
theorem y54{r:R2}(hr:IxR X r)(ha:PE X a ta)(hb:PE X b tb)(hs:PlainIx b):PE X (.Subscript a b pos) (tOp r ta tb):=by
 intro pins s σ H Q I h;exact Subscript_ (binT ha hb I h fun v u s2 x y H2 I2 rx ry q=>hr a b pins s2 σ H2 x y v u Q I2 rx ry q (hs _ _))
def rIxL(K:PySem.W.Frag):R2:=fun x y H Q=>∃p xs i v,x=.ref p/\y=.int i/\SqL K H p xs/\atI xs i=some v/\Q v H
def rIxT(K:PySem.W.Frag):R2:=fun x y H Q=>∃p xs i v,x=.ref p/\y=.int i/\SqT K H p xs/\atI xs i=some v/\Q v H
def rIxS:R2:=fun x y H Q=>∃z i c,x=.str z/\y=.int i/\z.length<=sizeLine/\atI z.cps.toList i=some c/\Q (.str ⟨#[c]⟩) H
theorem ix_list:IxR X (rIxL X.K):=by
 intro value slice pins s σ H x y v u Q I rx ry h hs;obtain⟨p,xs,i,z,rfl,rfl,hq,he,q⟩:=h;cases rx;obtain⟨t,rfl⟩:=ry;obtain⟨its,r,pl,hz⟩:=I.list hq;obtain⟨j,h1,h2,h3,h4,h5⟩:=x2q he;obtain⟨w,ew,rw'⟩:=r.get h2;have hl:=r.length;have hn:=line63;have fin:EP X pins σ Q w s:=⟨z,H,I,rw',q⟩
 by_cases h0:0<=i
 ·have hj:i.toNat=j:=by
   rw[seqIndex_of h0 h5]at h1;exact Option.some.inj h1
  exact item_listR pl.isList h0 (by omega) (by rw[hj];simpa using ew) fin hs
 ·have hj:(i+(its.toArray.size:Int)).toNat=j:=by
   rw[seqIndex_neg (by omega) h4]at h1;rw[w0c,<- hl];exact Option.some.inj h1
  exact subscriptTail_builtinR (x:=w) pl.isList.typeIs slot_list_getitem.lookup
   (wpAny_getItem_list_neg (Q:=fun r s'=>r=w/\EP X pins σ Q r s') pl.isList (by omega) (by rw[w0c]<;>omega) (by omega) (by rw[hj];simpa using ew) ⟨rfl,fin⟩) hs
theorem ix_tup:IxR X (rIxT X.K):=by
 intro value slice pins s σ H x y v u Q I rx ry h hs;obtain⟨p,xs,i,z,rfl,rfl,hq,he,q⟩:=h;cases rx;obtain⟨t,rfl⟩:=ry;obtain⟨its,r,pl,hz⟩:=I.tuple hq;obtain⟨j,h1,h2,h3,h4,h5⟩:=x2q he;obtain⟨w,ew,rw'⟩:=r.get h2;have hl:=r.length;have hn:=line63;have fin:EP X pins σ Q w s:=⟨z,H,I,rw',q⟩
 exact subscriptTail_builtinR (x:=w) pl.typeIs slot_tuple_getitem.lookup
  (getItem_tuple (j:=j) (Q:=fun r s'=>r=w/\EP X pins σ Q r s') pl (by omega) (by omega) (by rw[w0c,<- hl];exact h1) (by simpa using ew) ⟨rfl,fin⟩) hs
theorem z0c:IxR X rIxS:=by
 intro value slice pins s σ H x y v u Q I rx ry h hs;obtain⟨z,i,c,rfl,rfl,hz,he,q⟩:=h;obtain⟨t,rfl⟩:=rx;obtain⟨t',rfl⟩:=ry;obtain⟨j,h1,h2,h3,h4,h5⟩:=x2q he;have hl:z.cps.toList.length=z.length:=by simp[Str.length]
 rw[hl]at h1 h4 h5;have hn:=line63
 exact tail_any (typeIs_str s z t) slot_str_getitem.lookup (getItem_str (c:=c) (by
  have e1:decide (i < -(2^63:Int))=false:=decide_eq_false (by omega);have e2:decide (i>=2^63)=false:=decide_eq_false (by omega);rw[e1,e2,w5g]) (by rw[h1];simpa using h2) ⟨.str ⟨#[c]⟩,H,I.tok _,⟨_,rfl⟩,q⟩) hs
def rIx(K:PySem.W.Frag):R2:=fun x y H Q=>rIxL K x y H Q\/rIxT K x y H Q\/rIxS x y H Q
theorem z0d:IxR X (rIx X.K):=ix_list.or (ix_tup.or z0c)
theorem x5o(lo hi:Option Int)(n:Nat):(sliceBounds lo hi none n).1=((HT.sIx n 0 lo:Nat):Int)/\(sliceBounds lo hi none n).2.1=((HT.sIx n n hi:Nat):Int)/\(sliceBounds lo hi none n).2.2=1:=by
 refine⟨?_,?_,rfl⟩
 ·cases lo with
  |none=>simp[sliceBounds,HT.sIx]
  |some i=>
   simp only[sliceBounds,HT.sIx,Option.getD_none,show(1:Int)>0 by decide,if_true]
   by_cases h:i<0
   ·simp only[h,if_true]<;>omega
   ·simp only[h,if_false]<;>omega
 ·cases hi with
  |none=>simp[sliceBounds,HT.sIx]
  |some i=>
   simp only[sliceBounds,HT.sIx,Option.getD_none,show(1:Int)>0 by decide,if_true]
   by_cases h:i<0
   ·simp only[h,if_true]<;>omega
   ·simp only[h,if_false]<;>omega
theorem x4s(its:List Value)(lo hi:Option Int):slicePick its.toArray lo hi none=((its.drop (HT.sIx its.length 0 lo)).take (HT.sIx its.length its.length hi-HT.sIx its.length 0 lo)).toArray:=by
 obtain⟨h1,h2,h3⟩:=x5o lo hi its.toArray.size;unfold slicePick;rw[h1,h2,h3];simp only[sliceRange_one,pick_run,w0c]<;>rfl
def rSlL(K:PySem.W.Frag):V->Option Int->Option Int->Hp->VK->Prop:=fun x lo hi H Q=>∃a xs,x=.ref a/\SqL K H a xs/\∀p,H p=none->Q (.ref p) (upd H p (.lst (cutV xs lo hi)))
theorem sl_list:SlR X (rSlL X.K):=by
 intro pins s σ H x v vl vu lo hi sl Q I rx hs pl pu h;obtain⟨a,xs,rfl,hx,q⟩:=h;cases rx;obtain⟨its,r,ht,hz⟩:=I.list hx;have hlen:=r.length;refine⟨"list", _,slot_list_getitem.lookup,ht.isList.typeIs,?_⟩;refine wpAny_getItem_list_slice ht.isList hs pl pu .none (by simp) ?_ (by rw[w0c]<;>omega);rw[x4s,<- hlen];refine⟨.ref s.heap.objs.size,_,I.laid (t':=s.toks) (o:=.lst (cutV xs lo hi)) (fun b ob q=>Heap.get?_push_of_some _ q) (w0f _) ?_,rfl,q _ (I.hok.fresh (w0f _))⟩
 exact⟨w0l (q91 xs lo hi) hz,_,0,(r.drop (HT.sIx xs.length 0 lo)).take (HT.sIx xs.length xs.length hi-HT.sIx xs.length 0 lo),Heap.get?_push_size _ rfl⟩
noncomputable def flatV:V->Bool
 |.non=>true
 |.bl _=>true
 |.int _=>true
 |.str _=>true
 |_=>false
noncomputable def eqV:V->V->Bool
 |.non,.non=>true
 |.bl a,.bl b=>a==b
 |.bl a,.int b=>(if a then 1 else 0)==b
 |.int a,.bl b=>a==(if b then 1 else 0)
 |.int a,.int b=>a==b
 |.str a,.str b=>a==b
 |_,_=>false
theorem z0e{y:V}{u:Value}(ry:RelV y u)(rx:RelV x v)(fy:flatV y=true)(fx:flatV x=true):SeqAt.EqAt A s u v (eqV y x):=by
 cases y with
 |non=>
  cases ry;cases x with
  |non=>cases rx;exact SeqAt.EqAt.same _
  |bl b=>cases rx;exact SeqAt.EqAt.none_bool b
  |int b=>obtain⟨t,rfl⟩:=rx;exact SeqAt.EqAt.none_int b t
  |str b=>obtain⟨t,rfl⟩:=rx;exact SeqAt.EqAt.none_str b t
  |_=>exact absurd (show false=true from fx) w1e
 |bl a=>
  cases ry;cases x with
  |non=>cases rx;exact SeqAt.EqAt.bool_none a
  |bl b=>cases rx;exact SeqAt.EqAt.bool_bool a b
  |int b=>obtain⟨t,rfl⟩:=rx;exact SeqAt.EqAt.bool_int a b t
  |str b=>obtain⟨t,rfl⟩:=rx;exact SeqAt.EqAt.bool_str a b t
  |_=>exact absurd (show false=true from fx) w1e
 |int a=>
  obtain⟨t',rfl⟩:=ry;cases x with
  |non=>cases rx;exact SeqAt.EqAt.int_none a t'
  |bl b=>cases rx;exact SeqAt.EqAt.int_bool a t' b
  |int b=>obtain⟨t,rfl⟩:=rx;exact SeqAt.EqAt.int_int a t' b t
  |str b=>obtain⟨t,rfl⟩:=rx;exact SeqAt.EqAt.int_str a t' b t
  |_=>exact absurd (show false=true from fx) w1e
 |str a=>
  obtain⟨t',rfl⟩:=ry;cases x with
  |non=>cases rx;exact SeqAt.EqAt.str_none a t'
  |bl b=>cases rx;exact SeqAt.EqAt.str_bool a t' b
  |int b=>obtain⟨t,rfl⟩:=rx;exact SeqAt.EqAt.str_int a t' b t
  |str b=>obtain⟨t,rfl⟩:=rx;exact SeqAt.EqAt.str_str a t' b t
  |_=>exact absurd (show false=true from fx) w1e
 |_=>exact absurd (show false=true from fy) w1e
noncomputable def eqU(x:V)(u:Value):Bool:=match u with
 |.none=>eqV .non x
 |.bool b=>eqV (.bl b) x
 |.int i _=>eqV (.int i) x
 |.str z _=>eqV (.str z) x
 |_=>false
theorem y0x{y:V}{u:Value}(r:RelV y u)(f:flatV y=true):eqU x u=eqV y x:=by
 cases y with
 |non=>cases r;rfl
 |bl b=>cases r;rfl
 |int i=>obtain⟨t,rfl⟩:=r;rfl
 |str z=>obtain⟨t,rfl⟩:=r;rfl
 |_=>exact absurd (show false=true from f) w1e
theorem q7j:∀{xs:List V}{us:List Value},Vals xs us->xs.all flatV=true->us.any (eqU x)=xs.any fun y=>eqV y x
 |_,_,.nil,_=>rfl
 |y::xs,u::us,.cons r t,f=>by
  rw[w1s,w0j]at f;rw[w3c,w3c,y0x r f.1,q7j t f.2]
theorem q6d(rx:RelV x v)(fx:flatV x=true):∀{xs:List V}{us:List Value},Vals xs us->xs.all flatV=true->∀u∈us,SeqAt.EqAt A s u v (eqU x u)
 |_,_,.nil,_=>fun u hu=>by cases hu
 |y::xs,u::us,.cons r t,f=>fun u' hu=>by
  rw[w1s,w0j]at f;rcases w0h.mp hu with rfl|hu
  ·rw[y0x r f.1];exact z0e r rx f.1 fx
  ·exact q6d rx fx t f.2 u' hu
noncomputable def inV(x:V)(xs:List V):Bool:=xs.any fun y=>eqV y x
def rIn(K:PySem.W.Frag)(neg:Bool):R2:=fun x y H Q=>∃p xs,y=.ref p/\(SqL K H p xs\/SqT K H p xs)/\flatV x=true/\xs.all flatV=true/\Q (.bl (if neg then !inV x xs else inV x xs)) H
theorem y0y:OpR X (compareOp .In) (rIn X.K false):=by
 intro pins s σ H x y v u Q I rx ry h;obtain⟨p,xs,rfl,hq,fx,fs,q⟩:=h;cases ry;rcases hq with hq|hq
 ·obtain⟨its,r,pl,hz⟩:=I.list hq;refine SeqAt.in_listAt (eqU x) pl.isList (fun w hw=>q6d rx fx r fs w (by simpa using hw)) ⟨.bl _,H,I,rfl,?_⟩
  rw[show its.toArray.any (eqU x)=its.any (eqU x) by simp,q7j r fs];exact q
 ·obtain⟨its,r,pl,hz⟩:=I.tuple hq;refine SeqAt.in_tupleAt (eqU x) pl (fun w hw=>q6d rx fx r fs w (by simpa using hw)) ⟨.bl _,H,I,rfl,?_⟩
  rw[show its.toArray.any (eqU x)=its.any (eqU x) by simp,q7j r fs];exact q
theorem q8v:OpR X (compareOp .NotIn) (rIn X.K true):=by
 intro pins s σ H x y v u Q I rx ry h;obtain⟨p,xs,rfl,hq,fx,fs,q⟩:=h;cases ry;rcases hq with hq|hq
 ·obtain⟨its,r,pl,hz⟩:=I.list hq;refine SeqAt.notIn_listAt (eqU x) pl.isList (fun w hw=>q6d rx fx r fs w (by simpa using hw)) ⟨.bl _,H,I,rfl,?_⟩
  rw[show its.toArray.any (eqU x)=its.any (eqU x) by simp,q7j r fs];exact q
 ·obtain⟨its,r,pl,hz⟩:=I.tuple hq;refine SeqAt.notIn_tupleAt (eqU x) pl (fun w hw=>q6d rx fx r fs w (by simpa using hw)) ⟨.bl _,H,I,rfl,?_⟩
  rw[show its.toArray.any (eqU x)=its.any (eqU x) by simp,q7j r fs];exact q
theorem x5p:CallR X (.type "list") (fun xs H Q=>∃p ys,xs=[.ref p]/\(SqL X.K H p ys\/SqT X.K H p ys)/\∀l,H l=none->Q (.ref l) (upd H l (.lst ys))):=by
 intro pins s σ H xs us Q I r h;obtain⟨p,ys,rfl,hq,q⟩:=h;obtain⟨u,rfl,rx⟩:=vals1 r;cases rx
 have fin:∀(its:List Value),Vals ys its->ys.length<=sizeLine->∀(h':Heap)(c':Nat),(∀b o',s.heap.get? b=some o'->h'.get? b=some o') ->
   h'.get? s.heap.objs.size=some {cls:=.type "list", dict:=none,data:=.seq its.toArray c',slots:=#[]}->EP X pins σ Q (.ref s.heap.objs.size) {s with heap:=h'}:=fun its r' hz h' c' kp e=>
  ⟨.ref s.heap.objs.size,_,I.laid (t':=s.toks) kp (w0f _) (show ObjOk X.prog X.w _ h' _ (.lst ys)from⟨hz,its,c',r',e⟩),rfl,q _ (I.hok.fresh (w0f _))⟩
 rcases hq with hq|hq
 ·obtain⟨its,r',pl,hz⟩:=I.list hq;have hlen:=r'.length;obtain⟨o,ho,hc,n,hd⟩:=pl.isList;exact call_list_seq p (.inl rfl) ho hc hd (fun h' c' kp e=>fin its r' hz h' c' kp e) (by simp only[w0c]<;>omega)
 ·obtain⟨its,r',pl,hz⟩:=I.tuple hq;have hlen:=r'.length;obtain⟨o,ho,hc,n,hd⟩:=pl;exact call_list_seq p (.inr rfl) ho hc hd (fun h' c' kp e=>fin its r' hz h' c' kp e) (by simp only[w0c]<;>omega)
theorem x4t:CallR X (.type "tuple") (fun xs H Q=>∃p ys,xs=[.ref p]/\((SqL X.K H p ys/\∀l,H l=none->Q (.ref l) (upd H l (.tup ys)))\/(SqT X.K H p ys/\Q (.ref p) H))):=by
 intro pins s σ H xs us Q I r h;obtain⟨p,ys,rfl,h⟩:=h;obtain⟨u,rfl,rx⟩:=vals1 r;cases rx;rcases h with⟨hq,q⟩|⟨hq,q⟩
 ·obtain⟨its,r',pl,hz⟩:=I.list hq;have hlen:=r'.length;refine call_tuple_list pl.isList (fun h' kp=>?_) (by simp only[w0c]<;>omega)
  have I1:Inv X pins σ H {s with heap:=h'}:=I.kept (t':=s.toks) kp
  have I2:Inv X pins σ (upd H h'.objs.size (.tup ys)) {s with heap:=h'.push {cls:=.type "tuple", data:=.seq its.toArray}}:=
   I1.laid (t':=s.toks) (fun b o e=>Heap.get?_push_of_some _ e) (w0f _) (show ObjOk X.prog X.w _ _ _ (.tup ys)from⟨hz,its,r',IsTup.new _ _,_,Heap.get?_push_size _ rfl,rfl⟩)
  exact⟨.ref h'.objs.size,_,I2,rfl,q _ (I1.hok.fresh (w0f _))⟩
 ·obtain⟨its,r',pl,hz⟩:=I.tuple hq;exact call_tuple_same pl ⟨.ref p,H,I,rfl,q⟩
def tyV(K:PySem.W.Frag)(T:String)(x:V)(H:Hp):Prop:=match x with
 |.str _=>T="str"
 |.int _=>T="int"
 |.ref p=>(T="list" /\ ∃xs,SqL K H p xs)\/(T="tuple" /\ ∃o,K.lookup p=some o/\o.cls=.type "tuple" /\ o.dict=none) \/
   (T="dict" /\ ((∃kvs,H p=some (.dK kvs))\/∃sh kvs kas,H p=some (.dT sh kvs kas)))\/(T="set" /\ ∃S n,H p=some (.set S n))
 |_=>False
theorem z0f{pins:List (Addr×Obj)}{σ:St}{H:Hp}{T:String}(I:Inv X pins σ H s)(r:RelV x v)(ty:tyV X.K T x H):
  s.TypeIs v T/\∀a,v=.ref a->∃ob,s.heap.get? a=some ob/\ob.dict=none:=by
 cases x with
 |str z=>
  obtain⟨t,rfl⟩:=r;cases(show T="str" from ty);exact⟨typeIs_str s z t,fun _ e=>nomatch e⟩
 |int i=>
  obtain⟨t,rfl⟩:=r;cases(show T="int" from ty);exact⟨typeIs_int s i t,fun _ e=>nomatch e⟩
 |ref p=>
  cases r;rcases ty with⟨rfl,xs,hq⟩|⟨rfl,o,hk,hc,hd⟩|⟨rfl,hk⟩|⟨rfl,S,n,hk⟩
  ·obtain⟨its,_,pl,_⟩:=I.list hq;refine⟨pl.isList.typeIs,fun a e=>?_⟩
   cases e;obtain⟨o,n,e,c,hd,_⟩:=pl;exact⟨o,e,hd⟩
  ·refine⟨⟨o,I.kIn p o hk,hc⟩,fun a e=>?_⟩
   cases e;exact⟨o,I.kIn _ o hk,hd⟩
  ·have z:∃o,s.heap.get? p=some o/\o.ExactDict:=by
    rcases hk with⟨kvs,hk⟩|⟨sh,kvs,kas,hk⟩
    ·obtain⟨_,_,_,_,o,_,_,e,ex,_⟩:=I.hok p _ hk;exact⟨o,e,ex⟩
    ·obtain⟨_,_,_,_,_,o,_,_,e,ex,_⟩:=I.hok p _ hk;exact⟨o,e,ex⟩
   obtain⟨o,e,ex⟩:=z;refine⟨⟨o,e,ex.1⟩,fun a e2=>?_⟩
   cases e2;exact⟨o,e,ex.2.1⟩
  ·obtain⟨o,_,_,_,e,ex,_⟩:=I.hok p _ hk;refine⟨⟨o,e,ex.1⟩,fun a e2=>?_⟩
   cases e2;exact⟨o,e,ex.2.1⟩
 |_=>exact False.elim ty
def tBM(K:PySem.W.Frag)(T:String)(r:V->List V->Hp->VK->Prop)(to:TE)(t:TA):TE:=fun σ H Q=>to σ H fun x H1=>tyV K T x H1/\t σ H1 fun xs H2=>r x xs H2 Q
variable{o e:Expr}{es:List Expr}{to:TE}{t:TA}{name:Str}{apos cpos:Pos}{T id:String}{r:V->List V->Hp->VK->Prop}
theorem x9r(pa:PlainAttrs T)(slot:Slot T name id)(hty:typeOf (.builtin id)=pure (.type "method_descriptor"))(hm:MtR X id r)(ho:PE X o to)(ha:PA X (e::es) t)
  (hbase:attributeBase o name X.env (eval o X.env)=eval o X.env:=by rfl)
  (hfew:((backTo cpos (starEach (e::es) X.env)).all (fun x=>!x.1)&&(backToKw cpos (keywordEach [] X.env)).all (fun x=>x.1.isSome)
   && decide ((e::es).length+([]:List Keyword).length+(if([]:List Keyword).isEmpty then 0 else 1)<30))=true:=by rfl)
  (hline:(apos.endLine==cpos.line)=true:=by rfl)(hs:starEach (e::es) X.env=(false,eval e X.env)::starEach es X.env:=by rfl)(hplain:(backTo cpos (starEach es X.env)).any (·.1)=false:=by rfl):
  PE X (.Call (.Attribute o name apos) (e::es) [] cpos) (tBM X.K T r to t):=by
 intro pins s σ H Q I h;refine wpAny_Call_method_late hbase hfew hline rfl (thn (ho pins s σ H _ I h) fun v s1 ⟨x,H1,I1,r1,ty,q1⟩=>?_)
 obtain⟨h1,h2⟩:=z0f I1 r1 ty;refine⟨T,id,pa,slot,hty,h1,h2,?_⟩;have hA:=ha cpos pins s1 σ H1 _ I1 q1;rw[hs]at hA |-
 refine Calls.callWith_builtin (by show(false||(backTo cpos (starEach es X.env)).any (·.1))=false;rw[hplain]<;>rfl) (Calls.evalArgs_plain ?_);exact thn hA fun us s2 ⟨vs,H2,I2,r2,q2⟩=>hm pins s2 σ H2 x vs v us Q I2 r1 r2 q2
/- xs.append(e),list.index on a module's tuple .. are MtR facts of 06m -/
end
def MtM(X:Cx)(id:String)(r:V->List V->Hp->VK->Prop):Prop:=
 ∀(pins:List (Addr×Obj))(s:Shared)(σ:St)(H:Hp)(x:V)(xs:List V)(v:Value)(us:List Value)(Q:VK),Inv X pins σ H s->RelV x v->Vals xs us->r x xs H Q ->
  wpAny (model X.prog X.w) X.A (call (.builtin id) (v::us)) (EP X pins σ Q) X.xe s
theorem Vals.one(h:Vals [x] us):∃u,us=[u]/\RelV x u:=vals1 h
theorem Vals.reverse(h:Vals xs us):Vals xs.reverse us.reverse:=by
 induction h with
 |nil=>exact .nil
 |cons r t ih=>rw[w1u,w1u];exact Vals.append ih (.cons r .nil)
section
variable{pins:List (Addr×Obj)}{σ:St}{H:Hp}{l b:Addr}{ys zs:List V}
theorem Inv.lset{its its':List Value}{f:Array Value->Array Value}{t':Nat}(I:Inv X pins σ H s)(hH:H l=some (.lst xs))
  (e:s.heap.get? l=some {cls:=.type "list", data:=.seq its.toArray n})(hf:f its.toArray=its'.toArray)(hv:Vals ys its')(hz:ys.length<=sizeLine):
  Inv X pins σ (upd H l (.lst ys)) {s with heap:=s.heap.update l (Obj.mapSeq f),toks:=t'}:=by
 have q:=PySem.IsL.update e f;rw[hf]at q;refine I.write (x:=l) (e:=l) (by rw[hH];exact trivial) (.inl rfl) (fun b' u hb hu=>(Heap.get?_update_other s.heap (Obj.mapSeq f) (Ne.symm hb)).trans hu) ⟨_,q⟩ ?_
 exact⟨hz,its',_,hv,q⟩
theorem Inv.lnew{its:List Value}{t':Nat}(I:Inv X pins σ H s)(hv:Vals ys its)(hz:ys.length<=sizeLine):
  Inv X pins σ (upd H s.heap.objs.size (.lst ys)) {s with heap:=s.heap.push {cls:=.type "list", data:=.seq its.toArray},toks:=t'}:=
 I.laid (fun _ _ q=>Heap.get?_push_of_some _ q) (w0f _) ⟨hz,its,0,hv,Heap.get?_push_size _ rfl⟩
theorem Inv.fresh(I:Inv X pins σ H s):H s.heap.objs.size=none:=I.hok.fresh (w0f _)
theorem Inv.lstM(I:Inv X pins σ H s)(hH:H l=some (.lst xs)):xs.length<=sizeLine/\∃(its:List Value)(n:Nat),Vals xs its/\xs.length=its.length/\s.heap.get? l=some {cls:=.type "list", data:=.seq its.toArray n}:=by
 obtain⟨z,its,n,r,e⟩:=I.hok l _ hH;exact⟨z,its,n,r,r.length,e⟩
theorem notLongL(h:n<=sizeLine):Builtin.List.listTooLong n=false:=by
 unfold Builtin.List.listTooLong;exact decide_eq_false (by omega)
end
def rAppend:V->List V->Hp->VK->Prop:=fun x vs H Q=>∃l xs y,x=.ref l/\vs=[y]/\H l=some (.lst xs)/\xs.length<sizeLine/\Q .non (upd H l (.lst (xs++[y])))
theorem q8w:MtM X "list.append" rAppend:=by
 intro pins s σ H x vs v us Q I rx rv h;obtain⟨l,xs,y,rfl,rfl,hH,hz,q⟩:=h;cases rx;obtain⟨u,rfl,ru⟩:=rv.one;obtain⟨z,its,n,r,hl,e⟩:=I.lstM hH;refine call_meets F.slot_list_append ⟨_,e,rfl⟩ F.entry_list_append (F.args_list_append_2 _ _) (PySem.list_append l its.toArray n u (by rw[w0c];omega)) ⟨e,?_⟩;refine⟨.non,_,I.lset (its':=its++[u]) hH e (by simp) (r.append (.cons ru .nil)) ?_,rfl,q⟩;rw[w0q,w2p];omega
end L2
namespace Att
open PySem PySem.W PySem.Calls PyProof.Rows
theorem x1e{P:Params}{h:Heap}:∀(ns:List Int)(vs:List Value),WellAll P h vs (ns.map WData.int)->IntsAre vs ns:=by
 intro ns
 induction ns with
 |nil=>
  intro vs w;rw[w1t]at w;cases w;exact .nil
 |cons n ns ih=>
  intro vs w;rw[w0n]at w;cases w with
  |cons a b=>
   cases a;exact .cons _ _ (ih _ b)
theorem x3q{l:OpenLaw}{n:Nat}(hn:l.most=some n){P:Params}{h:Heap}{args:List WData}{vals:List Value}
  (hpre:l.row.toRowW.claim.pre args=true)(hwl:WellAll P h vals args):
  ∃a vs ns,vals=[Value.ref a]/\args=[WData.list (ns.map WData.int)]/\h.get? a=some {cls:=.type "list", data:=.seq vs.toArray}/\IntsAre vs ns/\ns.length<=n:=by
 have hsh:WShape.hasAll [] args [.list .int]=true:=(pre_splitW hpre).1;have hc:l.pre.holds [] {args:=args}=true:=(pre_splitW hpre).2;obtain⟨d,r,rfl,h1,h2⟩:=hasAllW_cons hsh;obtain rfl:=hasAllW_nil h2;obtain⟨xs,rfl,h3⟩:=hasW_list h1;obtain⟨ns,rfl⟩:=items_int h3
 have hlen:ns.length<=n:=by
  unfold OpenLaw.pre at hc
  have h4:(WTm.not (.lt (.lit (.int (n:Int))) (.len (.arg 0)))).holds [] {args:=[.list (ns.map .int)]}=true:=by
   have h4:=(holds_andW hc).1;rw[hn]at h4;exact h4
  have h5:=condW_of h4 (w_not (w_lt w_lit (w_len_list (w_arg rfl))));rw[w0a]at h5;refine Nat.le_of_not_lt fun q=>?_
  have q':(n:Int)<((ns.length:Nat):Int):=by omega
  first
   |(rw[decide_eq_true q']at h5;exact absurd h5 (by decide))
   |(simp at h5;omega)
 cases hwl with
 |cons w1 w2=>
  cases w2;cases w1 with
  |list ho hall=>exact⟨_,_,ns,rfl,rfl,ho,x1e ns _ hall,hlen⟩
theorem x3r(l:OpenLaw)(args:List WData):l.row.toRowW.claim.post args (.bool true) args=true:=
 postW_of (r:=l.row.toRowW) (X:=(true==true))
  (show WShape.has [] (.bool true) .bool=true by first|rfl|decide|simp[WShape.has,WShape.arms,WShape.armsAll])
  (show(WTm.eq .res (.lit (.bool true))).value [] {args:=args,res:=some (.bool true),after:=args}=some (.bool (true==true))from w_eq_bool (w_res rfl) w_lit) rfl
theorem attach_call{l:OpenLaw}{n:Nat}{q:Program}{loose:List Str}{XP:(Str->Option Value)->Heap->Prop}{YP:World->Heap->Prop}{d:DefRec}
  (hn:l.most=some n)(hdf:d.params.defaults=[])
  (call:∀(w:World)(s₀ s₁:Shared)(mg mb:Str->Option Value)(fa:Addr)(o:Obj)(pm cd doc:Value)(a:Addr)(vs:List Value)(ns:List Int),
   Ground q loose [] XP w s₀ mg mb s₁.heap->YP w s₁.heap ->
   s₁.heap.get? fa=some o->o.data=.func (docDef d.name d.params d.body d.scope pm cd doc)->s₁.heap.CodeRec cd d.name->mg d.name=some (.ref fa) ->
   s₁.heap.get? a=some {cls:=.type "list", data:=.seq vs.toArray}->IntsAre vs ns->ns.length<=n->s₁.gens=#[] ->
   codeAny (model l.prog w) callerA (.call (.ref fa) ⟨[.ref a],[]⟩) (fun r s'=>r=.ok (.ret (.bool true))/\OldK s₁.heap s'.heap/\s'.os=s₁.os/\AllBare s'.gens) s₁):
  WalkO q loose XP YP l.row.toRowW d [] (fun f vs=>PySem.call f vs):=by
 intro w s₀ s₁ mg mb G Y fa o pm cd doc dV kV ho hd hcd hD hmg hg args vals as hpre hlay hrd hwl hlo;obtain rfl:dV=.none:=Dflts.none hD hdf;obtain rfl:kV=.none:=Dflts.noKw hD;obtain⟨a,vs,ns,rfl,rfl,hobj,hints,hlen⟩:=x3q hn hpre hwl;refine enter_call (codeAny_mono (call w s₀ s₁ mg mb fa o pm cd doc a vs ns G Y ho (fd_plain hd) hcd hmg hobj hints hlen hg) fun r s' hq=>?_)
 obtain⟨rfl,h2,h3,h4⟩:=hq;exact⟨.inl ⟨.bool true,.bool true,[],rfl,fun _=>rfl,.bool true,x3r l _,fun _=>⟨List.Pairwise.nil,fun _ hm=>(nomatch hm)⟩⟩,h2,h3,h4⟩
section
variable{prog:Program}{w:World}{A:Around}{E:Value->Shared->Prop}{s:Shared}{K:Frag}
noncomputable def ledger(h:Heap)(L d:Addr):List (Addr×Obj):=(List.range h.objs.size).filterMap fun a=>if a=L\/a=d then none else(h.get? a).map fun o=>(a,o)
end
end Att
namespace L2
open PySem PySem.Spec PyProof.Rows
theorem q8x:∀{vs:List Value}{ns:List Int},IntsAre vs ns->Vals (ns.map V.int) vs
 |_,_,.nil=>.nil
 |_,_,.cons n t h=>.cons ⟨t,rfl⟩ (q8x h)
def Only(H:Hp):Prop:=∀b,H b=none\/∃o xs,H b=some (.frz o (.lst xs))
theorem y3t{P:Program}{w:World}{K:PySem.W.Frag}{mg mb:Str->Option Value}{CX:CXT}{k:Nat}{fa a:Addr}{fd:FuncData}{x:Str}{sp:Sp}{s₁:Shared}{vs:List Value}{ns:List Int}
  (KX:K.In s₁.heap)(hns:s₁.heap.Ns mainGlobals mg)(hb:s₁.heap.Ns builtinsNs mb)(hbb:∀x:Str,x≠"__name__"->mb x=bootBuiltins x)(hlim:s₁.heap.NoLimit)(hg:s₁.gens=#[])
  (ha:s₁.heap.get? a=some {cls:=.type "list", data:=.seq vs.toArray})(hi:IntsAre vs ns)(hl:ns.length<=sizeLine)(hr:Room k callerA)
  (F:∀base:Heap,K.In base->base.Ns mainGlobals mg->FnOk P w K mg base CX k fa fd [x] sp)(hbind:∀(s:Shared)(u:Value),BindsTo s fd ⟨[u],[]⟩ [(x,u)])
  (hsp:∀H:Hp,Only H->SqL K H a (ns.map V.int)->sp [.ref a] H (fun v _=>v=.bl true) fun _ _ _=>False)
  (hCX:∀H e s',CX [] H s₁ (fun _ _ _=>False) e s'->False)(hNM:noMark K=true):
  codeAny (model P w) callerA (.call (.ref fa) ⟨[.ref a],[]⟩) (fun r s'=>r=.ok (.ret (.bool true))/\OldK s₁.heap s'.heap/\s'.os=s₁.os/\AllBare s'.gens) s₁:=by
 have rv:=q8x hi;have lenV:=hi.length
 have core:∀H:Hp,Only H->SqL K H a (ns.map V.int)->HOk P w H s₁.heap->(∀b,H b≠none->b=a)->(H a≠none->K.lookup a=none) ->
   codeAny (model P w) callerA (.call (.ref fa) ⟨[.ref a],[]⟩) (fun r s'=>r=.ok (.ret (.bool true))/\OldK s₁.heap s'.heap/\s'.os=s₁.os/\AllBare s'.gens) s₁:=by
  intro H hO hS hok hA hK;have base_of:∀{b:Addr}{o:Obj},s₁.heap.get? b=some o->H b=none->(hidT s₁.heap H).get? b=some o:=fun e n=>x5g e n
  have noA:∀{b:Addr}{o:Obj}{es:Array DictEntry}{ep:Nat},s₁.heap.get? b=some o->o.data=.dict es ep->H b=none:=fun {b o es ep} e d=>by
   cases q:H b with
   |none=>rfl
   |some u=>
    have e':b=a:=hA b (by rw[q];simp);subst e';rw[ha]at e;cases e;have d':Data.seq vs.toArray _=Data.dict es ep:=d;cases d'
  have nsK:∀{b:Addr}{m:Str->Option Value},s₁.heap.Ns b m->(hidT s₁.heap H).Ns b m:=fun {b m} ⟨o,es,ep,e,d,r⟩=>⟨o,es,ep,base_of e (noA e d),d,r⟩
  have hKb:K.In (hidT s₁.heap H):=fun b o e=>base_of (KX b o e) (by
   cases q:H b with
   |none=>rfl
   |some u=>
    have e':b=a:=hA b (by rw[q];simp);subst e';rw[hK (by rw[q];simp)]at e;cases e)
  have hM:Mod K mg (hidT s₁.heap H):=⟨hKb,nsK hns,⟨mb,nsK hb,hbb⟩,let ⟨mc,h1,h2⟩:=hlim;⟨mc,nsK h1,h2⟩⟩;have e0:Env0 P w K mg (hidT s₁.heap H) callerA [] s₁ H:=⟨rfl,hM,fun b o e=>x8k e,Nat.le_of_eq (x3k _ _),trivial,fun b hb=>absurd (show b∈([]:List Addr)from hb) (by simp),hok,.of_eq hg,.vac hNM⟩
  refine codeAny_mono ((F _ hKb (nsK hns)).run callerA [] s₁ H ⟨[.ref a],[]⟩ [.ref a] [.ref a] _ _ hr e0 (hbind s₁ (.ref a)) (.cons rfl .nil) (hsp H hO hS)) fun r s' h=>?_
  cases r with
  |error e=>exact(hCX H e s' h).elim
  |ok fl=>
   cases fl with
   |next=>exact False.elim h
   |brk=>exact False.elim h
   |cont=>exact False.elim h
   |ret u=>
    obtain⟨v,H',os,bare,un,hok',r',q⟩:=h;have q':v=.bl true:=q;subst q';obtain rfl:u=Value.bool true:=r';refine⟨rfl,OldK.of_keep fun b o e=>?_,os,bare⟩
    cases q:H b with
    |none=>exact un.keep b o e q (by intro z;exact absurd (show b∈([]:List Addr)from z) (by simp)) (by simp)
    |some u=>
     rcases hO b with z|⟨ob,xs,z⟩
     ·rw[q]at z;cases z
     ·have z2:=un.frzs b ob _ z;obtain⟨e1,_⟩:=hok b _ z;obtain⟨e2,_⟩:=hok' b _ z2;rw[e]at e1;cases e1;exact e2
 cases hk:K.lookup a with
 |some o=>
  have e:=KX a o hk;rw[ha]at e;cases e;refine core (fun _=>none) (fun _=>.inl rfl) (.inr ⟨_,vs.toArray,_,hk,rfl,rfl,rfl,by rw[w0c,lenV];exact hl,by simpa using rv⟩) (fun b u z=>by have z':(none:Option HO)=some u:=z;cases z') (fun b z=>absurd rfl z) fun z=>absurd rfl z
 |none=>
  refine core (fun b=>if b=a then some (.frz {cls:=.type "list", data:=.seq vs.toArray} (.lst (ns.map V.int)))else none) (fun b=>?_) (.inl (.inr ⟨{cls:=.type "list", data:=.seq vs.toArray},if_pos rfl⟩)) (fun b u z=>?_) (fun b z=>?_) fun _=>hk
  ·by_cases hb:b=a
   ·exact .inr ⟨_,_,if_pos hb⟩
   ·exact .inl (if_neg hb)
  ·by_cases hb:b=a
   ·have z':=(if_pos hb).symm.trans z;cases z';subst hb;exact⟨ha,by rw[w0a];exact hl,vs,_,rv,ha⟩
   ·have z':=(if_neg hb).symm.trans z;cases z'
  ·by_cases hb:b=a
   ·exact hb
   ·exact absurd (if_neg hb) z
noncomputable abbrev KOf{K:PySem.W.Frag}{h:Heap}(_:K.In h):PySem.W.Frag:=K
theorem y6o{l:PySem.W.OpenLaw}{n k:Nat}{q:Program}{loose:List Str}{XP:(Str->Option Value)->Heap->Prop}{YP:World->Heap->Prop}{d:DefRec}{K:Params->PySem.W.Frag}{CX:World->CXT}{sp:World->Sp}{x:Str}
  (hn:l.most=some n)(hn2:n<=sizeLine)(hdf:d.params.defaults=[])(hr:Room k callerA)
  (hY:∀(w:World)(h:Heap),YP w h->(K w.params).In h)
  (F:∀(w:World)(mg:Str->Option Value)(fa:Addr)(h:Heap),(K w.params).In h->h.Ns mainGlobals mg->mg d.name=some (.ref fa) ->
   ∃fd:FuncData,(∀(s:Shared)(u:Value),BindsTo s fd ⟨[u],[]⟩ [(x,u)]) /\
    ∀base:Heap,(K w.params).In base->base.Ns mainGlobals mg->FnOk l.prog w (K w.params) mg base (CX w) k fa fd [x] (sp w))
  (hsp:∀(w:World)(H:Hp)(a:Addr)(ns:List Int),ns.length<=n->Only H->SqL (K w.params) H a (ns.map V.int)->sp w [.ref a] H (fun v _=>v=.bl true) fun _ _ _=>False)
  (hCX:∀(w:World)(H:Hp)(s:Shared)(e:Value)(s':Shared),CX w [] H s (fun _ _ _=>False) e s'->False)(hNM:∀w:World,noMark (K w.params)=true):
  PySem.W.WalkO q loose XP YP l.row.toRowW d [] (fun f vs=>PySem.call f vs):=by
 refine Att.attach_call hn hdf fun w s₀ s₁ mg mb fa o pm cd doc a vs ns G Y ho hd hcd hmg hobj hints hlen hg=>?_
 have KX:=hY w _ Y;obtain⟨fd,hb,hF⟩:=F w mg fa _ KX G.T.g hmg;exact y3t KX G.T.g G.T.b G.T.builtins G.T.nolimit hg hobj hints (w0l hlen hn2) hr hF hb (fun H hO hS=>hsp w H a ns hlen hO hS) (fun H e s'=>hCX w H s₁ e s') (hNM w)
end L2
/- THE LAST THEOREM (shape; LID, My.* are yours):
   My.Adr: a structure of the addresses that your layer names (classes, functions); My.Txt K t: a structure (Prop) of the equations over K;
   My.txt_mk : {K} {implicit addresses ..} (e1 : nsIn K mainGlobals "law" = some (some (.ref f))) (e2 : K.lookup f = some ⟨oc, od, .func (fnOf "law" "law" params body scope dV kV doc pm an cdv ct), sl⟩) (e3 : codeIn K cdv "law" = true) .. : ∃ t, My.Txt K t
set_option maxRecDepth 100000 in
set_option maxHeartbeats 0 in
theorem PySem.Challenge.cw_LID_holds : PySem.Challenge.rw_LID.Holds := by
 w_on; o_law; k_head; (case hw => w_witness2)
 k_fill
 refine L2.y6o (l := PySem.Challenge.rw_LID) (n := 63) (k := 40) (x := "script") (CX := fun w => ..) (sp := fun _ => My.sp_law) rfl (by decide) rfl ⟨rfl, by decide, by decide⟩ (fun w h Y => PySem.W.kIn_of Y) ?F ?S ?C
 case F =>
  intro w mg fa h KX G hmg
  have T : ∃ t, My.Txt (L2.KOf KX) t := by
   dsimp only [L2.KOf]                          -- K must stand as «<heap const> w.params» for k_is;refine' My.txt_mk ?e1 ?e2 ?e3 ..
   (case e1 => PySem.W.k_is)                    -- in the order: a name -> its address -> its object -> its parts
   (case e2 => PySem.W.k_is)
   ..
  obtain ⟨t, T⟩ := T;have e0 := hmg.symm.trans (mg_of KX G T.law);cases e0                                       -- fa is the law's own address;exact ⟨_, fun s u => .of_eq rfl, fun base kb nb => My.law_fn T kb nb⟩     -- if «.of_eq rfl» comes too early: refine' ⟨_, ?b, fun base kb nb => My.law_fn T kb nb⟩; exact fun s u => .of_eq rfl
 case S => exact fun w H a ns hl hO hS => ..
 case C => exact ..
(the tactic k_is has no namespace: write k_is) -/
namespace L2
open PySem PySem.Spec PyProof.Rows
variable{a f:Addr}{X:Cx}{env:Env}{e:Expr}{fd:FuncData}{base h:Heap}{H H':Hp}{pins:List (Addr×Obj)}{es ifs:List Expr}{js:List Nat}{N ps:List Str}{k:Nat}{pos:Pos}{P:Program}{K:PySem.W.Frag}{s:Shared}{sp:Sp}{σ:St}{qual x:Str}{mg:Str->Option Value}{t:TA}{te:TE}{v:V}{w:World}
noncomputable def defArgs(s:Stmt):Arguments:=match s with
 |.FunctionDef _ a _ _ _ _ _ _ _ _=>a
 |_=>{posonlyargs:=[],args:=[],vararg:=none,kwonlyargs:=[],kw_defaults:=[],kwarg:=none,defaults:=[]}
noncomputable def defBody(s:Stmt):List Stmt:=match s with
 |.FunctionDef _ _ b _ _ _ _ _ _ _=>b
 |_=>[]
noncomputable def defScope(s:Stmt):Scope:=match s with
 |.FunctionDef _ _ _ _ _ _ sc _ _ _=>sc
 |_=>{kind:=.function,names:=[],isGenerator:=false,isCoroutine:=false}
noncomputable abbrev CX0:CXT:=fun _ _ _ _ _ _=>False
noncomputable abbrev E0:XK:=fun _ _ _=>False
structure Fun(K:PySem.W.Frag)(x qual:Str)(st:Stmt)(f:Addr)(fd:FuncData):Prop where
 ex:∃(oc:Value)(od:Option Addr)(kV doc pm:Value)(an:Option Addr)(cdv ct:Value)(osl:Array (Option Value)),
  fd=PySem.W.fnOf x qual (defArgs st) (defBody st) (defScope st) .none kV doc pm an cdv ct/\K.lookup f=some ⟨oc,od,.func fd,osl⟩/\PySem.W.codeIn K cdv qual=true
 kp:keepIn K (.ref f)=true
theorem Fun.binds{st:Stmt}{ps:List Str}(F:Fun K x qual st f fd)
  (h:∀(kV doc pm:Value)(an:Option Addr)(cdv ct:Value)(us:List Value),us.length=ps.length->bindArgs (PySem.W.fnOf x qual (defArgs st) (defBody st) (defScope st) .none kV doc pm an cdv ct) ⟨us,[]⟩=pure (ps.zip us)):Binds K fd ps []:=by
 obtain⟨oc,od,kV,doc,pm,an,cdv,ct,osl,rfl,lk,hcd⟩:=F.ex;exact .all (h kV doc pm an cdv ct)
theorem q0i{st:Stmt}{oc:Value}{od an:Option Addr}{osl:Array (Option Value)}{kV doc pm cdv ct:Value}(l:K.lookup f=some ⟨oc,od,.func (PySem.W.fnOf x qual (defArgs st) (defBody st) (defScope st) .none kV doc pm an cdv ct),osl⟩)
  (c:PySem.W.codeIn K cdv qual=true)(k:keepIn K (.ref f)=true):Fun K x qual st f (PySem.W.fnOf x qual (defArgs st) (defBody st) (defScope st) .none kV doc pm an cdv ct):=⟨⟨oc,od,kV,doc,pm,an,cdv,ct,osl,rfl,l,c⟩,k⟩
theorem pv(i:Nat)(hN:X.N[i]?=some x:=by rfl)(hv:Vis X.env.scope x:=by first|exact Or.inl rfl|exact Or.inr (Or.inl rfl)|exact Or.inr (Or.inr rfl))(hd:(x==("__debug__":Str))=false:=by decide)
  (hcd:(x==("__classdict__":Str))=false:=by decide):PE X (.Name x pos) (tVar i):=y9s hN hv hd hcd
def Same(H H':Hp):Prop:=∀b o,H b=some o->H' b=some o
theorem Same.refl(H:Hp):Same H H:=fun _ _ h=>h
theorem Same.trans{H1 H2:Hp}(a:Same H H1)(b:Same H1 H2):Same H H2:=fun c o h=>b c o (a c o h)
theorem Same.free(e:Same H H'){l:Addr}(h:H' l=Option.none):H l=Option.none:=by
 cases q:H l with
 |none=>rfl
 |some o=>
  rw[e l o q]at h;cases h
theorem Same.seq{xs:List V}(e:Same H H')(h:SqL K H a xs):SqL K H' a xs:=by
 rcases h with(h|⟨o,h⟩)|h
 ·exact .inl (.inl (e _ _ h))
 ·exact .inl (.inr ⟨o,e _ _ h⟩)
 ·exact .inr h
set_option maxHeartbeats 4000000
theorem ObjOk.get{o:HO}(x:ObjOk P w H h a o):∃ob,h.get? a=some ob:=by
 cases o with
 |lst xs=>obtain⟨_,_,_,_,e⟩:=x;exact⟨_,e⟩
 |tup xs=>obtain⟨_,_,_,p,_⟩:=x;obtain⟨o,e,_⟩:=p;exact⟨o,e⟩
 |dK kvs=>obtain⟨_,_,_,_,o,_,_,e,_⟩:=x;exact⟨_,e⟩
 |dT sh kvs kas=>obtain⟨_,_,_,_,_,o,_,_,e,_⟩:=x;exact⟨_,e⟩
 |set S n=>obtain⟨o,_,_,_,e,_⟩:=x;exact⟨_,e⟩
 |ins C dx fs=>obtain⟨_,_,_,e,_⟩:=x;exact⟨_,e⟩
 |own y=>obtain⟨_,e⟩:=x;exact⟨_,e⟩
 |xd fs=>obtain⟨_,⟨_,_,_,e,_⟩,_⟩:=x;exact⟨_,e⟩
 |rng lo hi=>obtain⟨_,_,_,e⟩:=x;exact⟨_,e⟩
 |frz ob u=>obtain⟨e,_⟩:=x;exact⟨_,e⟩
 |tbl ps=>rcases x with⟨_,_,_,_,e,_⟩|⟨_,_,_,_,_,_,_,_,_,_,_,_,e⟩<;>exact⟨_,e⟩
 |met f y=>exact⟨_,(show h.get? a=some _ from x)⟩
 |ext φ=>obtain⟨_,⟨_,e⟩,_⟩:=x;exact⟨_,e⟩
structure Fly(outer:List Env)(H H':Hp)(h h':Heap)(e:Addr)(cls:Value)(B:Heap):Prop where
 fl:∃a0,Heap.FlyingW B outer e cls a0 h'
 old:∀b o,h.get? b=some o->H b=none->b∉frs outer->B.get? b=some o
 trk:∀b u o,H' b=some u->h'.get? b=some o->B.get? b=some o
 all:∀b o,h.get? b=some o->b∈frs outer\/∃o',B.get? b=some o'
 new:h.get? e=none
noncomputable def CX1(P:Program)(w:World):CXT:=fun outer H s E ev s'=>∃(e:Addr)(cls:Value)(H':Hp)(B:Heap),
 ev=.ref e/\s'.os=s.os/\AllBare s'.gens/\Un (frs outer) [] H H' s.heap s'.heap/\HOk P w H' s'.heap/\Fly outer H H' s.heap s'.heap e cls B/\E cls none H'
def PassX(CX:CXT)(X:Cx)(EE:L2.St->XK):Prop:=∀(pins:List (Addr×Obj))(σ:St)(H:Hp)(s:Shared)(e:Value)(s':Shared),Inv X pins σ H s->CX X.stack H s (EE σ) e s'->X.xe e s'
def RaisX(X:Cx)(EE:L2.St->XK):Prop:=∀(pins:List (Addr×Obj))(σ:St)(H:Hp)(s:Shared)(e:Addr)(cls:Value)(vs:List Value)(h':Heap),Inv X pins σ H s->Heap.MadeExcOf s.heap h' e cls vs->EE σ cls none H->X.xe (.ref e) {s with heap:=h'}
section
variable{CX:CXT}{scope:Scope}{cd:Value}{A:Around}{outer:List Env}{s₀:Shared}{H₀:Hp}{E:XK}
theorem x8n{s':Shared}{e:Addr}{cls:Value}{B h'':Heap}{a0:Value}
  (I:Inv (cxOf CX P w K mg base N qual scope f cd A outer s₀ H₀ E) pins σ H s)(J:Inv (cxOf CX P w K mg base N qual scope f cd A outer s₀ H₀ E) pins σ H' s')
  (old:∀b o,s.heap.get? b=some o->H b=none->b∉frs (envOfC qual scope s₀.heap.objs.size f cd::outer)->B.get? b=some o)
  (trk:∀b u o,H' b=some u->s'.heap.get? b=some o->B.get? b=some o)
  (all:∀b o,s.heap.get? b=some o->b∈frs (envOfC qual scope s₀.heap.objs.size f cd::outer)\/∃o',B.get? b=some o')
  (new:s.heap.get? e=none)
  (fl:Heap.FlyingW B outer e cls a0 h'')(up:s'.heap.UpToSlots h'')(hE:E cls none H'):
  CX1 P w outer H₀ s₀ E (.ref e) {s' with heap:=h''}:=by
 have neL:∀b o,s₀.heap.get? b=some o->b∉frs outer->b∉frs (envOfC qual scope s₀.heap.objs.size f cd::outer):=fun b o q nb hb=>by
  rcases w0h.mp (show b∈s₀.heap.objs.size::frs outer from hb)with z|z
  ·exact absurd (Heap.lt_size q) (by rw[z];exact w1z _)
  ·exact nb z
 have ex0:∀b:Addr,b∉([]:List Addr):=fun b z=>nomatch z
 have slot:∀b o,s₀.heap.get? b=some o->b∈frs outer->∃sl,h''.get? b=some {o with slots:=sl}:=fun b o q hb=>by
  obtain⟨sl,e1⟩:=J.base.slot b o q (J.ok.frf b hb) hb (ex0 b);obtain⟨_,o2,e2,nd⟩:=J.funs.mem hb
  rw[e1]at e2;cases e2;obtain⟨sl',e3⟩:=up b _ e1 nd;exact⟨sl',e3⟩
 refine⟨e,cls,H',B,rfl,J.os,J.bare,⟨fun b o q n hb hx=>?_,fun b o q n hb hx=>slot b o q hb,fun b o q n hx=>J.base.free b o q n hx,fun b o q hx=>?_,J.base.tups,J.base.frzs,J.base.tbls⟩,fun a o q=>?_,⟨⟨a0,fl⟩,fun b o q n hb=>?_,fun b u o q z=>?_,fun b o q=>?_,?_⟩,hE⟩
 ·exact fl.1 b o (old b o (I.base.keep b o q n hb hx) (I.base.free b o q n hx) (neL b o q hb))
 ·by_cases hb:b∈frs outer
  ·obtain⟨sl,z⟩:=slot b o q hb;exact⟨_,z⟩
  ·obtain⟨o1,e1⟩:=I.base.there b o q hx;rcases all b o1 e1 with z|⟨o',z⟩
   ·exact absurd z (neL b o q hb)
   ·exact⟨o',fl.1 b o' z⟩
 ·refine(J.hok a o q).stay (fun b u hb z=>?_) (fun _ z=>z) fun _ _ _ z=>z
  rcases hb with rfl|hb
  ·exact fl.1 _ _ (trk b o u q z)
  ·exact fl.1 _ _ (trk b _ u hb z)
 ·exact old b o (I.base.keep b o q n hb (ex0 b)) (I.base.free b o q n (ex0 b)) (neL b o q hb)
 ·obtain⟨o1,e1⟩:=(J.hok b u q).get;have e2:=trk b u o1 q e1;have e3:=fl.1 b o1 e2;rw[e3]at z;cases z;exact e2
 ·obtain⟨o1,e1⟩:=I.base.there b o q (ex0 b);rcases all b o1 e1 with z|z
  ·by_cases hb:b∈frs outer
   ·exact .inl hb
   ·exact absurd z (neL b o q hb)
  ·exact .inr z
 ·cases q:s₀.heap.get? e with
  |none=>rfl
  |some o=>
   obtain⟨o1,e1⟩:=I.base.there e o q (ex0 e);rw[new]at e1;cases e1
theorem pass1:PassX (CX1 P w) (cxOf (CX1 P w) P w K mg base N qual scope f cd A outer s₀ H₀ E) (fun _=>E):=by
 intro pins σ H s ev s' I hx;obtain⟨e,cls,H',B,rfl,hos,hg,un,hok,fly,hE⟩:=hx;have J:=I.call' (ch:=[]) hos un hok hg (fun b hb=>nomatch hb)
 obtain⟨a0,fl⟩:=fly.fl;refine wpAny_leaves_onW (base:=B) I.ok.frames rfl fl fun h'' fl2 up=>?_
 exact x8n I J fly.old fly.trk fly.all fly.new fl2 up hE
theorem rais1:RaisX (cxOf (CX1 P w) P w K mg base N qual scope f cd A outer s₀ H₀ E) (fun _=>E):=by
 intro pins σ H s e cls vs h' I hx hE;have J:Inv (cxOf (CX1 P w) P w K mg base N qual scope f cd A outer s₀ H₀ E) pins σ H {s with heap:=h'}:=I.kept (t':=s.toks) hx.keeps;have hin:∀env∈(envOfC qual scope s₀.heap.objs.size f cd::outer),∀b,env.frame=some b->b∈frs (envOfC qual scope s₀.heap.objs.size f cd::outer):=fun env he b hb=>w2n.mpr ⟨env,he,hb⟩
 refine wpAny_leaves_madeW (base:=PySem.W.hideAll s.heap (frs (envOfC qual scope s₀.heap.objs.size f cd::outer))) (h:=s.heap) I.ok.frames rfl (fun b o q=>PySem.W.of_hideAll _ q) (PySem.W.funFrames_hide I.stack hin) hx fun h'' t fl _ _ up=>?_
 refine x8n I J (fun b o q _ nb=>hideAll_get _ q nb) (fun b u o q z=>?_) (fun b o q=>?_) hx.new fl up hE
 ·obtain⟨o1,e1⟩:=(I.hok b u q).get;have e2:=hx.keeps b o1 e1;have z':h'.get? b=some o:=z;rw[e2]at z';cases z';refine hideAll_get _ e1 fun hb=>?_
  rw[I.stkFree b hb]at q;cases q
 ·by_cases hb:b∈frs (envOfC qual scope s₀.heap.objs.size f cd::outer)
  ·exact .inl hb
  ·exact .inr ⟨o,hideAll_get _ q hb⟩
end
theorem passE:PassX (CX1 P w) X (fun _=>E0):=fun _ _ _ _ _ _ _ h=>by
 obtain⟨_,_,_,_,_,_,_,_,_,_,z⟩:=h;exact False.elim z
def tCallX(sp:Sp)(dvs:List V)(EE:L2.St->XK)(t:TA):TE:=fun σ H Q=>t σ H fun vs H1=>sp (vs++dvs) H1 Q (EE σ)
section
variable{CX:CXT}{C:Addr}{dvs:List V}{ds:List Value}{EE:L2.St->XK}{m:Str}{p apos:Pos}{o:Expr}{ta:TE}
theorem y6p{Q:VK}{us:List Value}{vs:List V}(F:FnOk X.prog X.w X.K X.mg X.base CX k f fd ps sp)(hr:Room k X.A)(hb:Binds X.K fd ps ds)(hd:Vals dvs ds)(hx:PassX CX X EE)
  (I:Inv X pins σ H s)(r:Vals vs us)(h:sp (vs++dvs) H Q (EE σ)):wpAny (model X.prog X.w) X.A (call (.ref f) us) (EP X pins σ Q) X.xe s:=by
 have r2:Vals (vs++dvs) (us++ds):=r.append hd;have hl:(us++ds).length=ps.length:=by rw[<- r2.length];exact F.len _ _ _ _ h
 refine wpAny_call (codeAny_mono (F.run X.A X.stack s H ⟨us,[]⟩ (us++ds) (vs++dvs) Q (EE σ) hr I.env0 (hb s us I.kIn hl) r2 h) fun r s' hq=>?_)
 cases r with
 |error e=>exact hx pins σ H s e s' I hq
 |ok fl=>
  cases fl with
  |ret u=>exact I.after hq
  |next=>exact False.elim hq
  |brk=>exact False.elim hq
  |cont=>exact False.elim hq
theorem y3u(F:FnOk X.prog X.w X.K X.mg X.base CX k f fd ps sp)(hr:Room k X.A)(hg:Gl X x)(hm:X.mg x=some (.ref f))(hk:keepIn X.K (.ref f)=true)(hb:Binds X.K fd ps ds)(hd:Vals dvs ds)(hx:PassX CX X EE)
  (ha:PA X (e::es) t)(hdb:(x==("__debug__":Str))=false:=by decide)(he:starEach (e::es) X.env=(false,eval e X.env)::starEach es X.env:=by rfl)(hpl:(backTo pos (starEach es X.env)).any (·.1)=false:=by rfl):
  PE X (.Call (.Name x p) (e::es) [] pos) (tCallX sp dvs EE t):=by
 intro pins s σ H Q I h;refine wpAny_Call_Name_kw (q9o I hg hm ?_ hdb);refine PySem.W.callWith_K (h₀:=X.base) I.ok.mod.kin hk (thn (ha pos pins s σ H _ I h) fun us s1 ⟨vs,H1,I1,r,q⟩=>⟨I1.kIn,?_⟩) he hpl
 exact y6p F hr hb hd hx I1 r q
end
theorem Fun.okX{st:Stmt}(F:Fun K x qual st f fd)(S:FnScope N ps (defScope st))(len:∀vs H Q E,sp vs H Q E->vs.length=ps.length)
  (hbody:∀(cdv:Value)(A:Around)(outer:List Env)(s:Shared)(H:Hp)(vs:List V)(Q:VK)(E:XK),Room k (A.deeper (envOfC qual (defScope st) s.heap.objs.size f cdv))->sp vs H Q E ->
   ∃t,PSs (cxOf (CX1 P w) P w K mg base N qual (defScope st) f cdv A outer s H E) (defBody st) t/\t {nx:=fun _ H'=>Q .non H',rt:=Q} (start N vs) H):FnOk P w K mg base (CX1 P w) (k+1) f fd ps sp:=by
 obtain⟨oc,od,kV,doc,pm,an,cdv,ct,osl,rfl,lk,hcd⟩:=F.ex;exact y53 lk hcd S len fun A outer s H vs Q E hr hsp=>hbody cdv A outer s H vs Q E hr hsp
noncomputable def strKeysIn(K:PySem.W.Frag)(a:Addr):Bool:=match K.lookup a with
 |some ⟨_,_,.dict es _,_⟩=>es.toList.all fun e=>match e.key with|.str _ _=>true|_=>false
 |_=>false
noncomputable def noInitIn(K:PySem.W.Frag)(a:Addr):Bool:=strKeysIn K a&&PySem.W.nsIn K a "__init__"==some none
noncomputable abbrev veMro:List Value:=[.type "ValueError", .type "Exception", .type "BaseException", .type "object"]
noncomputable def excIn(K:PySem.W.Frag)(C A:Addr):Bool:=match K.lookup C,K.lookup A with
 |some ⟨.type "type", _,.cls cd,sl⟩,some ⟨_,_,.cls ca,_⟩=>(match sl.toList with
   |[_,_,_,_,some (.builtin n),_]=>n=="ValueError.__new__"&&cd.mro==(.ref C::.ref A::veMro)&&!cd.hasDel&&noInitIn K cd.ns&&noInitIn K ca.ns
   |_=>false)
 |_,_=>false
theorem x3s(X:K.In h)(q:noInitIn K a=true):∃m,h.Ns a m/\m "__init__"=none:=by
 unfold noInitIn at q;rw[w0j]at q;obtain⟨q1,q2⟩:=q;unfold strKeysIn at q1;split at q1
 ·rename_i c d es n sl hl
  have hs:StrKeys es:=fun e he=>by
   have:=w0t.mp q1 e (by simpa using he);split at this
   ·rename_i k t hk;exact⟨_,_,hk⟩
   ·cases this
  refine⟨nsFind es,⟨_,es,n,X _ _ hl,rfl,hs,fun _=>rfl⟩,?_⟩
  have q2:=beq_iff_eq.mp q2;unfold PySem.W.nsIn at q2;rw[hl]at q2;dsimp only at q2;unfold nsFind findBy;rw[<- Array.find?_toList];split at q2
  ·cases q2
  ·rename_i he;rw[he];rfl
 ·cases q1
theorem q8y{C A:Addr}(X:K.In h)(q:excIn K C A=true):
  ∃nm qn N bs hdct sn sub ab col dd k0 k1 k2 k3 k5 mN,h.get? C=some (excClassObj nm qn C N bs (.ref A::veMro) hdct sn sub ab col dd k0 k1 k2 k3 k5 "ValueError.__new__")/\h.Ns N mN/\mN "__init__"=none/\OwnTail h veMro (.ref A::veMro):=by
 unfold excIn at q;split at q
 ·rename_i dd cd sl ca0 cad ca csl hC hA;split at q
  ·rename_i k0 k1 k2 k3 n k5 hs;simp only[w0j,beq_iff_eq,w3h]at q;obtain⟨⟨⟨⟨rfl,hm⟩,hdel⟩,hn⟩,hna⟩:=q;obtain⟨nm,bs,mro,ns,qn,hd,sn,sub,ab,col,del⟩:=cd;dsimp only at hm hdel hn;subst hm hdel
   have hsl:sl=#[k0,k1,k2,k3,some (.builtin "ValueError.__new__"),k5]:=by
    obtain⟨l⟩:=sl;simp only at hs;rw[hs]
   subst hsl;obtain⟨mN,hN,hi⟩:=x3s X hn;obtain⟨mA,hNA,hiA⟩:=x3s X hna;exact⟨nm,qn,ns,bs,hd,sn,sub,ab,col,dd,k0,k1,k2,k3,k5,mN,X _ _ hC,hN,hi,.own (X _ _ hA) hNA hiA .base⟩
  ·cases q
 ·cases q
def tRaise(C:Addr)(EE:L2.St->XK)(t:TA):TS:=fun _ σ H=>t σ H fun vs H1=>vs.length<=sizeLine/\EE σ (.ref C) none H1
section
variable{C Ac:Addr}{EE:L2.St->XK}{np cpos:Pos}
theorem y3v(hx:RaisX X EE)(hc:X.calm=true)(hg:Gl X x)(hm:X.mg x=some (.ref C))(hC:excIn X.K C Ac=true)(ha:PA X (e::es) t)
  (hdb:(x==("__debug__":Str))=false:=by decide)(he:starEach (e::es) X.env=(false,eval e X.env)::starEach es X.env:=by rfl)(hpl:(backTo cpos (starEach es X.env)).any (·.1)=false:=by rfl):
  PS X (.Raise (some (.Call (.Name x np) (e::es) [] cpos)) none pos) (tRaise C EE t):=by
 intro pins s σ H D I h;obtain⟨nm,qn,N,bs,hdct,sn,sub,ab,col,dd,k0,k1,k2,k3,k5,mN,hC1,hN,hi,T⟩:=q8y I.kIn hC
 have hpl2:(backTo cpos (starEach (e::es) X.env)).any (·.1)=false:=by
  rw[he];show(false||(backTo cpos (starEach es X.env)).any (·.1))=false;rw[hpl];rfl
 refine wpAny_Raise_call_subT (C:=C) (nm:=nm) (q:=qn) (N:=N) (bs:=bs) (bm:=.ref Ac::veMro) (hdct:=hdct) (sn:=sn) (sub:=sub) (ab:=ab) (col:=col) (dd:=dd) (k0:=k0) (k1:=k1) (k2:=k2) (k3:=k3) (k5:=k5)
  PySem.F.excBase_ValueError (mN:=mN) (by rfl) (I.ok.hd hc) hpl2 hi (q9o I hg hm ⟨rfl,?_⟩ hdb)
 have key:=ha cpos pins s σ H _ I h;rw[he]at key |-
 refine Calls.evalArgs_plain (wpAny_mono key (fun us s1 ⟨vs,H1,I1,r,hz,q⟩=>?_) fun _ _ y=>y)
 obtain⟨nm',qn',N',bs',hdct',sn',sub',ab',col',dd',k0',k1',k2',k3',k5',mN',hC1',hN',hi',T'⟩:=q8y I1.kIn hC;have kk:∀b o,X.base.get? b=some o->s1.heap.get? b=some o:=I1.bk
 have hCb:X.base.get? C=s1.heap.get? C:=by
  obtain⟨_,_,_,_,_,_,_,_,_,_,_,_,_,_,_,_,z,_⟩:=q8y I.ok.mod.kin hC;rw[z];exact(kk _ _ z).symm
 have hCs:s.heap.get? C=s1.heap.get? C:=by
  obtain⟨_,_,_,_,_,_,_,_,_,_,_,_,_,_,_,_,z,_⟩:=q8y I.ok.mod.kin hC;rw[I.bk _ _ z];exact(kk _ _ z).symm
 have hC2:s1.heap.get? C=some (excClassObj nm qn C N bs (.ref Ac::veMro) hdct sn sub ab col dd k0 k1 k2 k3 k5 "ValueError.__new__"):=hCs ▸ hC1;rw[hC2]at hC1';cases hC1';have em:mN' "__init__"=none:=hi'
 have hN2:s1.heap.Ns N mN:=by
  obtain⟨o1,es1,ep1,a1,a2,a3,a4⟩:=hN;obtain⟨_,_,N3,_,_,_,_,_,_,_,_,_,_,_,_,m3,z3,n3,_,_⟩:=q8y I.ok.mod.kin hC;have z4:=I.bk _ _ z3;rw[hC1]at z4;cases z4;obtain⟨o5,es5,ep5,b1,b2,b3,b4⟩:=n3;have c1:=I.bk _ _ b1;rw[a1]at c1;cases c1;exact⟨_,es1,ep1,I1.bk _ _ b1,a2,a3,a4⟩
 exact⟨rfl,by rw[<- r.length];exact hz,hC2,hN2,T',fun h' ea hme=>hx pins σ H1 s1 ea (.ref C) us h' I1 hme q⟩
end
noncomputable def excO(e:Addr)(cls:Value):HO:=.ext fun h=>∃o vs,h.get? e=some o/\o.cls=cls/\o.data=.fields vs
noncomputable abbrev Cx.hn(X:Cx)(e:Addr):Cx:={X with A:=X.A.mark (some (.ref e)),calm:=false,xe:=fun _ _=>False}
structure RoomH(k:Nat)(A:Around):Prop where
 dp:A.depth+3*k+5<recursionLimit
 un:A.units+16*k+200<cLine
 gd:A.guards=some []
structure FnOkH(P:Program)(w:World)(K:PySem.W.Frag)(mg:Str->Option Value)(base:Heap)(k:Nat)(f:Addr)(fd:FuncData)(ps:List Str)(sp:Sp):Prop where
 len:∀vs H Q E,sp vs H Q E->vs.length=ps.length
 run:∀(A:Around)(outer:List Env)(s:Shared)(H:Hp)(args:Args)(us:List Value)(vs:List V)(Q:VK),RoomH k A->Env0 P w K mg base A outer s H->BindsTo s fd args (ps.zip us)->Vals vs us->sp vs H Q E0 ->
  codeAny (model P w) A (.call (.ref f) args) (CR CX0 outer P w H s Q E0) s
noncomputable abbrev Cx.cp(X:Cx)(Nc:List Str)(scope:Scope)(cl:List (Str×Addr))(C:Addr)(s₀:Shared)(H₀:Hp)(ex:List Addr):Cx:=
 {X with N:=Nc,s₀:=s₀,H₀:=H₀,env:=compEnvC scope cl C X.env,outer:=X.stack,ex:=ex,fn:=fun _=>false,pn:=[],xe:=fun _ _=>False}
theorem q6e:∀(names:List (Str×NameKind))(acc:List (Str×Addr)),(∀x∈names,x.2=.free->∃c,env.cells.lookup x.1=some c) ->
  ∃cl,(forIn names acc fun(x:Str×NameKind) (r:List (Str×Addr))=>(if(x.2==NameKind.free)=true then(cellOf env x.1 >>= fun a=>pure (ForInStep.yield ((x.1,a)::r)))else pure (ForInStep.yield r):Sem (ForInStep (List (Str×Addr)))))=pure cl /\
   (∀x c,cl.lookup x=some c->acc.lookup x=some c\/env.cells.lookup x=some c)/\(∀x,((x,NameKind.free)∈names\/(acc.lookup x).isSome=true)->(cl.lookup x).isSome=true)
 |[],acc,_=>⟨acc,rfl,fun x c h=>.inl h,fun x h=>h.elim (fun z=>nomatch z) id⟩
 |(n,k)::r,acc,h=>by
  by_cases hk:k=.free
  ·subst hk;obtain⟨c,hc⟩:=h (n,.free) w0k rfl;obtain⟨cl,e1,e2,e3⟩:=q6e r ((n,c)::acc) fun x hx=>h x (w0g _ hx)
   refine⟨cl,?_,fun x d hd=>?_,fun x hx=>?_⟩
   ·rw[w2o];have:cellOf env n=pure c:=by unfold cellOf;rw[hc]
    simp only[beq_self_eq_true,if_true,this,pure_bind];exact e1
   ·rcases e2 x d hd with z|z
    ·rw[w0z]at z
     by_cases hx:(x==n)=true
     ·rw[hx]at z;have:x=n:=by simpa using hx
      subst this;cases z;exact .inr hc
     ·rw[w1i.mpr hx]at z;exact .inl z
    ·exact .inr z
   ·refine e3 x ?_;rcases hx with z|z
    ·rcases w0h.mp z with y|y
     ·cases y;exact .inr (by rw[w0z];simp)
     ·exact .inl y
    ·refine .inr ?_;rw[w0z]
     by_cases hx:(x==n)=true
     ·rw[hx];rfl
     ·rw[w1i.mpr hx];exact z
  ·obtain⟨cl,e1,e2,e3⟩:=q6e r acc fun x hx=>h x (w0g _ hx)
   refine⟨cl,?_,e2,fun x hx=>e3 x ?_⟩
   ·rw[w2o];have:(k==NameKind.free)=false:=by simpa using hk
    simp only[this,w2m,if_false,pure_bind];exact e1
   ·rcases hx with z|z
    ·rcases w0h.mp z with y|y
     ·cases y;exact absurd rfl hk
     ·exact .inl y
    ·exact .inr z
theorem q51{scope:Scope}(h:∀x∈scope.names,x.2=.free->∃c,env.cells.lookup x.1=some c):
  ∃cl,closureFor scope env=pure cl/\(∀x c,cl.lookup x=some c->env.cells.lookup x=some c)/\∀x,(x,NameKind.free)∈scope.names->∃c,cl.lookup x=some c:=by
 obtain⟨cl,e1,e2,e3⟩:=q6e scope.names [] h;refine⟨cl,?_,fun x c hc=>(e2 x c hc).resolve_left (fun z=>nomatch z),fun x hx=>w3z.mp (e3 x (.inl hx))⟩
 unfold closureFor
 first
  |exact e1
  |(rw[e1];rfl)
  |(simp only[e1];rfl)
theorem q8z{env : Env} : ∀ {names : List (Str × NameKind)} {x : Str}, (∀ y ∈ names, y.2 ≠ .cell) ->
    ((names.map fun (n, k) => if (k == NameKind.free && env.scope.kind == .function && env.kindOf n == some .cell) then (n, NameKind.cell) else (n, k)).lookup x = some .cell \/
     (names.map fun (n, k) => if (k == NameKind.free && env.scope.kind == .function && env.kindOf n == some .cell) then (n, NameKind.cell) else (n, k)).lookup x = some .free) -> (x, NameKind.free) ∈ names
  | [], x, _, h => by rcases h with h | h <;> cases h
  | (n, k) :: r, x, hc, h => by
    have ih := @q8z env r x fun y hy => hc y (w0g _ hy)
    rw [w0n] at h;dsimp only at h
    by_cases hx : (x == n) = true
    . have e : x = n := by simpa using hx
      subst e
      by_cases hk : k = .free
      . subst hk; exact w0k
      . exfalso
        have hb : (k == NameKind.free) = false := by simpa using hk
        simp only [hb, w3w, w2m, if_false, w0z, hx] at h;rcases h with h | h
        . exact hc (x, k) w0k (Option.some.inj h)
        . exact hk (Option.some.inj h)
    . refine w0g _ (ih ?_)
      have hb : (x == n) = false := w1i.mpr hx
      by_cases hq : (k == NameKind.free && env.scope.kind == .function && env.kindOf n == some .cell) = true
      . rw [if_pos hq] at h
        simpa only [w0z, hb] using h
      . rw [if_neg hq] at h
        simpa only [w0z, hb] using h
theorem x3t{prog:Program}{A:Around}{R:Result->Shared->Prop}{elt target iter:Expr}{scope:Scope}{it acc:Value}(I:Nat->Shared->Prop)
  (turn:∀n s,I n s->wpAny (model prog w) A (pyNext it) (fun r s1=>match r with
   |none=>R (.ok .next) s1
   |some v=>wpAny (model prog w) A (letOwnedTupleGo target it v) (fun _ s2=>wpAny (model prog w) A (assign target env v) (fun _ s3=>
     wpAny (model prog w) A (forIn ifs true fun c r=>if r=true then do let ok <- isTrue c env (eval c env);pure (ForInStep.yield ok)else pure (ForInStep.yield r)) (fun ok s4=>
      if ok=true then wpAny (model prog w) A (eval elt env) (fun x s5=>wpAny (model prog w) A (call (.builtin "list.append") [acc,x]) (fun _ s6=>∃m,m<n/\I m s6) (fun _ _=>False) s5) (fun _ _=>False) s4
      else ∃m,m<n/\I m s4) (fun _ _=>False) s3) (fun _ _=>False) s2) (fun _ _=>False) s1) (fun _ _=>False) s)
  (n:Nat)(h:I n s):codeAny (model prog w) A (.compLoop (.ListComp elt [⟨target,iter,ifs,0⟩] scope pos) 0 it acc env) R s:=by
 refine codeAny_loop rfl I (fun n s hI=>?_) n h
 show wpAny _ A ((compTurn (.ListComp elt [⟨target,iter,ifs,0⟩] scope pos) 0 it acc env).onRaise (fun x=>do noteFrame x env;theTreesLotGoes x)) _ _ s
 refine wpAny_noted ?_;rw[compTurn_list];refine wpAny_bind (wpAny_standAt (wpAny_bind (wpAny_mono (turn n s hI) (fun r s1 h1=>?_) fun _ _ z=>z.elim)))
 cases r with
 |none=>exact wpAny_pure h1
 |some v=>
  refine wpAny_bind (wpAny_mono h1 (fun _ s2 h2=>?_) fun _ _ z=>z.elim)
  refine wpAny_bind (wpAny_mono h2 (fun _ s3 h3=>?_) fun _ _ z=>z.elim)
  refine wpAny_bind (wpAny_mono h3 (fun ok s4 h4=>?_) fun _ _ z=>z.elim)
  cases ok with
  |false=>exact wpAny_pure ⟨rfl,h4⟩
  |true=>exact wpAny_bind (wpAny_bind (wpAny_mono h4 (fun x s5 h5=>wpAny_bind (wpAny_mono h5 (fun _ s6 h6=>wpAny_pure (wpAny_pure ⟨rfl,h6⟩)) fun _ _ z=>z.elim)) fun _ _ z=>z.elim))
noncomputable def pj(js:List Nat)(σ:St):St:=js.map fun j=>(σ[j]?).getD none
theorem z0g{i:Nat}(h:(pj js σ)[i]?=some (some v)):∃j,js[i]?=some j/\σ[j]?=some (some v):=by
 unfold pj at h;rw[w0w]at h;cases e:js[i]? with
 |none=>rw[e]at h;cases h
 |some j=>
  rw[e]at h;have h:(σ[j]?).getD none=some v:=Option.some.inj h;refine⟨j,rfl,?_⟩;cases e2:σ[j]? with
  |none=>rw[e2]at h;cases h
  |some z=>rw[e2]at h;rw[show z=some v from h]
def PTs(X:Cx)(ifs:List Expr)(t:TT):Prop:=
 ∀(pins:List (Addr×Obj))(s:Shared)(σ:St)(H:Hp)(Q:Bool->Hp->Prop),Inv X pins σ H s->t σ H Q ->
  wpAny (model X.prog X.w) X.A (forIn ifs true fun c r=>if r=true then do let ok <- isTrue c X.env (eval c X.env);pure (ForInStep.yield ok)else pure (ForInStep.yield r)) (TP X pins σ Q) X.xe s
def tYes:TT:=fun _ H Q=>Q true H
theorem y6q:PTs X [] tYes:=fun pins s σ H Q I h=>wpAny_tests_nil ⟨H,I,h⟩
theorem y6r{c:Expr}{t:TT}(h:PT X c t):PTs X [c] t:=fun pins s σ H Q I hq=>wpAny_tests_one (h pins s σ H Q I hq)
def Kp(σ σ':St):Prop:=∀(i:Nat) v,σ[i]?=some (some v)->σ'[i]?=some (some v)
theorem Kp.one:Kp (List.replicate 1 none++σ) (some v::σ):=fun i u h=>by
 cases i with
 |zero=>cases h
 |succ i=>exact h
theorem Kp.two{u:V}:Kp (List.replicate 2 none++σ) (some v::some u::σ):=fun i w h=>by
 match i,h with
 |0,h=>cases h
 |1,h=>cases h
 |i+2,h=>exact h
def tComp(wi:TI)(nl:Nat)(js:List Nat)(g:TG)(tc:TT)(te:TE):TE:=fun σ H Q=>wi σ H fun J H1=>∀D,H1 D=none->∃W:Nat->Nat->Hp->Prop,(∃m,W 0 m (upd H1 D (.lst [])))/\∀i m H2,W i m H2 ->
 (J.stop i H2/\Q (.ref D) H2)\/(J.go i H2/\∀x H3,J.yld i H2 x H3->g x (List.replicate nl none++pj js σ) H3 fun σ4 H4=>Kp (List.replicate nl none++pj js σ) σ4/\tc σ4 H4 fun b H5=>
  if b=true then te σ4 H5 fun y H6=>∃ys,H6 D=some (.lst ys)/\ys.length<sizeLine/\∃m',m'<m/\W (i+1) m' (upd H6 D (.lst (ys++[y])))else ∃m',m'<m/\W (i+1) m' H5)
section
variable{elt target iter:Expr}{scope:Scope}{wi:TI}{g:TG}{tc:TT}
theorem x5q{Nl Nf:List Str}{fp:List Addr}{cl:List (Str×Addr)}{h1:Heap}{tk:Nat}{mC:Str->Option Value}
  (I:Inv X pins σ H s)(hfp:∀b∈fp,FpOk X pins H b)(hob:∀b∈fp,∃o,s.heap.get? b=some o/\∀v,o.data≠.cell v)
  (hk:scope.kind=.function)(hcell:∀y∈scope.names,y.2≠.cell)(hcl:∀x c,cl.lookup x=some c->X.env.cells.lookup x=some c)(hcf:∀x,(x,NameKind.free)∈scope.names->∃c,cl.lookup x=some c)
  (hj:∀(i j:Nat) y,Nf[i]?=some y->js[i]?=some j->X.N[j]?=some y)(hlen:js.length=Nf.length)
  (hNf:∀y∈Nf,(y,NameKind.free)∈scope.names/\Vis X.env.scope y/\X.env.kindOf y≠some .local)
  (hvis:∀y∈Nf,(relabel scope X.env).names.lookup y=some .cell\/(relabel scope X.env).names.lookup y=some .free)
  (hn:h1.Ns (s.heap.objs.size+1) mC)(hs:Heap.SameBut (s.heap.objs.size+1) ((s.heap.push {cls:=.type "list", dict:=none,data:=.seq ([]:List Value).toArray}).push {cls:=.type "dict", data:=.dict #[]}) h1):
  Inv (X.cp (Nl++Nf) scope cl (s.heap.objs.size+1) {s with heap:=s.heap.push {cls:=.type "list", dict:=none,data:=.seq ([]:List Value).toArray}} (upd H s.heap.objs.size (.lst [])) fp) [] (List.replicate Nl.length none++pj js σ) (upd H s.heap.objs.size (.lst [])) {s with heap:=h1,toks:=tk}:=by
 have fD:H s.heap.objs.size=none:=I.hok.fresh (w0f _);have up1:∀b u,s.heap.get? b=some u->(s.heap.push {cls:=.type "list", dict:=none,data:=.seq ([]:List Value).toArray}).get? b=some u:=fun b u q=>Heap.get?_push_of_some _ q
 have szp:(s.heap.push {cls:=.type "list", dict:=none,data:=.seq ([]:List Value).toArray}).objs.size=s.heap.objs.size+1:=Heap.size_push ..
 have up2:∀b u,(s.heap.push {cls:=.type "list", dict:=none,data:=.seq ([]:List Value).toArray}).get? b=some u->h1.get? b=some u:=fun b u q=>by
  have hlt:=Heap.lt_size q;rw[szp]at hlt;exact(hs.2 b (w0r hlt)).trans (Heap.get?_push_of_some _ q)
 have up:∀b u,s.heap.get? b=some u->h1.get? b=some u:=fun b u q=>up2 b u (up1 b u q)
 have ltOf:∀b o,s.heap.get? b=some o->b≠s.heap.objs.size:=fun b o q=>w0r (Heap.lt_size q)
 have fr0:∀b o,s.heap.get? b=some o->H b=none->upd H s.heap.objs.size (.lst []) b=none:=fun b o q n=>by rw[q0c (ltOf b o q)];exact n
 have hasC:∀x,((relabel scope X.env).names.lookup x=some .cell\/(relabel scope X.env).names.lookup x=some .free)->∃c,cl.lookup x=some c:=fun x hx=>hcf x (q8z hcell hx)
 have hokD:HOk X.prog X.w (upd H s.heap.objs.size (.lst [])) (s.heap.push {cls:=.type "list", dict:=none,data:=.seq ([]:List Value).toArray}):=
  I.hok.laid up1 (w0f _) ⟨w1b _,[],_,.nil,Heap.get?_push_size _ rfl⟩
 have cellK:∀x c,cl.lookup x=some c->∃v,s.heap.IsCell c v:=fun x c e=>I.cell x c (hcl x c e)
 have cellUp:∀c v,s.heap.IsCell c v->h1.IsCell c v:=fun c v ⟨o,q,r⟩=>⟨o,up _ _ q,r⟩
 refine⟨⟨I.ok.mod,hk,I.ok.glob,I.ok.blt,(by show(s.heap.push _).objs.size<=_;rw[szp];exact w0f _),fun x y c e1 e2=>I.ok.inj x y c (hcl x c e1) (hcl y c e2),fun x hx=>hasC x hx,(fun x c z=>nomatch z),I.ok.hd,I.ok.frames,.inl rfl,fun b hb=>⟨?_,fun x c e=>?_⟩,fun b o q=>?_,?_,fun b o q hb=>?_,fun b hb hb2=>?_,?_,fun b hb=>?_,(I.ok.tab.un I.base).laid fD⟩,
  rfl,I.bare,Un.kept up2,⟨mC,hn,fun i y v e1 e2 e3=>?_⟩,fun x c e=>?_,?_,fun x c e=>?_,fun p hp=>(by cases hp),hokD.kept up2,?_⟩
 ·obtain⟨o,q,_⟩:=hob b hb;exact w0r (w2u (Heap.lt_size q))
 ·exact(hfp b hb).2.2.2.2.1 x c (hcl x c e)
 ·obtain⟨q1,q2⟩:=I.bs b o q;exact⟨up1 _ _ q1,fr0 b o q1 q2⟩
 ·show X.base.objs.size<=(s.heap.push _).objs.size;rw[szp];exact Nat.le_succ_of_le (w0l I.ok.bsz I.sz)
 ·rcases(hfp b hb).2.2.2.1 with z|z
  ·exact I.ok.noex b o q z
  ·obtain⟨q1,_⟩:=I.ok.bs b o q;exact absurd (Heap.lt_size q1) (w5j.mpr z)
 ·rcases w0h.mp (I.stkSub b hb2)with z|z
  ·exact(hfp b hb).2.1 z
  ·exact(hfp b hb).2.2.1 z
 ·exact I.stack.of_keeps fun b o q _=>⟨o,up1 _ _ q,rfl⟩
 ·obtain⟨_,o,q,_⟩:=I.stack.mem hb;exact fr0 b o q (I.stkFree b hb)
 ·-- the names
  have e2':(List.replicate Nl.length none++pj js σ)[i]?=some (some v):=e2;have e1':(Nl++Nf)[i]?=some y:=e1
  by_cases hi:i<Nl.length
  ·rw[w1q (by simpa using hi),w3b]at e2';split at e2'<;>cases e2'
  ·have hi':Nl.length<=i:=w5j.mp hi;rw[w1p (by simpa using hi')]at e2';rw[w1p hi']at e1';rw[w3j]at e2';obtain⟨j,ej,eσ⟩:=z0g e2';have hNy:=hj _ _ _ e1' ej;obtain⟨hfr,hv,hnl⟩:=hNf y (w1g e1');obtain⟨m,hm,hl⟩:=I.loc;obtain⟨u,r,l⟩:=hl j y v hNy eσ hv;refine⟨u,r,?_⟩;rcases l with⟨k,_⟩|⟨k,c,ec,z⟩
   ·exact absurd k hnl
   ·obtain⟨c',ec'⟩:=hcf y hfr;have:=hcl y c' ec';rw[ec]at this;cases this;exact .inr ⟨hvis y (w1g e1'),c,ec',cellUp _ _ z⟩
 ·obtain⟨v,z⟩:=cellK x c e;exact⟨v,cellUp _ _ z⟩
 ·show upd H s.heap.objs.size (.lst []) (s.heap.objs.size+1)=none;rw[q0c (w4f _)];exact I.hok.fresh (w3p _)
 ·obtain⟨v,o,q,_⟩:=cellK x c e;exact fr0 c o q (I.freeC x c (hcl x c e))
 ·show(List.replicate Nl.length none++pj js σ).length=(Nl++Nf).length;rw[w0q,w0q,w3j];unfold pj;rw[w0a,hlen]
theorem y0z{σ':St}{s':Shared}{Nc:List Str}{fp:List Addr}{cl:List (Str×Addr)}{h':Heap}
  (I:Inv X pins σ H s)(hfp:∀b∈fp,FpOk X pins H b)
  (J:Inv (X.cp Nc scope cl (s.heap.objs.size+1) {s with heap:=s.heap.push {cls:=.type "list", dict:=none,data:=.seq ([]:List Value).toArray}} (upd H s.heap.objs.size (.lst [])) fp) [] σ' H' s')
  (hs:Heap.SameBut (s.heap.objs.size+1) s'.heap h'):Inv X pins σ H' {s' with heap:=h'}:=by
 have fD:H s.heap.objs.size=none:=I.hok.fresh (w0f _);have up1:∀b u,s.heap.get? b=some u->(s.heap.push {cls:=.type "list", dict:=none,data:=.seq ([]:List Value).toArray}).get? b=some u:=fun b u q=>Heap.get?_push_of_some _ q
 have neC:∀b o,s.heap.get? b=some o->b≠s.heap.objs.size+1:=fun b o q=>w0r (w2u (Heap.lt_size q))
 have fr0:∀b o,s.heap.get? b=some o->H b=none->upd H s.heap.objs.size (.lst []) b=none:=fun b o q n=>by rw[q0c (w0r (Heap.lt_size q))];exact n
 have old:∀b u,H b=some u->upd H s.heap.objs.size (.lst []) b=some u:=fun b u q=>by rw[q0c (q0q q fD)];exact q
 have B:Un (frs X.stack) fp (upd H s.heap.objs.size (.lst [])) H' (s.heap.push {cls:=.type "list", dict:=none,data:=.seq ([]:List Value).toArray}) s'.heap:=J.base;have hC:H' (s.heap.objs.size+1)=none:=J.free;refine I.call' (s':={s' with heap:=h'}) (ch:=fp) (J.os.trans rfl) ⟨fun b o q n hb hx=>?_,fun b o q n hb hx=>?_,fun b o q n hx=>B.free b o (up1 _ _ q) (fr0 b o q n) hx,fun b o q hx=>?_,fun b xs q=>B.tups b xs (old _ _ q),fun b o u q=>B.frzs b o u (old _ _ q),fun b ps q=>B.tbls b ps (old _ _ q)⟩ (fun a o q=>?_) J.bare fun b hb=>?_
 ·exact(hs.2 b (neC b o q)).trans (B.keep b o (up1 _ _ q) (fr0 b o q n) hb hx)
 ·obtain⟨sl,z⟩:=B.slot b o (up1 _ _ q) (fr0 b o q n) hb hx;exact⟨sl,(hs.2 b (neC b o q)).trans z⟩
 ·obtain⟨o',z⟩:=B.there b o (up1 _ _ q) hx;exact⟨o',(hs.2 b (neC b o q)).trans z⟩
 ·refine(J.hok a o q).stay (fun c v hc z=>(hs.2 c ?_).trans z) (fun _ z=>z) fun _ _ _ z=>z
  rintro rfl;rcases hc with rfl|hc
  ·rw[hC]at q;cases q
  ·rw[hC]at hc;cases hc
 ·obtain⟨_,f1,f2,f3,f4,f5⟩:=hfp b hb;exact⟨f3,f1,f4,f5⟩
theorem y6s{Nl Nf:List Str}(hc:X.calm=true)(hi:PI X target iter wi)
  (hk:scope.kind=.function)(hcell:∀y∈scope.names,y.2≠.cell)(hnames:∀x∈scope.names,x.2=.local->scope.names.lookup x.1=some .local)
  (hfree:∀x∈scope.names,x.2=.free->X.env.kindOf x.1=some .cell\/X.env.kindOf x.1=some .free)
  (hj:∀(i j:Nat) y,Nf[i]?=some y->js[i]?=some j->X.N[j]?=some y)(hlen:js.length=Nf.length)
  (hNf:∀y∈Nf,(y,NameKind.free)∈scope.names/\Vis X.env.scope y/\X.env.kindOf y≠some .local)
  (hvis:∀y∈Nf,(relabel scope X.env).names.lookup y=some .cell\/(relabel scope X.env).names.lookup y=some .free)
  (hg:∀cl C s₀ H₀ ex,PG (X.cp (Nl++Nf) scope cl C s₀ H₀ ex) target g)(ht:∀cl C s₀ H₀ ex,PTs (X.cp (Nl++Nf) scope cl C s₀ H₀ ex) ifs tc)(he:∀cl C s₀ H₀ ex,PE (X.cp (Nl++Nf) scope cl C s₀ H₀ ex) elt te)
  (hs:∀x,foldedSetIterable iter X.env x=pure x:=by intro _;rfl):
  PE X (.ListComp elt [⟨target,iter,ifs,0⟩] scope pos) (tComp wi Nl.length js g tc te):=by
 intro pins s σ H Q I h;obtain⟨cl,hclos,hcl,hcf⟩:=q51 (scope:=scope) (env:=X.env) fun x hx hf=>I.ok.has x.1 (hfree x hx hf)
 rw[eval_ListComp];refine wpAny_comprehension_free (use:=none) rfl hs hclos hk hnames (thn (hi pins s σ H _ I h) fun v s1 h1=>thn h1 fun itv s2 h2=>?_)
 obtain⟨it,fp,tn,J,H2,e,I2,T,st2,f2,rd⟩:=h2;subst e;refine wpAny_newObj_type (wpAny_newFunctionEnv hcell (by intro y hy;simp at hy) (fun h₁ hns₁ hsb₁=>?_) hk)
 dsimp only at hns₁ hsb₁ |-
 have szp:(s2.heap.push {cls:=.type "list", dict:=none,data:=.seq ([]:List Value).toArray}).objs.size=s2.heap.objs.size+1:=Heap.size_push ..;rw[szp]at hns₁ hsb₁ |-
 have fD:H2 s2.heap.objs.size=none:=I2.hok.fresh (w0f _);obtain⟨W,⟨m0,w0⟩,turn⟩:=rd s2.heap.objs.size fD;have obj2:=T.obj 0 s2.heap st2;have IS:=x5q (Nl:=Nl) (Nf:=Nf) (js:=js) (cl:=cl) (tk:=s2.toks+([]:List (Str×Value)).length) I2 f2 obj2 hk hcell hcl hcf hj hlen hNf hvis hns₁ hsb₁
 have upS:∀b u,s2.heap.get? b=some u->h₁.get? b=some u:=fun b u q=>by
  have hlt:=Heap.lt_size q;exact(hsb₁.2 b (w0r (w2u hlt))).trans (Heap.get?_push_of_some _ (Heap.get?_push_of_some _ q))
 have stS:tn 0 h₁:=T.keep 0 s2.heap h₁ st2 fun b hb o q=>upS b o q
 have noD:∀b∈fp,upd H2 s2.heap.objs.size (.lst []) b=none:=fun b hb=>by
  obtain⟨o,q,_⟩:=obj2 b hb;rw[q0c (w0r (Heap.lt_size q))];exact(f2 b hb).1
 have stat:∀{H':Hp},(∀b∈fp,H' b=none)->∀b∈fp,FpOk (X.cp (Nl++Nf) scope cl (s2.heap.objs.size+1) {s2 with heap:=s2.heap.push {cls:=.type "list", dict:=none,data:=.seq ([]:List Value).toArray}} (upd H2 s2.heap.objs.size (.lst [])) fp) [] H' b:=fun hn b hb=>by
  refine⟨hn b hb,(IS.ok.exf b hb).1,IS.ok.exfs b hb,.inl hb,(IS.ok.exf b hb).2,fun p hp=>(by cases hp)⟩
 have loop:∀s4:Shared,s4={s2 with heap:=h₁,toks:=s2.toks+([]:List (Str×Value)).length} ->
   codeAny (model X.prog X.w) X.A (.compLoop (.ListComp elt [⟨target,iter,ifs,0⟩] scope pos) 0 (.ref it) (.ref s2.heap.objs.size) (compEnvC scope cl (s2.heap.objs.size+1) X.env))
    (compPost (model X.prog X.w) X.A X.xe none (EP X pins σ Q) (.ref s2.heap.objs.size) (s2.heap.objs.size+1)) s4:=by
  rintro s4 rfl;refine x3t (fun n s'=>∃i H',Inv (X.cp (Nl++Nf) scope cl (s2.heap.objs.size+1) {s2 with heap:=s2.heap.push {cls:=.type "list", dict:=none,data:=.seq ([]:List Value).toArray}} (upd H2 s2.heap.objs.size (.lst [])) fp) [] (List.replicate Nl.length none++pj js σ) H' s'/\tn i s'.heap/\(∀b∈fp,H' b=none)/\W i n H') ?_ m0 ⟨0,_,IS,stS,noD,w0⟩
  rintro n s3 ⟨i,H3,I3,st3,fr3,w3⟩;rcases turn i n H3 w3 with⟨stop,qn⟩|⟨go,step⟩
  ·refine thn (T.done (X.cp (Nl++Nf) scope cl (s2.heap.objs.size+1) {s2 with heap:=s2.heap.push {cls:=.type "list", dict:=none,data:=.seq ([]:List Value).toArray}} (upd H2 s2.heap.objs.size (.lst [])) fp) rfl rfl rfl hc i [] s3 _ H3 _ I3 (stat fr3) st3 stop) fun r s5 ⟨hr,I5⟩=>?_
   subst hr;obtain⟨m5,hn5,_⟩:=I5.loc;refine⟨m5,hn5,fun h' hs'=>⟨.ref s2.heap.objs.size,H3,y0z I2 f2 I5 hs',rfl,qn⟩⟩
  ·refine thn (T.item (X.cp (Nl++Nf) scope cl (s2.heap.objs.size+1) {s2 with heap:=s2.heap.push {cls:=.type "list", dict:=none,data:=.seq ([]:List Value).toArray}} (upd H2 s2.heap.objs.size (.lst [])) fp) rfl rfl rfl hc i [] s3 _ H3 _ I3 (stat fr3) st3 go) fun r s5 ⟨u,hr,h5⟩=>?_
   subst hr;refine thn h5 fun _ s6 ⟨x,H6,I6,r6,y6,st6,fr6⟩=>?_
   have I6':=I6.pinned (stat fr6) (T.obj _ _ st6);refine thn (hg _ _ _ _ _ _ s6 _ H6 x u _ I6' r6 (step x H6 y6)) fun _ s7 ⟨σ7,H7,I7,kp,q7⟩=>?_
   refine thn (ht _ _ _ _ _ _ s7 σ7 H7 _ I7 q7) fun ok s8 ⟨H8,I8,q8⟩=>?_
   have again:∀{σ9:St}{H9:Hp}{s9:Shared},Inv (X.cp (Nl++Nf) scope cl (s2.heap.objs.size+1) {s2 with heap:=s2.heap.push {cls:=.type "list", dict:=none,data:=.seq ([]:List Value).toArray}} (upd H2 s2.heap.objs.size (.lst [])) fp) ([]++pinsAt fp s6.heap) σ9 H9 s9 ->
     Kp (List.replicate Nl.length none++pj js σ) σ9->(∃m',m'<n/\W (i+1) m' H9)->∃m,m<n/\∃i H',Inv (X.cp (Nl++Nf) scope cl (s2.heap.objs.size+1) {s2 with heap:=s2.heap.push {cls:=.type "list", dict:=none,data:=.seq ([]:List Value).toArray}} (upd H2 s2.heap.objs.size (.lst [])) fp) [] (List.replicate Nl.length none++pj js σ) H' s9/\tn i s9.heap/\(∀b∈fp,H' b=none)/\W i m H':=fun {σ9 H9 s9} I9 hw ⟨m',hm,w9⟩=>by
    refine⟨m',hm,i+1,H9,I9.unpinned.weak (by rw[I9.len,<- IS.len]) hw,T.keep _ _ _ st6 fun b hb o q=>(I9.pin (b,o) (w0i _ (w0i _ (q3l hb q)))).1,fun b hb=>?_,w9⟩
    obtain⟨o,q,d⟩:=T.obj _ _ st6 b hb;exact(I9.pin (b,o) (w0i _ (w0i _ (q3l hb q)))).2.1
   cases ok with
   |false=>exact again I8 kp (by simpa using q8)
   |true=>
    have q8':=by simpa only[if_true]using q8
    refine thn (he _ _ _ _ _ _ s8 σ7 H8 _ I8 q8') fun y s9 ⟨yv,H9,I9,r9,ys,hD,hz,q9⟩=>?_
    refine thn (q8w _ s9 σ7 H9 (.ref s2.heap.objs.size) [yv] (.ref s2.heap.objs.size) [y] (fun v H'=>v=.non/\H'=upd H9 s2.heap.objs.size (.lst (ys++[yv]))) I9 rfl (.cons r9 .nil) ⟨_,ys,yv,rfl,rfl,hD,hz,rfl,rfl⟩) fun _ s10 ⟨_,H10,I10,_,_,e10⟩=>?_
    subst e10;exact again I10 kp q9
 exact codeAny_compStart_list (loop _ rfl) (T.self X.A 0 _ _ _ stS (loop _ rfl))
end
theorem q6f{env:Env}:∀{names:List (Str×NameKind)}{x:Str},names.lookup x=some .free ->
  (names.map fun(n,k)=>if(k==NameKind.free&&env.scope.kind==.function&&env.kindOf n==some .cell)then(n,NameKind.cell)else(n,k)).lookup x=some .cell \/
  (names.map fun(n,k)=>if(k==NameKind.free&&env.scope.kind==.function&&env.kindOf n==some .cell)then(n,NameKind.cell)else(n,k)).lookup x=some .free
 |[],x,h=>by cases h
 |(n,k)::r,x,h=>by
  have ih:=@q6f env r x;rw[w0n];dsimp only
  by_cases hx:(x==n)=true
  ·simp only[w0z,hx]at h;cases h
   by_cases hq:(NameKind.free==NameKind.free&&env.scope.kind==.function&&env.kindOf n==some .cell)=true
   ·rw[if_pos hq];left;simp[w0z,hx]
   ·rw[if_neg hq];right;simp[w0z,hx]
  ·have hb:(x==n)=false:=w1i.mpr hx;simp only[w0z,hb]at h;have z:=ih h
   by_cases hq:(k==NameKind.free&&env.scope.kind==.function&&env.kindOf n==some .cell)=true
   ·rw[if_pos hq];simpa only[w0z,hb]using z
   ·rw[if_neg hq];simpa only[w0z,hb]using z
noncomputable def compOk(sc scope:Scope)(N Nf:List Str)(js:List Nat):Bool:=
 scope.kind==.function&&scope.names.all (fun y=>y.2 != .cell)&&scope.names.all (fun y=>y.2 != .local||scope.names.lookup y.1==some .local) &&
 scope.names.all (fun y=>y.2 != .free||sc.names.lookup y.1==some .cell||sc.names.lookup y.1==some .free)&&js.length==Nf.length &&
 (List.range js.length).all (fun i=>match js[i]?,Nf[i]? with|some j,some y=>N[j]?==some y|_,_=>true) &&
 Nf.all (fun y=>scope.names.lookup y==some .free&&(sc.names.lookup y==some .cell||sc.names.lookup y==some .free))
theorem x0s{elt target iter:Expr}{scope sc:Scope}{wi:TI}{g:TG}{tc:TT}{Nl Nf:List Str}(hc:X.calm=true)(hi:PI X target iter wi)
  (ok:compOk sc scope N Nf js=true)
  (hg:∀cl C s₀ H₀ ex,PG (X.cp (Nl++Nf) scope cl C s₀ H₀ ex) target g)(ht:∀cl C s₀ H₀ ex,PTs (X.cp (Nl++Nf) scope cl C s₀ H₀ ex) ifs tc)(he:∀cl C s₀ H₀ ex,PE (X.cp (Nl++Nf) scope cl C s₀ H₀ ex) elt te)
  (hsc:X.env.scope=sc:=by rfl)(hN:X.N=N:=by rfl)(hs:∀x,foldedSetIterable iter X.env x=pure x:=by intro _;rfl):
  PE X (.ListComp elt [⟨target,iter,ifs,0⟩] scope pos) (tComp wi Nl.length js g tc te):=by
 unfold compOk at ok;simp only[w0j,w0t,beq_iff_eq,bne_iff_ne,w4l,w0u]at ok;obtain⟨⟨⟨⟨⟨⟨k1,k2⟩,k3⟩,k4⟩,k5⟩,k6⟩,k7⟩:=ok;have kind:∀x,X.env.kindOf x=sc.names.lookup x:=fun x=>by rw[<- hsc];rfl
 refine y6s hc hi k1 k2 (fun x hx hl=>(k3 x hx).resolve_left fun z=>z hl) (fun x hx hf=>?_) (fun i j y e1 e2=>?_) k5 (fun y hy=>?_) (fun y hy=>?_) hg ht he hs
 ·rw[kind];rcases k4 x hx with(z|z)|z
  ·exact absurd hf z
  ·exact .inl z
  ·exact .inr z
 ·have hlt:i<js.length:=(w0d.mp e2).1;have z:=k6 i hlt;rw[e1,e2]at z;rw[hN]
  simpa using z
 ·obtain⟨z1,z2⟩:=k7 y hy;refine⟨PySem.mem_of_lookup z1,?_,?_⟩
  ·rw[hsc];rcases z2 with z|z
   ·exact .inr (.inl z)
   ·exact .inr (.inr z)
  ·rw[kind];rcases z2 with z|z<;>(rw[z];decide)
 ·exact q6f (k7 y hy).1
abbrev TF:=Str->St->Hp->(Str->Hp->Prop)->Prop
def PF(X:Cx)(es:List Expr)(t:TF):Prop:=∀(acc:Str)(pins:List (Addr×Obj))(s:Shared)(σ:St)(H:Hp)(Q:Str->Hp->Prop),Inv X pins σ H s->t acc σ H Q ->
 Joins (model X.prog X.w) X.A X.xe (evalEach es X.env) acc (fun out s'=>out.length<=sizeLine/\∃H',Inv X pins σ H' s'/\Q out H') s
theorem y3w(hc:X.calm=true):CallR X (.builtin "all") (fun xs H Q=>∃p ys,xs=[.ref p]/\SqL X.K H p ys/\(∀y∈ys,∃b,y=.bl b)/\Q (.bl (ys.all fun y=>decide (y=.bl true))) H):=by
 intro pins s σ H xs us Q I r h;obtain⟨p,ys,rfl,hq,hb,q⟩:=h;obtain⟨u,rfl,rx⟩:=vals1 r;cases rx;obtain⟨its,r',pl,hz⟩:=I.list hq;have hl:=pl.isList;have hlt:p<s.heap.objs.size:=by obtain⟨_,e,_⟩:=hl;exact Heap.lt_size e
 have hh:X.A.in1.handled=none:=I.ok.hd hc;refine call_all_walk (wpAny_pyIter_list hl ⟨s.heap.objs.size,[s.heap.objs.size,p],[s.heap.objs.size],_,_,_,fun i=>decide (ys[i]?=some (.bl true)),rfl,Walks.list hh s.heap.objs.size p (w0r hlt) its.toArray,⟨⟨_,Heap.get?_push_size _ rfl,rfl,rfl⟩,hl.push _⟩,?_,fun h' tk kp=>?_⟩)
 ·intro i v s1 Q1 E1 hv hQ;have hv':its[i]?=some v:=by simpa using hv
  have hi:i<ys.length:=by rw[r'.length];exact(w0d.mp hv').1
  obtain⟨u,hu,ru⟩:=r'.get (w0b hi);rw[hv']at hu;cases hu;obtain⟨b,eb⟩:=hb ys[i] (w2y hi);rw[eb]at ru;cases ru;refine wpAny_truthy_bool ?_
  have e:decide (ys[i]?=some (V.bl true))=b:=by
   rw[w0b hi,eb];cases b<;>simp
  rw[<- e];exact hQ
 ·have e:(List.range its.toArray.size).all (fun i=>decide (ys[i]?=some (V.bl true)))=ys.all fun y=>decide (y=.bl true):=by
   rw[w1k,w0t,w0t];constructor
   ·intro hA y hy;obtain⟨i,hi,rfl⟩:=w4w hy;have z:=hA i (by rw[w0u,w0c,<- r'.length];exact hi);rw[w0b hi]at z
    simpa using z
   ·intro hA i hi;rw[w0u,w0c,<- r'.length]at hi;have z:=hA ys[i] (w2y hi);rw[w0b hi]
    simpa using z
  refine⟨.bl _,H,I.kept (t':=tk) fun b o hbo=>kp b o (fun z=>?_) (Heap.get?_push_of_some _ hbo),rfl,e ▸ q⟩
  rw[w1h]at z;exact absurd (Heap.lt_size hbo) (by rw[z];exact w1z _)
namespace RevT
variable{I c f:Addr}{A:Around}{X:Cx}{e:Expr}{h:Heap}{H H':Hp}{EE:L2.St->XK}{es:List Expr}{ps:List Str}{k:Nat}{P prog:Program}{K:PySem.W.Frag}{s:Shared}{x:Str}{t:TA}{E:Value->Shared->Prop}{w:World}
theorem nolen:typeLookup (.type "list_reverseiterator") "__len__"=pure none:=by rw[typeLookup_type,builtinLookup_eq_fast];kernel_rfl
theorem hint:typeLookup (.type "list_reverseiterator") "__length_hint__"=pure (some (.builtin "list_reverseiterator.__length_hint__")):=by rw[typeLookup_type,builtinLookup_eq_fast];kernel_rfl
section
variable{fp wr:List Addr}{G:Array GenState->Array GenState->Prop}{n:Nat}{P:Nat->Value->Prop}{St:Nat->Shared->Prop}
theorem x7s{Q:List Value->Shared->Prop}(W:WalksS prog w A.in1 I fp wr G n P St)(hT:∀i s,St i s->s.TypeIs (.ref I) "list_reverseiterator")(hst:St 0 s)(hfp:∀b∈fp,b<s.heap.objs.size)(hI:I∈fp)
  (hQ:∀s' acc,Moved wr G s s'->ItemsOf P acc n->Q acc.toList s')(hn:n<=sizeLine):wpAny (model prog w) A (collect (.ref I)) Q E s:=by
 have hSf:s.heap.objs.size∉fp:=fun hm=>w1z _ (hfp _ hm)
 have hSI:s.heap.objs.size≠I:=fun e=>hSf (e ▸ hI)
 unfold collect;refine wpAny_bind (wpAny_runValue (codeAny_builtin F.entry_proto_collect ?_));rw[Around.under_plainId F.plain_proto_collect _];show wpAny _ A.in1 (newList [] >>= fun l=>again (.builtin "list.__iadd__" ⟨[l,.ref I],[]⟩)) _ _ s
 refine wpAny_bind (wpAny_newObj_type ?_);refine wpAny_pure ⟨plainId_quiet F.plain_list_iadd _,codeAny_builtin F.entry_list_iadd ?_⟩;rw[Around.under_plainId F.plain_list_iadd _];have hst1:=W.frame 0 s (s.heap.push {cls:=.type "list", data:=.seq ([]:List Value).toArray}) s.toks hst (w0f _) fun b _ o e=>Heap.get?_push_of_some _ e
 have hS1:(s.heap.push {cls:=.type "list", data:=.seq ([]:List Value).toArray}).get? s.heap.objs.size=some {cls:=.type "list", data:=.seq ([]:List Value).toArray}:=Heap.get?_push_size _ rfl;have h1:Builtin.List.listSameRef (.ref s.heap.objs.size) (.ref I)=false:=by simp[Builtin.List.listSameRef,hSI]
 show wpAny _ A.in1 (Builtin.List.listExtendWith (.ref s.heap.objs.size) (.ref I) (.ref s.heap.objs.size)) _ _ _;unfold Builtin.List.listExtendWith;refine wpAny_bind (wpAny_typeOf (hT 0 _ hst1) ?_);rw[if_neg (by rw[h1];decide)];refine wpAny_bind (W.self 0 _ _ _ hst1 ?_);refine wpAny_bind (wpAny_holding ?_);unfold Builtin.List.listLengthHint;refine wpAny_bind (wpAny_specialOf (hT 0 _ hst1) nolen ?_);show wpAny _ A.in1 (specialOf (Value.ref I) (Str.ofString "__length_hint__") >>= _) _ _ _;refine wpAny_bind (wpAny_specialOf (hT 0 _ hst1) hint ?_)
 (generalize hid:("list_reverseiterator.__length_hint__":String)=id0;(fail_if_success (clear hid id0));wp_delta;rw[show splitId id0=some ("list_reverseiterator", "__length_hint__")from by subst hid;decide +kernel];subst hid)
 refine wpAny_bind (wpAny_isInstance (b:=true) (hT 0 _ hst1) (by rw[isSubtype_type];kernel_rfl) ?_);refine wpAny_pure ?_;rw[if_neg (by decide)];refine wpAny_pure ⟨plainId_quiet F.plain_extend_loop _,codeAny_extend_loopS W hn _ hSf _ n 0 _ _ _ rfl (w1b _) hst1 hS1 (ItemsOf.nil P) fun s' acc' c' hm hS' hacc=>?_⟩
 show wpAny _ A (load s.heap.objs.size >>= _) _ _ s';refine wpAny_bind (wpAny_load hS' ?_);exact wpAny_pure (hQ s' acc' (Moved.drop_new (o:={cls:=.type "list", data:=.seq ([]:List Value).toArray}) (tk:=s.toks) hm (w0f _)) hacc)
end
open AutoSeq1 (wpAny_loadPart')
theorem x9s{l:Addr}{items:Array Value}{Q:List Value->Shared->Prop}(hh:A.handled=none)(hne:l≠I)(hit:s.heap.IsRevIter I l ((items.size:Int)-1))(hl:s.heap.IsList l items)(hsz:items.size<=sizeLine)
  (hQ:∀s' acc,Moved [I] (fun a b=>b=a) s s'->ItemsOf (fun i v=>items[items.size-1-i]?=some v) acc items.size->Q acc.toList s'):wpAny (model prog w) A (collect (.ref I)) Q E s:=by
 have hlt:∀b∈[I,l],b<s.heap.objs.size:=fun b hb=>by
  rcases w0h.mp hb with z|z
  ·rw[z];obtain⟨_,e,_⟩:=hit;exact Heap.lt_size e
  ·rw[w1h.mp z];obtain⟨_,e,_⟩:=hl;exact Heap.lt_size e
 exact x7s (Walks.listRev (A:=A.in1) hh I l hne items).toS (fun _ _ st=>st.2.1.typeIs) ⟨w1b _,by simpa using hit,hl⟩ hlt w0k hQ hsz
theorem x4u(I l:Addr)(items:Array Value)(hne:l≠I)(hsz:items.size<=sizeLine):
  Meets (Builtin.«tuple.__new__» ⟨[.type "tuple", .ref I],[]⟩)
   (fun A R s=>A.handled=none/\s.heap.IsRevIter I l ((items.size:Int)-1)/\s.heap.IsList l items/\∀(s':Shared)(acc:Array Value),Moved [I] (fun a b=>b=a) s s'->ItemsOf (fun i v=>items[items.size-1-i]?=some v) acc items.size ->
    R (.ok (.ret (.ref s'.heap.objs.size))) {s' with heap:=s'.heap.push {cls:=.type "tuple", data:=.seq acc}}):=
 .of_wp fun prog w A R s h=>by
  obtain⟨hh,hit,hl,h⟩:=h;have hsub:=sub_tuple_self;have hinit:=init_tuple_lookup;have hmh:=madeHere_tuple;have hT:s.TypeIs (.ref I) "list_reverseiterator":=hit.typeIs;have hh1:A.in1.handled=none:=hh
  wp_walk using wpAny_typeOf hT,x9s hh1 hne hit hl hsz
  intro s' acc hm hacc;show wpAny _ _ (Builtin.Tuple.tupleExact acc.toList.toArray >>= fun v=>ret v) _ _ _
  unfold Builtin.Tuple.tupleExact;refine wpAny_bind (wpAny_newObj_type ?_ (show acc.toList.toArray.size<=sizeLine by simp only[w4r];rw[hacc.1];exact hsz));refine wpAny_pure ⟨_,rfl,?_⟩;have e:acc.toList.toArray=acc:=by simp
  rw[e];exact h s' acc hm hacc
theorem call_rev{l:Addr}{items:Array Value}{Q:Value->Shared->Prop}(hh:A.handled=none)(hne:l≠I)(hit:s.heap.IsRevIter I l ((items.size:Int)-1))(hl:s.heap.IsList l items)(hsz:items.size<=sizeLine)
  (h:∀(h':Heap)(tk:Nat)(acc:Array Value),(∀b o,b≠I->s.heap.get? b=some o->h'.get? b=some o)->ItemsOf (fun i v=>items[items.size-1-i]?=some v) acc items.size->Q (.ref h'.objs.size) {s with heap:=h'.push {cls:=.type "tuple", data:=.seq acc},toks:=tk}):
  wpAny (model prog w) A (call (.type "tuple") [.ref I]) Q E s:=by
 refine callType_new F.called_tuple (by decide) (F.typeCall_tuple_1 _) (F.newCall_tuple_1 _) (fun obj=>F.args_object_init_2 obj _) F.entry_tuple_new
  (x4u I l items hne hsz) ⟨hh,hit,hl,fun s' acc hm hacc=>⟨⟨_,Heap.get?_push_size _ rfl,rfl⟩,?_⟩⟩
 rw[Moved.eq_with hm];exact h s'.heap s'.toks acc (fun b o hb e=>hm.heap b o (fun z=>hb (w1h.mp z)) e) hacc
end RevT
def tTupRev(K:PySem.W.Frag)(te:TE):TE:=fun σ H Q=>te σ H fun x H1=>∃p ys,x=.ref p/\SqL K H1 p ys/\∀l,H1 l=none->Q (.ref l) (upd H1 l (.tup ys.reverse))
theorem y00{te:TE}{p1 p2 pos1 pos2:Pos}(hc:X.calm=true)(hm1:X.mg "tuple"=none)(hm2:X.mg "reversed"=none)(he:PE X e te)(hg1:Gl X "tuple":=by rfl)(hg2:Gl X "reversed":=by rfl)
  (hs1:starEach [.Call (.Name "reversed" p2) [e] [] pos2] X.env=(false,eval (.Call (.Name "reversed" p2) [e] [] pos2) X.env)::starEach [] X.env:=by rfl)(hs2:starEach [e] X.env=(false,eval e X.env)::starEach [] X.env:=by rfl):
  PE X (.Call (.Name "tuple" p1) [.Call (.Name "reversed" p2) [e] [] pos2] [] pos1) (tTupRev X.K te):=by
 intro pins s σ H Q I h;refine wpAny_Call_Name_kw (q4l I hg1 hm1 PyProof.Rows.Boot.«tuple» ?_ (by decide));refine PyProof.Rows.callWith_type1 ?_ hs1 rfl;rw[hs1];show wpAny _ _ (spliced ((false,eval (.Call (.Name "reversed" p2) [e] [] pos2) X.env)::backTo pos1 (starEach [] X.env))) _ _ s;refine Calls.spliced_cons ?_;refine wpAny_Call_Name_kw (q4l I hg2 hm2 PyProof.Rows.Boot.«reversed» ?_ (by decide));refine PyProof.Rows.callWith_type1 ?_ hs2 rfl;rw[hs2];show wpAny _ _ (spliced ((false,eval e X.env)::backTo pos2 (starEach [] X.env))) _ _ s;refine Calls.spliced_cons (thn (he pins s σ H _ I h) fun v s1 ⟨x,H1,I1,rx,p,ys,ex,hq,q⟩=>Calls.spliced_nil ?_)
 subst ex;cases rx;obtain⟨its,r',pl,hz⟩:=I1.list hq;have hl:=pl.isList;have hlt:p<s1.heap.objs.size:=by obtain⟨_,e,_⟩:=hl;exact Heap.lt_size e
 refine call_reversed_list hl ?_;refine Calls.spliced_nil ?_;have hh:X.A.handled=none:=I1.ok.hd hc;refine RevT.call_rev (items:=its.toArray) hh (w0r hlt) ⟨_,Heap.get?_push_size _ rfl,rfl,rfl⟩ (hl.push _) (by simp only[w0c];rw[<- r'.length];exact hz) fun h' tk acc kp hacc=>?_
 have up:∀b o,s1.heap.get? b=some o->h'.get? b=some o:=fun b o hbo=>kp b o (w0r (Heap.lt_size hbo)) (Heap.get?_push_of_some _ hbo)
 have I2:Inv X pins σ H1 {s1 with heap:=h',toks:=tk}:=I1.kept (t':=tk) up
 have ea:acc=its.reverse.toArray:=by
  obtain⟨n1,n2⟩:=hacc;apply Array.ext';apply w3g;intro i
  by_cases hi:i<its.length
  ·have hi':i<acc.size:=by rw[n1];simpa using hi
   have z:=n2 i acc[i] (by simp[hi']);simp only[w0c,List.getElem?_toArray]at z;rw[w4m hi,z];simp[hi']
  ·rw[w1m (by simp at n1 |-;omega),w1m (by simp;omega)]
 subst ea
 have I3:Inv X pins σ (upd H1 h'.objs.size (.tup ys.reverse)) {s1 with heap:=h'.push {cls:=.type "tuple", data:=.seq its.reverse.toArray},toks:=tk}:=
  I2.laid (t':=tk) (fun b o e=>Heap.get?_push_of_some _ e) (w0f _) (show ObjOk X.prog X.w _ _ _ (.tup ys.reverse)from⟨by rw[w3q];exact hz,its.reverse,r'.reverse,IsTup.new _ _,_,Heap.get?_push_size _ rfl,rfl⟩)
 exact⟨.ref h'.objs.size,_,I3,rfl,q _ (I2.hok.fresh (w0f _))⟩
open PySem PySem.Spec PyProof.Rows
structure ExcCls(K:PySem.W.Frag)(D:Addr):Prop where
 ga:findIn K (.ref D) "__getattribute__"=some (some (.builtin "BaseException.__getattribute__"))
 gt:findIn K (.ref D) "__getattr__"=some none
 cl:findIn K (.ref D) "__class__"=some (some (.builtin "object.__class__"))
 gs:specialIn K (.builtin "object.__class__") "__get__"=some (some (.builtin "getset_descriptor.__get__"))
 tk:takesIn K (.builtin "object.__class__")=some true
 mo:PySem.W.mroIn K D (.type "object")=some true
 mb:PySem.W.mroIn K D (.type "BaseException")=some true
 cd:(PySem.W.clsIn K D).isSome=true
noncomputable def excClsIn(K:PySem.W.Frag)(D:Addr):Bool:=
 findIn K (.ref D) "__getattribute__"==some (some (.builtin "BaseException.__getattribute__"))&&findIn K (.ref D) "__getattr__"==some none &&
 findIn K (.ref D) "__class__"==some (some (.builtin "object.__class__"))&&specialIn K (.builtin "object.__class__") "__get__"==some (some (.builtin "getset_descriptor.__get__")) &&
 takesIn K (.builtin "object.__class__")==some true&&PySem.W.mroIn K D (.type "object")==some true&&PySem.W.mroIn K D (.type "BaseException")==some true&&(PySem.W.clsIn K D).isSome
theorem ExcCls.of{D:Addr}(h:excClsIn K D=true):ExcCls K D:=by
 unfold excClsIn at h;simp only[w0j,beq_iff_eq]at h;obtain⟨⟨⟨⟨⟨⟨⟨h1,h2⟩,h3⟩,h4⟩,h5⟩,h6⟩,h7⟩,h8⟩:=h;exact⟨h1,h2,h3,h4,h5,h6,h7,h8⟩
def ExcAt(e D:Addr)(h:Heap):Prop:=∃o vs,h.get? e=some o/\o.cls=.ref D/\o.data=.fields vs
section
variable{e D:Addr}
open PySem.W Builtin Builtin.ObjectAttr Builtin.Getset_descriptor
theorem x1f{M:Model}(p:ExcAt e D h):Looks M h (typeOf (.ref e)) (.ref D):=by
 obtain⟨o,vs,h1,h2,h3⟩:=p;exact h2 ▸ (Looks.ld h1).andThen .now
theorem y3x{M:Model}(X:K.In h)(C:ExcCls K D):Looks M h (find (.ref e) (.ref D) "__class__") (.bind (.builtin "getset_descriptor.__get__") (.builtin "object.__class__")):=by
 have L1:=looks_findIn (M:=M) X C.cl;have L2:Looks M h (getOf (some (.builtin "object.__class__"))) (some (.builtin "getset_descriptor.__get__")):=looks_specialIn X C.gs;have L3:=looks_takesIn (M:=M) X C.tk;refine L1.andThen (L2.andThen ?_);exact(show Looks M h (dataDescriptor? (some (.builtin "object.__class__")) (some (.builtin "getset_descriptor.__get__"))) (some (.builtin "getset_descriptor.__get__", .builtin "object.__class__"))from L3.andThen .now).andThen (Looks.tag .now)
theorem y6t{tp:Value}{R:Result->Shared->Prop}(X:K.In s.heap)(p:ExcAt e D s.heap)(hm:mroIn K D (.type "object")=some true)
  (h:R (.ok (.ret (.ref D))) s):codeAny (model prog w) A (.call (.builtin "getset_descriptor.__get__") ⟨[.builtin "object.__class__", .ref e,tp],[]⟩) R s:=by
 obtain⟨hh,g,dr,t,os⟩:=s;have L0:=x1f (M:=model prog w) p;have L1:=looks_mroIn (M:=model prog w) X hm;refine codeAny_call_builtin KF.slot_gs.plain KF.entry_gs (KF.slot_gs.check _ _ _ _ _ _ _ _ KF.type_class (KF.args_gs _ _ _) ?_);unfold Builtin.«getset_descriptor.__get__» descrGet;rw[dga_obj];refine wpAny_bind (wpAny_pure ?_);unfold descrGetter descrCheckInstance descrNameAndClass isInstance;simp only[KF.owner_class]
 repeat lk
 refine⟨Code.quiet_builtin _ (by decide +kernel),codeAny_builtin KF.entry_class ?_⟩;unfold Builtin.«object.__class__» shownTypeOf
 repeat lk
 exact h
theorem y01{M:Model}{nameV:Value}{Q:Unit->Shared->Prop}{g:Array GenState}{d:Drawn}{t:Nat}{os:OsState}(X:K.In h)(p:ExcAt e D h)(hm:mroIn K D (.type "BaseException")=some true)(hq:Q () ⟨h,g,d,t,os⟩):
  wpAny M A (checkBuiltinCall "BaseException.__getattribute__" ⟨[.ref e,nameV],[]⟩) Q E ⟨h,g,d,t,os⟩:=by
 have hk:builtinKind "BaseException.__getattribute__"=some .slot:=by decide +kernel
 have hsplit:splitId "BaseException.__getattribute__"=some ("BaseException", "__getattribute__"):=by decide +kernel
 have L0:=x1f (M:=M) p;have L1:=looks_mroIn (M:=M) X hm;have LI:Looks M h (isInstance (.ref e) (.type "BaseException")) true:=L0.andThen L1;have ha:=PySem.F.args_bexc_ga (.ref e) nameV;simp only[checkBuiltinCall,hk,hsplit];refine wpAny_bind (LI.at ?_);rw[if_neg (by decide)];unfold argsOk at ha;split
 ·rename_i sig hs;rw[hs]at ha;exact wpAny_of_eq ha hq
 ·exact wpAny_pure hq
theorem y02{Q:Option Value->Shared->Prop}(X:K.In s.heap)(p:ExcAt e D s.heap)(C:ExcCls K D)(h:Q (some (.ref D)) {s with toks:=s.toks+1}):wpAny (model prog w) A (getAttr? (.ref e) "__class__") Q E s:=by
 obtain⟨hh,g,d,t,os⟩:=s;have L0:=x1f (M:=model prog w) p;have L1:=looks_findIn (M:=model prog w) X C.ga;have L2:=looks_findIn (M:=model prog w) X C.gt;have L3:=y3x (M:=model prog w) (e:=e) X C;unfold getAttr? getAttrBy? getAttrBy;refine wpAny_bind (wpAny_mkText (wpAny_bind (wpAny_attempt (wpAny_holding (wpAny_bind (L0.at (wpAny_bind (L1.at ?_))))))));have hx2:(Value.builtin "BaseException.__getattribute__"==Value.builtin "object.__getattribute__")=false:=by decide +kernel
 have hx1:(onTheHeap (Value.ref D)&&Value.builtin "BaseException.__getattribute__"==Value.builtin "object.__getattribute__")=false:=by rw[hx2];rfl
 dsimp only;rw[if_neg (by rw[hx1];decide)];unfold getAttrByItsOwn hookBefore;rw[if_pos (by rfl)];refine wpAny_bind (L2.at ?_);refine wpAny_bind (wpAny_attempt (wpAny_holding ?_));unfold callGetattribute;rw[if_neg (by decide)];unfold boundAndCalled;have f3:=PySem.F.excAttr_ValueError.ga.bind (.ref e);refine wpAny_bind (wpAny_of_eq f3 ?_);refine wpAny_call (codeAny_call_builtin PySem.F.excAttr_ValueError.ga.plain F.entry_bexc_ga (y01 (K:=K) (D:=D) X p C.mb ?_));unfold Builtin.«object.__getattribute__»;refine wpAny_bind (wpAny_of_eq (a:=(Value.ref e,[Value.str (Str.ofString "__class__") t])) (by rfl) ?_);dsimp only;refine wpAny_bind (wpAny_of_eq (a:=Str.ofString "__class__") (by rfl) ?_);refine wpAny_bind (L0.at (wpAny_bind (L3.at ?_)));dsimp only;unfold bindTo;refine wpAny_bind (wpAny_holding (wpAny_call (y6t (K:=K) (D:=D) X p C.mo ?_)));dsimp only;refine wpAny_pure ?_;dsimp only;refine wpAny_of_eq (a:=Value.ref D) (by rfl) ?_;exact wpAny_pure h
theorem y3y(C:ExcCls K D):KitX K (.ref e) (.ref D) (ExcAt e D) where
 ty:=fun _ _ _ p=>x1f p
 it:=fun M h X p=>by
  have hcD:=C.cd;unfold clsIn at hcD;split at hcD
  ·rename_i c' d' cd' sl' ho;intro A' Q' E' s' k q;unfold isType loadHead;exact wpAny_bind (wpAny_loadPart (k _ _ (X _ _ ho)) (wpAny_pure q))
  ·cases hcD
 ne:=fun h tp dd its n sl X htp=>by
  refine w1i.mpr fun q=>?_
  have e1:D=tp:=Value.ref.inj (beq_iff_eq.mp q);subst e1;have hcD:=C.cd;unfold clsIn at hcD;split at hcD
  ·rename_i c' d' cd' sl' ho;have z:=(X _ _ ho).symm.trans htp;cases z
  ·cases hcD
 ca:=fun X p k=>y02 X p C k
end
def ClsV:V->Value->Prop
 |.ty n,c=>c=.type n
 |.ref a,c=>c=.ref a
 |_,_=>False
structure Cal(P:Program)(w:World)(K:PySem.W.Frag)(mg:Str->Option Value)(base:Heap)(k:Nat)(x:Str)(ps:List Str)(sp:Sp):Prop where
 ex:∃f fd,FnOk P w K mg base (CX1 P w) k f fd ps sp/\mg x=some (.ref f)/\keepIn K (.ref f)=true/\Binds K fd ps []
structure CalH(P:Program)(w:World)(K:PySem.W.Frag)(mg:Str->Option Value)(base:Heap)(k:Nat)(x:Str)(ps:List Str)(sp:Sp):Prop where
 ex:∃f fd,FnOkH P w K mg base k f fd ps sp/\mg x=some (.ref f)/\keepIn K (.ref f)=true/\Binds K fd ps []
structure At(K:PySem.W.Frag)(mg:Str->Option Value)(x:Str)(st:Stmt)(ps:List Str):Prop where
 ex:∃f fd,Fun K x x st f fd/\mg x=some (.ref f)/\Binds K fd ps []
section
variable{mg:Str->Option Value}{base:Heap}
theorem At.cal{st:Stmt}{N:List Str}{sp:Sp}(F:At K mg x st ps)(S:FnScope N ps (defScope st))(len:∀vs H Q E,sp vs H Q E->vs.length=ps.length)
  (hbody:∀(f:Addr)(cdv:Value)(A:Around)(outer:List Env)(s:Shared)(H:Hp)(vs:List V)(Q:VK)(E:XK),Room k (A.deeper (envOfC x (defScope st) s.heap.objs.size f cdv))->sp vs H Q E ->
   ∃t,PSs (cxOf (CX1 P w) P w K mg base N x (defScope st) f cdv A outer s H E) (defBody st) t/\t {nx:=fun _ H'=>Q .non H',rt:=Q} (start N vs) H):Cal P w K mg base (k+1) x ps sp:=by
 obtain⟨f,fd,F,m,b⟩:=F.ex;exact⟨f,fd,F.okX S len (hbody f),m,F.kp,b⟩
end
section
variable{sp:Sp}{p pos:Pos}
theorem z0h(C:Cal X.prog X.w X.K X.mg X.base k x ps sp)(hr:Room k X.A)(hx:PassX (CX1 X.prog X.w) X EE)(ha:PA X (e::es) t)(hg:Gl X x:=by rfl)
  (hdb:(x==("__debug__":Str))=false:=by decide)(he:starEach (e::es) X.env=(false,eval e X.env)::starEach es X.env:=by rfl)(hpl:(backTo pos (starEach es X.env)).any (·.1)=false:=by rfl):
  PE X (.Call (.Name x p) (e::es) [] pos) (tCallX sp [] EE t):=by
 obtain⟨f,fd,F,m,kp,b⟩:=C.ex;exact y3u F hr hg m kp b .nil hx ha hdb he hpl
end
section
variable{te:TE}{pos pos' p:Pos}
theorem y55(i:Nat)(hN:X.N.Nodup)(he:PE X e te)(hi:X.N[i]?=some x:=by rfl)(hx:Loc X.env.scope x:=by walk_at "3")(hs:swapsWith e (some (.Name x pos')) pos.line X.env=pure false:=by rfl)(hf:X.fn x=true\/X.env.scope.names.lookup x=some .local:=by walk_at "2"):
  PS X (.Assign [.Name x pos'] e pos) (tAsg te (gName i)):=y93 hN hi hx he hs hf
theorem q09(i:Nat)(hN:X.N.Nodup)(hi:X.N[i]?=some x:=by rfl)(hx:Loc X.env.scope x:=by walk_at "3")(hf:X.fn x=true\/X.env.scope.names.lookup x=some .local:=by walk_at "2"):PG X (.Name x pos) (gName i):=y6g hN hi hx hf
theorem z0i{o:Expr}{to:TE}{apos:Pos}(ho:PE X o to)(ha:PA X (e::es) t)(hbase:attributeBase o "append" X.env (eval o X.env)=eval o X.env:=by rfl)
  (hfew:((backTo pos (starEach (e::es) X.env)).all (fun x=>!x.1)&&(backToKw pos (keywordEach [] X.env)).all (fun x=>x.1.isSome)&&decide ((e::es).length+([]:List Keyword).length+(if([]:List Keyword).isEmpty then 0 else 1)<30))=true:=by rfl)
  (hline:(apos.endLine==pos.line)=true:=by rfl)(hs:starEach (e::es) X.env=(false,eval e X.env)::starEach es X.env:=by rfl)(hplain:(backTo pos (starEach es X.env)).any (·.1)=false:=by rfl):
  PE X (.Call (.Attribute o "append" apos) (e::es) [] pos) (tBM X.K "list" rAppend to t):=x9r PySem.F.plainAttrs_list PySem.F.slot_list_append PySem.F.type_list_append q8w ho ha hbase hfew hline hs hplain
end
theorem q4x{p:Addr}(h:H p=none)(o:HO):Same H (upd H p o):=fun b u q=>by rw[q0c (q0q q h)];exact q
theorem Same.tup{a:Addr}{xs:List V}(e:Same H H')(h:SqT K H a xs):SqT K H' a xs:=by
 rcases h with(h|⟨o,h⟩)|h
 ·exact .inl (.inl (e _ _ h))
 ·exact .inl (.inr ⟨o,e _ _ h⟩)
 ·exact .inr h
noncomputable abbrev rawO(o:Obj):HO:=.frz o (.own 0)
noncomputable abbrev fnO(o:Obj)(q:Str)(c:Addr):HO:=.frz o (.tbl #[.bool false,.str q 0,.ref c])
noncomputable abbrev celO(o:Obj):HO:=.frz o (.ext fun _=>True)
noncomputable abbrev Cs:=List (Addr×Obj)
variable{cs:Cs}
noncomputable def rmC(H:Hp)(cs:Cs):Hp:=fun b=>match cs.lookup b with
 |some _=>none
 |none=>H b
noncomputable def addC(H:Hp)(cs:Cs):Hp:=fun b=>match cs.lookup b with
 |some o=>some (celO o)
 |none=>H b
section
variable{b:Addr}{o:Obj}{u:HO}
theorem q6g(h:cs.lookup b=some o):rmC H cs b=none:=by unfold rmC;rw[h]
theorem q18(h:cs.lookup b=none):rmC H cs b=H b:=by unfold rmC;rw[h]
theorem q4d(h:cs.lookup b=some o):addC H cs b=some (celO o):=by unfold addC;rw[h]
theorem q0w(h:cs.lookup b=none):addC H cs b=H b:=by unfold addC;rw[h]
theorem q6h(h:H b=none):rmC H cs b=none:=by unfold rmC;split<;>first|rfl|exact h
def CelsIn(H:Hp)(cs:Cs):Prop:=∀b o,cs.lookup b=some o->H b=some (celO o)
theorem CelsIn.out(c:CelsIn H cs)(h:H b=none):cs.lookup b=none:=by
 cases q:cs.lookup b with
 |none=>rfl
 |some o=>rw[c b o q]at h;cases h
theorem CelsIn.out'(c:CelsIn H cs)(h:H b=some u)(n:∀o,u≠celO o):cs.lookup b=none:=by
 cases q:cs.lookup b with
 |none=>rfl
 |some o=>rw[c b o q]at h;cases h;exact absurd rfl (n o)
theorem CelsIn.rm_some(c:CelsIn H cs)(h:H b=some u)(n:∀o,u≠celO o):rmC H cs b=some u:=by rw[q18 (c.out' h n)];exact h
theorem y56(h:rmC H cs b=some u):H b=some u/\cs.lookup b=none:=by
 unfold rmC at h;split at h
 ·cases h
 ·rename_i q;exact⟨h,q⟩
theorem q92(t:TupLike u):∀o,u≠celO o:=fun o z=>by subst z;exact t
end
section
variable{h':Heap}{fs ex:List Addr}
theorem HOk.rm(x:HOk P w H h)(c:CelsIn H cs):HOk P w (rmC H cs) h:=fun a u e=>by
 obtain⟨e1,_⟩:=y56 e;exact(x a u e1).stay (fun b v _ q=>q) (fun b q=>c.rm_some q fun o z=>nomatch z) fun b v t q=>c.rm_some q (q92 t)
theorem HOk.add(x:HOk P w H h)(hc:∀b o,cs.lookup b=some o->H b=none/\h.get? b=some o):HOk P w (addC H cs) h:=fun a u e=>by
 cases q:cs.lookup a with
 |some o=>
  rw[q4d q]at e;cases e;exact⟨(hc a o q).2,trivial,⟨o,(hc a o q).2⟩,fun _ _ _ _=>trivial⟩
 |none=>
  rw[q0w q]at e
  have out:∀b v,H b=some v->addC H cs b=some v:=fun b v z=>by
   cases q2:cs.lookup b with
   |some o=>rw[(hc b o q2).1]at z;cases z
   |none=>rw[q0w q2];exact z
  exact(x a u e).stay (fun b v _ q=>q) (fun b q=>out b _ q) fun b v t q=>out b v q
theorem y6u{o:Obj}{q:Str}(x:HOk P w H h)(e:H f=some (fnO o q c)):h.get? f=some o/\h.CodeRec (.ref c) q:=by
 obtain⟨h1,h2⟩:=(show h.get? f=some o/\ObjOk P w H h f (.tbl #[.bool false,.str q 0,.ref c])from x f _ e);refine⟨h1,?_⟩;rcases h2 with⟨_,_,p0,_⟩|⟨q',c',oc,ob,vs,t,_,p1,p2,h3,h4,h5,_⟩
 ·cases p0
 ·cases p1;cases p2;exact⟨c,oc,vs,t,rfl,(show h.get? c=some oc/\_ from x c _ h3).1,h4,h5⟩
theorem Un.cells(u:Un fs ex (rmC H cs) H' h h')(c:CelsIn H cs):Un fs ex H (addC H' cs) h h' where
 keep:=fun b o q n hb hx=>u.keep b o q (q6h n) hb hx
 slot:=fun b o q n hb hx=>u.slot b o q (q6h n) hb hx
 free:=fun b o q n hx=>by rw[q0w (c.out n)];exact u.free b o q (q6h n) hx
 there:=u.there
 tups:=fun b xs q=>by
  have z:=c.out' q fun o z=>nomatch z
  rw[q0w z];exact u.tups b xs (by rw[q18 z];exact q)
 frzs:=fun b o v q=>by
  cases z:cs.lookup b with
  |some o'=>
   rw[q4d z];rw[c b o' z]at q;exact q
  |none=>rw[q0w z];exact u.frzs b o v (by rw[q18 z];exact q)
 tbls:=fun b ps q=>by
  have z:=c.out' q fun o z=>nomatch z
  rw[q0w z];exact u.tbls b ps (by rw[q18 z];exact q)
theorem Un.nocells(u:Un fs ex (addC H cs) H' h h')(hok:HOk P w H' h')(hc:∀b o,cs.lookup b=some o->H b=none/\h.get? b=some o):Un fs ex H (rmC H' cs) h h':=by
 have inn:∀b o,cs.lookup b=some o->H' b=some (celO o)/\h'.get? b=some o:=fun b o z=>by
  have q:=u.frzs b o _ (q4d z);exact⟨q,(show h'.get? b=some o/\_ from hok b _ q).1⟩
 refine⟨fun b o q n hb hx=>?_,fun b o q n hb hx=>?_,fun b o q n hx=>?_,u.there,fun b xs q=>?_,fun b o v q=>?_,fun b ps q=>?_⟩
 ·cases z:cs.lookup b with
  |some o'=>
   have:=(hc b o' z).2;rw[q]at this;cases this;exact(inn b _ z).2
  |none=>exact u.keep b o q (by rw[q0w z];exact n) hb hx
 ·cases z:cs.lookup b with
  |some o'=>
   have:=(hc b o' z).2;rw[q]at this;cases this;exact⟨o.slots,(inn b _ z).2⟩
  |none=>exact u.slot b o q (by rw[q0w z];exact n) hb hx
 ·cases z:cs.lookup b with
  |some o'=>exact q6g z
  |none=>rw[q18 z];exact u.free b o q (by rw[q0w z];exact n) hx
 ·have z:cs.lookup b=none:=by
   cases z:cs.lookup b with
   |some o'=>rw[(hc b o' z).1]at q;cases q
   |none=>rfl
  rw[q18 z];exact u.tups b xs (by rw[q0w z];exact q)
 ·have z:cs.lookup b=none:=by
   cases z:cs.lookup b with
   |some o'=>rw[(hc b o' z).1]at q;cases q
   |none=>rfl
  rw[q18 z];exact u.frzs b o v (by rw[q0w z];exact q)
 ·have z:cs.lookup b=none:=by
   cases z:cs.lookup b with
   |some o'=>rw[(hc b o' z).1]at q;cases q
   |none=>rfl
  rw[q18 z];exact u.tbls b ps (by rw[q0w z];exact q)
end
noncomputable abbrev lamEnv(qual:Str)(scope:Scope)(f:Addr)(cd:Value)(cl:List (Str×Addr))(s:Shared):Env:=PySem.W.envX qual scope s.heap.objs.size f cd cl
noncomputable def cxLam(P:Program)(w:World)(K:PySem.W.Frag)(mg:Str->Option Value)(base:Heap)(N:List Str)(qual:Str)(scope:Scope)(f:Addr)(cd:Value)(cl:List (Str×Addr))(A:Around)(outer:List Env)(s:Shared)(H:Hp):Cx where
 prog:=P
 w:=w
 K:=K
 mg:=mg
 base:=base
 A:=A.deeper (lamEnv qual scope f cd cl s)
 N:=N
 s₀:=s
 H₀:=H
 env:=lamEnv qual scope f cd cl s
 outer:=outer
 stack:=lamEnv qual scope f cd cl s::outer
 ex:=[]
 calm:=true
 fn:=fun _=>false
 pn:=[]
 xe:=fun _ _=>False
structure LamScope(ps Nf:List Str)(sc:Scope):Prop where
 kind:sc.kind=.function
 co:sc.isCoroutine=false
 gen:sc.isGenerator=false
 nd:ps.Nodup
 nocell:∀y∈sc.names,y.2≠.cell
 par:∀x∈ps,sc.names.lookup x=some .local
 fr:∀y∈Nf,sc.names.lookup y=some .free
structure LamCells(cl:List (Str×Addr))(Nf:List Str)(sc:Scope)(zs:List V)(h:Heap)(cs:Cs):Prop where
 inj:∀x y c,cl.lookup x=some c->cl.lookup y=some c->x=y
 has:∀x,(x,NameKind.free)∈sc.names->∃c,cl.lookup x=some c
 all:∀x c,cl.lookup x=some c->∃o,cs.lookup c=some o
 cel:∀c o,cs.lookup c=some o->h.get? c=some o/\∃v,o.data=.cell v
 val:∀(i:Nat) y z,Nf[i]?=some y->zs[i]?=some z->∃c o u,cl.lookup y=some c/\cs.lookup c=some o/\o.data=.cell (some u)/\RelV z u
section
variable{mg:Str->Option Value}{base:Heap}{Nf:List Str}{qual:Str}{scope:Scope}{cd:Value}{cl:List (Str×Addr)}{outer:List Env}{us:List Value}{vs zs:List V}
theorem y3z{v:Value}:∀{ps:List Str}{us:List Value}{i:Nat},ps.Nodup->ps[i]?=some x->us[i]?=some v->(ps.zip us).reverse.lookup x=some v:=by
 intro ps us i nd h1 h2;have hm:(x,v)∈(ps.zip us).reverse:=List.mem_reverse.mpr (w1g (i:=i) (by rw[w3x];exact⟨h1,h2⟩))
 have hn:((ps.zip us).reverse.map (·.1)).Nodup:=by
  rw[List.map_reverse];show List.Pairwise (·≠·) _;rw[List.pairwise_reverse];refine List.Pairwise.imp (fun h=>Ne.symm h) (show((ps.zip us).map (·.1)).Nodup from ?_)
  exact nd.sublist (by
   clear hm h1 h2
   induction ps generalizing us with
   |nil=>simp
   |cons p ps ih=>cases us with
    |nil=>simp
    |cons u us=>simpa using ih (us:=us) (w1w.mp nd).2)
 generalize (ps.zip us).reverse=l at hm hn
 induction l with
 |nil=>cases hm
 |cons p l ih=>
  obtain⟨y,z⟩:=p;rw[w0z];rcases w0h.mp hm with e|hm2
  ·cases e;simp
  ·have hne:(x==y)=false:=by
    rw[beq_eq_false_iff_ne];rintro rfl;exact(w1w.mp hn).1 (w1f.mpr ⟨(x,v),hm2,rfl⟩)
   rw[hne];exact ih hm2 (w1w.mp hn).2
theorem y6v{h₁:Heap}{tk:Nat}(S:LamScope ps Nf scope)(C:LamCells cl Nf scope zs s.heap cs)(hd:A.handled=none)(e0:Env0 P w K mg base A outer s H)(hn:∀c o,cs.lookup c=some o->H c=none)
  (hl:vs.length=ps.length)(hz:zs.length=Nf.length)(r:Vals vs us)
  (ns:h₁.Ns s.heap.objs.size (fun x=>(ps.zip us).reverse.lookup x))(hs:Heap.SameBut s.heap.objs.size (s.heap.push {cls:=.type "frame", data:=.dict #[]}) h₁):
  Inv (cxLam P w K mg base (ps++Nf) qual scope f cd cl A outer s H) [] (vs.map some++zs.map some) H {s with heap:=h₁,toks:=tk}:=by
 have hk:∀b o,s.heap.get? b=some o->h₁.get? b=some o:=fun b o e=>hs.extBut b o (w0r (Heap.lt_size e)) (Heap.get?_push_of_some _ e)
 have noA:∀b:Addr,b∉([]:List Addr):=fun b z=>nomatch z
 have nofree:∀x c,cl.lookup x=some c->H c=none/\∃o,s.heap.get? c=some o/\∃v,o.data=.cell v:=fun x c e=>by
  obtain⟨o,q⟩:=C.all x c e;exact⟨hn c o q,o,C.cel c o q⟩
 refine⟨⟨e0.mod,S.kind,rfl,rfl,w0f _,C.inj,fun y hy=>?_,(fun x c z=>nomatch z),fun _=>hd,Around.frames_deeper e0.frames,.inr ⟨rfl,rfl⟩,fun b z=>absurd z (noA b),e0.bs,e0.bsz,fun b _ _=>noA b,fun b z=>absurd z (noA b),e0.funs,e0.frf,e0.tab⟩,
  rfl,e0.bare,Un.kept hk,⟨_,ns,fun i y v h1 h2 h3=>?_⟩,fun y c h=>?_,e0.hok.fresh (w0f _),fun y c h=>(nofree y c h).1,fun p hp=>absurd (show p∈([]:List (Addr×Obj))from hp) (by simp),e0.hok.kept hk,?_⟩
 ·have hy:scope.names.lookup y=some .cell\/scope.names.lookup y=some .free:=hy;rcases hy with hy|hy
  ·exact absurd rfl (S.nocell _ (PySem.mem_of_lookup hy))
  ·exact C.has y (PySem.mem_of_lookup hy)
 ·have h1:(ps++Nf)[i]?=some y:=h1
  by_cases hi:i<ps.length
  ·rw[w1q (by simpa [hl]using hi),w0w]at h2;rw[w1q hi]at h1
   have ha:vs[i]?=some v:=by
    cases e:vs[i]? with
    |none=>rw[e]at h2;cases h2
    |some a=>rw[e]at h2;cases h2;rfl
   obtain⟨u,hu,rv⟩:=r.get ha;exact⟨u,rv,.inl ⟨S.par y (w1g h1),y3z S.nd h1 hu⟩⟩
  ·have hi':ps.length<=i:=w5j.mp hi;rw[w1p (by simpa [hl]using hi'),w0w,w0a,hl]at h2;rw[w1p hi']at h1
   have ha:zs[i-ps.length]?=some v:=by
    cases e:zs[i-ps.length]? with
    |none=>rw[e]at h2;cases h2
    |some a=>rw[e]at h2;cases h2;rfl
   obtain⟨c,o,u,e1,e2,e3,e4⟩:=C.val _ _ _ h1 ha;exact⟨u,e4,.inr ⟨.inr (S.fr y (w1g h1)),c,e1,o,hk _ _ (C.cel c o e2).1,e3⟩⟩
 ·obtain⟨_,o,q,v,d⟩:=nofree y c h;exact⟨v,o,hk _ _ q,d⟩
 ·show _=(ps++Nf).length;simp[hl,hz]
theorem y6w{CX:CXT}{name:Str}{params:Arguments}{body:Expr}{pm ctv:Value}{c':Addr}{t:TE}{Q:VK}{E:XK}
  (hr:Room (k+1) A)(e0:Env0 P w K mg base A outer s H)(hf:H f=some (fnO (kla_obj name qual params body scope cl pm c' ctv) qual c'))
  (S:LamScope ps Nf scope)(CI:CelsIn H cs)(C:LamCells cl Nf scope zs s.heap cs)(hbind:bindArgs (kla_fn name qual params body scope cl pm (.ref c') ctv) ⟨us,[]⟩=pure (ps.zip us))
  (hl:vs.length=ps.length)(hz:zs.length=Nf.length)(r:Vals vs us)
  (hb:PE (cxLam P w K mg base (ps++Nf) qual scope f (.ref c') cl A outer s (rmC H cs)) body t)(hq:t (vs.map some++zs.map some) (rmC H cs) fun v H'=>(∀b o,cs.lookup b=some o->H' b=none)->Q v (addC H' cs)):
  codeAny (model P w) A (.call (.ref f) ⟨us,[]⟩) (CR CX outer P w H s Q E) s:=by
 have lim:s.heap.NoLimit:=e0.mod.nolimit.keeps fun b o e=>(e0.bs b o e).1
 obtain⟨hfo,hcd⟩:=y6u e0.hok hf
 have e1:Env0 P w K mg base A outer s (rmC H cs):=⟨e0.frames,e0.mod,fun b o q=>⟨(e0.bs b o q).1,q6h (e0.bs b o q).2⟩,e0.bsz,e0.funs,fun b hb=>q6h (e0.frf b hb),e0.hok.rm CI,e0.bare,fun a q P m=>by
  obtain⟨ps,e,p⟩:=e0.tab a q P m;exact⟨ps,CI.rm_some e (fun o z=>nomatch z),p⟩⟩
 refine PySem.W.kla_callFunE hr.depth hfo rfl S.co S.gen rfl hcd ?_;rw[hbind];refine wpAny_pure (wpAny_newFunctionEnv S.nocell (fun y hy=>S.par y.1 (w3a hy).1) (fun h₁ hns hsb=>⟨lim.fresh _ hsb,?_⟩) S.kind)
 show codeAny _ _ (.expr body (lamEnv qual scope f (.ref c') cl s)) _ _;have I:=y6v (tk:=s.toks+(ps.zip us).length) (qual:=qual) (f:=f) (cd:=.ref c') S C hr.hd e1 (fun c o q=>q6g q) hl hz r hns hsb
 refine PySem.W.kla_codeExpr (wpAny_mono (hb [] _ _ _ _ I hq) (fun u s' hs'=>?_) fun e s' z=>False.elim z)
 obtain⟨v,H',J,rv,q⟩:=hs';have un:Un (frs outer) [] (rmC H cs) H' s.heap s'.heap:=J.base;refine⟨v,addC H' cs,J.os,J.bare,un.cells CI,J.hok.add fun b o z=>?_,rv,q fun b o z=>un.free b o (C.cel b o z).1 (q6g z) (by simp)⟩
 have nf:b∉frs outer:=fun hb=>by
  have:=e0.frf b hb;rw[CI b o z]at this;cases this
 have g:=(C.cel b o z).1;exact⟨un.free b o g (q6g z) (by simp),un.keep b o g (q6g z) nf (by simp)⟩
end
def FnV(P:Program)(w:World)(K:PySem.W.Frag)(mg:Str->Option Value)(base:Heap)(CX:CXT)(k:Nat)(sp:V->List V->Hp->VK->XK->Prop):Prop:=∀(x:V)(vs:List V)(H:Hp)(Q:VK)(E:XK),sp x vs H Q E ->
 ∃f oc od fd sl u,x=.ref f/\H f=some (.frz ⟨oc,od,.func fd,sl⟩ u)/\∀(A:Around)(outer:List Env)(s:Shared)(us:List Value),Room k A->Env0 P w K mg base A outer s H->Vals vs us ->
  codeAny (model P w) A (.call (.ref f) ⟨us,[]⟩) (CR CX outer P w H s Q E) s
theorem x9t{pos':Pos}{a b:Int}{c cv:Value}(l:List Value)(h:TriplesOk l)(z:codeAmong pos' (l++[rawInt a,rawInt b,c])=some cv):codeAmong pos' l=some cv\/cv=c:=by
 fun_induction TriplesOk l with
 |case1=>
  simp only[w4n,codeAmong,rawInt]at z;split at z
  ·cases z;exact .inr rfl
  ·cases z
 |case2 x t y u v rest ih=>
  simp only[List.cons_append,codeAmong]at z |-
  split at z
  ·rename_i hc;rw[if_pos hc];exact .inl z
  ·rename_i hc;rw[if_neg hc];exact ih h z
 |case3=>exact h.elim
def BMain(h:Heap)(mg:Str->Option Value):Prop:=∃bm ob,mg "__builtins__"=some (.ref bm)/\bm≠builtinsNs/\h.get? bm=some ob/\ob.cls=.type "module" /\ ob.dict=some builtinsNs/\ob.data=.plain
def LamAt(X:Cx)(params:Arguments)(body:Expr)(scope:Scope)(clos:List (Str×Addr))(f:Addr)(H H':Hp):Prop:=closureFor scope X.env=pure clos/\∃(H1:Hp)(pm ctv:Value)(c':Addr),(H1=H\/∃c oc,H c=none/\H1=upd H c (rawO oc))/\H1 f=none /\
 H'=upd H1 f (fnO (kla_obj "<lambda>" (X.env.qual++"<lambda>") params body scope clos pm c' ctv) (X.env.qual++"<lambda>") c')
def tLam(X:Cx)(params:Arguments)(body:Expr)(scope:Scope):TE:=fun _ H Q=>∀f clos H',LamAt X params body scope clos f H H'->Q (.ref f) H'
structure Maker(X:Cx):Prop where
 ex:∃c P a,X.env.code=.ref c/\codeHdIn X.K c P=true/\(a,markO P (X.env.qual++"<lambda>"))∈X.K
 bm:BMain X.base X.mg
section
variable{params:Arguments}{body:Expr}{scope:Scope}{lpos:Pos}
theorem z0j(M:Maker X)(hdef:defaultsOf params X.env=([],[]))(hfree:∀x∈scope.names,x.2=.free->X.env.kindOf x.1=some .cell\/X.env.kindOf x.1=some .free):
  PE X (.Lambda params body scope lpos) (tLam X params body scope):=by
 intro pins s σ H Q I h;obtain⟨clos,hclos,_,_⟩:=q51 (scope:=scope) (env:=X.env) fun x hx hf=>I.ok.has x.1 (hfree x hx hf)
 obtain⟨c,P,a,hcode,hch,hmk⟩:=M.ex;have hhd:=PySem.W.codeHd_of_K I.mod.kin hch;obtain⟨ps,hP,p0,p1⟩:=I.ok.tab a _ P hmk;obtain⟨more,eP⟩:=I.base.tbls P ps hP
 have q0:(ps++more)[0]?=some (.bool true):=by
  rw[w1o (by obtain⟨z,_⟩:=w1x.mp p0;exact z)];exact p0
 have q1:(ps++more)[1]?=some (.str (X.env.qual++"<lambda>") 0):=by
  rw[w1o (by obtain⟨z,_⟩:=w1x.mp p1;exact z)];exact p1
 have oP:ObjOk X.prog X.w H s.heap P (.tbl (ps++more)):=I.hok P _ eP;rcases oP with⟨q,qs,r0,r1,g1,tr,cd⟩|⟨_,_,_,_,_,_,r0,_⟩
 case inr=>rw[q0]at r0;cases r0
 rw[q1]at r1;cases r1;have nP:∀b,H b=none->b≠P:=fun b n z=>by rw[z,eP]at n;cases n
 have hgP:mainGlobals≠P:=by
  obtain⟨o,es,ep,e,_⟩:=I.mod.glob;exact nP _ (I.bs _ o e).2
 have hB:s.heap.BuiltinsAt X.mg P:=by
  obtain⟨bm,ob,b1,b2,b3,b4,b5,b6⟩:=M.bm;refine⟨bm,ob,b1,b2,fun z=>?_,nP _ (I.bs bm ob b3).2,(I.bs bm ob b3).1,b4,b5,b6⟩
  obtain⟨o,es,ep,e,d,_⟩:=I.mod.glob;rw[z,e]at b3;cases b3;rw[d]at b6;cases b6
 have hns:=I.mod.glob.keeps I.bk;refine PySem.W.kla_eval hdef ?_;cases hc:codeAmong lpos qs.toList with
 |some cv=>
  obtain⟨c',oc,vs,t,rfl,k1,k2,k3⟩:=cd lpos cv hc;refine PySem.W.kla_makeFunctionHit (mg:=X.mg) hclos I.ok.glob hns hcode (hhd.keeps I.bk) g1 tr hc hB fun ctv h' tk hk hsz=>?_
  have fr:H h'.objs.size=none:=I.hok.fresh hsz;refine⟨.ref h'.objs.size,_,I.laid (t':=tk) (fun b u e=>Heap.get?_push_of_some _ (hk b u e)) hsz ?_,rfl,h _ clos _ ⟨hclos,H,(X.mg "__name__").getD .none,ctv,c',.inl rfl,fr,rfl⟩⟩
  exact⟨Heap.get?_push_size _ rfl,.inr ⟨_,c',oc,_,vs,t,rfl,rfl,rfl,by rw[q0c (q0q k1 fr)];exact k1,k2,k3,Heap.get?_push_size _ rfl⟩⟩
 |none=>
  refine PySem.W.kla_makeFunction (mg:=X.mg) hclos I.ok.glob hns hcode (hhd.keeps I.bk) g1 tr hc hgP hB fun c' ctv h' tk hx hge hlt hrec htb=>?_
  obtain⟨c2,oc,vs,t,ec,hoc,hd,hv⟩:=hrec;cases ec;have fc:H c'=none:=I.hok.fresh hge;have hne:∀b u,H b=some u->b≠c':=fun b u z=>q0q z fc
  have kp:∀b o,H b=none->s.heap.get? b=some o->h'.get? b=some o:=fun b o n e=>hx b o (nP b n) e
  have hok1:HOk X.prog X.w (upd H c' (rawO oc)) h':=fun a u e=>by
   by_cases ha:a=c'
   ·subst ha;rw[q0l]at e;cases e;exact⟨hoc,oc,hoc⟩
   ·rw[q0c ha]at e
    by_cases haP:a=P
    ·subst haP;rw[eP]at e;cases e;refine .inl ⟨_,_,q0,q1,htb,?_,fun pos cv z=>?_⟩
     ·rw[w4x];exact TriplesOk_snoc _ _ _ _ tr
     ·rw[w4x]at z;rcases x9t _ tr z with z|z
      ·obtain⟨d,od,vd,td,k0,k1,k2,k3⟩:=cd pos cv z;exact⟨d,od,vd,td,k0,by rw[q0c (hne d _ k1)];exact k1,k2,k3⟩
      ·exact⟨c',oc,vs,t,z,q0l,hd,hv⟩
    ·refine(I.hok a u e).stay (fun b v hb q=>hx b v ?_ q) (fun b q=>by rw[q0c (hne b _ q)];exact q) fun b v _ q=>by rw[q0c (hne b _ q)];exact q
     rcases hb with rfl|hb
     ·exact haP
     ·rintro rfl;rw[eP]at hb;cases hb
  have un:Un X.fs [] H (upd H c' (rawO oc)) s.heap h':=by
   refine⟨fun b o q n _ _=>kp b o n q,fun b o q n _ _=>⟨o.slots,kp b o n q⟩,fun b o q n _=>?_,fun b o q _=>?_,fun b xs q=>by rw[q0c (hne b _ q)];exact q,fun b o u q=>by rw[q0c (hne b _ q)];exact q,fun b qs q=>⟨#[],by rw[q0c (hne b _ q),q];simp⟩⟩
   ·rw[q0c (w0r (w0v (Heap.lt_size q) hge))];exact n
   ·by_cases hb:b=P
    ·subst hb;exact⟨_,htb⟩
    ·exact⟨o,hx b o hb q⟩
  have I1:Inv X pins σ (upd H c' (rawO oc)) {s with heap:=h',toks:=tk}:=I.un un hok1;have f1:upd H c' (rawO oc) h'.objs.size=none:=I1.hok.fresh (w0f _);refine⟨.ref h'.objs.size,_,I1.laid (t':=tk) (fun b u e=>Heap.get?_push_of_some _ e) (w0f _) ?_,rfl,h _ clos _ ⟨hclos,_,(X.mg "__name__").getD .none,ctv,c',.inr ⟨c',oc,fc,rfl⟩,f1,rfl⟩⟩
  exact⟨Heap.get?_push_size _ rfl,.inr ⟨_,c',oc,_,vs,t,rfl,rfl,rfl,by rw[q0c (q0q q0l f1)];exact q0l,hd,hv,Heap.get?_push_size _ rfl⟩⟩
end
theorem q93{α:Type}{k:Addr}{v:α}:∀{l:List (Addr×α)},(k,v)∈l->∃v',l.lookup k=some v'
 |[],h=>nomatch h
 |(a,b)::l,h=>by
  rw[w0z]
  by_cases e:(k==a)=true
  ·rw[e];exact⟨b,rfl⟩
  ·rw[w1i.mpr e];rcases w0h.mp h with z|z
   ·cases z;simp at e
   ·exact q93 z
noncomputable def celsAt(clos:List (Str×Addr))(h:Heap):Cs:=(clos.map (·.1)).filterMap fun x=>(clos.lookup x).bind fun c=>(h.get? c).map fun o=>(c,o)
theorem q94{clos:List (Str×Addr)}{o:Obj}(e:(celsAt clos h).lookup c=some o):∃x,clos.lookup x=some c/\h.get? c=some o:=by
 obtain⟨x,_,hx⟩:=w2n.mp (PySem.W.mem_of_lookupK e);obtain⟨c',e1,e2⟩:=w4b.mp hx;obtain⟨o',e3,e4⟩:=w0o.mp e2;cases e4;exact⟨x,e1,e3⟩
theorem x1g{clos:List (Str×Addr)}{o:Obj}(e:clos.lookup x=some c)(g:h.get? c=some o):(celsAt clos h).lookup c=some o:=by
 have hm:(c,o)∈celsAt clos h:=w2n.mpr ⟨x,w1f.mpr ⟨(x,c),PySem.mem_of_lookup e,rfl⟩,by rw[e];show(h.get? c).map _=_;rw[g];rfl⟩;obtain⟨o',e'⟩:=q93 hm;obtain⟨_,_,g'⟩:=q94 e';rw[g]at g';cases g';exact e'
structure CellsOf(clos:List (Str×Addr))(Nf:List Str)(scope:Scope)(js:List Nat)(σ:St)(H:Hp)(cs:Cs):Prop where
 inj:∀x y c,clos.lookup x=some c->clos.lookup y=some c->x=y
 has:∀x,(x,NameKind.free)∈scope.names->∃c,clos.lookup x=some c
 all:∀x c,clos.lookup x=some c->∃o,cs.lookup c=some o
 cel:∀c o,cs.lookup c=some o->H c=none/\∃v,o.data=.cell v
 val:∀(i:Nat) y j z,Nf[i]?=some y->js[i]?=some j->σ[j]?=some (some z)->∃c o u,clos.lookup y=some c/\cs.lookup c=some o/\o.data=.cell (some u)/\RelV z u
theorem pure_inj{α:Type}{a b:α}(h:(pure a:Sem α)=pure b):a=b:=by
 first
  |exact PySem.Sem.pure_inj h
  |(injection h)
  |(cases h;rfl)
set_option maxHeartbeats 1000000
noncomputable def Sh.isI:Sh->Bool
 |.int=>true
 |_=>false
end L2
namespace D
open PySem L2
variable{a:Addr}{X:Cx}{G G' G1 H H' H1:Hp}{EE:L2.St->XK}{es:List Expr}{vs xs:List V}{r:List V->Hp->VK->Prop}{i k:Nat}{b:Option Nat}{p pos pos':Pos}{K:PySem.W.Frag}{sh:Sh}{σ:St}{st:Stmt}{x:Str}{α:Type}{v:V}
noncomputable abbrev Sv:=Int ⊕ Bool
inductive Dd where
 |k (kvs:List (Key×Sv))
structure Lm where
 qual:Str
 params:Arguments
 body:Expr
 scope:Scope
 nf:List Str
set_option genInjectivity true in
inductive W where
 |non|bl (b:Bool)|int (i:Int)|str (x:Str)|tup (xs:List W)|lst (xs:List W)|exc (c:Value)|dic (kvs:Dd)|dw (fz:Bool) (sh:Sh) (ks:List Kx) (ws:List W)|fn (i:Nat) (l:Lm) (ws:List W)
variable{ws:List W}{w:W}{f:W->W->Option W}
inductive SK where
 |old (w:W)|new (w:W)|acc (ws:List W)|thro (us ws vs:List W)|tn (us:List W) (wss:List (List W))|pt (us ws:List W) (w:W)|fz (w:W)|fzo (w:W)
inductive S where
 |no|fr (w:W)|own (io:Option Nat) (ws:List W)|dic (kvs:Dd)|thr (us ws vs:List W)|nest (wss:List (List W))|dw (sh:Sh) (ks:List Kx) (ws:List W)|x (k:SK)
variable{e e1:List S}{E:Value->List S->Prop}
noncomputable def SK.plain:SK->Option W
 |.old w=>some w
 |.new w=>some w
 |_=>none
noncomputable def SK.look:SK->Option W
 |.old w=>some w
 |.new w=>some w
 |.acc ws=>some (.lst ws)
 |_=>none
noncomputable def sV:Sv->V
 |.inl i=>.int i
 |.inr b=>.bl b
noncomputable def kvV{κ:Type}(kvs:List (κ×Sv)):List (κ×V):=kvs.map fun p=>(p.1,sV p.2)
noncomputable def dO:Dd->HO
 |.k kvs=>.dK (kvV kvs)
noncomputable def isDic:HO->Bool
 |.dK _=>true
 |_=>false
theorem q52{d:Dd}{u:HO}(h:isDic u=false):dO d≠u:=fun z=>by
 subst z;cases d<;>cases h
def KeysG(G:Hp):List Kx->List Addr->Prop
 |[],[]=>True
 |k::ks,b::bs=>KRep G k (.ref b)/\KeysG G ks bs
 |[],_::_=>False
 |_::_,[]=>False
theorem KeysG.mono(e:Same G G'):∀{ks:List Kx}{bs:List Addr},KeysG G ks bs->KeysG G' ks bs
 |[],[],_=>trivial
 |k::ks,b::bs,h=>⟨KRep.keeps (fun _ _ _ z=>e _ _ z) k h.1,KeysG.mono e h.2⟩
 |[],_::_,h=>h.elim
 |_::_,[],h=>h.elim
noncomputable def kxK:Kx->Key
 |.int i=>.inl i
 |_=>.inl 0
noncomputable def dwO(sh:Sh)(kvs:List (Kx×V))(kas:List Addr):HO:=if sh.isI=true then .dK (kvs.map fun p=>(kxK p.1,p.2))else .dT sh kvs kas
noncomputable def isDT:HO->Bool
 |.dK _=>true
 |.dT _ _ _=>true
 |_=>false
theorem q7k{kvs:List (Kx×V)}{kas:List Addr}{u:HO}(h:isDT u=false):dwO sh kvs kas≠u:=fun z=>by
 subst z;unfold dwO at h;split at h<;>cases h
def KeysS(sh:Sh)(G:Hp)(ks:List Kx)(kas:List Addr):Prop:=if sh.isI=true then ∀k∈ks,∃i,k=.int i else KeysG G ks kas
theorem KeysS.mono(e:Same G G'){ks:List Kx}{bs:List Addr}(h:KeysS sh G ks bs):KeysS sh G' ks bs:=by
 unfold KeysS at h |-
 split at h
 ·rename_i hi;rw[if_pos hi];exact h
 ·rename_i hi;rw[if_neg hi];exact h.mono e
def DAt(fz:Bool)(G:Hp)(a:Addr)(sh:Sh)(kvs:List (Kx×V))(kas:List Addr):Prop:=if fz=true then ∃o,G a=some (.frz o (dwO sh kvs kas))else G a=some (dwO sh kvs kas)
theorem DAt.mono{fz:Bool}{kvs:List (Kx×V)}{kas:List Addr}(e:Same G G')(h:DAt fz G a sh kvs kas):DAt fz G' a sh kvs kas:=by
 cases fz with
 |true=>obtain⟨o,h⟩:=h;exact⟨o,e _ _ h⟩
 |false=>exact e _ _ h
structure FnCells(G:Hp)(cl:List (Str×Addr))(l:Lm)(zs:List V)(cs:Cs):Prop where
 inj:∀x y c,cl.lookup x=some c->cl.lookup y=some c->x=y
 has:∀x,(x,NameKind.free)∈l.scope.names->∃c,cl.lookup x=some c
 all:∀x c,cl.lookup x=some c->∃o,cs.lookup c=some o
 cel:∀c o,cs.lookup c=some o->G c=some (celO o)/\∃v,o.data=.cell v
 val:∀(i:Nat) y z,l.nf[i]?=some y->zs[i]?=some z->∃c o u,cl.lookup y=some c/\cs.lookup c=some o/\o.data=.cell (some u)/\RelV z u
 len:zs.length=l.nf.length
theorem FnCells.mono{cl:List (Str×Addr)}{l:Lm}{zs:List V}{cs:Cs}(e:Same G G')(h:FnCells G cl l zs cs):FnCells G' cl l zs cs:=⟨h.inj,h.has,h.all,fun c o q=>⟨e _ _ (h.cel c o q).1,(h.cel c o q).2⟩,h.val,h.len⟩
def FnAtG(G:Hp)(l:Lm)(cl:List (Str×Addr))(f:Addr):Prop:=∃pm c' ctv,G f=some (fnO (kla_obj "<lambda>" l.qual l.params l.body l.scope cl pm c' ctv) l.qual c')
inductive RefTo(v:V)(P Q:Addr->List V->Prop):Prop where
 |mk (a:Addr) (xs:List V) (h:v=.ref a) (p:P a xs) (q:Q a xs):RefTo v P Q
inductive ConsOf(xs:List V)(P:V->Prop)(Q:List V->Prop):Prop where
 |mk (x:V) (r:List V) (h:xs=x::r) (p:P x) (q:Q r):ConsOf xs P Q
mutual
def Rep(K:PySem.W.Frag)(G:Hp):W->V->Prop
 |.non,v=>v=.non
 |.bl b,v=>v=.bl b
 |.int i,v=>v=.int i
 |.str x,v=>v=.str x
 |.tup ws,v=>RefTo v (SqT K G) fun _ xs=>Reps K G ws xs
 |.lst ws,v=>RefTo v (SqL K G) fun _ xs=>Reps K G ws xs
 |.exc c,v=>∃e,v=.ref e/\G e=some (excO e c)
 |.dic kvs,v=>∃e,v=.ref e/\G e=some (dO kvs)
 |.dw fz sh ks ws,v=>∃a kvs kas,v=.ref a/\DAt fz G a sh kvs kas/\kvs.map (·.1)=ks/\KeysS sh G ks kas/\Reps K G ws (kvs.map (·.2))
 |.fn _ l ws,v=>∃f cl zs cs,v=.ref f/\FnAtG G l cl f/\FnCells G cl l zs cs/\Reps K G ws zs
def Reps(K:PySem.W.Frag)(G:Hp):List W->List V->Prop
 |[],xs=>xs=[]
 |w::ws,xs=>ConsOf xs (Rep K G w) (Reps K G ws)
end
mutual
theorem Rep.mono{K:PySem.W.Frag}{G G':Hp}(e:Same G G'):∀(w:W){v:V},Rep K G w v->Rep K G' w v
 |.non,v,h=>h
 |.bl b,v,h=>h
 |.int i,v,h=>h
 |.str x,v,h=>h
 |.tup ws,v,h=>by
  obtain⟨a,xs,rfl,q,r⟩:=h;exact⟨a,xs,rfl,e.tup q,Reps.mono e ws r⟩
 |.lst ws,v,h=>by
  obtain⟨a,xs,rfl,q,r⟩:=h;exact⟨a,xs,rfl,e.seq q,Reps.mono e ws r⟩
 |.exc c,v,h=>by
  obtain⟨a,rfl,q⟩:=h;exact⟨a,rfl,e _ _ q⟩
 |.dic kvs,v,h=>by
  obtain⟨a,rfl,q⟩:=h;exact⟨a,rfl,e _ _ q⟩
 |.dw fz sh ks ws,v,h=>by
  obtain⟨a,kvs,kas,rfl,h1,h2,h3,h4⟩:=h;exact⟨a,kvs,kas,rfl,h1.mono e,h2,h3.mono e,Reps.mono e ws h4⟩
 |.fn i l ws,v,h=>by
  obtain⟨f,cl,zs,cs,rfl,⟨pm,c',ctv,h1⟩,h2,h3⟩:=h;exact⟨f,cl,zs,cs,rfl,⟨pm,c',ctv,e _ _ h1⟩,h2.mono e,Reps.mono e ws h3⟩
theorem Reps.mono{K:PySem.W.Frag}{G G':Hp}(e:Same G G'):∀(ws:List W){xs:List V},Reps K G ws xs->Reps K G' ws xs
 |[],xs,h=>h
 |w::ws,xs,h=>by
  obtain⟨x,r,rfl,h1,h2⟩:=h;exact⟨x,r,rfl,Rep.mono e w h1,Reps.mono e ws h2⟩
end
theorem Reps.length:∀{ws:List W}{xs:List V},Reps K G ws xs->xs.length=ws.length
 |[],xs,h=>by cases h;rfl
 |w::ws,xs,h=>by
  obtain⟨x,r,rfl,_,h2⟩:=h;simp[Reps.length h2]
theorem Reps.get:∀{ws:List W}{xs:List V}{i:Nat}{w:W},Reps K G ws xs->ws[i]?=some w->∃x,xs[i]?=some x/\Rep K G w x
 |[],xs,i,w,h,e=>by simp at e
 |w'::ws,xs,0,w,h,e=>by
  obtain⟨x,r,rfl,h1,h2⟩:=h;simp at e;subst e;exact⟨x,rfl,h1⟩
 |w'::ws,xs,i+1,w,h,e=>by
  obtain⟨x,r,rfl,h1,h2⟩:=h;obtain⟨y,e1,e2⟩:=Reps.get (i:=i) h2 (by simpa using e);exact⟨y,by simpa using e1,e2⟩
theorem Reps.getV:∀{ws:List W}{xs:List V}{i:Nat}{x:V},Reps K G ws xs->xs[i]?=some x->∃w,ws[i]?=some w/\Rep K G w x:=fun {ws xs i x} h e=>by
 have hl:=h.length;have hi:i<xs.length:=(w0d.mp e).1;have e2:ws[i]?=some ws[i]:=w0b (by omega);obtain⟨y,e3,r⟩:=h.get e2;rw[e]at e3;cases e3;exact⟨_,e2,r⟩
theorem Reps.append:∀{ws ws':List W}{xs xs':List V},Reps K G ws xs->Reps K G ws' xs'->Reps K G (ws++ws') (xs++xs')
 |[],ws',xs,xs',h,h'=>by cases h;exact h'
 |w::ws,ws',xs,xs',h,h'=>by
  obtain⟨x,r,rfl,h1,h2⟩:=h;exact⟨x,r++xs',rfl,h1,Reps.append h2 h'⟩
theorem Reps.one{x:V}(h:Rep K G w x):Reps K G [w] [x]:=⟨x,[],rfl,h,rfl⟩
theorem Reps.take:∀(n:Nat){ws:List W}{xs:List V},Reps K G ws xs->Reps K G (ws.take n) (xs.take n)
 |0,_,_,_=>rfl
 |n+1,[],_,h=>by cases h;rfl
 |n+1,w::ws,_,h=>by
  obtain⟨x,r,rfl,h1,h2⟩:=h;exact⟨x,r.take n,rfl,h1,Reps.take n h2⟩
theorem Reps.drop:∀(n:Nat){ws:List W}{xs:List V},Reps K G ws xs->Reps K G (ws.drop n) (xs.drop n)
 |0,_,_,h=>h
 |n+1,[],_,h=>by cases h;rfl
 |n+1,w::ws,_,h=>by
  obtain⟨x,r,rfl,h1,h2⟩:=h;exact Reps.drop n h2
theorem Reps.reverse:∀{ws:List W}{xs:List V},Reps K G ws xs->Reps K G ws.reverse xs.reverse
 |[],_,h=>by cases h;rfl
 |w::ws,_,h=>by
  obtain⟨x,r,rfl,h1,h2⟩:=h;rw[w1u,w1u];exact(Reps.reverse h2).append (.one h1)
structure Zt where
 H:Hp
 G:Hp
 io:List Addr
variable{Z Z':Zt}
def FzAt(Z:Zt)(G H:Hp)(l:Addr)(o:Obj)(ys:List V):Prop:=H l=some (.frz o (.lst ys))/\G l=none/\Z.H l=none
def NestIn(K:PySem.W.Frag)(Z:Zt)(G H:Hp):List Addr->List (List W)->Prop
 |[],[]=>True
 |l::ls,ws::wss=>(∃o ys,FzAt Z G H l o ys/\Reps K G ws ys)/\NestIn K Z G H ls wss
 |[],_::_=>False
 |_::_,[]=>False
inductive NestOk(K:PySem.W.Frag)(Z:Zt)(G H:Hp)(wss:List (List W))(v:Option V):Prop where
 |mk (a:Addr) (ls:List Addr) (h1:v=some (.ref a)) (h2:G a=some (.lst (ls.map V.ref))) (h3:ls.Nodup) (h4:NestIn K Z G H ls wss):NestOk K Z G H wss v
theorem NestIn.move(sg:Same G G')(hf:∀l o ys,H l=some (.frz o (.lst ys))->G l=none->Z.H l=none->H' l=some (.frz o (.lst ys))/\G' l=none/\Z'.H l=none):∀{ls:List Addr}{wss:List (List W)},NestIn K Z G H ls wss->NestIn K Z' G' H' ls wss
 |[],[],_=>trivial
 |l::ls,ws::wss,⟨⟨o,ys,⟨h1,h2,h3⟩,h4⟩,h⟩=>⟨⟨o,ys,hf l o ys h1 h2 h3,Reps.mono sg ws h4⟩,h.move sg hf⟩
 |[],_::_,h=>h.elim
 |_::_,[],h=>h.elim
theorem NestOk.move{wss:List (List W)}{v:Option V}(q:NestOk K Z G H wss v)(sg:Same G G')(hf:∀l o ys,H l=some (.frz o (.lst ys))->G l=none->Z.H l=none->H' l=some (.frz o (.lst ys))/\G' l=none/\Z'.H l=none):NestOk K Z' G' H' wss v:=by
 obtain⟨a,ls,h1,h2,h3,h4⟩:=q;exact⟨a,ls,h1,sg _ _ h2,h3,h4.move sg hf⟩
inductive DwOk(K:PySem.W.Frag)(Z:Zt)(G H:Hp)(sh:Sh)(ks:List Kx)(ws:List W)(v:Option V):Prop where
 |mk (a:Addr) (kvs:List (Kx×V)) (kas:List Addr) (h1:v=some (.ref a)) (h2:H a=some (dwO sh kvs kas)) (h3:G a=none) (h4:Z.H a=none) (h5:kvs.map (·.1)=ks) (h6:KeysS sh G ks kas) (h7:Reps K G ws (kvs.map (·.2))):DwOk K Z G H sh ks ws v
theorem DwOk.move{ks:List Kx}{v:Option V}(q:DwOk K Z G H sh ks ws v)(sg:Same G G')(hf:∀a kvs kas,H a=some (dwO sh kvs kas)->G a=none->Z.H a=none->H' a=some (dwO sh kvs kas)/\G' a=none/\Z'.H a=none):DwOk K Z' G' H' sh ks ws v:=by
 obtain⟨a,kvs,kas,h1,h2,h3,h4,h5,h6,h7⟩:=q;obtain⟨k1,k2,k3⟩:=hf a kvs kas h2 h3 h4;exact⟨a,kvs,kas,h1,k1,k2,k3,h5,h6.mono sg,Reps.mono sg ws h7⟩
mutual
def RepN(K:PySem.W.Frag)(Z:Zt)(G:Hp):W->V->Prop
 |.non,v=>v=.non
 |.bl b,v=>v=.bl b
 |.int i,v=>v=.int i
 |.str x,v=>v=.str x
 |.tup ws,v=>RefTo v (SqT K G) fun _ xs=>RepNs K Z G ws xs
 |.lst ws,v=>RefTo v (fun a xs=>G a=some (.lst xs)) fun a xs=>Z.H a=none/\RepNs K Z G ws xs
 |.exc _,_=>False
 |.dic _,_=>False
 |.dw _ _ _ _,_=>False
 |.fn _ _ _,_=>False
def RepNs(K:PySem.W.Frag)(Z:Zt)(G:Hp):List W->List V->Prop
 |[],xs=>xs=[]
 |w::ws,xs=>ConsOf xs (RepN K Z G w) (RepNs K Z G ws)
end
mutual
theorem RepN.rep{K:PySem.W.Frag}{Z:Zt}{G:Hp}:∀(w:W){v:V},RepN K Z G w v->Rep K G w v
 |.non,_,h=>h
 |.bl _,_,h=>h
 |.int _,_,h=>h
 |.str _,_,h=>h
 |.tup ws,_,⟨a,xs,e,q,r⟩=>⟨a,xs,e,q,RepNs.reps ws r⟩
 |.lst ws,_,⟨a,xs,e,q,_,r⟩=>⟨a,xs,e,.inl (.inl q),RepNs.reps ws r⟩
 |.exc _,_,h=>h.elim
 |.dic _,_,h=>h.elim
 |.dw _ _ _ _,_,h=>h.elim
 |.fn _ _ _,_,h=>h.elim
theorem RepNs.reps{K:PySem.W.Frag}{Z:Zt}{G:Hp}:∀(ws:List W){vs:List V},RepNs K Z G ws vs->Reps K G ws vs
 |[],_,h=>h
 |w::ws,_,⟨x,r,e,p,q⟩=>⟨x,r,e,RepN.rep w p,RepNs.reps ws q⟩
end
mutual
theorem RepN.move{K:PySem.W.Frag}{Z Z':Zt}{G G':Hp}(sg:Same G G')(hz:∀a xs,G a=some (.lst xs)->Z.H a=none->Z'.H a=none):∀(w:W){v:V},RepN K Z G w v->RepN K Z' G' w v
 |.non,_,h=>h
 |.bl _,_,h=>h
 |.int _,_,h=>h
 |.str _,_,h=>h
 |.tup ws,_,⟨a,xs,e,q,r⟩=>⟨a,xs,e,sg.tup q,RepNs.move sg hz ws r⟩
 |.lst ws,_,⟨a,xs,e,q,n,r⟩=>⟨a,xs,e,sg _ _ q,hz _ _ q n,RepNs.move sg hz ws r⟩
 |.exc _,_,h=>h.elim
 |.dic _,_,h=>h.elim
 |.dw _ _ _ _,_,h=>h.elim
 |.fn _ _ _,_,h=>h.elim
theorem RepNs.move{K:PySem.W.Frag}{Z Z':Zt}{G G':Hp}(sg:Same G G')(hz:∀a xs,G a=some (.lst xs)->Z.H a=none->Z'.H a=none):∀(ws:List W){vs:List V},RepNs K Z G ws vs->RepNs K Z' G' ws vs
 |[],_,h=>h
 |w::ws,_,⟨x,r,e,p,q⟩=>⟨x,r,e,RepN.move sg hz w p,RepNs.move sg hz ws q⟩
end
inductive AccOk(K:PySem.W.Frag)(Z:Zt)(G H:Hp)(ws:List W)(v:Option V):Prop where
 |mk (a:Addr) (o:Obj) (xs:List V) (h1:v=some (.ref a)) (h2:FzAt Z G H a o xs) (h3:RepNs K Z G ws xs):AccOk K Z G H ws v
inductive ThroOk(K:PySem.W.Frag)(Z:Zt)(G H:Hp)(us ws vs:List W)(v:Option V):Prop where
 |mk (t l:Addr) (o:Obj) (xs ys zs:List V) (h1:v=some (.ref t)) (h2:Z.G t=some (.tup (xs++.ref l::zs))) (h3:G t=some (.tup (xs++.ref l::zs))) (h4:FzAt Z G H l o ys) (h5:Reps K Z.G us xs/\Reps K Z.G ws ys/\Reps K Z.G vs zs) (h6:Reps K G us xs/\Reps K G ws ys/\Reps K G vs zs):ThroOk K Z G H us ws vs v
inductive TnOk(K:PySem.W.Frag)(Z:Zt)(G H:Hp)(us:List W)(wss:List (List W))(v:Option V):Prop where
 |mk (t l:Addr) (o:Obj) (ls:List Addr) (xs:List V) (h1:v=some (.ref t)) (h2:G t=some (.tup (xs++[.ref l]))) (h3:FzAt Z G H l o (ls.map V.ref)) (h4:ls.Nodup/\l∉ls) (h5:Reps K G us xs) (h6:NestIn K Z G H ls wss):TnOk K Z G H us wss v
inductive PtOk(K:PySem.W.Frag)(Z:Zt)(G H:Hp)(us ws:List W)(w:W)(v:Option V):Prop where
 |mk (p t l:Addr) (o:Obj) (xs ys:List V) (x:V) (h1:v=some (.ref p)) (h2:G p=some (.tup [.ref t,x])) (h3:G t=some (.tup (xs++[.ref l]))) (h4:FzAt Z G H l o ys) (h5:Reps K G us xs) (h6:Reps K G ws ys) (h7:Rep K G w x):PtOk K Z G H us ws w v
inductive ConsF(xs:List V)(as:List Addr)(P:V->List Addr->Prop)(Q:List V->List Addr->Prop):Prop where
 |mk (x:V) (r:List V) (b c:List Addr) (h:xs=x::r) (h':as=b++c) (p:P x b) (q:Q r c):ConsF xs as P Q
inductive LstF(as:List Addr)(a:Addr)(Q:List Addr->Prop):Prop where
 |mk (bs:List Addr) (h:as=a::bs) (q:Q bs):LstF as a Q
mutual
def RepF(K:PySem.W.Frag)(Z:Zt)(G H:Hp):W->V->List Addr->Prop
 |.non,v,as=>v=.non/\as=[]
 |.bl b,v,as=>v=.bl b/\as=[]
 |.int i,v,as=>v=.int i/\as=[]
 |.str x,v,as=>v=.str x/\as=[]
 |.tup ws,v,as=>RefTo v (SqT K G) fun _ xs=>RepFs K Z G H ws xs as
 |.lst ws,v,as=>RefTo v (fun a xs=>∃o,FzAt Z G H a o xs) fun a xs=>LstF as a (RepFs K Z G H ws xs)
 |.exc _,_,_=>False
 |.dic _,_,_=>False
 |.dw _ _ _ _,_,_=>False
 |.fn _ _ _,_,_=>False
def RepFs(K:PySem.W.Frag)(Z:Zt)(G H:Hp):List W->List V->List Addr->Prop
 |[],xs,as=>xs=[]/\as=[]
 |w::ws,xs,as=>ConsF xs as (RepF K Z G H w) (RepFs K Z G H ws)
end
mutual
theorem RepF.move{K:PySem.W.Frag}{Z Z':Zt}{G G' H H':Hp}(sg:Same G G'):∀(w:W){v:V}{as:List Addr},(∀l o ys,l∈as->FzAt Z G H l o ys->FzAt Z' G' H' l o ys)->RepF K Z G H w v as->RepF K Z' G' H' w v as
 |.non,_,_,_,h=>h
 |.bl _,_,_,_,h=>h
 |.int _,_,_,_,h=>h
 |.str _,_,_,_,h=>h
 |.tup ws,_,_,hf,⟨a,xs,e,q,r⟩=>⟨a,xs,e,sg.tup q,RepFs.move sg ws hf r⟩
 |.lst ws,_,_,hf,⟨a,xs,e,⟨o,q⟩,⟨bs,e2,r⟩⟩=>by
  subst e2;exact⟨a,xs,e,⟨o,hf _ _ _ (w0k ..) q⟩,bs,rfl,RepFs.move sg ws (fun l o ys z=>hf l o ys (w0g _ z)) r⟩
 |.exc _,_,_,_,h=>h.elim
 |.dic _,_,_,_,h=>h.elim
 |.dw _ _ _ _,_,_,_,h=>h.elim
 |.fn _ _ _,_,_,_,h=>h.elim
theorem RepFs.move{K:PySem.W.Frag}{Z Z':Zt}{G G' H H':Hp}(sg:Same G G'):∀(ws:List W){vs:List V}{as:List Addr},(∀l o ys,l∈as->FzAt Z G H l o ys->FzAt Z' G' H' l o ys)->RepFs K Z G H ws vs as->RepFs K Z' G' H' ws vs as
 |[],_,_,_,h=>h
 |w::ws,_,_,hf,⟨x,r,b,c,e,e2,p,q⟩=>by
  subst e2;exact⟨x,r,b,c,e,rfl,RepF.move sg w (fun l o ys z=>hf l o ys (w2w _ z)) p,RepFs.move sg ws (fun l o ys z=>hf l o ys (w0i _ z)) q⟩
end
mutual
theorem RepF.fzs{K:PySem.W.Frag}{Z:Zt}{G H:Hp}:∀(w:W){v:V}{as:List Addr},RepF K Z G H w v as->∀{l:Addr},l∈as->∃o ys,FzAt Z G H l o ys
 |.non,_,_,h,_,m=>by rw[h.2]at m;cases m
 |.bl _,_,_,h,_,m=>by rw[h.2]at m;cases m
 |.int _,_,_,h,_,m=>by rw[h.2]at m;cases m
 |.str _,_,_,h,_,m=>by rw[h.2]at m;cases m
 |.tup ws,_,_,⟨a,xs,e,q,r⟩,_,m=>RepFs.fzs ws r m
 |.lst ws,_,_,⟨a,xs,e,⟨o,q⟩,⟨bs,e2,r⟩⟩,l,m=>by
  subst e2;rcases w0h.mp m with rfl|m
  ·exact⟨o,xs,q⟩
  ·exact RepFs.fzs ws r m
 |.exc _,_,_,h,_,_=>h.elim
 |.dic _,_,_,h,_,_=>h.elim
 |.dw _ _ _ _,_,_,h,_,_=>h.elim
 |.fn _ _ _,_,_,h,_,_=>h.elim
theorem RepFs.fzs{K:PySem.W.Frag}{Z:Zt}{G H:Hp}:∀(ws:List W){vs:List V}{as:List Addr},RepFs K Z G H ws vs as->∀{l:Addr},l∈as->∃o ys,FzAt Z G H l o ys
 |[],_,_,h,_,m=>by rw[h.2]at m;cases m
 |w::ws,_,_,⟨x,r,b,c,e,e2,p,q⟩,l,m=>by
  subst e2;rcases w2e.mp m with m|m
  ·exact RepF.fzs w p m
  ·exact RepFs.fzs ws q m
end
inductive FzOk(K:PySem.W.Frag)(Z:Zt)(G H:Hp)(w:W)(v:Option V):Prop where
 |mk (u:V) (as:List Addr) (h1:v=some u) (h2:as.Nodup) (h3:RepF K Z G H w u as):FzOk K Z G H w v
inductive FzoOk(K:PySem.W.Frag)(Z:Zt)(G H:Hp)(w:W)(v:Option V):Prop where
 |mk (u:V) (as:List Addr) (h1:v=some u) (h2:as.Nodup) (h3:RepF K Z Z.G H w u as) (h4:RepF K Z G H w u as):FzoOk K Z G H w v
def XOk(K:PySem.W.Frag)(Z:Zt)(G H:Hp):SK->Option V->Prop
 |.old w,v=>∃u,v=some u/\Rep K Z.G w u/\Rep K G w u
 |.new w,v=>∃u,v=some u/\RepN K Z G w u
 |.acc ws,v=>AccOk K Z G H ws v
 |.thro us ws vs,v=>ThroOk K Z G H us ws vs v
 |.tn us wss,v=>TnOk K Z G H us wss v
 |.pt us ws w,v=>PtOk K Z G H us ws w v
 |.fz w,v=>FzOk K Z G H w v
 |.fzo w,v=>FzoOk K Z G H w v
theorem XOk.move{k:SK}{v:Option V}(q:XOk K Z G H k v)(sg:Same G G')(hf:∀l o ys,H l=some (.frz o (.lst ys))->G l=none->Z.H l=none->H' l=some (.frz o (.lst ys))/\G' l=none/\Z.H l=none):XOk K Z G' H' k v:=by
 cases k with
 |old w=>obtain⟨u,h1,h2,h3⟩:=q;exact⟨u,h1,h2,Rep.mono sg w h3⟩
 |new w=>obtain⟨u,h1,h2⟩:=q;exact⟨u,h1,RepN.move sg (fun _ _ _ z=>z) w h2⟩
 |acc ws=>obtain⟨a,o,xs,h1,⟨h2,h3,h4⟩,h5⟩:=q;exact⟨a,o,xs,h1,hf _ _ _ h2 h3 h4,RepNs.move sg (fun _ _ _ z=>z) ws h5⟩
 |tn us wss=>obtain⟨t,l,o,ls,xs,h1,h2,⟨h3,h4,h5⟩,h6,h7,h8⟩:=q;exact⟨t,l,o,ls,xs,h1,sg _ _ h2,hf _ _ _ h3 h4 h5,h6,Reps.mono sg us h7,h8.move sg hf⟩
 |pt us ws w=>obtain⟨p,t,l,o,xs,ys,x,h1,h2,h3,⟨h4,h5,h6⟩,h7,h8,h9⟩:=q;exact⟨p,t,l,o,xs,ys,x,h1,sg _ _ h2,sg _ _ h3,hf _ _ _ h4 h5 h6,Reps.mono sg us h7,Reps.mono sg ws h8,Rep.mono sg w h9⟩
 |fz w=>obtain⟨u,as,h1,h2,h3⟩:=q;exact⟨u,as,h1,h2,RepF.move sg w (fun l o ys _ ⟨k1,k2,k3⟩=>hf l o ys k1 k2 k3) h3⟩
 |fzo w=>obtain⟨u,as,h1,h2,h3,h4⟩:=q;exact⟨u,as,h1,h2,RepF.move (.refl _) w (fun l o ys hm k=>⟨(hf l o ys k.1 (let ⟨_,_,z⟩:=RepF.fzs w h4 hm;z.2.1) k.2.2).1,k.2.1,k.2.2⟩) h3,RepF.move sg w (fun l o ys _ ⟨k1,k2,k3⟩=>hf l o ys k1 k2 k3) h4⟩
 |thro us ws vs=>obtain⟨t,l,o,xs,ys,zs,h1,h2,h3,⟨h4,h5,h6⟩,h7,h8,h9,h10⟩:=q;exact⟨t,l,o,xs,ys,zs,h1,h2,sg _ _ h3,hf _ _ _ h4 h5 h6,h7,Reps.mono sg us h8,Reps.mono sg ws h9,Reps.mono sg vs h10⟩
def IoOk(Z:Zt):Option Nat->Addr->Prop
 |none,a=>Z.H a=none
 |some j,a=>Z.io[j]?=some a
theorem IoOk.io(h:IoOk Z b a):a∈Z.io\/Z.H a=none:=by
 cases b with
 |none=>exact .inr h
 |some j=>exact .inl (w1g h)
inductive OwnOk(K:PySem.W.Frag)(Z:Zt)(G H:Hp)(b:Option Nat)(ws:List W)(v:Option V):Prop where
 |mk (a:Addr) (xs:List V) (h1:v=some (.ref a)) (h2:H a=some (.lst xs)) (h3:G a=none) (h4:IoOk Z b a) (h5:Reps K G ws xs):OwnOk K Z G H b ws v
inductive DicOk(Z:Zt)(G H:Hp)(kvs:Dd)(v:Option V):Prop where
 |mk (a:Addr) (h1:v=some (.ref a)) (h2:H a=some (dO kvs)) (h3:G a=none) (h4:Z.H a=none):DicOk Z G H kvs v
inductive ThrOk(K:PySem.W.Frag)(Z:Zt)(G H:Hp)(us ws vs:List W)(v:Option V):Prop where
 |mk (t l:Addr) (o:Obj) (xs ys zs:List V) (h1:v=some (.ref t)) (h2:G t=some (.tup (xs++.ref l::zs))) (h3:H l=some (.frz o (.lst ys))) (h4:G l=none) (h5:Z.H l=none) (h6:Reps K G us xs/\Reps K G ws ys/\Reps K G vs zs):ThrOk K Z G H us ws vs v
def SlotOk(K:PySem.W.Frag)(Z:Zt)(G H:Hp):S->Option V->Prop
 |.no,_=>True
 |.fr w,v=>∃u,v=some u/\Rep K G w u
 |.own b ws,v=>OwnOk K Z G H b ws v
 |.dic kvs,v=>DicOk Z G H kvs v
 |.thr us ws vs,v=>ThrOk K Z G H us ws vs v
 |.nest wss,v=>NestOk K Z G H wss v
 |.dw sh ks ws,v=>DwOk K Z G H sh ks ws v
 |.x k,v=>XOk K Z G H k v
structure Rel(K:PySem.W.Frag)(Z:Zt)(G:Hp)(σ:St)(H:Hp)(e:List S):Prop where
 sub:Same G H
 slot:∀(i:Nat)(s:S),e[i]?=some s->SlotOk K Z G H s (σ[i]?.getD none)
 len:e.length=σ.length
 dis:∀(i j:Nat)(b b':Option Nat)(ws ws':List W)(a:Addr),e[i]?=some (.own b ws)->e[j]?=some (.own b' ws')->σ[i]?=some (some (.ref a))->σ[j]?=some (some (.ref a))->i=j
 ent:∀a o,Z.H a=some o->a∉Z.io->H a=some o
 ion:∀a∈Z.io,H a≠none
 gen:∀a,Z.H a≠none->G a=Z.G a
inductive AtG(K:PySem.W.Frag)(Z:Zt)(σ:St)(H:Hp)(P:Hp->List S->Prop):Prop where
 |mk (G:Hp) (e:List S) (r:Rel K Z G σ H e) (h:P G e):AtG K Z σ H P
structure Grow(G H G' H':Hp):Prop where
 hh:Same H H'
 gg:Same G G'
 sub:Same G' H'
 new:∀a,H a≠none->G' a=G a
theorem Grow.refl(s:Same G H):Grow G H G H:=⟨.refl _,.refl _,s,fun _ _=>rfl⟩
theorem Grow.trans{G2 H2:Hp}(x:Grow G H G1 H1)(y:Grow G1 H1 G2 H2):Grow G H G2 H2:=
 ⟨x.hh.trans y.hh,x.gg.trans y.gg,y.sub,fun a h=>by
  rw[y.new a,x.new a h];cases q:H a with
  |none=>exact absurd q h
  |some o=>rw[x.hh a o q];simp⟩
theorem y03(e:Same H H')(h:H a≠none):H' a≠none:=by
 cases q:H a with
 |none=>exact absurd q h
 |some o=>rw[e a o q];simp
theorem Grow.laid(s:Same G H){D:Addr}(h:H D=none)(o:HO):Grow G H (upd G D o) (upd H D o) where
 hh:=q4x h o
 gg:=q4x (s.free h) o
 sub:=fun b u e=>by
  by_cases hb:b=D
  ·subst hb;rw[q0l]at e |-;exact e
  ·rw[q0c hb]at e |-;exact s b u e
 new:=fun a ha=>by rw[q0c (fun z=>ha (by rw[z];exact h))]
theorem Grow.hid(s:Same G H){D:Addr}(h:H D=none)(o:HO):Grow G H G (upd H D o) where
 hh:=q4x h o
 gg:=.refl _
 sub:=fun b u e=>by
  have:=s b u e;rw[q0c (q0q this h)];exact this
 new:=fun a ha=>rfl
theorem Rel.grow(r:Rel K Z G σ H e)(g:Grow G H G' H'):Rel K Z G' σ H' e where
 sub:=g.sub
 slot:=fun i s h=>by
  have q:=r.slot i s h;cases s with
  |no=>trivial
  |fr w=>
   obtain⟨u,h1,h2⟩:=q;exact⟨u,h1,Rep.mono g.gg w h2⟩
  |own b ws=>
   obtain⟨a,xs,h1,h2,h3,h4,h5⟩:=q;exact⟨a,xs,h1,g.hh _ _ h2,by rw[g.new a (by rw[h2];simp)];exact h3,h4,Reps.mono g.gg ws h5⟩
  |dic kvs=>
   obtain⟨a,h1,h2,h3,h4⟩:=q;exact⟨a,h1,g.hh _ _ h2,by rw[g.new a (by rw[h2];simp)];exact h3,h4⟩
  |thr us ws vs=>
   obtain⟨t,l,o,xs,ys,zs,h1,h2,h3,h4,h5,h6,h7,h8⟩:=q;exact⟨t,l,o,xs,ys,zs,h1,g.gg _ _ h2,g.hh _ _ h3,by rw[g.new l (by rw[h3];simp)];exact h4,h5,Reps.mono g.gg us h6,Reps.mono g.gg ws h7,Reps.mono g.gg vs h8⟩
  |nest wss=>exact NestOk.move q g.gg fun l o ys h1 h2 h3=>⟨g.hh _ _ h1,by rw[g.new l (by rw[h1];simp)];exact h2,h3⟩
  |x k=>exact XOk.move q g.gg fun l o ys h1 h2 h3=>⟨g.hh _ _ h1,by rw[g.new l (by rw[h1];simp)];exact h2,h3⟩
  |dw sh ks ws=>exact DwOk.move q g.gg fun l o ys h1 h2 h3=>⟨g.hh _ _ h1,by rw[g.new l (by rw[h1];simp)];exact h2,h3⟩
 len:=r.len
 dis:=r.dis
 ent:=fun a o h n=>g.hh _ _ (r.ent a o h n)
 ion:=fun a h=>y03 g.hh (r.ion a h)
 gen:=fun a h=>by
  have:H a≠none:=by
   cases q:Z.H a with
   |none=>exact absurd q h
   |some o=>
    by_cases hi:a∈Z.io
    ·exact r.ion a hi
    ·rw[r.ent a o q hi];simp
  rw[g.new a this];exact r.gen a h
theorem Rel.own(r:Rel K Z G σ H e)(h:e[i]?=some (.own b ws)):∃a xs,σ[i]?=some (some (.ref a))/\H a=some (.lst xs)/\G a=none/\(IoOk Z b a)/\Reps K G ws xs:=by
 obtain⟨a,xs,h1,h2,h3,h4,h5⟩:=r.slot i _ h;refine⟨a,xs,?_,h2,h3,h4,h5⟩;cases q:σ[i]? with
 |none=>rw[q]at h1;cases h1
 |some z=>rw[q]at h1;rw[show z=some (V.ref a)from h1]
theorem Rel.fr(r:Rel K Z G σ H e)(h:e[i]?=some (.fr w)):∃v,σ[i]?=some (some v)/\Rep K G w v:=by
 obtain⟨v,h1,h2⟩:=r.slot i _ h;refine⟨v,?_,h2⟩;cases q:σ[i]? with
 |none=>rw[q]at h1;cases h1
 |some z=>rw[q]at h1;rw[show z=some v from h1]
theorem Rel.at(r:Rel K Z G σ H e){s:S}(h:e[i]?=some s)(hs:SlotOk K Z G H s (σ[i]?.getD none)->σ[i]?.getD none=some v):σ[i]?=some (some v):=by
 have h1:=hs (r.slot i _ h);cases q:σ[i]? with
 |none=>rw[q]at h1;cases h1
 |some z=>rw[q]at h1;rw[show z=some v from h1]
theorem Rel.plain(r:Rel K Z G σ H e){k:SK}(h:e[i]?=some (.x k))(hk:k.plain=some w):∃v,σ[i]?=some (some v)/\Rep K G w v:=by
 have q:=r.slot i _ h;cases k with
 |old w'=>cases hk;obtain⟨v,h1,_,h2⟩:=q;exact⟨v,r.at h fun _=>h1,h2⟩
 |new w'=>cases hk;obtain⟨v,h1,h2⟩:=q;exact⟨v,r.at h fun _=>h1,RepN.rep _ h2⟩
 |_=>cases hk
theorem Rel.mut(r:Rel K Z G σ H e){ws':List W}{xs':List V}(h:e[i]?=some (.own b ws))(ha:σ[i]?=some (some (.ref a)))(q:Reps K G ws' xs'):Rel K Z G σ (upd H a (.lst xs')) (e.set i (.own b ws')):=by
 obtain⟨a',xs,h1,h2,h3,h4,h5⟩:=r.own h;rw[ha]at h1;cases h1;have hi:i<e.length:=(w0d.mp h).1;refine⟨fun c o z=>?_,fun j s z=>?_,by simpa using r.len,fun j k b1 b2 w1 w2 c z1 z2 z3 z4=>?_,fun c o z n=>?_,fun c z=>?_,r.gen⟩
 ·rw[q0c (q0q z h3)];exact r.sub c o z
 ·by_cases hj:j=i
  ·subst hj;rw[w0y hi]at z;cases z;exact⟨a,xs',by rw[ha];rfl,q0l,h3,h4,q⟩
  ·rw[w1a (fun z=>hj z.symm)]at z
   have y:=r.slot j s z;cases s with
   |no=>trivial
   |fr w=>exact y
   |own b2 w2=>
    obtain⟨c,ys,y1,y2,y3,y4,y5⟩:=y;refine⟨c,ys,y1,?_,y3,y4,y5⟩;rw[q0c];exact y2;rintro rfl;obtain⟨c',_,z1,_⟩:=r.own z;rw[z1]at y1;cases y1;exact hj (r.dis j i _ _ _ _ _ z h z1 ha)
   |dic kvs=>
    obtain⟨c,y1,y2,y3,y4⟩:=y;refine⟨c,y1,?_,y3,y4⟩;rw[q0c (q06 y2 h2 (q52 rfl))];exact y2
   |thr us w2 vs=>
    obtain⟨t,l,o,xs2,ys,zs,y1,y2,y3,y4,y5,y6⟩:=y;refine⟨t,l,o,xs2,ys,zs,y1,y2,?_,y4,y5,y6⟩;rw[q0c (q06 y3 h2 (fun z=>nomatch z))];exact y3
   |nest wss=>exact NestOk.move y (.refl _) fun l o ys k1 k2 k3=>⟨by rw[q0c (q06 k1 h2 (fun z=>nomatch z))];exact k1,k2,k3⟩
   |x k=>exact XOk.move y (.refl _) fun l o ys k1 k2 k3=>⟨by rw[q0c (q06 k1 h2 (fun z=>nomatch z))];exact k1,k2,k3⟩
   |dw sh ks ws=>exact DwOk.move y (.refl _) fun l o ys k1 k2 k3=>⟨by rw[q0c (q06 k1 h2 (q7k rfl))];exact k1,k2,k3⟩
 ·have old:∀(k:Nat)(bb:Option Nat)(ww:List W),(e.set i (S.own b ws'))[k]?=some (.own bb ww)->∃b' w',e[k]?=some (.own b' w'):=fun k bb ww z=>by
   by_cases hk:k=i
   ·subst hk;exact⟨_,_,h⟩
   ·rw[w1a (fun z=>hk z.symm)]at z;exact⟨_,_,z⟩
  obtain⟨_,_,q1⟩:=old _ _ _ z1;obtain⟨_,_,q2⟩:=old _ _ _ z2;exact r.dis _ _ _ _ _ _ _ q1 q2 z3 z4
 ·by_cases hc:c=a
  ·subst hc;exfalso;rcases h4.io with h4|h4
   ·exact n h4
   ·rw[h4]at z;cases z
  ·rw[q0c hc];exact r.ent c o z n
 ·by_cases hc:c=a
  ·subst hc;rw[q0l];simp
  ·rw[q0c hc];exact r.ion c z
theorem Rel.freeze(r:Rel K Z G σ H e)(h:e[i]?=some (.own none ws)):∃v G',σ[i]?=some (some v)/\Same G G'/\Rep K G' (.lst ws) v/\Rel K Z G' σ H (e.set i (.fr (.lst ws))):=by
 obtain⟨a,xs,h1,h2,h3,h4,h5⟩:=r.own h;have h4:Z.H a=none:=h4;have sg:Same G (upd G a (.lst xs)):=q4x h3 _;have hi:i<e.length:=(w0d.mp h).1;have rp:Rep K (upd G a (.lst xs)) (.lst ws) (.ref a):=⟨a,xs,rfl,SqL.of q0l,Reps.mono sg ws h5⟩;refine⟨.ref a,upd G a (.lst xs),h1,sg,rp,⟨fun c o z=>?_,fun j s z=>?_,by simpa using r.len,fun j k b1 b2 w1 w2 c z1 z2 z3 z4=>?_,r.ent,r.ion,fun c z=>?_⟩⟩
 ·by_cases hc:c=a
  ·subst hc;rw[q0l]at z;cases z;exact h2
  ·rw[q0c hc]at z;exact r.sub c o z
 ·by_cases hj:j=i
  ·subst hj;rw[w0y hi]at z;cases z;exact⟨.ref a,by rw[h1];rfl,rp⟩
  ·rw[w1a (fun z=>hj z.symm)]at z
   have y:=r.slot j s z;cases s with
   |no=>trivial
   |fr w=>
    obtain⟨u,y1,y2⟩:=y;exact⟨u,y1,Rep.mono sg w y2⟩
   |own b2 w2=>
    obtain⟨c,ys,y1,y2,y3,y4,y5⟩:=y;refine⟨c,ys,y1,y2,?_,y4,Reps.mono sg w2 y5⟩;rw[q0c];exact y3;rintro rfl;obtain⟨c',_,z1,_⟩:=r.own z;rw[z1]at y1;cases y1;exact hj (r.dis j i _ _ _ _ _ z h z1 h1)
   |dic kvs=>
    obtain⟨c,y1,y2,y3,y4⟩:=y;refine⟨c,y1,y2,?_,y4⟩;rw[q0c (q06 y2 h2 (q52 rfl))];exact y3
   |thr us w2 vs=>
    obtain⟨t,l,o,xs2,ys,zs,y1,y2,y3,y4,y5,y6,y7,y8⟩:=y;refine⟨t,l,o,xs2,ys,zs,y1,sg _ _ y2,y3,?_,y5,Reps.mono sg us y6,Reps.mono sg w2 y7,Reps.mono sg vs y8⟩;rw[q0c (q06 y3 h2 (fun z=>nomatch z))];exact y4
   |nest wss=>exact NestOk.move y sg fun l o ys k1 k2 k3=>⟨k1,by rw[q0c (q06 k1 h2 (fun z=>nomatch z))];exact k2,k3⟩
   |x k=>exact XOk.move y sg fun l o ys k1 k2 k3=>⟨k1,by rw[q0c (q06 k1 h2 (fun z=>nomatch z))];exact k2,k3⟩
   |dw sh ks ws=>exact DwOk.move y sg fun l o ys k1 k2 k3=>⟨k1,by rw[q0c (q06 k1 h2 (q7k rfl))];exact k2,k3⟩
 ·have old:∀(k:Nat)(bb:Option Nat)(ww:List W),(e.set i (S.fr (W.lst ws)))[k]?=some (.own bb ww)->e[k]?=some (.own bb ww):=fun k bb ww z=>by
   by_cases hk:k=i
   ·subst hk;rw[w0y hi]at z;cases z
   ·rw[w1a (fun z=>hk z.symm)]at z;exact z
  exact r.dis _ _ _ _ _ _ _ (old _ _ _ z1) (old _ _ _ z2) z3 z4
 ·by_cases hc:c=a
  ·subst hc;exact absurd h4 z
  ·rw[q0c hc];exact r.gen c z
def Free(σ:St)(e:List S)(a:Addr):Prop:=∀(j:Nat)(b:Option Nat)(ws:List W),e[j]?=some (.own b ws)->σ[j]?≠some (some (.ref a))
theorem Rel.set(r:Rel K Z G σ H e){v:V}(q:Rep K G w v):Rel K Z G (σ.set i (some v)) H (e.set i (.fr w)):=by
 refine⟨r.sub,fun j s z=>?_,by simpa using r.len,fun j k b1 b2 w1 w2 c z1 z2 z3 z4=>?_,r.ent,r.ion,r.gen⟩
 ·by_cases hj:j=i
  ·subst hj
   have hi:j<e.length:=by
    have:=(w0d.mp z).1;simpa using this
   rw[w0y hi]at z;cases z;rw[w0y (by rw[<- r.len];exact hi)];exact⟨v,rfl,q⟩
  ·rw[w1a (fun z=>hj z.symm)]at z |-
   exact r.slot j s z
 ·have old:∀(k:Nat)(bb:Option Nat)(ww:List W),(e.set i (S.fr w))[k]?=some (.own bb ww)->k≠i/\e[k]?=some (.own bb ww):=fun k bb ww z=>by
   by_cases hk:k=i
   ·subst hk
    have hi:k<e.length:=by
     have:=(w0d.mp z).1;simpa using this
    rw[w0y hi]at z;cases z
   ·rw[w1a (fun z=>hk z.symm)]at z;exact⟨hk,z⟩
  obtain⟨n1,q1⟩:=old _ _ _ z1;obtain⟨n2,q2⟩:=old _ _ _ z2;rw[w1a (fun z=>n1 z.symm)]at z3
  rw[w1a (fun z=>n2 z.symm)]at z4
  exact r.dis _ _ _ _ _ _ _ q1 q2 z3 z4
theorem Rel.setOwn(r:Rel K Z G σ H e)(h2:H a=some (.lst xs))(h3:G a=none)(h4:Z.H a=none)(hf:Free σ e a)(q:Reps K G ws xs):Rel K Z G (σ.set i (some (.ref a))) H (e.set i (.own none ws)):=by
 refine⟨r.sub,fun j s z=>?_,by simpa using r.len,fun j k b1 b2 w1 w2 c z1 z2 z3 z4=>?_,r.ent,r.ion,r.gen⟩
 ·by_cases hj:j=i
  ·subst hj
   have hi:j<e.length:=by
    have:=(w0d.mp z).1;simpa using this
   rw[w0y hi]at z;cases z;rw[w0y (by rw[<- r.len];exact hi)];exact⟨a,xs,rfl,h2,h3,h4,q⟩
  ·rw[w1a (fun z=>hj z.symm)]at z |-
   exact r.slot j s z
 ·have both:∀(k:Nat)(bb:Option Nat)(ww:List W),(e.set i (S.own none ws))[k]?=some (.own bb ww)->(σ.set i (some (.ref a)))[k]?=some (some (.ref c))->(k=i/\c=a)\/(k≠i/\e[k]?=some (.own bb ww)/\σ[k]?=some (some (.ref c))/\c≠a):=fun k bb ww z y=>by
   by_cases hk:k=i
   ·subst hk
    have hi:k<e.length:=by
     have:=(w0d.mp z).1;simpa using this
    rw[w0y (by rw[<- r.len];exact hi)]at y;cases y;exact .inl ⟨rfl,rfl⟩
   ·rw[w1a (fun z=>hk z.symm)]at z y
    exact .inr ⟨hk,z,y,fun e=>hf k bb ww z (by rw[y,e])⟩
  rcases both _ _ _ z1 z3 with⟨e1,c1⟩|⟨n1,q1,p1,c1⟩<;>rcases both _ _ _ z2 z4 with⟨e2,c2⟩|⟨n2,q2,p2,c2⟩
  ·rw[e1,e2]
  ·exact absurd c1 c2
  ·exact absurd c2 c1
  ·exact r.dis _ _ _ _ _ _ _ q1 q2 p1 p2
inductive R(α:Type) where
 |ok (a:α) (e:List S)|ex (c:Value) (e:List S)|no
noncomputable abbrev Den(α:Type):=List S->R α
variable{dA:Den (List W)}
noncomputable def R.bind{β:Type}:R α->(α->List S->R β)->R β
 |.ok a e,k=>k a e
 |.ex c e,_=>.ex c e
 |.no,_=>.no
def R.holds(r:R α)(P:α->List S->Prop)(E:Value->List S->Prop):Prop:=match r with
 |.ok a e=>P a e
 |.ex c e=>E c e
 |.no=>False
theorem R.holds_bind{β:Type}{r:R α}{k:α->List S->R β}{P:β->List S->Prop}:(r.bind k).holds P E↔r.holds (fun a e=>(k a e).holds P E) E:=by
 cases r<;>rfl
theorem R.holds.imp{r:R α}{P P':α->List S->Prop}{E':Value->List S->Prop}(h:r.holds P E)(p:∀a e,P a e->P' a e)(x:∀c e,E c e->E' c e):r.holds P' E':=by
 cases r with
 |ok a e=>exact p a e h
 |ex c e=>exact x c e h
 |no=>exact h
noncomputable def ofOpt(o:Option α)(e:List S):R α:=match o with
 |some a=>.ok a e
 |none=>.no
theorem ofOpt_holds{o:Option α}{P:α->List S->Prop}:(ofOpt o e).holds P E↔∃a,o=some a/\P a e:=by
 cases o with
 |none=>exact⟨fun h=>h.elim,fun⟨_,h,_⟩=>nomatch h⟩
 |some a=>exact⟨fun h=>⟨a,rfl,h⟩,fun⟨_,h,q⟩=>by cases h;exact q⟩
inductive SR where
 |nx (e:List S)|rt (s:S) (e:List S)|bk (e:List S)|ct (e:List S)|ex (c:Value) (e:List S)|no
section
variable(K:PySem.W.Frag)(Z:Zt)(EE:L2.St->XK)
abbrev XH(σ:St)(G:Hp):Value->List S->Prop:=fun c e'=>∀G' H',Rel K Z G' σ H' e'->Same G G'->EE σ c none H'
def liftE(d:Den W):TE:=fun σ H Q=>AtG K Z σ H fun G e=>(d e).holds (fun w e'=>∀G' v H',Rel K Z G' σ H' e'->Same G G'->Rep K G' w v->Q v H') (XH K Z EE σ G)
def liftA(d:Den (List W)):TA:=fun σ H Q=>AtG K Z σ H fun G e=>(d e).holds (fun ws e'=>∀G' vs H',Rel K Z G' σ H' e'->Same G G'->Reps K G' ws vs->Q vs H') (XH K Z EE σ G)
def liftT(d:Den Bool):TT:=fun σ H Q=>AtG K Z σ H fun G e=>(d e).holds (fun b e'=>∀G' H',Rel K Z G' σ H' e'->Same G G'->Q b H') (XH K Z EE σ G)
def liftF(d:Den (List W)):TE:=fun σ H Q=>AtG K Z σ H fun G e=>(d e).holds (fun ws e'=>∀G' a xs H',Rel K Z G' σ H' e'->Same G G'->H' a=some (.lst xs)->G' a=none->Z.H a=none->Free σ e' a->Reps K G' ws xs->Q (.ref a) H') (XH K Z EE σ G)
def PostS(D:Ends)(G:Hp):SR->Prop
 |.nx e'=>∀G' σ' H',Rel K Z G' σ' H' e'->Same G G'->D.nx σ' H'
 |.bk e'=>∀G' σ' H',Rel K Z G' σ' H' e'->Same G G'->D.bk σ' H'
 |.ct e'=>∀G' σ' H',Rel K Z G' σ' H' e'->Same G G'->D.ct σ' H'
 |.rt s e'=>∀G' σ' v H',Rel K Z G' σ' H' e'->Same G G'->SlotOk K Z G' H' s (some v)->D.rt v H'
 |.ex c e'=>∀G' σ' H',Rel K Z G' σ' H' e'->Same G G'->EE σ' c none H'
 |.no=>False
def liftS(d:List S->SR):TS:=fun D σ H=>AtG K Z σ H fun G e=>PostS K Z EE D G (d e)
end
section
variable(Z:Zt)(X:Cx)(EE:L2.St->XK)
def DE(e:Expr)(d:Den W):Prop:=PE X e (liftE X.K Z EE d)
def DF(e:Expr)(d:Den (List W)):Prop:=PE X e (liftF X.K Z EE d)
def DT(e:Expr)(d:Den Bool):Prop:=PT X e (liftT X.K Z EE d)
def DW(e:Expr)(d:Den Bool):Prop:=PW X e (liftT X.K Z EE d)
def DA(es:List Expr)(d:Den (List W)):Prop:=PA X es (liftA X.K Z EE d)
def DS(st:Stmt)(d:List S->SR):Prop:=PS X st (liftS X.K Z EE d)
def DSs(sts:List Stmt)(d:List S->SR):Prop:=PSs X sts (liftS X.K Z EE d)
end
theorem PE.mono{e:Expr}{t t':TE}(h:PE X e t)(i:∀σ H Q,t' σ H Q->t σ H Q):PE X e t':=fun pins s σ H Q I q=>h pins s σ H Q I (i σ H Q q)
theorem PT.mono{e:Expr}{t t':TT}(h:PT X e t)(i:∀σ H Q,t' σ H Q->t σ H Q):PT X e t':=fun pins s σ H Q I q=>h pins s σ H Q I (i σ H Q q)
theorem PW.mono{e:Expr}{t t':TT}(h:PW X e t)(i:∀σ H Q,t' σ H Q->t σ H Q):PW X e t':=fun wh pins s σ H Q I q=>h wh pins s σ H Q I (i σ H Q q)
theorem PA.mono{t t':TA}(h:PA X es t)(i:∀σ H Q,t' σ H Q->t σ H Q):PA X es t':=fun p pins s σ H Q I q=>h p pins s σ H Q I (i σ H Q q)
theorem PS.mono{t t':TS}(h:PS X st t)(i:∀D σ H,t' D σ H->t D σ H):PS X st t':=fun pins s σ H D I q=>h pins s σ H D I (i D σ H q)
theorem PSs.mono{st:List Stmt}{t t':TS}(h:PSs X st t)(i:∀D σ H,t' D σ H->t D σ H):PSs X st t':=fun pins s σ H D I q=>h pins s σ H D I (i D σ H q)
section
variable(K:PySem.W.Frag)
def Op2(r:R2)(f:W->W->Option W):Prop:=∀(G H:Hp)(x y:V)(wx wy w:W)(Q:VK),Same G H->Rep K G wx x->Rep K G wy y->f wx wy=some w->(∀G' v H',Grow G H G' H'->Rep K G' w v->Q v H')->r x y H Q
def Op1(r:V->Hp->VK->Prop)(f:W->Option W):Prop:=∀(G H:Hp)(x:V)(wx w:W)(Q:VK),Same G H->Rep K G wx x->f wx=some w->(∀G' v H',Grow G H G' H'->Rep K G' w v->Q v H')->r x H Q
def OpN(r:List V->Hp->VK->Prop)(f:List W->Option W):Prop:=∀(G H:Hp)(xs:List V)(ws:List W)(w:W)(Q:VK),Same G H->Reps K G ws xs->f ws=some w->(∀G' v H',Grow G H G' H'->Rep K G' w v->Q v H')->r xs H Q
end
noncomputable def dC(w:W):Den W:=fun e=>.ok w e
noncomputable def dVar(i:Nat):Den W:=fun e=>match e[i]? with
 |some (.fr w)=>.ok w e
 |some (.own none ws)=>.ok (.lst ws) (e.set i (.fr (.lst ws)))
 |some (.x k)=>match k.plain with
  |some w=>.ok w e
  |none=>.no
 |_=>.no
noncomputable def dOp(f:W->W->Option W)(da db:Den W):Den W:=fun e=>(da e).bind fun x e1=>(db e1).bind fun y e2=>ofOpt (f x y) e2
noncomputable def dUn(f:W->Option W)(da:Den W):Den W:=fun e=>(da e).bind fun x e1=>ofOpt (f x) e1
noncomputable def dTest(da:Den W):Den Bool:=fun e=>(da e).bind fun x e1=>match x with
 |.bl k=>.ok k e1
 |_=>.no
noncomputable def truW:W->Option Bool
 |.non=>some false
 |.bl b=>some b
 |.int i=>some (i != 0)
 |.str x=>if x.length<=16777216 then some ((x.length:Int) != 0)else none
 |.tup xs=>some (!xs.isEmpty)
 |.lst xs=>some (!xs.isEmpty)
 |.exc _=>none
 |.dic _=>none
 |.dw _ _ _ _=>none
 |.fn _ _ _=>none
noncomputable def dTru(da:Den W):Den Bool:=fun e=>(da e).bind fun x e1=>ofOpt (truW x) e1
noncomputable def dAnd(a b:Den Bool):Den Bool:=fun e=>(a e).bind fun x e1=>if x=true then b e1 else .ok false e1
noncomputable def dOr(a b:Den Bool):Den Bool:=fun e=>(a e).bind fun x e1=>if x=true then .ok true e1 else b e1
noncomputable def dNot(a:Den Bool):Den Bool:=fun e=>(a e).bind fun x e1=>.ok (!x) e1
noncomputable def dAndV(a b:Den W):Den W:=fun e=>(a e).bind fun x e1=>match x with
 |.bl true=>b e1
 |.bl false=>.ok (.bl false) e1
 |_=>.no
noncomputable def dOrV(a b:Den W):Den W:=fun e=>(a e).bind fun x e1=>match x with
 |.bl true=>.ok (.bl true) e1
 |.bl false=>b e1
 |_=>.no
noncomputable def dNotV(a:Den W):Den W:=fun e=>(a e).bind fun x e1=>match x with
 |.bl k=>.ok (.bl (!k)) e1
 |_=>.no
noncomputable def dNil:Den (List W):=fun e=>.ok [] e
noncomputable def dCons(a:Den W)(r:Den (List W)):Den (List W):=fun e=>(a e).bind fun x e1=>(r e1).bind fun xs e2=>.ok (x::xs) e2
noncomputable def dTup(a:Den (List W)):Den W:=fun e=>(a e).bind fun xs e1=>if xs.length<=16777216 then .ok (.tup xs) e1 else .no
noncomputable def dLst(a:Den (List W)):Den (List W):=fun e=>(a e).bind fun xs e1=>if xs.length<=16777216 then .ok xs e1 else .no
noncomputable def dFz(a:Den (List W)):Den W:=fun e=>(a e).bind fun xs e1=>.ok (.lst xs) e1
noncomputable def dFn(f:List W->Option W)(a:Den (List W)):Den W:=fun e=>(a e).bind fun xs e1=>ofOpt (f xs) e1
section
variable{a b c e:Expr}{da db:Den W}{dc ta tb:Den Bool}
theorem XH.trans(s:Same G G1){c:Value}{e:List S}(h:XH K Z EE σ G c e):XH K Z EE σ G1 c e:=fun G' H' r q=>h G' H' r (s.trans q)
theorem q0e{i:Int}{j pos}:DE Z X EE (.Constant (.int i) j pos) (dC (.int i)):=PE.mono y9t fun σ H Q ⟨G,e,r,h⟩=>h G (.int i) H r (.refl _) rfl
theorem q0o{i:Bool}{j pos}:DE Z X EE (.Constant (.bool i) j pos) (dC (.bl i)):=PE.mono z25 fun σ H Q ⟨G,e,r,h⟩=>h G (.bl i) H r (.refl _) rfl
theorem q21{j pos}:DE Z X EE (.Constant .none j pos) (dC .non):=PE.mono y9u fun σ H Q ⟨G,e,r,h⟩=>h G .non H r (.refl _) rfl
theorem q4m{i:Str}{j pos}:DE Z X EE (.Constant (.str i) j pos) (dC (.str i)):=PE.mono y9v fun σ H Q ⟨G,e,r,h⟩=>h G (.str i) H r (.refl _) rfl
theorem y30:∀σ H Q,liftE K Z EE (dVar i) σ H Q->tVar i σ H Q:=by
 rintro σ H Q ⟨G,e,r,h⟩;unfold dVar at h;split at h
 ·rename_i w hw;obtain⟨v,h1,h2⟩:=r.fr hw;exact⟨v,h1,h G v H r (.refl _) h2⟩
 ·rename_i ws hw;obtain⟨v,G',h1,h2,h3,h4⟩:=r.freeze hw;exact⟨v,h1,h G' v H h4 h2 h3⟩
 ·rename_i k hw;cases q:k.plain with
  |some w=>
   rw[q]at h;obtain⟨v,h1,h2⟩:=r.plain hw q;exact⟨v,h1,h G v H r (.refl _) h2⟩
  |none=>rw[q]at h;exact h.elim
 ·exact h.elim
theorem dv(i:Nat)(hN:X.N[i]?=some x:=by rfl)(hv:Vis X.env.scope x:=by first|exact Or.inl rfl|exact Or.inr (Or.inl rfl)|exact Or.inr (Or.inr rfl))(hd:(x==("__debug__":Str))=false:=by decide)
  (hcd:(x==("__classdict__":Str))=false:=by decide):DE Z X EE (.Name x pos) (dVar i):=PE.mono (pv i hN hv hd hcd) y30
theorem q9p{r:R2}(hf:Op2 K r f):∀σ H Q,liftE K Z EE (dOp f da db) σ H Q->tOp r (liftE K Z EE da) (liftE K Z EE db) σ H Q:=by
 rintro σ H Q ⟨G,e,rel,h⟩;simp only[dOp,R.holds_bind,ofOpt_holds]at h;refine⟨G,e,rel,h.imp (fun x e1 h G1 v1 H1 r1 s1 p1=>?_) fun _ _ h=>h⟩
 refine⟨G1,e1,r1,h.imp (fun y e2 h G2 v2 H2 r2 s2 p2=>?_) fun _ _ h=>XH.trans s1 h⟩
 obtain⟨w,hw,h⟩:=h;exact hf G2 H2 v1 v2 x y w Q r2.sub (Rep.mono s2 x p1) p2 hw fun G' v H' g p=>h G' v H' (r2.grow g) ((s1.trans s2).trans g.gg) p
theorem q9q{op:Operator}{r:R2}(ho:OpR X (binaryOp op) r)(hf:Op2 X.K r f)(ha:DE Z X EE a da)(hb:DE Z X EE b db):DE Z X EE (.BinOp a op b pos) (dOp f da db):=PE.mono (z29 ho ha hb) (q9p hf)
theorem x1h{op:CmpOp}{r:R2}(ho:OpR X (compareOp op) r)(hf:Op2 X.K r f)(ha:DE Z X EE a da)(hb:DE Z X EE b db)(hm:behindInMarks op b=false):DE Z X EE (.Compare a [op] [b] pos) (dOp f da db):=PE.mono (y6j ho ha hb hm) (q9p hf)
theorem y04{Q:Bool->Hp->Prop}(h:liftT K Z EE (dTest da) σ H Q):liftE K Z EE da σ H (fun x H'=>∃k,x=.bl k/\Q k H'):=by
 obtain⟨G,e,rel,h⟩:=h;simp only[dTest,R.holds_bind]at h;refine⟨G,e,rel,h.imp (fun x e1 h G1 v1 H1 r1 s1 p1=>?_) fun _ _ h=>h⟩
 cases x with
 |bl k=>
  cases(show v1=V.bl k from p1);exact⟨k,rfl,h G1 H1 r1 s1⟩
 |_=>exact h.elim
theorem q5k{op:CmpOp}{r:R2}(ho:OpR X (compareOp op) r)(hf:Op2 X.K r f)(ha:DE Z X EE a da)(hb:DE Z X EE b db)(hm:behindInMarks op b=false):DT Z X EE (.Compare a [op] [b] pos) (dTest (dOp f da db)):=
 PT.mono (y6k ho ha hb hm) fun σ H Q h=>q9p hf σ H _ (y04 h)
theorem y6x{r:V->Hp->VK->Prop}{f:W->Option W}(hf:Op1 K r f):∀σ H Q,liftE K Z EE (dUn f da) σ H Q->tUn r (liftE K Z EE da) σ H Q:=by
 rintro σ H Q ⟨G,e,rel,h⟩;simp only[dUn,R.holds_bind,ofOpt_holds]at h;refine⟨G,e,rel,h.imp (fun x e1 h G1 v1 H1 r1 s1 p1=>?_) fun _ _ h=>h⟩
 obtain⟨w,hw,h⟩:=h;exact hf G1 H1 v1 x w Q r1.sub p1 hw fun G' v H' g p=>h G' v H' (r1.grow g) (s1.trans g.gg) p
theorem z0k(s:Same G H){k:Bool}(h:Rep K G w v)(e:truW w=some k):TruV K v H k:=by
 cases w with
 |non=>cases(show v=.non from h);cases e;rfl
 |bl b=>cases(show v=.bl b from h);cases e;rfl
 |int i=>cases(show v=.int i from h);cases e;rfl
 |str x=>
  cases(show v=.str x from h);simp only[truW]at e;split at e
  ·cases e;exact⟨by rw[sizeLine_eq];assumption,rfl⟩
  ·cases e
 |tup ws=>
  obtain⟨p,xs,rfl,q,r⟩:=h;cases e;refine .inr (.inl ⟨xs,s.tup q,?_⟩);have:=r.length;cases ws<;>cases xs<;>simp_all
 |lst ws=>
  obtain⟨p,xs,rfl,q,r⟩:=h;cases e;refine .inl ⟨xs,s.seq q,?_⟩;have:=r.length;cases ws<;>cases xs<;>simp_all
 |exc _=>cases e
 |dic _=>cases e
 |dw _ _ _ _=>cases e
 |fn _ _ _=>cases e
theorem q3d(ha:DE Z X EE a da)(he:∀whole,isTrue a X.env whole=(do let v <- whole;standAt a.pos;holding [v] (truthy v)):=by intro _;rfl):DT Z X EE a (dTru da):=by
 refine PT.mono (y3p ha he) ?_;rintro σ H Q ⟨G,e,rel,h⟩;simp only[dTru,R.holds_bind,ofOpt_holds]at h;refine⟨G,e,rel,h.imp (fun x e1 h G1 v1 H1 r1 s1 p1=>?_) fun _ _ h=>h⟩
 obtain⟨k,hk,h⟩:=h;exact⟨k,z0k r1.sub p1 hk,h G1 H1 r1 s1⟩
theorem y31:∀σ H Q,liftT K Z EE (dAnd ta tb) σ H Q->tAnd (liftT K Z EE ta) (liftT K Z EE tb) σ H Q:=by
 rintro σ H Q ⟨G,e,rel,h⟩;simp only[dAnd,R.holds_bind]at h;refine⟨G,e,rel,h.imp (fun x e1 h G1 H1 r1 s1=>?_) fun _ _ h=>h⟩
 cases x with
 |true=>exact⟨G1,e1,r1,R.holds.imp (show(tb e1).holds _ _ from h) (fun y e2 h G2 H2 r2 s2=>h G2 H2 r2 (s1.trans s2)) fun _ _ h=>XH.trans s1 h⟩
 |false=>exact(show ∀G' H',_->_->Q false H' from h) G1 H1 r1 s1
theorem y6y:∀σ H Q,liftT K Z EE (dOr ta tb) σ H Q->tOr (liftT K Z EE ta) (liftT K Z EE tb) σ H Q:=by
 rintro σ H Q ⟨G,e,rel,h⟩;simp only[dOr,R.holds_bind]at h;refine⟨G,e,rel,h.imp (fun x e1 h G1 H1 r1 s1=>?_) fun _ _ h=>h⟩
 cases x with
 |false=>exact⟨G1,e1,r1,R.holds.imp (show(tb e1).holds _ _ from h) (fun y e2 h G2 H2 r2 s2=>h G2 H2 r2 (s1.trans s2)) fun _ _ h=>XH.trans s1 h⟩
 |true=>exact(show ∀G' H',_->_->Q true H' from h) G1 H1 r1 s1
theorem y6z(ha:DT Z X EE a ta):DW Z X EE (.BoolOp .And [a] pos) ta:=y6d ha
theorem x5r(ha:DT Z X EE a ta):DW Z X EE (.BoolOp .Or [a] pos) ta:=y9w ha
theorem z0l{rest:List Expr}(ha:DT Z X EE a ta)(hb:DW Z X EE (.BoolOp .And (b::rest) pos) tb):DW Z X EE (.BoolOp .And (a::b::rest) pos) (dAnd ta tb):=PW.mono (y9x ha hb) y31
theorem x5b{rest:List Expr}(ha:DT Z X EE a ta)(hb:DW Z X EE (.BoolOp .Or (b::rest) pos) tb):DW Z X EE (.BoolOp .Or (a::b::rest) pos) (dOr ta tb):=PW.mono (z26 ha hb) y6y
theorem dt_w(h:DW Z X EE a ta):DT Z X EE a ta:=PW.pt h
theorem q4n(ha:DT Z X EE a ta):DT Z X EE (.UnaryOp .Not a pos) (dNot ta):=by
 refine PT.mono (y9y ha) ?_;rintro σ H Q ⟨G,e,rel,h⟩;simp only[dNot,R.holds_bind]at h;exact⟨G,e,rel,h.imp (fun x e1 h G1 H1 r1 s1=>h G1 H1 r1 s1) fun _ _ h=>h⟩
theorem x1i{op}(h:DE Z X EE a da):DE Z X EE (.BoolOp op [a] pos) da:=y9z h
theorem x5s{rest:List Expr}(ha:DE Z X EE a da)(hb:DE Z X EE (.BoolOp .And (b::rest) pos) db):DE Z X EE (.BoolOp .And (a::b::rest) pos) (dAndV da db):=by
 refine PE.mono (y90 ha hb) ?_;rintro σ H Q ⟨G,e,rel,h⟩;simp only[dAndV,R.holds_bind]at h;refine⟨G,e,rel,h.imp (fun x e1 h G1 v1 H1 r1 s1 p1=>?_) fun _ _ h=>h⟩
 cases x with
 |bl k=>
  cases(show v1=V.bl k from p1);cases k with
  |true=>exact⟨true,rfl,⟨G1,e1,r1,R.holds.imp (show(db e1).holds _ _ from h) (fun y e2 h G2 v2 H2 r2 s2 p2=>h G2 v2 H2 r2 (s1.trans s2) p2) fun _ _ h=>XH.trans s1 h⟩⟩
  |false=>exact⟨false,rfl,(show ∀G' v H',_->_->v=V.bl false->Q v H' from h) G1 _ H1 r1 s1 rfl⟩
 |_=>exact h.elim
theorem z3c{rest:List Expr}(ha:DE Z X EE a da)(hb:DE Z X EE (.BoolOp .Or (b::rest) pos) db):DE Z X EE (.BoolOp .Or (a::b::rest) pos) (dOrV da db):=by
 refine PE.mono (z27 ha hb) ?_;rintro σ H Q ⟨G,e,rel,h⟩;simp only[dOrV,R.holds_bind]at h;refine⟨G,e,rel,h.imp (fun x e1 h G1 v1 H1 r1 s1 p1=>?_) fun _ _ h=>h⟩
 cases x with
 |bl k=>
  cases(show v1=V.bl k from p1);cases k with
  |false=>exact⟨false,rfl,⟨G1,e1,r1,R.holds.imp (show(db e1).holds _ _ from h) (fun y e2 h G2 v2 H2 r2 s2 p2=>h G2 v2 H2 r2 (s1.trans s2) p2) fun _ _ h=>XH.trans s1 h⟩⟩
  |true=>exact⟨true,rfl,(show ∀G' v H',_->_->v=V.bl true->Q v H' from h) G1 _ H1 r1 s1 rfl⟩
 |_=>exact h.elim
theorem x5t(ha:DE Z X EE a da):DE Z X EE (.UnaryOp .Not a pos) (dNotV da):=by
 refine PE.mono (y91 ha) ?_;rintro σ H Q ⟨G,e,rel,h⟩;simp only[dNotV,R.holds_bind]at h;refine⟨G,e,rel,h.imp (fun x e1 h G1 v1 H1 r1 s1 p1=>?_) fun _ _ h=>h⟩
 cases x with
 |bl k=>
  cases(show v1=V.bl k from p1);exact⟨k,rfl,(show ∀G' v H',_->_->v=V.bl (!k)->Q v H' from h) G1 _ H1 r1 s1 rfl⟩
 |_=>exact h.elim
theorem q0b:DA Z X EE [] dNil:=PA.mono y0v fun σ H Q ⟨G,e,r,h⟩=>h G [] H r (.refl _) rfl
theorem q0a(ha:DE Z X EE e da)(hr:DA Z X EE es dA)(hs:starEach (e::es) X.env=(false,eval e X.env)::starEach es X.env:=by rfl):DA Z X EE (e::es) (dCons da dA):=by
 refine PA.mono (x2p ha hr hs) ?_;rintro σ H Q ⟨G,e,rel,h⟩;simp only[dCons,R.holds_bind]at h;refine⟨G,e,rel,h.imp (fun x e1 h G1 v1 H1 r1 s1 p1=>?_) fun _ _ h=>h⟩
 refine⟨G1,e1,r1,h.imp (fun xs e2 h G2 vs H2 r2 s2 p2=>?_) fun _ _ h=>XH.trans s1 h⟩
 exact h G2 (v1::vs) H2 r2 (s1.trans s2) ⟨v1,vs,rfl,Rep.mono s2 x p1,p2⟩
theorem q2p{x1}(h:DA Z X EE es dA):DE Z X EE (.Tuple es x1 pos) (dTup dA):=by
 refine PE.mono (y98 h) ?_;rintro σ H Q ⟨G,e,rel,h⟩;simp only[dTup,R.holds_bind]at h;refine⟨G,e,rel,h.imp (fun ws e1 h G1 vs H1 r1 s1 p1=>?_) fun _ _ h=>h⟩
 split at h
 ·rename_i hl;refine⟨by rw[p1.length,sizeLine_eq];exact hl,fun p hp=>?_⟩
  have g:=Grow.laid r1.sub hp (.tup vs);exact(show ∀G' v H',_->_->Rep X.K G' (.tup ws) v->Q v H' from h) _ (.ref p) _ (r1.grow g) (s1.trans g.gg) ⟨p,vs,rfl,SqT.of q0l,Reps.mono g.gg ws p1⟩
 ·exact h.elim
theorem q6i{e:List S}(r:Rel K Z G σ H e){p:Addr}(hp:H p=none):Free σ e p:=fun j b ws h q=>by
 obtain⟨a,xs,h1,h2,_⟩:=r.own h;rw[q]at h1;cases h1;rw[hp]at h2;cases h2
theorem q6j{e:List S}(r:Rel K Z G σ H e){p:Addr}(hp:H p=none):Z.H p=none:=by
 cases q:Z.H p with
 |none=>rfl
 |some o=>
  by_cases hi:p∈Z.io
  ·exact absurd hp (r.ion p hi)
  ·rw[r.ent p o q hi]at hp;cases hp
theorem x0t{e:List S}{Q:VK}{G0:Hp}(r:Rel K Z G σ H e)(s:Same G0 G)(p1:Reps K G ws vs)
  (h:∀G' a xs H',Rel K Z G' σ H' e->Same G0 G'->H' a=some (.lst xs)->G' a=none->Z.H a=none->Free σ e a->Reps K G' ws xs->Q (.ref a) H'):∀p,H p=none->Q (.ref p) (upd H p (.lst vs)):=fun p hp=>by
 have g:=Grow.hid r.sub hp (.lst vs);exact h G p vs _ (r.grow g) s q0l (r.sub.free hp) (q6j r hp) (q6i r hp) p1
theorem q00(h:DA Z X EE es dA):DF Z X EE (.List es pos) (dLst dA):=by
 refine PE.mono (y99 h) ?_;rintro σ H Q ⟨G,e,rel,h⟩;simp only[dLst,R.holds_bind]at h;refine⟨G,e,rel,h.imp (fun ws e1 h G1 vs H1 r1 s1 p1=>?_) fun _ _ h=>h⟩
 split at h
 ·rename_i hl;exact⟨by rw[p1.length,sizeLine_eq];exact hl,x0t r1 s1 p1 h⟩
 ·exact h.elim
theorem Rel.seen{e:List S}(r:Rel K Z G σ H e){a:Addr}(h:H a=some (.lst xs))(hg:G a=none)(hz:Z.H a=none)(hf:Free σ e a):Same G (upd G a (.lst xs))/\Rel K Z (upd G a (.lst xs)) σ H e:=by
 have sg:Same G (upd G a (.lst xs)):=q4x hg _;refine⟨sg,⟨fun c o z=>?_,fun j s z=>?_,r.len,r.dis,r.ent,r.ion,fun c z=>?_⟩⟩
 ·by_cases hc:c=a
  ·subst hc;rw[q0l]at z;cases z;exact h
  ·rw[q0c hc]at z;exact r.sub c o z
 ·have y:=r.slot j s z;cases s with
  |no=>trivial
  |fr w=>
   obtain⟨u,y1,y2⟩:=y;exact⟨u,y1,Rep.mono sg w y2⟩
  |own b2 w2=>
   obtain⟨c,ys,y1,y2,y3,y4,y5⟩:=y;refine⟨c,ys,y1,y2,?_,y4,Reps.mono sg w2 y5⟩;rw[q0c];exact y3;rintro rfl;obtain⟨c',_,z1,_⟩:=r.own z;rw[z1]at y1;cases y1;exact hf j b2 w2 z z1
  |dic kvs=>
   obtain⟨c,y1,y2,y3,y4⟩:=y;refine⟨c,y1,y2,?_,y4⟩;rw[q0c (q06 y2 h (q52 rfl))];exact y3
  |thr us w2 vs=>
   obtain⟨t,l,o,xs2,ys,zs,y1,y2,y3,y4,y5,y6,y7,y8⟩:=y;refine⟨t,l,o,xs2,ys,zs,y1,sg _ _ y2,y3,?_,y5,Reps.mono sg us y6,Reps.mono sg w2 y7,Reps.mono sg vs y8⟩;rw[q0c (q06 y3 h (fun z=>nomatch z))];exact y4
  |nest wss=>exact NestOk.move y sg fun l o ys k1 k2 k3=>⟨k1,by rw[q0c (q06 k1 h (fun z=>nomatch z))];exact k2,k3⟩
  |x k=>exact XOk.move y sg fun l o ys k1 k2 k3=>⟨k1,by rw[q0c (q06 k1 h (fun z=>nomatch z))];exact k2,k3⟩
  |dw sh ks ws=>exact DwOk.move y sg fun l o ys k1 k2 k3=>⟨k1,by rw[q0c (q06 k1 h (q7k rfl))];exact k2,k3⟩
 ·by_cases hc:c=a
  ·subst hc;exact absurd hz z
  ·rw[q0c hc];exact r.gen c z
theorem q0t(h:DF Z X EE e dA):DE Z X EE e (dFz dA):=by
 refine PE.mono h ?_;rintro σ H Q ⟨G,e,rel,h⟩;simp only[dFz,R.holds_bind]at h;refine⟨G,e,rel,h.imp (fun ws e1 h G1 a xs H1 r1 s1 q1 q2 q3 q4 p1=>?_) fun _ _ h=>h⟩
 obtain⟨sg,rg⟩:=r1.seen q1 q2 q3 q4;exact(show ∀G' v H',_->_->Rep X.K G' (.lst ws) v->Q v H' from h) _ (.ref a) _ rg (s1.trans sg) ⟨a,xs,rfl,SqL.of q0l,Reps.mono sg ws p1⟩
theorem x8o{f:List W->Option W}(hf:OpN K r f):∀σ H Q,liftE K Z EE (dFn f dA) σ H Q->tCB r (liftA K Z EE dA) σ H Q:=by
 rintro σ H Q ⟨G,e,rel,h⟩;simp only[dFn,R.holds_bind,ofOpt_holds]at h;refine⟨G,e,rel,h.imp (fun ws e1 h G1 vs H1 r1 s1 p1=>?_) fun _ _ h=>h⟩
 obtain⟨w,hw,h⟩:=h;exact hf G1 H1 vs ws w Q r1.sub p1 hw fun G' v H' g p=>h G' v H' (r1.grow g) (s1.trans g.gg) p
theorem x1j{id:String}{f:List W->Option W}(hc:CallR X (.builtin id) r)(hf:OpN X.K r f)(hv:bootBuiltins x=some (.builtin id))(hm:X.mg x=none)(ha:DA Z X EE (e::es) dA)(hg:Gl X x:=by rfl)(hn:x≠"__name__":=by decide)(hdb:(x==("__debug__":Str))=false:=by decide)
  (he:starEach (e::es) X.env=(false,eval e X.env)::starEach es X.env:=by rfl)(hpl:(backTo pos (starEach es X.env)).any (·.1)=false:=by rfl):DE Z X EE (.Call (.Name x p) (e::es) [] pos) (dFn f dA):=
 PE.mono (x5n hc hg hm hv ha hn hdb he hpl) (x8o hf)
theorem y05{T:String}{f:List W->Option W}(hc:CallR X (.type T) r)(hf:OpN X.K r f)(hv:bootBuiltins x=some (.type T))(hm:X.mg x=none)(ha:DA Z X EE (e::es) dA)(hg:Gl X x:=by rfl)(hn:x≠"__name__":=by decide)(hdb:(x==("__debug__":Str))=false:=by decide)
  (he:starEach (e::es) X.env=(false,eval e X.env)::starEach es X.env:=by rfl)(hpl:(backTo pos (starEach es X.env)).any (·.1)=false:=by rfl):DE Z X EE (.Call (.Name x p) (e::es) [] pos) (dFn f dA):=
 PE.mono (x3p hc hg hm hv ha hn hdb he hpl) (x8o hf)
end
noncomputable def dNx:List S->SR:=fun e=>.nx e
noncomputable def dSeq(a b:List S->SR):List S->SR:=fun e=>match a e with
 |.nx e'=>b e'
 |r=>r
noncomputable def R.stm(r:R α)(k:α->List S->SR):SR:=match r with
 |.ok a e=>k a e
 |.ex c e=>.ex c e
 |.no=>.no
noncomputable def dDrop(d:Den W):List S->SR:=fun e=>(d e).stm fun _ e'=>.nx e'
noncomputable def dRet(d:Den W):List S->SR:=fun e=>(d e).stm fun w e'=>.rt (.fr w) e'
noncomputable def dRetF(d:Den (List W)):List S->SR:=fun e=>(d e).stm fun ws e'=>.rt (.own none ws) e'
noncomputable def dRetO(i:Nat):List S->SR:=fun e=>match e[i]? with
 |some (.own none ws)=>.rt (.own none ws) e
 |some (.fr w)=>.rt (.fr w) e
 |_=>.no
noncomputable def dIfS(c:Den Bool)(a b:List S->SR):List S->SR:=fun e=>(c e).stm fun x e1=>if x=true then a e1 else b e1
noncomputable def dSet(i:Nat)(d:Den W):List S->SR:=fun e=>(d e).stm fun w e'=>.nx (e'.set i (.fr w))
noncomputable def dSetO(i:Nat)(d:Den (List W)):List S->SR:=fun e=>(d e).stm fun ws e'=>.nx (e'.set i (.own none ws))
noncomputable def forD(i:Nat)(b:List S->SR):List W->List S->SR
 |[],e=>.nx e
 |w::ws,e=>match b (e.set i (.fr w))with
  |.nx e'=>forD i b ws e'
  |.ct e'=>forD i b ws e'
  |.bk e'=>.nx e'
  |.rt s e'=>.rt s e'
  |.ex c e'=>.ex c e'
  |.no=>.no
noncomputable def whileD(c:Den Bool)(b:List S->SR):Nat->List S->SR
 |0,_=>.no
 |n+1,e=>(c e).stm fun x e1=>if x=true then(match b e1 with
  |.nx e'=>whileD c b n e'
  |.ct e'=>whileD c b n e'
  |.bk e'=>.nx e'
  |.rt s e'=>.rt s e'
  |.ex c e'=>.ex c e'
  |.no=>.no)else .nx e1
noncomputable def seqW:W->Option (List W)
 |.tup ws=>some ws
 |.lst ws=>some ws
 |_=>none
noncomputable def dFor(i:Nat)(d:Den W)(b:List S->SR):List S->SR:=fun e=>(d e).stm fun w e1=>match seqW w with
 |some ws=>forD i b ws e1
 |none=>.no
noncomputable def rangeW(lo hi:Int):List W:=(List.range (hi-lo).toNat).map fun k=>.int (lo+(k:Nat))
noncomputable def okI(j:Int):Bool:=Nat.ble j.natAbs 4611686018427387903
theorem x1k{j:Int}(h:okI j=true):-(2^62)<=j/\j<2^62:=by
 have z:j.natAbs<=4611686018427387903:=w3k h;have e:(2:Int)^62=4611686018427387904:=by decide
 rw[e];omega
theorem q22{j:Int}(h1:-1000000000<=j)(h2:j<=1000000000):okI j=true:=Nat.ble_eq_true_of_le (by omega)
noncomputable def rng1:List W->Option (List W)
 |[.int j]=>if okI j=true then some (rangeW 0 j)else none
 |_=>none
noncomputable def rng2:List W->Option (List W)
 |[.int i,.int j]=>if okI i=true/\okI j=true then some (rangeW i j)else none
 |_=>none
noncomputable def dForR(i:Nat)(g:List W->Option (List W))(d:Den (List W))(b:List S->SR):List S->SR:=fun e=>(d e).stm fun w e1=>match g w with
 |some ws=>forD i b ws e1
 |none=>.no
section
variable{a c e tg:Expr}{rest body:List Stmt}{d:Den W}{dc:Den Bool}{s1 s2:List S->SR}
theorem PostS.trans{D:Ends}(s:Same G G1):∀{r:SR},PostS K Z EE D G r->PostS K Z EE D G1 r
 |.nx e',h=>fun G' σ' H' r q=>h G' σ' H' r (s.trans q)
 |.bk e',h=>fun G' σ' H' r q=>h G' σ' H' r (s.trans q)
 |.ct e',h=>fun G' σ' H' r q=>h G' σ' H' r (s.trans q)
 |.rt w e',h=>fun G' σ' v H' r q=>h G' σ' v H' r (s.trans q)
 |.ex c e',h=>fun G' σ' H' r q=>h G' σ' H' r (s.trans q)
 |.no,h=>h
theorem q14{D:Ends}{r:R α}{k:α->List S->SR}(h:PostS K Z EE D G (r.stm k)):r.holds (fun a e'=>PostS K Z EE D G (k a e')) (XH K Z EE σ G):=by
 cases r with
 |ok a e=>exact h
 |ex c e=>exact fun G' H' r q=>h G' σ H' r q
 |no=>exact h
theorem q0z:DSs Z X EE [] dNx:=PSs.mono y6e fun D σ H ⟨G,e,r,h⟩=>h G σ H r (.refl _)
theorem y32:∀D σ H,liftS K Z EE (dSeq s1 s2) D σ H->tSeq (liftS K Z EE s1) (liftS K Z EE s2) D σ H:=by
 rintro D σ H ⟨G,e,rel,h⟩;refine⟨G,e,rel,?_⟩;unfold dSeq at h;cases q:s1 e with
 |nx e'=>rw[q]at h;exact fun G' σ' H' r s=>⟨G',e',r,PostS.trans s h⟩
 |bk e'=>rw[q]at h;exact h
 |ct e'=>rw[q]at h;exact h
 |rt w e'=>rw[q]at h;exact h
 |ex c e'=>rw[q]at h;exact h
 |no=>rw[q]at h;exact h
theorem q0d(h1:DS Z X EE st s1)(h2:DSs Z X EE rest s2):DSs Z X EE (st::rest) (dSeq s1 s2):=PSs.mono (y3l h1 h2) y32
theorem q0f(h1:DS Z X EE st s1):DSs Z X EE [st] s1:=y6f h1
theorem y60(he:DE Z X EE e d)(hs:swapsWith e none pos.line X.env=pure false:=by rfl):DS Z X EE (.Expr e pos) (dDrop d):=by
 refine PS.mono (x2n he hs) ?_;rintro D σ H ⟨G,e,rel,h⟩;exact⟨G,e,rel,(q14 h).imp (fun w e1 h G1 v1 H1 r1 s1 p1=>h G1 σ H1 r1 s1) fun _ _ h=>h⟩
theorem q0m(he:DE Z X EE e d):DS Z X EE (.Return (some e) pos) (dRet d):=by
 refine PS.mono (x5j he) ?_;rintro D σ H ⟨G,e,rel,h⟩;exact⟨G,e,rel,(q14 h).imp (fun w e1 h G1 v1 H1 r1 s1 p1=>h G1 σ v1 H1 r1 s1 ⟨v1,rfl,p1⟩) fun _ _ h=>h⟩
theorem q4e(he:DF Z X EE e dA):DS Z X EE (.Return (some e) pos) (dRetF dA):=by
 refine PS.mono (x5j he) ?_;rintro D σ H ⟨G,e,rel,h⟩;exact⟨G,e,rel,(q14 h).imp (fun w e1 h G1 a xs H1 r1 s1 q1 q2 q3 q4 p1=>h G1 σ (.ref a) H1 r1 s1 ⟨a,xs,rfl,q1,q2,q3,p1⟩) fun _ _ h=>h⟩
theorem y61(i:Nat)(hN:X.N[i]?=some x:=by rfl)(hv:Vis X.env.scope x:=by first|exact Or.inl rfl|exact Or.inr (Or.inl rfl)|exact Or.inr (Or.inr rfl))(hd:(x==("__debug__":Str))=false:=by decide)
  (hcd:(x==("__classdict__":Str))=false:=by decide):DS Z X EE (.Return (some (.Name x p)) pos) (dRetO i):=by
 refine PS.mono (x5j (pv i hN hv hd hcd)) ?_;rintro D σ H ⟨G,e,rel,h⟩;unfold dRetO at h;split at h
 ·rename_i ws hw;obtain⟨a,xs,h1,h2,h3,h4,h5⟩:=rel.own hw;exact⟨.ref a,h1,h G σ _ H rel (.refl _) ⟨a,xs,rfl,h2,h3,h4,h5⟩⟩
 ·rename_i w hw;obtain⟨v,h1,h2⟩:=rel.fr hw;exact⟨v,h1,h G σ _ H rel (.refl _) ⟨v,rfl,h2⟩⟩
 ·exact h.elim
theorem y33:∀D σ H,liftS K Z EE (dIfS dc s1 s2) D σ H->tIfS (liftT K Z EE dc) (liftS K Z EE s1) (liftS K Z EE s2) D σ H:=by
 rintro D σ H ⟨G,e,rel,h⟩;refine⟨G,e,rel,(q14 h).imp (fun x e1 h G1 H1 r1 q1=>?_) fun _ _ h=>h⟩
 cases x with
 |true=>exact⟨G1,e1,r1,PostS.trans q1 h⟩
 |false=>exact⟨G1,e1,r1,PostS.trans q1 h⟩
theorem q1a{p q:List Stmt}(hc:DT Z X EE c dc)(ha:DSs Z X EE p s1)(hb:DSs Z X EE q s2):DS Z X EE (.If c p q pos) (dIfS dc s1 s2):=PS.mono (z28 hc ha hb) y33
theorem q0n(i:Nat)(hN:X.N.Nodup)(he:DE Z X EE e d)(hi:X.N[i]?=some x:=by rfl)(hx:Loc X.env.scope x:=by walk_at "3")(hs:swapsWith e (some (.Name x pos')) pos.line X.env=pure false:=by rfl)(hf:X.fn x=true\/X.env.scope.names.lookup x=some .local:=by walk_at "2"):
  DS Z X EE (.Assign [.Name x pos'] e pos) (dSet i d):=by
 refine PS.mono (y55 i hN he hi hx hs hf) ?_;rintro D σ H ⟨G,e,rel,h⟩;exact⟨G,e,rel,(q14 h).imp (fun w e1 h G1 v1 H1 r1 q1 p1=>h G1 _ H1 (r1.set p1) q1) fun _ _ h=>h⟩
theorem x1l(i:Nat)(hN:X.N.Nodup)(he:DF Z X EE e dA)(hi:X.N[i]?=some x:=by rfl)(hx:Loc X.env.scope x:=by walk_at "3")(hs:swapsWith e (some (.Name x pos')) pos.line X.env=pure false:=by rfl)(hf:X.fn x=true\/X.env.scope.names.lookup x=some .local:=by walk_at "2"):
  DS Z X EE (.Assign [.Name x pos'] e pos) (dSetO i dA):=by
 refine PS.mono (y55 i hN he hi hx hs hf) ?_;rintro D σ H ⟨G,e,rel,h⟩;exact⟨G,e,rel,(q14 h).imp (fun w e1 h G1 a xs H1 r1 s1 q1 q2 q3 q4 p1=>h G1 _ H1 (r1.setOwn q1 q2 q3 q4 p1) s1) fun _ _ h=>h⟩
theorem y34(n:Nat)(hp:PassesOwn (model X.prog X.w) X.A X.env X.xe)(hc:DT Z X EE c dc)(hb:DSs Z X EE body s1):DS Z X EE (.While c body [] pos) (whileD dc s1 n):=by
 refine PS.mono (y3m hp hc hb) ?_;rintro D σ H ⟨G,e,rel,h⟩;refine⟨fun m σ' H'=>∃G' e',Rel X.K Z G' σ' H' e'/\Same G G'/\PostS X.K Z EE D G (whileD dc s1 m e'),⟨n,G,e,rel,.refl _,h⟩,?_⟩
 rintro m σ1 H1 ⟨G1,e1,r1,q1,h⟩;cases m with
 |zero=>exact h.elim
 |succ m=>
  refine⟨G1,e1,r1,(q14 (σ:=σ1) h).imp (fun x e2 h G2 H2 r2 q2=>?_) fun _ _ h=>XH.trans q1 h⟩
  cases x with
  |false=>exact h G2 σ1 H2 r2 (q1.trans q2)
  |true=>
   refine⟨fun σ' H'=>∃G' e',Rel X.K Z G' σ' H' e'/\Same G G'/\PostS X.K Z EE D G (whileD dc s1 m e'),fun σ' H' q=>⟨m,Nat.lt_succ_self _,q⟩,⟨G2,e2,r2,?_⟩⟩
   have sg:=q1.trans q2;have h:PostS X.K Z EE D G (match s1 e2 with|.nx e'=>whileD dc s1 m e'|.ct e'=>whileD dc s1 m e'|.bk e'=>.nx e'|.rt s e'=>.rt s e'|.ex c e'=>.ex c e'|.no=>.no):=h;cases q:s1 e2 with
   |nx e'=>rw[q]at h;exact fun G' σ' H' r s=>⟨G',e',r,sg.trans s,h⟩
   |ct e'=>rw[q]at h;exact fun G' σ' H' r s=>⟨G',e',r,sg.trans s,h⟩
   |bk e'=>rw[q]at h;exact fun G' σ' H' r s=>h G' σ' H' r (sg.trans s)
   |rt w e'=>rw[q]at h;exact fun G' σ' v H' r s=>h G' σ' v H' r (sg.trans s)
   |ex c e'=>rw[q]at h;exact fun G' σ' H' r s=>h G' σ' H' r (sg.trans s)
   |no=>rw[q]at h;exact h
theorem y35{D:Ends}{x:V}{N:St->Hp->Prop}(r1:Rel K Z G1 σ H e1)(q1:Same G G1)(p:Rep K G1 w x)(h:PostS K Z EE D G (forD i s1 (w::ws) e1))
  (hN:∀G' σ' H' e',Rel K Z G' σ' H' e'->Same G G'->PostS K Z EE D G (forD i s1 ws e')->N σ' H'):gName i x σ H fun σ2 H2=>liftS K Z EE s1 {D with nx:=N,ct:=N,bk:=D.nx} σ2 H2:=by
 refine⟨G1,e1.set i (.fr w),r1.set p,?_⟩;unfold forD at h;cases q:s1 (e1.set i (.fr w))with
 |nx e'=>rw[q]at h;exact fun G' σ' H' r s=>hN G' σ' H' e' r (q1.trans s) h
 |ct e'=>rw[q]at h;exact fun G' σ' H' r s=>hN G' σ' H' e' r (q1.trans s) h
 |bk e'=>rw[q]at h;exact fun G' σ' H' r s=>h G' σ' H' r (q1.trans s)
 |rt w e'=>rw[q]at h;exact fun G' σ' v H' r s=>h G' σ' v H' r (q1.trans s)
 |ex c e'=>rw[q]at h;exact fun G' σ' H' r s=>h G' σ' H' r (q1.trans s)
 |no=>rw[q]at h;exact h
def iSeq(K:PySem.W.Frag)(tl:TE):TI:=fun σ H R=>tl σ H fun x H1=>∃a,x=.ref a/\(((∃xs,SqL K H1 a xs)/\R (Itl K a) H1)\/((∃xs,SqT K H1 a xs)/\R (Itt K a) H1))
theorem x1m{l:Expr}{tl:TE}(hl:PE X l tl):PI X tg l (iSeq X.K tl):=by
 intro pins s σ H R I h;refine thn (hl pins s σ H _ I h) fun v s1 ⟨x,H1,I1,r1,q1⟩=>?_
 obtain⟨a,e,q⟩:=q1;subst e;cases r1;rcases q with⟨⟨xs,hq⟩,q⟩|⟨⟨xs,hq⟩,q⟩
 ·obtain⟨its,rv,p,hz⟩:=I1.list hq;refine wpAny_pyIter_list p.isList ?_;refine⟨s1.heap.objs.size,[s1.heap.objs.size],_,_,H1,rfl,I1.kept (t':=s1.toks) fun b o e=>Heap.get?_push_of_some _ e,y0q a _,⟨_,Heap.get?_push_size _ rfl,rfl,rfl⟩,fun b hb=>?_,q⟩
  have e:b=s1.heap.objs.size:=by simpa using hb
  subst e;exact I1.fpOk (w0f _) (I1.hok.fresh (w0f _))
 ·obtain⟨its,rv,p,hz⟩:=I1.tuple hq;refine wpAny_pyIter_tuple (show s1.heap.IsTuple a its.toArray from p) ?_;refine⟨s1.heap.objs.size,[s1.heap.objs.size],_,_,H1,rfl,I1.kept (t':=s1.toks) fun b o e=>Heap.get?_push_of_some _ e,x9m a _,⟨_,Heap.get?_push_size _ rfl,rfl,rfl⟩,fun b hb=>?_,q⟩
  have e:b=s1.heap.objs.size:=by simpa using hb
  subst e;exact I1.fpOk (w0f _) (I1.hok.fresh (w0f _))
theorem x3u{ws:List α}{w:α}(h:ws[k]?=some w):ws.drop k=w::ws.drop (k+1):=by
 obtain⟨hk,rfl⟩:=w0d.mp h;exact w3y hk
theorem x8p{i:Nat}{D:Ends}(r1:Rel K Z G1 σ H1 e1)(rp:Reps K G1 ws xs)(h:PostS K Z EE D G1 (forD i s1 ws e1))(SQ:Hp->Prop)(hSQ:∀G' H',Same G1 G'->Same G' H'->SQ H'):
  ∃Pv:Nat->St->Hp->Prop,Pv 0 σ H1/\(∀j σ H,j<=xs.length->Pv j σ H->SQ H)/\(∀(j:Nat) x σ H,xs[j]?=some x->Pv j σ H->gName i x σ H fun σ2 H2=>liftS K Z EE s1 {D with nx:=Pv (j+1),ct:=Pv (j+1),bk:=D.nx} σ2 H2)/\∀σ H,Pv xs.length σ H->D.nx σ H:=by
 refine⟨fun j σ' H'=>∃G' e',Rel K Z G' σ' H' e'/\Same G1 G'/\PostS K Z EE D G1 (forD i s1 (ws.drop j) e'),⟨G1,e1,r1,.refl _,h⟩,?_,?_,?_⟩
 ·rintro j σ' H' _ ⟨G',e',r',s',_⟩;exact hSQ G' H' s' r'.sub
 ·rintro j x σ' H' hx ⟨G',e',r',s',h⟩;obtain⟨w,hw,pw⟩:=rp.getV hx;rw[x3u hw]at h;exact y35 r' s' (Rep.mono s' w pw) h fun G'' σ'' H'' e'' r'' s'' h''=>⟨G'',e'',r'',s'',h''⟩
 ·rintro σ' H' ⟨G',e',r',s',h⟩;rw[rp.length,w3l]at h;exact h G' σ' H' r' s'
theorem q80(i:Nat)(hN:X.N.Nodup)(hp:PassesOwn (model X.prog X.w) X.A X.env X.xe)(hc:X.calm=true)(hl:DE Z X EE e d)(hb:DSs Z X EE body s1)
  (hi:X.N[i]?=some x:=by rfl)(hx:Loc X.env.scope x:=by walk_at "3")(hf:X.fn x=true\/X.env.scope.names.lookup x=some .local:=by walk_at "2")(hs:∀x,foldedSetIterable e X.env x=pure x:=by intro _;rfl):
  DS Z X EE (.For (.Name x pos') e body [] pos) (dFor i d s1):=by
 refine PS.mono (x5l hp hc (x1m hl) (q09 i hN hi hx hf) hb hs) ?_;rintro D σ H ⟨G,e,rel,h⟩;refine⟨G,e,rel,(q14 h).imp (fun w e1 h G1 v1 H1 r1 q1 p1=>?_) fun _ _ h=>h⟩
 have key:=fun ws xs (rp:Reps X.K G1 ws xs) (h:PostS X.K Z EE D G (forD i s1 ws e1))=>x8p (i:=i) (D:=D) r1 rp (PostS.trans q1 h)
 cases w with
 |tup ws=>
  obtain⟨a,xs,rfl,hq,rp⟩:=p1;refine⟨a,rfl,.inr ⟨⟨xs,r1.sub.tup hq⟩,?_⟩⟩;obtain⟨Pv,h0,h1,h2,h3⟩:=key ws xs rp h (fun H'=>SqT X.K H' a xs) (fun G' H' s s'=>Same.tup s' (Same.tup s hq))
  exact y6h Pv h0 h1 h2 h3
 |lst ws=>
  obtain⟨a,xs,rfl,hq,rp⟩:=p1;refine⟨a,rfl,.inl ⟨⟨xs,r1.sub.seq hq⟩,?_⟩⟩;obtain⟨Pv,h0,h1,h2,h3⟩:=key ws xs rp h (fun H'=>SqL X.K H' a xs) (fun G' H' s s'=>Same.seq s' (Same.seq s hq))
  exact y3o Pv h0 h1 h2 h3
 |_=>exact h.elim
theorem x1n{lo hi:Int}:Reps K G (rangeW lo hi) ((List.range (hi-lo).toNat).map fun k=>V.int (lo+(k:Nat))):=by
 unfold rangeW;generalize List.range (hi-lo).toNat=l
 induction l with
 |nil=>rfl
 |cons k l ih=>exact⟨_,_,rfl,rfl,ih⟩
theorem y62{i:Nat}{D:Ends}{lo hi:Int}(r1:Rel K Z G1 σ H1 e1)(h:PostS K Z EE D G1 (forD i s1 (rangeW lo hi) e1)):
  ∃W:Nat->Nat->St->Hp->Prop,(∃m,W 0 m σ H1)/\∀j m σ H,W j m σ H ->
   ((Itr lo (hi-lo).toNat).stop j H/\D.nx σ H)\/((Itr lo (hi-lo).toNat).go j H/\∃N:St->Hp->Prop,(∀σ' H',N σ' H'->∃m',m'<m/\W (j+1) m' σ' H')/\∀x H',(Itr lo (hi-lo).toNat).yld j H x H'->gName i x σ H' fun σ2 H2=>liftS K Z EE s1 {D with nx:=N,ct:=N,bk:=D.nx} σ2 H2):=by
 obtain⟨Pv,h0,h1,h2,h3⟩:=x8p (i:=i) (D:=D) r1 (x1n (lo:=lo) (hi:=hi)) h (fun _=>True) (fun _ _ _ _=>trivial)
 refine y0s Pv h0 (fun j σ' H' hj p=>h2 j _ σ' H' ?_ p) (fun σ' H' p=>h3 σ' H' (by simpa using p))
 simp[hj]
theorem q58(i:Nat){p1 p2:Pos}(hN:X.N.Nodup)(hp:PassesOwn (model X.prog X.w) X.A X.env X.xe)(hc:X.calm=true)(hm:X.mg "range"=none)(ha:DA Z X EE [a] dA)(hb:DSs Z X EE body s1)
  (hi:X.N[i]?=some x:=by rfl)(hx:Loc X.env.scope x:=by walk_at "3")(hf:X.fn x=true\/X.env.scope.names.lookup x=some .local:=by walk_at "2")(hg:Gl X "range":=by rfl)(hs1:starEach [a] X.env=[(false,eval a X.env)]:=by rfl)(hs:∀x,foldedSetIterable (.Call (.Name "range" p1) [a] [] p2) X.env x=pure x:=by intro _;rfl):
  DS Z X EE (.For (.Name x p) (.Call (.Name "range" p1) [a] [] p2) body [] pos) (dForR i rng1 dA s1):=by
 refine PS.mono (x5l hp hc (q8u hg hm ha hs1) (q09 i hN hi hx hf) hb hs) ?_;rintro D σ H ⟨G,e,rel,h⟩;refine⟨G,e,rel,(q14 h).imp (fun ws e1 h G1 vs H1 r1 q1 p1=>?_) fun _ _ h=>h⟩
 unfold rng1 at h;split at h
 ·rename_i hh;split at hh
  ·rename_i j;split at hh
   ·rename_i hj;cases hh;obtain⟨y,r,rfl,e1,e2⟩:=p1;cases(show y=V.int j from e1);cases(show r=[]from e2);refine⟨j,rfl,(x1k hj).1,(x1k hj).2,?_⟩;have z:=y62 (i:=i) (D:=D) r1 (PostS.trans q1 h)
    rwa [w5k]at z
   ·cases hh
  ·cases hh
 ·exact h.elim
end
open PyProof.Rows (envOfC)
inductive FR where
 |ok (s:S)|ex (c:Value)|no
noncomputable def spF(K:PySem.W.Frag)(F:List W->FR):Sp:=fun vs H Q E=>∃G ws,Same G H/\Reps K G ws vs/\match F ws with
 |.ok s=>∀G' H' v,Grow G H G' H'->SlotOk K ⟨H,G,[]⟩ G' H' s (some v)->Q v H'
 |.ex c=>∀H',Same H H'->E c none H'
 |.no=>False
noncomputable def SR.fn:SR->FR
 |.nx _=>.ok (.fr .non)
 |.rt s _=>.ok s
 |.ex c _=>.ex c
 |_=>.no
noncomputable def init(n:Nat)(ws:List W):List S:=ws.map .fr++List.replicate (n-ws.length) .no
theorem q7x{N:List Str}(s:Same G H)(r:Reps K G ws vs):Rel K ⟨H,G,[]⟩ G (L2.start N vs) H (init N.length ws):=by
 have hl:=r.length
 have hfr:∀(i:Nat)(s:S),(init N.length ws)[i]?=some s->(s=.no)\/∃w,s=.fr w/\ws[i]?=some w:=fun i s h=>by
  unfold init at h;rw[List.getElem?_append]at h;split at h
  ·rw[w0w]at h;obtain⟨w,h1,rfl⟩:=w0o.mp h;exact .inr ⟨w,rfl,h1⟩
  ·rw[w3b]at h;split at h
   ·cases h;exact .inl rfl
   ·cases h
 refine⟨s,fun i t h=>?_,?_,fun i j b b' w1 w2 a h1 h2 _ _=>?_,fun a o h _=>h,(fun a h=>nomatch h),fun a _=>rfl⟩
 ·rcases hfr i t h with rfl|⟨w,rfl,h1⟩
  ·trivial
  ·obtain⟨v,h2,h3⟩:=r.get h1;refine⟨v,?_,h3⟩;have hi:i<vs.length:=(w0d.mp h2).1;unfold L2.start;rw[w1q (by simpa using hi),w0w,h2];rfl
 ·unfold init L2.start;simp[hl]
 ·rcases hfr i _ h1 with z|⟨w,z,_⟩<;>cases z
theorem Rel.toGrow(r:Rel K ⟨H,G,[]⟩ G' σ H' e)(s:Same G G'):Grow G H G' H':=
 ⟨fun a o h=>r.ent a o h (by simp),s,r.sub,fun a h=>r.gen a h⟩
section
variable{P:Program}{w:World}{mg:Str->Option Value}{base:Heap}
theorem x1o{F:List W->FR}{Q:VK}{E:XK}(h:spF K F vs H Q E):∃G ws,F ws≠.no/\Reps K G ws vs:=by
 obtain⟨G,ws,_,r,h⟩:=h;refine⟨G,ws,fun z=>?_,r⟩
 rw[z]at h;exact h
theorem x2r{F:List W->FR}{Q:VK}{E:XK}{r:SR}(he:r.fn=F ws)(h:match F ws with
  |.ok s=>∀G' H' v,Grow G H G' H'->SlotOk K ⟨H,G,[]⟩ G' H' s (some v)->Q v H'
  |.ex c=>∀H',Same H H'->E c none H'
  |.no=>False):PostS K ⟨H,G,[]⟩ (fun _=>E) {nx:=fun _ H'=>Q .non H',rt:=Q} G r:=by
 rw[<- he]at h;cases r with
 |nx e=>exact fun G' σ' H' r s=>h G' H' .non (r.toGrow s) ⟨.non,rfl,rfl⟩
 |rt s e=>exact fun G' σ' v H' r q p=>h G' H' v (r.toGrow q) p
 |ex c e=>exact fun G' σ' H' r s=>h H' (r.toGrow s).hh
 |bk e=>exact h.elim
 |ct e=>exact h.elim
 |no=>exact h.elim
theorem con{N ps:List Str}{F:List W->FR}(A:At K mg x st ps)(sc:FnScope N ps (defScope st))(len:∀ws,F ws≠.no->ws.length=ps.length)
  (hb:∀ws,F ws≠.no->∀(f:Addr)(cdv:Value)(A:Around)(outer:List Env)(s:Shared)(H:Hp)(E:XK)(Z:Zt),Room k (A.deeper (envOfC x (defScope st) s.heap.objs.size f cdv)) ->
   ∃d,DSs Z (cxOf (CX1 P w) P w K mg base N x (defScope st) f cdv A outer s H E) (fun _=>E) (defBody st) d/\(d (init N.length ws)).fn=F ws):Cal P w K mg base (k+1) x ps (spF K F):=by
 refine A.cal sc (fun vs H Q E h=>?_) (fun f cdv A outer s H vs Q E hr h=>?_)
 ·obtain⟨G,ws,hn,r⟩:=x1o h;rw[r.length];exact len ws hn
 ·have hn0:=h;obtain⟨G,ws,sg,rp,h⟩:=h;have hn:F ws≠.no:=fun z=>by rw[z]at h;exact h
  obtain⟨d,hd,he⟩:=hb ws hn f cdv A outer s H E ⟨H,G,[]⟩ hr;exact⟨_,hd,G,init N.length ws,q7x sg rp,x2r he h⟩
end
noncomputable def dCall(F:List W->FR)(dA:Den (List W)):Den W:=fun e=>(dA e).bind fun ws e1=>match F ws with
 |.ok (.fr w)=>.ok w e1
 |.ok (.own none ws')=>.ok (.lst ws') e1
 |.ok (.dic kvs)=>.ok (.dic kvs) e1
 |.ok (.thr us ws vs)=>.ok (.tup (us++.lst ws::vs)) e1
 |.ok (.x (.new w))=>.ok w e1
 |.ok (.x (.tn us wss))=>.ok (.tup (us++[.lst (wss.map .lst)])) e1
 |.ex c=>.ex c e1
 |_=>.no
section
variable{e:Expr}{ps:List Str}{F:List W->FR}
theorem x5u{s:S}(r1:Rel K Z G1 σ H1 e1)(g:Grow G1 H1 G' H')(q:SlotOk K ⟨H1,G1,[]⟩ G' H' s (some v))(hs:s=.fr w\/∃ws,s=.own none ws/\w=.lst ws):
  ∃G'',Rel K Z G'' σ H' e1/\Same G1 G''/\Rep K G'' w v:=by
 rcases hs with rfl|⟨ws,rfl,rfl⟩
 ·obtain⟨u,h1,h2⟩:=q;cases h1;exact⟨G',r1.grow g,g.gg,h2⟩
 ·obtain⟨a,xs,h1,h2,h3,h4,h5⟩:=q;cases h1;have hn:H1 a=none:=h4;obtain⟨sg,rg⟩:=(r1.grow g).seen h2 h3 (q6j r1 hn) (q6i r1 hn);exact⟨_,rg,g.gg.trans sg,⟨a,xs,rfl,SqL.of q0l,Reps.mono sg ws h5⟩⟩
theorem y06{kvs:Dd}(r1:Rel K Z G1 σ H1 e1)(g:Grow G1 H1 G' H')(q:SlotOk K ⟨H1,G1,[]⟩ G' H' (.dic kvs) (some v)):
  ∃G'',Rel K Z G'' σ H' e1/\Same G1 G''/\Rep K G'' (.dic kvs) v:=by
 obtain⟨a,h1,h2,h3,h4⟩:=q;cases h1;have hn:H1 a=none:=h4;have r:=r1.grow g;have sg:Same G' (upd G' a (dO kvs)):=q4x h3 _;refine⟨upd G' a (dO kvs),⟨fun c o z=>?_,fun j s z=>?_,r.len,r.dis,r.ent,r.ion,fun c z=>?_⟩,g.gg.trans sg,⟨a,rfl,q0l⟩⟩
 ·by_cases hc:c=a
  ·subst hc;rw[q0l]at z;cases z;exact h2
  ·rw[q0c hc]at z;exact r.sub c o z
 ·have y:=r.slot j s z;have y1:=r1.slot j s z;cases s with
  |no=>trivial
  |fr w=>
   obtain⟨u,y1,y2⟩:=y;exact⟨u,y1,Rep.mono sg w y2⟩
  |own b2 w2=>
   obtain⟨c,ys,x1,x2,x3,x4,x5⟩:=y;refine⟨c,ys,x1,x2,?_,x4,Reps.mono sg w2 x5⟩;rw[q0c (q06 x2 h2 (fun z=>q52 rfl z.symm))];exact x3
  |dic kv=>
   obtain⟨c,x1,x2,x3,x4⟩:=y;obtain⟨c',w1,w2,_⟩:=y1;rw[x1]at w1;cases w1;refine⟨c,x1,x2,?_,x4⟩;rw[q0c (q0q w2 hn)];exact x3
  |thr us w2 vs=>
   obtain⟨t,l,o,xs2,ys,zs,x1,x2,x3,x4,x5,x6,x7,x8⟩:=y;refine⟨t,l,o,xs2,ys,zs,x1,sg _ _ x2,x3,?_,x5,Reps.mono sg us x6,Reps.mono sg w2 x7,Reps.mono sg vs x8⟩;rw[q0c (q06 x3 h2 (fun z=>q52 rfl z.symm))];exact x4
  |nest wss=>exact NestOk.move y sg fun l o ys k1 k2 k3=>⟨k1,by rw[q0c (q06 k1 h2 (fun z=>q52 rfl z.symm))];exact k2,k3⟩
  |x k=>exact XOk.move y sg fun l o ys k1 k2 k3=>⟨k1,by rw[q0c (q06 k1 h2 (fun z=>q52 rfl z.symm))];exact k2,k3⟩
  |dw sh ks ws=>
   obtain⟨c,kv,ka,x1,x2,x3,x4,x5,x6,x7⟩:=y;obtain⟨c',kv',ka',w1,w2,_⟩:=y1;rw[x1]at w1;cases w1;refine⟨c,kv,ka,x1,x2,?_,x4,x5,x6.mono sg,Reps.mono sg ws x7⟩;rw[q0c (q0q w2 hn)];exact x3
 ·by_cases hc:c=a
  ·subst hc;exact absurd (q6j r1 hn) z
  ·rw[q0c hc];exact r.gen c z
theorem y07{us vs:List W}(r1:Rel K Z G1 σ H1 e1)(g:Grow G1 H1 G' H')(q:SlotOk K ⟨H1,G1,[]⟩ G' H' (.thr us ws vs) (some v)):
  ∃G'',Rel K Z G'' σ H' e1/\Same G1 G''/\Rep K G'' (.tup (us++.lst ws::vs)) v:=by
 obtain⟨t,l,o,xs,ys,zs,h1,h2,h3,h4,h5,h6,h7,h8⟩:=q;cases h1;have hn:H1 l=none:=h5;have r:=r1.grow g;have sg:Same G' (upd G' l (.frz o (.lst ys))):=q4x h4 _;refine⟨upd G' l (.frz o (.lst ys)),⟨fun c u z=>?_,fun j s z=>?_,r.len,r.dis,r.ent,r.ion,fun c z=>?_⟩,g.gg.trans sg,⟨t,_,rfl,SqT.of (sg _ _ h2),(Reps.mono sg us h6).append ⟨.ref l,zs,rfl,⟨l,ys,rfl,.inl (.inr ⟨o,q0l⟩),Reps.mono sg ws h7⟩,Reps.mono sg vs h8⟩⟩⟩
 ·by_cases hc:c=l
  ·subst hc;rw[q0l]at z;cases z;exact h3
  ·rw[q0c hc]at z;exact r.sub c u z
 ·have y:=r.slot j s z;have y1:=r1.slot j s z;cases s with
  |no=>trivial
  |fr w=>
   obtain⟨u,y1,y2⟩:=y;exact⟨u,y1,Rep.mono sg w y2⟩
  |own b2 w2=>
   obtain⟨c,ys,x1,x2,x3,x4,x5⟩:=y;refine⟨c,ys,x1,x2,?_,x4,Reps.mono sg w2 x5⟩;rw[q0c (q06 x2 h3 (fun z=>nomatch z))];exact x3
  |dic kv=>
   obtain⟨c,x1,x2,x3,x4⟩:=y;refine⟨c,x1,x2,?_,x4⟩;rw[q0c (q06 x2 h3 (q52 rfl))];exact x3
  |thr us w2 vs=>
   obtain⟨t1,l1,o1,xs1,ys1,zs1,w1,w2',w3,w4,w5,w6,w7,w8⟩:=y1;have sg2:=g.gg.trans sg;refine⟨t1,l1,o1,xs1,ys1,zs1,w1,sg2 _ _ w2',g.hh _ _ w3,?_,w5,Reps.mono sg2 us w6,Reps.mono sg2 w2 w7,Reps.mono sg2 vs w8⟩;rw[q0c (q0q w3 hn),g.new l1 (by rw[w3];simp)];exact w4
  |nest wss=>exact NestOk.move y1 (g.gg.trans sg) fun l1 o ys k1 k2 k3=>⟨g.hh _ _ k1,by rw[q0c (q0q k1 hn),g.new l1 (by rw[k1];simp)];exact k2,k3⟩
  |x k=>exact XOk.move y1 (g.gg.trans sg) fun l1 o ys k1 k2 k3=>⟨g.hh _ _ k1,by rw[q0c (q0q k1 hn),g.new l1 (by rw[k1];simp)];exact k2,k3⟩
  |dw sh ks ws=>exact DwOk.move y1 (g.gg.trans sg) fun l1 o ys k1 k2 k3=>⟨g.hh _ _ k1,by rw[q0c (q0q k1 hn),g.new l1 (by rw[k1];simp)];exact k2,k3⟩
 ·by_cases hc:c=l
  ·subst hc;exact absurd (q6j r1 hn) z
  ·rw[q0c hc];exact r.gen c z
theorem NestIn.mem0:∀{ls:List Addr}{wss:List (List W)},NestIn K Z G H ls wss->∀l∈ls,∃o ys,FzAt Z G H l o ys
 |[],_,_,_,hl=>nomatch hl
 |l::ls,ws::wss,⟨⟨o,ys,h1,_⟩,h⟩,c,hc=>by
  rcases w0h.mp hc with rfl|hc
  ·exact⟨o,ys,h1⟩
  ·exact h.mem0 c hc
 |_::_,[],h,_,_=>h.elim
theorem NestIn.reps0(sg:Same G G'):∀{ls:List Addr}{wss:List (List W)},(∀l∈ls,G' l=H l)->NestIn K Z G H ls wss->Reps K G' (wss.map W.lst) (ls.map V.ref)
 |[],[],_,_=>rfl
 |l::ls,ws::wss,hf,⟨⟨o,ys,h1,h4⟩,h⟩=>⟨.ref l,ls.map V.ref,rfl,⟨l,ys,rfl,.inl (.inr ⟨o,by rw[hf l (by simp)];exact h1.1⟩),Reps.mono sg ws h4⟩,h.reps0 sg fun c hc=>hf c (by simp[hc])⟩
 |[],_::_,_,h=>h.elim
 |_::_,[],_,h=>h.elim
theorem Rel.addNew(r1:Rel K Z G1 σ H1 e1)(g:Grow G1 H1 G' H')(As:List Addr) [DecidablePred (·∈As)](hA:∀c∈As,(∃o ys,H' c=some (.frz o (.lst ys)))/\G' c=none/\H1 c=none):
  Same G' (fun c=>if c∈As then H' c else G' c)/\Rel K Z (fun c=>if c∈As then H' c else G' c) σ H' e1:=by
 have sg:Same G' (fun c=>if c∈As then H' c else G' c):=fun c o z=>by
  show(if c∈As then H' c else G' c)=some o;rw[if_neg (fun m=>by rw[(hA c m).2.1]at z;cases z)];exact z
 refine⟨sg,r1.grow ⟨g.hh,g.gg.trans sg,fun c o z=>?_,fun c hc=>?_⟩⟩
 ·have z:(if c∈As then H' c else G' c)=some o:=z;split at z
  ·exact z
  ·exact g.sub c o z
 ·show(if c∈As then H' c else G' c)=G1 c;rw[if_neg (fun m=>hc (hA c m).2.2)];exact g.new c hc
theorem y36{us:List W}{wss:List (List W)}(r1:Rel K Z G1 σ H1 e1)(g:Grow G1 H1 G' H')(q:SlotOk K ⟨H1,G1,[]⟩ G' H' (.x (.tn us wss)) (some v)):
  ∃G'',Rel K Z G'' σ H' e1/\Same G1 G''/\Rep K G'' (.tup (us++[.lst (wss.map .lst)])) v:=by
 classical
 obtain⟨t,l,o,ls,xs,h1,h2,⟨h3,h4,h5⟩,⟨h6,h7⟩,h8,h9⟩:=q;cases h1
 obtain⟨sg,r2⟩:=r1.addNew g (l::ls) fun c hc=>by
  rcases w0h.mp hc with rfl|hc
  ·exact⟨⟨o,_,h3⟩,h4,h5⟩
  ·obtain⟨o',ys,k1,k2,k3⟩:=h9.mem0 c hc;exact⟨⟨o',ys,k1⟩,k2,k3⟩
 refine⟨_,r2,g.gg.trans sg,t,_,rfl,SqT.of (sg _ _ h2),(Reps.mono sg us h8).append ⟨.ref l,[],rfl,⟨l,_,rfl,.inl (.inr ⟨o,?_⟩),h9.reps0 sg fun c hc=>if_pos (w0g _ hc)⟩,rfl⟩⟩
 show(if l∈l::ls then H' l else G' l)=_;rw[if_pos (w0k ..)];exact h3
theorem z3d{c:Value}(r1:Rel K Z G1 σ H1 e1)(s1:Same G G1)(h:XH K Z EE σ G c e1):∀H',Same H1 H'->EE σ c none H':=fun H' sh=>
 h G1 H' (r1.grow ⟨sh,.refl _,r1.sub.trans sh,fun _ _=>rfl⟩) s1
theorem q0j(C:Cal X.prog X.w X.K X.mg X.base k x ps (spF X.K F))(hr:Room k X.A)(hx:PassX (CX1 X.prog X.w) X EE)(ha:DA Z X EE (e::es) dA)(hg:Gl X x:=by rfl)
  (hdb:(x==("__debug__":Str))=false:=by decide)(he:starEach (e::es) X.env=(false,eval e X.env)::starEach es X.env:=by rfl)(hpl:(backTo pos (starEach es X.env)).any (·.1)=false:=by rfl):
  DE Z X EE (.Call (.Name x p) (e::es) [] pos) (dCall F dA):=by
 refine PE.mono (z0h C hr hx ha hg hdb he hpl) ?_;rintro σ H Q ⟨G,e,rel,h⟩;simp only[dCall,R.holds_bind]at h;refine⟨G,e,rel,h.imp (fun ws e1 h G1 vs H1 r1 s1 p1=>?_) fun _ _ h=>h⟩
 refine⟨G1,ws,r1.sub,by rw[w1n];exact p1,?_⟩;cases q:F ws with
 |ok s=>
  rw[q]at h;intro G' H' v g sl;cases s with
  |no=>exact h.elim
  |fr w=>
   obtain⟨G'',r2,s2,p2⟩:=x5u r1 g sl (.inl rfl);exact(show ∀G' v H',_->_->Rep X.K G' w v->Q v H' from h) G'' v H' r2 (s1.trans s2) p2
  |own b ws'=>
   cases b with
   |some _=>exact h.elim
   |none=>
    obtain⟨G'',r2,s2,p2⟩:=x5u r1 g sl (.inr ⟨ws',rfl,rfl⟩);exact(show ∀G' v H',_->_->Rep X.K G' (.lst ws') v->Q v H' from h) G'' v H' r2 (s1.trans s2) p2
  |dic kvs=>
   obtain⟨G'',r2,s2,p2⟩:=y06 r1 g sl;exact(show ∀G' v H',_->_->Rep X.K G' (.dic kvs) v->Q v H' from h) G'' v H' r2 (s1.trans s2) p2
  |thr us ws' vs'=>
   obtain⟨G'',r2,s2,p2⟩:=y07 r1 g sl;exact(show ∀G' v H',_->_->Rep X.K G' (.tup (us++.lst ws'::vs')) v->Q v H' from h) G'' v H' r2 (s1.trans s2) p2
  |nest _=>exact h.elim
  |x k=>
   cases k with
   |new w=>
    obtain⟨u,h1,h2⟩:=sl;cases h1;exact(show ∀G' v H',_->_->Rep X.K G' w v->Q v H' from h) G' _ H' (r1.grow g) (s1.trans g.gg) (RepN.rep _ h2)
   |tn us wss=>
    obtain⟨G'',r2,s2,p2⟩:=y36 r1 g sl;exact(show ∀G' v H',_->_->Rep X.K G' (.tup (us++[.lst (wss.map .lst)])) v->Q v H' from h) G'' v H' r2 (s1.trans s2) p2
   |_=>exact h.elim
  |dw _ _ _=>exact h.elim
 |ex c=>
  rw[q]at h;exact z3d r1 s1 h
 |no=>rw[q]at h;exact h.elim
noncomputable def dRaise(C:Addr)(d:Den (List W)):List S->SR:=fun e=>(d e).stm fun ws e1=>if ws.length<=16777216 then .ex (.ref C) e1 else .no
theorem x0u{C Ac:Addr}{np cpos:Pos}(hx:RaisX X EE)(hC:excIn X.K C Ac=true)(hm:X.mg x=some (.ref C))(hc:X.calm=true)(ha:DA Z X EE (e::es) dA)(hg:Gl X x:=by rfl)
  (hdb:(x==("__debug__":Str))=false:=by decide)(he:starEach (e::es) X.env=(false,eval e X.env)::starEach es X.env:=by rfl)(hpl:(backTo cpos (starEach es X.env)).any (·.1)=false:=by rfl):
  DS Z X EE (.Raise (some (.Call (.Name x np) (e::es) [] cpos)) none pos) (dRaise C dA):=by
 refine PS.mono (y3v hx hc hg hm hC ha hdb he hpl) ?_;rintro D σ H ⟨G,e,rel,h⟩;refine⟨G,e,rel,(q14 h).imp (fun ws e1 h G1 vs H1 r1 s1 p1=>?_) fun _ _ h=>h⟩
 split at h
 ·rename_i hl;exact⟨by rw[p1.length,sizeLine_eq];exact hl,h G1 σ H1 r1 s1⟩
 ·exact h.elim
end
end D
namespace L2
open PySem PySem.Spec PyProof.Rows
section
variable{X:Cx}{elt target iter:Expr}{ifs:List Expr}{scope:Scope}{pos:Pos}{wi:TI}{g:TG}{tc:TT}{te:TE}
theorem y37{Nl Nf:List Str}{js:List Nat}{y:Str}{py spos:Pos}{gy:TG}(hc:X.calm=true)(hi:PI X target iter wi)
  (hk:scope.kind=.function)(hcell:∀y∈scope.names,y.2≠.cell)(hnames:∀x∈scope.names,x.2=.local->scope.names.lookup x.1=some .local)
  (hfree:∀x∈scope.names,x.2=.free->X.env.kindOf x.1=some .cell\/X.env.kindOf x.1=some .free)
  (hj:∀(i j:Nat) y,Nf[i]?=some y->js[i]?=some j->X.N[j]?=some y)(hlen:js.length=Nf.length)
  (hNf:∀y∈Nf,(y,NameKind.free)∈scope.names/\Vis X.env.scope y/\X.env.kindOf y≠some .local)
  (hvis:∀y∈Nf,(relabel scope X.env).names.lookup y=some .cell\/(relabel scope X.env).names.lookup y=some .free)
  (hg:∀cl C s₀ H₀ ex,PG (X.cp (Nl++Nf) scope cl C s₀ H₀ ex) target g)(ht:∀cl C s₀ H₀ ex,PTs (X.cp (Nl++Nf) scope cl C s₀ H₀ ex) ifs tc)(he:∀cl C s₀ H₀ ex,PE (X.cp (Nl++Nf) scope cl C s₀ H₀ ex) elt te)
  (hgy:PG X (.Name y py) gy)(hsw:swapsWith (.ListComp elt [⟨target,iter,ifs,0⟩] scope pos) (some (.Name y py)) spos.line X.env=pure true)
  (hs:∀x,foldedSetIterable iter X.env x=pure x:=by intro _;rfl):
  PS X (.Assign [.Name y py] (.ListComp elt [⟨target,iter,ifs,0⟩] scope pos) spos) (tAsg (tComp wi Nl.length js g tc te) gy):=by
 intro pins s σ H D I h;obtain⟨cl,hclos,hcl,hcf⟩:=q51 (scope:=scope) (env:=X.env) fun x hx hf=>I.ok.has x.1 (hfree x hx hf)
 rw[exec_Assign_Name_used _ _ _ _ hsw];refine wpAny_bind (wpAny_standAt (wpAny_bind ?_));show wpAny _ _ (do let _ <- comprehension _ _ _ _ _ _ _ _) _ _ _;refine wpAny_bind (wpAny_comprehension_free (Q:=fun _ s''=>wpAny (model X.prog X.w) X.A (pure ()) (fun _ s3=>wpAny (model X.prog X.w) X.A (pure Flow.next) (SP X pins D) X.xe s3) X.xe s'') (use:=some (assign (.Name y py) X.env)) rfl hs hclos hk hnames (thn (hi pins s σ H _ I h) fun v s1 h1=>thn h1 fun itv s2 h2=>?_))
 obtain⟨it,fp,tn,J,H2,e,I2,T,st2,f2,rd⟩:=h2;subst e;refine wpAny_newObj_type (wpAny_newFunctionEnv hcell (by intro y hy;simp at hy) (fun h₁ hns₁ hsb₁=>?_) hk)
 dsimp only at hns₁ hsb₁ |-
 have szp:(s2.heap.push {cls:=.type "list", dict:=none,data:=.seq ([]:List Value).toArray}).objs.size=s2.heap.objs.size+1:=Heap.size_push ..;rw[szp]at hns₁ hsb₁ |-
 have fD:H2 s2.heap.objs.size=none:=I2.hok.fresh (w0f _);obtain⟨W,⟨m0,w0⟩,turn⟩:=rd s2.heap.objs.size fD;have obj2:=T.obj 0 s2.heap st2;have IS:=x5q (Nl:=Nl) (Nf:=Nf) (js:=js) (cl:=cl) (tk:=s2.toks+([]:List (Str×Value)).length) I2 f2 obj2 hk hcell hcl hcf hj hlen hNf hvis hns₁ hsb₁
 have upS:∀b u,s2.heap.get? b=some u->h₁.get? b=some u:=fun b u q=>by
  have hlt:=Heap.lt_size q;exact(hsb₁.2 b (w0r (w2u hlt))).trans (Heap.get?_push_of_some _ (Heap.get?_push_of_some _ q))
 have stS:tn 0 h₁:=T.keep 0 s2.heap h₁ st2 fun b hb o q=>upS b o q
 have noD:∀b∈fp,upd H2 s2.heap.objs.size (.lst []) b=none:=fun b hb=>by
  obtain⟨o,q,_⟩:=obj2 b hb;rw[q0c (w0r (Heap.lt_size q))];exact(f2 b hb).1
 have stat:∀{H':Hp},(∀b∈fp,H' b=none)->∀b∈fp,FpOk (X.cp (Nl++Nf) scope cl (s2.heap.objs.size+1) {s2 with heap:=s2.heap.push {cls:=.type "list", dict:=none,data:=.seq ([]:List Value).toArray}} (upd H2 s2.heap.objs.size (.lst [])) fp) [] H' b:=fun hn b hb=>by
  refine⟨hn b hb,(IS.ok.exf b hb).1,IS.ok.exfs b hb,.inl hb,(IS.ok.exf b hb).2,fun p hp=>(by cases hp)⟩
 have loop:∀s4:Shared,s4={s2 with heap:=h₁,toks:=s2.toks+([]:List (Str×Value)).length} ->
   codeAny (model X.prog X.w) X.A (.compLoop (.ListComp elt [⟨target,iter,ifs,0⟩] scope pos) 0 (.ref it) (.ref s2.heap.objs.size) (compEnvC scope cl (s2.heap.objs.size+1) X.env))
    (compPost (model X.prog X.w) X.A X.xe (some (assign (.Name y py) X.env)) (fun _ s''=>wpAny (model X.prog X.w) X.A (pure ()) (fun _ s3=>wpAny (model X.prog X.w) X.A (pure Flow.next) (SP X pins D) X.xe s3) X.xe s'') (.ref s2.heap.objs.size) (s2.heap.objs.size+1)) s4:=by
  rintro s4 rfl;refine x3t (fun n s'=>∃i H',Inv (X.cp (Nl++Nf) scope cl (s2.heap.objs.size+1) {s2 with heap:=s2.heap.push {cls:=.type "list", dict:=none,data:=.seq ([]:List Value).toArray}} (upd H2 s2.heap.objs.size (.lst [])) fp) [] (List.replicate Nl.length none++pj js σ) H' s'/\tn i s'.heap/\(∀b∈fp,H' b=none)/\W i n H') ?_ m0 ⟨0,_,IS,stS,noD,w0⟩
  rintro n s3 ⟨i,H3,I3,st3,fr3,w3⟩;rcases turn i n H3 w3 with⟨stop,qn⟩|⟨go,step⟩
  ·refine thn (T.done (X.cp (Nl++Nf) scope cl (s2.heap.objs.size+1) {s2 with heap:=s2.heap.push {cls:=.type "list", dict:=none,data:=.seq ([]:List Value).toArray}} (upd H2 s2.heap.objs.size (.lst [])) fp) rfl rfl rfl hc i [] s3 _ H3 _ I3 (stat fr3) st3 stop) fun r s5 ⟨hr,I5⟩=>?_
   subst hr;obtain⟨m5,hn5,_⟩:=I5.loc;obtain⟨o5,es5,ep5,ho5,hd5,hk5,hf5⟩:=id hn5;have J5:Inv X pins σ H3 s5:=y0z I2 f2 I5 (h':=s5.heap) ⟨rfl,fun _ _=>rfl⟩
   have fC:FpOk X pins H3 (s2.heap.objs.size+1):=I2.fpOk (w3p _) I5.free;have f1:∀b∈[s2.heap.objs.size+1],FpOk X pins H3 b:=fun b hb=>by rw[w1h.mp hb];exact fC
   have J6:=J5.pinned f1 (fun b hb=>by rw[w1h.mp hb];exact⟨o5,ho5,fun v z=>by rw[hd5]at z;cases z⟩)
   refine thn (hgy _ s5 σ H3 (.ref s2.heap.objs.size) _ _ J6 rfl qn) fun _ s6 ⟨σ6,H6,I6,q6⟩=>?_
   have pC:=I6.pin (s2.heap.objs.size+1,o5) (w0i _ (w0i _ (q3l (w1h.mpr rfl) ho5)));refine⟨m5,⟨o5,es5,ep5,pC.1,hd5,hk5,hf5⟩,fun h' hs'=>wpAny_pure (wpAny_pure ⟨σ6,H6,?_,q6⟩)⟩
   obtain⟨g0,g1,g2,g3,g4,g5⟩:=fC;exact I6.unpinned.turned (t':=s6.toks) (fun b o hb e=>(hs'.2 b hb).trans e) pC.2.1 g1 g3 g4 g5
  ·refine thn (T.item (X.cp (Nl++Nf) scope cl (s2.heap.objs.size+1) {s2 with heap:=s2.heap.push {cls:=.type "list", dict:=none,data:=.seq ([]:List Value).toArray}} (upd H2 s2.heap.objs.size (.lst [])) fp) rfl rfl rfl hc i [] s3 _ H3 _ I3 (stat fr3) st3 go) fun r s5 ⟨u,hr,h5⟩=>?_
   subst hr;refine thn h5 fun _ s6 ⟨x,H6,I6,r6,y6,st6,fr6⟩=>?_
   have I6':=I6.pinned (stat fr6) (T.obj _ _ st6);refine thn (hg _ _ _ _ _ _ s6 _ H6 x u _ I6' r6 (step x H6 y6)) fun _ s7 ⟨σ7,H7,I7,kp,q7⟩=>?_
   refine thn (ht _ _ _ _ _ _ s7 σ7 H7 _ I7 q7) fun ok s8 ⟨H8,I8,q8⟩=>?_
   have again:∀{σ9:St}{H9:Hp}{s9:Shared},Inv (X.cp (Nl++Nf) scope cl (s2.heap.objs.size+1) {s2 with heap:=s2.heap.push {cls:=.type "list", dict:=none,data:=.seq ([]:List Value).toArray}} (upd H2 s2.heap.objs.size (.lst [])) fp) ([]++pinsAt fp s6.heap) σ9 H9 s9 ->
     Kp (List.replicate Nl.length none++pj js σ) σ9->(∃m',m'<n/\W (i+1) m' H9)->∃m,m<n/\∃i H',Inv (X.cp (Nl++Nf) scope cl (s2.heap.objs.size+1) {s2 with heap:=s2.heap.push {cls:=.type "list", dict:=none,data:=.seq ([]:List Value).toArray}} (upd H2 s2.heap.objs.size (.lst [])) fp) [] (List.replicate Nl.length none++pj js σ) H' s9/\tn i s9.heap/\(∀b∈fp,H' b=none)/\W i m H':=fun {σ9 H9 s9} I9 hw ⟨m',hm,w9⟩=>by
    refine⟨m',hm,i+1,H9,I9.unpinned.weak (by rw[I9.len,<- IS.len]) hw,T.keep _ _ _ st6 fun b hb o q=>(I9.pin (b,o) (w0i _ (w0i _ (q3l hb q)))).1,fun b hb=>?_,w9⟩
    obtain⟨o,q,d⟩:=T.obj _ _ st6 b hb;exact(I9.pin (b,o) (w0i _ (w0i _ (q3l hb q)))).2.1
   cases ok with
   |false=>exact again I8 kp (by simpa using q8)
   |true=>
    have q8':=by simpa only[if_true]using q8
    refine thn (he _ _ _ _ _ _ s8 σ7 H8 _ I8 q8') fun y s9 ⟨yv,H9,I9,r9,ys,hD,hz,q9⟩=>?_
    refine thn (q8w _ s9 σ7 H9 (.ref s2.heap.objs.size) [yv] (.ref s2.heap.objs.size) [y] (fun v H'=>v=.non/\H'=upd H9 s2.heap.objs.size (.lst (ys++[yv]))) I9 rfl (.cons r9 .nil) ⟨_,ys,yv,rfl,rfl,hD,hz,rfl,rfl⟩) fun _ s10 ⟨_,H10,I10,_,_,e10⟩=>?_
    subst e10;exact again I10 kp q9
 exact codeAny_compStart_list (loop _ rfl) (T.self X.A 0 _ _ _ stS (loop _ rfl))
end
variable{X:Cx}
theorem x3v{y:Str}{py spos:Pos}{gy:TG}{elt target iter:Expr}{ifs:List Expr}{scope sc:Scope}{pos:Pos}{wi:TI}{g:TG}{tc:TT}{te:TE}{Nl Nf N:List Str}{js:List Nat}(hc:X.calm=true)(hi:PI X target iter wi)
  (ok:compOk sc scope N Nf js=true)
  (hg:∀cl C s₀ H₀ ex,PG (X.cp (Nl++Nf) scope cl C s₀ H₀ ex) target g)(ht:∀cl C s₀ H₀ ex,PTs (X.cp (Nl++Nf) scope cl C s₀ H₀ ex) ifs tc)(he:∀cl C s₀ H₀ ex,PE (X.cp (Nl++Nf) scope cl C s₀ H₀ ex) elt te)
  (hgy:PG X (.Name y py) gy)(hsw:swapsWith (.ListComp elt [⟨target,iter,ifs,0⟩] scope pos) (some (.Name y py)) spos.line X.env=pure true)
  (hsc:X.env.scope=sc:=by rfl)(hN:X.N=N:=by rfl)(hs:∀x,foldedSetIterable iter X.env x=pure x:=by intro _;rfl):
  PS X (.Assign [.Name y py] (.ListComp elt [⟨target,iter,ifs,0⟩] scope pos) spos) (tAsg (tComp wi Nl.length js g tc te) gy):=by
 unfold compOk at ok;simp only[w0j,w0t,beq_iff_eq,bne_iff_ne,w4l,w0u]at ok;obtain⟨⟨⟨⟨⟨⟨k1,k2⟩,k3⟩,k4⟩,k5⟩,k6⟩,k7⟩:=ok;have kind:∀x,X.env.kindOf x=sc.names.lookup x:=fun x=>by rw[<- hsc];rfl
 refine y37 hc hi k1 k2 (fun x hx hl=>(k3 x hx).resolve_left fun z=>z hl) (fun x hx hf=>?_) (fun i j y e1 e2=>?_) k5 (fun y hy=>?_) (fun y hy=>?_) hg ht he hgy hsw hs
 ·rw[kind];rcases k4 x hx with(z|z)|z
  ·exact absurd hf z
  ·exact .inl z
  ·exact .inr z
 ·have hlt:i<js.length:=(w0d.mp e2).1;have z:=k6 i hlt;rw[e1,e2]at z;rw[hN]
  simpa using z
 ·obtain⟨z1,z2⟩:=k7 y hy;refine⟨PySem.mem_of_lookup z1,?_,?_⟩
  ·rw[hsc];rcases z2 with z|z
   ·exact .inr (.inl z)
   ·exact .inr (.inr z)
  ·rw[kind];rcases z2 with z|z<;>(rw[z];decide)
 ·exact q6f (k7 y hy).1
def rCatS(K:PySem.W.Frag):R2:=fun x y H Q=>∃l b xs zs,x=.ref l/\y=.ref b/\SqL K H l xs/\SqL K H b zs/\xs.length+zs.length<=sizeLine/\∀p,H p=none->Q (.ref p) (upd H p (.lst (xs++zs)))
theorem y63:OpR X (binaryOp .Add) (rCatS X.K):=by
 intro pins s σ H x y v u Q I rx ry h;obtain⟨l,b,xs,zs,rfl,rfl,h1,h2,hz,q⟩:=h;cases rx;cases ry;obtain⟨its,r1,p1,_⟩:=I.list h1;obtain⟨its2,r2,p2,_⟩:=I.list h2;obtain⟨⟨cls,dd,data,sl⟩,ho,hc,n,hd⟩:=id p1.isList;obtain⟨⟨cls2,dd2,data2,sl2⟩,ho2,hc2,n2,hd2⟩:=id p2.isList;simp only at hc hd hc2 hd2;subst hc hd hc2 hd2;have l1:=r1.length;have l2:=r2.length;refine concat_meets ⟨_,ho,rfl⟩ ⟨_,ho2,rfl⟩ noFill_list_add seq_list_add PySem.F.slot_list_add PySem.F.entry_list_add (PySem.F.args_list_add_2 _ _) (list_addW l b its.toArray its2.toArray n n2 dd dd2 sl sl2 (by simp only[w0c];omega)) ⟨ho,ho2,?_⟩;have ea:its.toArray++its2.toArray=(its++its2).toArray:=by simp
 rw[ea];exact⟨.ref _,_,I.lnew (t':=s.toks) (r1.append r2) (by rw[w0q];omega),rfl,q _ I.fresh⟩
end L2
namespace D
open PySem L2
variable{a:Addr}{A:Around}{vs ys:Array Value}{t:Bool}{X:Cx}{dA p:Den (List W)}{c cc:Den Bool}{d da db dk:Den W}{e:Expr}{h h':Heap}{G G1 H:Hp}{lo:Int}{EE:L2.St->XK}{pins:List (Addr×Obj)}{ps:List (W×W)}{elts es:List Expr}{js:List Nat}{pe:List S}{q s1:List S->SR}{xs:List V}{us ws:List W}{i j k kt n:Nat}{b:Option Nat}{apos cpos p1 p2 pos:Pos}{P:Program}{K:PySem.W.Frag}{s:Shared}{σ:St}{x y:Str}{T:String}{α:Type}{v v':V}{cv u u':Value}{w w':W}{Z:Zt}
noncomputable def addW:W->W->Option W
 |.int i,.int j=>some (.int (i+j))
 |.str x,.str y=>if x.length+y.length<=16777216 then some (.str (x++y))else none
 |.tup xs,.tup ys=>if xs≠[]/\xs.length+ys.length<=16777216 then some (.tup (xs++ys))else none
 |.lst xs,.lst ys=>if xs.length+ys.length<=16777216 then some (.lst (xs++ys))else none
 |_,_=>none
noncomputable def subW:W->W->Option W
 |.int i,.int j=>some (.int (i-j))
 |_,_=>none
noncomputable def mulW:W->W->Option W
 |.int i,.int j=>if(-(2^64)<i/\i<2^64)\/(-(2^64)<j/\j<2^64)then some (.int (i*j))else none
 |_,_=>none
noncomputable def fdivW:W->W->Option W
 |.int i,.int j=>if 0<j/\j<1073741824 then some (.int (i / j))else none
 |_,_=>none
noncomputable def modW:W->W->Option W
 |.int i,.int j=>if 0<j then some (.int (i%j))else none
 |_,_=>none
noncomputable def ltW:W->W->Option W
 |.int i,.int j=>some (.bl (decide (i<j)))
 |_,_=>none
noncomputable def gtW:W->W->Option W
 |.int i,.int j=>some (.bl (decide (j<i)))
 |_,_=>none
theorem y08:Op2 K (fun x y H Q=>rI0 (fun i j=>.int (i+j)) x y H Q\/((∃i j,x=.str i/\y=.str j/\i.length+j.length<=sizeLine/\Q (.str (i++j)) H)\/(rCatT K x y H Q\/rCatS K x y H Q))) addW:=by
 intro G H x y wx wy w Q s px py hf h;unfold addW at hf;split at hf
 ·cases hf;cases px;cases py;exact .inl ⟨_,_,rfl,rfl,h G _ H (.refl s) rfl⟩
 ·split at hf
  ·rename_i hl;cases hf;cases px;cases py;exact .inr (.inl ⟨_,_,rfl,rfl,by rw[sizeLine_eq];exact hl,h G _ H (.refl s) rfl⟩)
  ·cases hf
 ·rename_i us ws;split at hf
  ·rename_i hl;cases hf;obtain⟨a,xs,rfl,ha,ra⟩:=px;obtain⟨b,ys,rfl,hb,rb⟩:=py;have l1:=ra.length;have l2:=rb.length;refine .inr (.inr (.inl ⟨a,b,xs,ys,rfl,rfl,s.tup ha,s.tup hb,fun z=>hl.1 ?_,by rw[l1,l2,sizeLine_eq];exact hl.2,fun z=>?_,fun z p hp=>?_⟩))
   ·subst z;cases us with
    |nil=>rfl
    |cons _ _=>simp at l1
   ·subst z
    have:ws=[]:=by cases ws with
     |nil=>rfl
     |cons _ _=>simp at l2
    subst this;exact h G _ H (.refl s) ⟨a,xs,rfl,ha,by simpa using ra⟩
   ·have g:=Grow.laid s hp (.tup (xs++ys));exact h _ _ _ g ⟨p,_,rfl,SqT.of q0l,Reps.append (Reps.mono g.gg _ ra) (Reps.mono g.gg _ rb)⟩
  ·cases hf
 ·split at hf
  ·rename_i hl;cases hf;obtain⟨a,xs,rfl,ha,ra⟩:=px;obtain⟨b,ys,rfl,hb,rb⟩:=py;have l1:=ra.length;have l2:=rb.length;refine .inr (.inr (.inr ⟨a,b,xs,ys,rfl,rfl,s.seq ha,s.seq hb,by rw[l1,l2,sizeLine_eq];exact hl,fun p hp=>?_⟩))
   have g:=Grow.laid s hp (.lst (xs++ys));exact h _ _ _ g ⟨p,_,rfl,SqL.of q0l,Reps.append (Reps.mono g.gg _ ra) (Reps.mono g.gg _ rb)⟩
  ·cases hf
 ·cases hf
theorem z0m:Op2 K (rI0 fun i j=>.int (i-j)) subW:=by
 intro G H x y wx wy w Q s px py hf h;unfold subW at hf;split at hf
 ·cases hf;cases px;cases py;exact⟨_,_,rfl,rfl,h G _ H (.refl s) rfl⟩
 ·cases hf
theorem z0n:Op2 K (rI CMul fun i j=>.int (i*j)) mulW:=by
 intro G H x y wx wy w Q s px py hf h;unfold mulW at hf;split at hf
 ·split at hf
  ·rename_i hc;cases hf;cases px;cases py;exact⟨_,_,rfl,rfl,hc,h G _ H (.refl s) rfl⟩
  ·cases hf
 ·cases hf
theorem y64:Op2 K (rI CDiv fun i j=>.int (i / j)) fdivW:=by
 intro G H x y wx wy w Q s px py hf h;unfold fdivW at hf;split at hf
 ·split at hf
  ·rename_i hc;cases hf;cases px;cases py;exact⟨_,_,rfl,rfl,hc,h G _ H (.refl s) rfl⟩
  ·cases hf
 ·cases hf
theorem z0o:Op2 K (rI (fun _ j=>0<j) fun i j=>.int (i%j)) modW:=by
 intro G H x y wx wy w Q s px py hf h;unfold modW at hf;split at hf
 ·split at hf
  ·rename_i hc;cases hf;cases px;cases py;exact⟨_,_,rfl,rfl,hc,h G _ H (.refl s) rfl⟩
  ·cases hf
 ·cases hf
theorem z3e:Op2 K (rI0 fun i j=>.bl (decide (i<j))) ltW:=by
 intro G H x y wx wy w Q s px py hf h;unfold ltW at hf;split at hf
 ·cases hf;cases px;cases py;exact⟨_,_,rfl,rfl,h G _ H (.refl s) rfl⟩
 ·cases hf
theorem z3f:Op2 K (rI0 fun i j=>.bl (decide (j<i))) gtW:=by
 intro G H x y wx wy w Q s px py hf h;unfold gtW at hf;split at hf
 ·cases hf;cases px;cases py;exact⟨_,_,rfl,rfl,h G _ H (.refl s) rfl⟩
 ·cases hf
mutual
noncomputable def eqW:W->W->Option Bool
 |.non,.non=>some true
 |.non,.bl _=>some false|.non,.int _=>some false|.non,.str _=>some false|.non,.tup _=>some false|.non,.lst _=>some false
 |.bl a,.bl b=>some (a==b)
 |.bl a,.int b=>some ((if a then 1 else 0)==b)
 |.bl _,.non=>some false|.bl _,.str _=>some false|.bl _,.tup _=>some false|.bl _,.lst _=>some false
 |.int a,.int b=>some (a==b)
 |.int a,.bl b=>some (a==(if b then 1 else 0))
 |.int _,.non=>some false|.int _,.str _=>some false|.int _,.tup _=>some false|.int _,.lst _=>some false
 |.str a,.str b=>some (a==b)
 |.str _,.non=>some false|.str _,.bl _=>some false|.str _,.int _=>some false|.str _,.tup _=>some false|.str _,.lst _=>some false
 |.tup _,.non=>some false|.tup _,.bl _=>some false|.tup _,.int _=>some false|.tup _,.str _=>some false|.tup _,.lst _=>some false
 |.lst _,.non=>some false|.lst _,.bl _=>some false|.lst _,.int _=>some false|.lst _,.str _=>some false|.lst _,.tup _=>some false
 |.tup xs,.tup ys=>eqWs xs ys
 |.lst xs,.lst ys=>eqWs xs ys
 |.exc _,_=>none
 |_,.exc _=>none
 |.dic _,_=>none
 |_,.dic _=>none
 |.dw _ _ _ _,_=>none
 |.fn _ _ _,_=>none
 |_,.dw _ _ _ _=>none
 |_,.fn _ _ _=>none
noncomputable def eqWs:List W->List W->Option Bool
 |[],[]=>some true
 |[],_::_=>some false
 |_::_,[]=>some false
 |x::xs,y::ys=>match eqW x y,eqWs xs ys with
  |some a,some b=>some (a&&b)
  |_,_=>none
end
noncomputable def ixW:W->W->Option W
 |.tup ws,.int i=>atI ws i
 |.lst ws,.int i=>atI ws i
 |.str z,.int i=>if z.length<=16777216 then(atI z.cps.toList i).map fun c=>.str ⟨#[c]⟩else none
 |_,_=>none
theorem Reps.atI{i:Int}(r:Reps K G ws xs)(h:L2.atI ws i=some w):∃x,L2.atI xs i=some x/\Rep K G w x:=by
 unfold L2.atI at h |-
 rw[r.length];cases q:ixN ws.length i with
 |none=>rw[q]at h;cases h
 |some j=>
  rw[q]at h;exact r.get h
theorem z3g:Op2 K (rIx K) ixW:=by
 intro G H x y wx wy w Q s px py hf h;unfold ixW at hf;split at hf
 ·obtain⟨a,xs,rfl,ha,ra⟩:=px;cases py;obtain⟨v,hv,rv⟩:=ra.atI hf;exact .inr (.inl ⟨a,xs,_,v,rfl,rfl,s.tup ha,hv,h G v H (.refl s) rv⟩)
 ·obtain⟨a,xs,rfl,ha,ra⟩:=px;cases py;obtain⟨v,hv,rv⟩:=ra.atI hf;exact .inl ⟨a,xs,_,v,rfl,rfl,s.seq ha,hv,h G v H (.refl s) rv⟩
 ·cases px;cases py;split at hf
  ·rename_i hl;obtain⟨c,hc,rfl⟩:=w0o.mp hf;exact .inr (.inr ⟨_,_,c,rfl,rfl,by rw[sizeLine_eq];exact hl,hc,h G _ H (.refl s) rfl⟩)
  ·cases hf
 ·cases hf
noncomputable def S.look:S->Option W
 |.fr w=>some w
 |.own _ ws=>some (.lst ws)
 |.no=>none
 |.dic _=>none
 |.thr _ _ _=>none
 |.nest _=>none
 |.x k=>k.look
 |.dw _ _ _=>none
noncomputable def lenW:W->Option W
 |.str z=>if z.length<=16777216 then some (.int z.length)else none
 |.tup ws=>some (.int ws.length)
 |.lst ws=>some (.int ws.length)
 |_=>none
noncomputable def len1:List W->Option W
 |[w]=>lenW w
 |_=>none
theorem z0p:OpN K (fun xs H Q=>∃x n,xs=[x]/\LenV K x H n/\Q (.int n) H) len1:=by
 intro G H xs ws w Q s pr hf h;unfold len1 at hf;split at hf
 ·obtain⟨x,r,rfl,px,pr⟩:=pr;cases(show r=[]from pr);unfold lenW at hf;split at hf
  ·split at hf
   ·rename_i hl;cases hf;cases px;exact⟨_,_,rfl,⟨by rw[sizeLine_eq];exact hl,rfl⟩,h G _ H (.refl s) rfl⟩
   ·cases hf
  ·cases hf;obtain⟨a,xs,rfl,ha,ra⟩:=px;exact⟨_,_,rfl,.inr ⟨xs,s.tup ha,rfl⟩,h G _ H (.refl s) (by rw[ra.length];rfl)⟩
  ·cases hf;obtain⟨a,xs,rfl,ha,ra⟩:=px;exact⟨_,_,rfl,.inl ⟨xs,s.seq ha,rfl⟩,h G _ H (.refl s) (by rw[ra.length];rfl)⟩
  ·cases hf
 ·cases hf
noncomputable def scalW:W->Bool
 |.non=>true|.bl _=>true|.int _=>true|.str _=>true|_=>false
section
variable{a b:Expr}{p:Pos}
theorem q1b(ha:DE Z X EE a d)(hb:DE Z X EE b db)(hs:PlainIx b:=by intro _ _;rfl):DE Z X EE (.Subscript a b pos) (dOp ixW d db):=PE.mono (y54 z0d ha hb hs) (q9p z3g)
noncomputable def dApp(i:Nat)(d:Den (List W)):List S->SR:=fun e=>match e[i]? with
 |some (.own _ _)=>(d e).stm fun ws e1=>match ws,e1[i]? with
  |[w],some (.own b xs)=>if xs.length<16777216 then .nx (e1.set i (.own b (xs++[w])))else .no
  |_,_=>.no
 |_=>.no
theorem x1p(i:Nat)(ha:DA Z X EE (e::es) dA)(hN:X.N[i]?=some x:=by rfl)(hv:Vis X.env.scope x:=by first|exact Or.inl rfl|exact Or.inr (Or.inl rfl)|exact Or.inr (Or.inr rfl))(hd:(x==("__debug__":Str))=false:=by decide)(hcd:(x==("__classdict__":Str))=false:=by decide)
  (hbase:attributeBase (.Name x p) "append" X.env (eval (.Name x p) X.env)=eval (.Name x p) X.env:=by rfl)
  (hfew:((backTo cpos (starEach (e::es) X.env)).all (fun x=>!x.1)&&(backToKw cpos (keywordEach [] X.env)).all (fun x=>x.1.isSome)&&decide ((e::es).length+([]:List Keyword).length+(if([]:List Keyword).isEmpty then 0 else 1)<30))=true:=by rfl)
  (hline:(apos.endLine==cpos.line)=true:=by rfl)(hs:starEach (e::es) X.env=(false,eval e X.env)::starEach es X.env:=by rfl)(hplain:(backTo cpos (starEach es X.env)).any (·.1)=false:=by rfl)
  (hsw:swapsWith (.Call (.Attribute (.Name x p) "append" apos) (e::es) [] cpos) none pos.line X.env=pure false:=by rfl):
  DS Z X EE (.Expr (.Call (.Attribute (.Name x p) "append" apos) (e::es) [] cpos) pos) (dApp i dA):=by
 refine PS.mono (x2n (z0i (pv i hN hv hd hcd) ha hbase hfew hline hs hplain) hsw) ?_;rintro D σ H ⟨G,e,rel,h⟩;unfold dApp at h;split at h
 ·rename_i b0 ws0 he0;obtain⟨a,xs,h1,h2,h3,h4,h5⟩:=rel.own he0;refine⟨.ref a,h1,.inl ⟨rfl,xs,SqL.of h2⟩,G,e,rel,(q14 h).imp (fun ws e1 h G1 vs H1 r1 s1 p1=>?_) fun _ _ h=>h⟩
  split at h
  ·rename_i w b ys he1;obtain⟨a',zs,g1,g2,g3,g4,g5⟩:=r1.own he1;rw[h1]at g1;cases g1;obtain⟨y,r,rfl,py,pr⟩:=p1;cases(show r=[]from pr);split at h
   ·rename_i hl;refine⟨a,zs,y,rfl,rfl,g2,by rw[g5.length,sizeLine_eq];exact hl,?_⟩;exact h G1 σ _ (r1.mut he1 h1 (g5.append (.one py))) s1
   ·exact h.elim
  ·exact h.elim
 ·exact h.elim
end
noncomputable def compD(c:Den Bool)(d:Den W)(pe:List S):List W->Option (List W)
 |[]=>some []
 |w::ws=>match c (.fr w::pe)with
  |.ok true e1=>match d e1 with
   |.ok y _=>(compD c d pe ws).map (y::·)
   |_=>none
  |.ok false _=>compD c d pe ws
  |_=>none
noncomputable def frz1(e:List S)(j:Nat):List S:=match e[j]? with
 |some (.own none ws)=>e.set j (.fr (.lst ws))
 |_=>e
noncomputable def frzs(js:List Nat)(e:List S):List S:=js.foldl frz1 e
noncomputable def pj1(e:List S)(j:Nat):S:=match e[j]? with
 |some (.fr w)=>.fr w
 |_=>.no
noncomputable def pjS(js:List Nat)(e:List S):List S:=js.map (pj1 e)
noncomputable def compK(js:List Nat)(c:Den Bool)(d:Den W)(ws:List W)(e1:List S):R (List W):=
 if ws.length<=16777216 then(match compD c d (pjS js (frzs js e1)) ws with
  |some out=>.ok out (frzs js e1)
  |none=>.no)else .no
noncomputable def dComp(js:List Nat)(di:Den W)(c:Den Bool)(d:Den W):Den (List W):=fun e=>(di e).bind fun w e1=>match seqW w with
 |some ws=>compK js c d ws e1
 |none=>.no
noncomputable def dCompR(g:List W->Option (List W))(js:List Nat)(di:Den (List W))(c:Den Bool)(d:Den W):Den (List W):=fun e=>(di e).bind fun w e1=>match g w with
 |some ws=>compK js c d ws e1
 |none=>.no
noncomputable def dYes:Den Bool:=fun e=>.ok true e
section
variable{H1:Hp}{e e1:List S}
theorem Rel.frzs(r:Rel K Z G σ H e):∀(js:List Nat),∃G',Same G G'/\Rel K Z G' σ H (frzs js e):=by
 intro js
 induction js generalizing G e with
 |nil=>exact⟨G,.refl _,r⟩
 |cons j js ih=>
  have one:∃G',Same G G'/\Rel K Z G' σ H (frz1 e j):=by
   unfold frz1;split
   ·rename_i ws hw;obtain⟨v,G',_,s,_,r'⟩:=r.freeze hw;exact⟨G',s,r'⟩
   ·exact⟨G,.refl _,r⟩
  obtain⟨G1,s1,r1⟩:=one;obtain⟨G2,s2,r2⟩:=ih r1;exact⟨G2,s1.trans s2,r2⟩
theorem Rel.block(r:Rel K Z G σ H e)(js:List Nat){x:V}(p:Rep K G w x):Rel K ⟨H,G,[]⟩ G (some x::pj js σ) H (.fr w::pjS js e):=by
 have hfr:∀(i:Nat)(s:S),(S.fr w::pjS js e)[i]?=some s->s=.no\/∃u,s=.fr u/\((i=0/\u=w)\/∃k j,i=k+1/\js[k]?=some j/\e[j]?=some (.fr u)):=fun i s h=>by
  cases i with
  |zero=>cases h;exact .inr ⟨w,rfl,.inl ⟨rfl,rfl⟩⟩
  |succ k=>
   rw[w0e]at h;unfold pjS at h;rw[w0w]at h;obtain⟨j,h1,h2⟩:=w0o.mp h;unfold pj1 at h2;split at h2
   ·rename_i u hu;subst h2;exact .inr ⟨u,rfl,.inr ⟨k,j,rfl,h1,hu⟩⟩
   ·subst h2;exact .inl rfl
 refine⟨r.sub,fun i s h=>?_,?_,fun i j b b' w1 w2 a h1 h2 _ _=>?_,fun a o h _=>h,(fun a h=>nomatch h),fun a _=>rfl⟩
 ·rcases hfr i s h with rfl|⟨u,rfl,⟨rfl,rfl⟩|⟨k,j,rfl,h1,h2⟩⟩
  ·trivial
  ·exact⟨x,rfl,p⟩
  ·obtain⟨v,h3,h4⟩:=r.fr h2;refine⟨v,?_,h4⟩;rw[w0e];unfold pj;rw[w0w,h1];simp[h3]
 ·simp[pjS,pj]
 ·rcases hfr i _ h1 with z|⟨u,z,_⟩<;>cases z
theorem Rel.mutFree(r:Rel K Z G σ H e){o:HO}(hg:G a=none)(hz:Z.H a=none)(hi:a∉Z.io)(hf:Free σ e a){ls:List V}(hls:H a=some (.lst ls)):Rel K Z G σ (upd H a o) e:=by
 refine⟨fun c u z=>?_,fun j s z=>?_,r.len,r.dis,fun c u z n=>?_,fun c z=>?_,r.gen⟩
 ·rw[q0c (q0q z hg)];exact r.sub c u z
 ·have y:=r.slot j s z;cases s with
  |no=>trivial
  |fr w=>exact y
  |own b2 w2=>
   obtain⟨c,ys,y1,y2,y3,y4,y5⟩:=y;refine⟨c,ys,y1,?_,y3,y4,y5⟩;rw[q0c];exact y2;rintro rfl;obtain⟨c',_,z1,_⟩:=r.own z;rw[z1]at y1;cases y1;exact hf j b2 w2 z z1
  |dic kvs=>
   obtain⟨c,y1,y2,y3,y4⟩:=y;refine⟨c,y1,?_,y3,y4⟩;rw[q0c (q06 y2 hls (q52 rfl))];exact y2
  |thr us w2 vs=>
   obtain⟨t,l,o,xs2,ys,zs,y1,y2,y3,y4,y5,y6⟩:=y;refine⟨t,l,o,xs2,ys,zs,y1,y2,?_,y4,y5,y6⟩;rw[q0c (q06 y3 hls (fun z=>nomatch z))];exact y3
  |nest wss=>exact NestOk.move y (.refl _) fun l o ys k1 k2 k3=>⟨by rw[q0c (q06 k1 hls (fun z=>nomatch z))];exact k1,k2,k3⟩
  |x k=>exact XOk.move y (.refl _) fun l o ys k1 k2 k3=>⟨by rw[q0c (q06 k1 hls (fun z=>nomatch z))];exact k1,k2,k3⟩
  |dw sh ks ws=>exact DwOk.move y (.refl _) fun l o ys k1 k2 k3=>⟨by rw[q0c (q06 k1 hls (q7k rfl))];exact k1,k2,k3⟩
 ·rw[q0c (q0q z hz)];exact r.ent c u z n
 ·by_cases hc:c=a
  ·subst hc;exact absurd z hi
  ·rw[q0c hc];exact r.ion c z
structure Walk(J:It)(xs:List V)(SQ:Hp->Prop):Prop where
 go:∀i H,SQ H->i<xs.length->J.go i H
 yld:∀i H x H',SQ H->J.yld i H x H'->i<xs.length->H'=H/\xs[i]?=some x
 stop:∀i H,SQ H->xs.length<=i->J.stop i H
theorem y09:Walk (Itl K a) xs (fun H=>SqL K H a xs):=
 ⟨fun i H q h=>⟨xs,xs[i],q,by simp[h]⟩,fun i H x H' q ⟨e,y⟩ h=>⟨e,y xs q⟩,fun i H q h=>⟨xs,q,h⟩⟩
theorem y1a:Walk (Itt K a) xs (fun H=>SqT K H a xs):=
 ⟨fun i H q h=>⟨xs,xs[i],q,by simp[h]⟩,fun i H x H' q ⟨e,y⟩ h=>⟨e,y xs q⟩,fun i H q h=>⟨xs,q,h⟩⟩
theorem z0q:Walk (Itr lo n) ((List.range n).map fun k=>V.int (lo+(k:Nat))) (fun _=>True):=
 ⟨fun i H q h=>show i<n by simpa using h,fun i H x H' q ⟨e,y⟩ h=>⟨e,by simp at h;simp[h,y]⟩,fun i H q h=>show n<=i by simpa using h⟩
theorem x2s{J:It}{SQ:Hp->Prop}{out:List W}{Q:VK}{G0:Hp}(W0:Walk J xs SQ)(r1:Rel K Z G1 σ H1 e1)(s1:Same G0 G1)(rp:Reps K G1 ws xs)(hSQ:∀G' H',Same G1 G'->Same G' H'->SQ H')(hl:ws.length<=16777216)
  (hz:∀p,H1 p=none->p∉Z.io)(hc:compD c d (pjS js e1) ws=some out)
  (h:∀G' a xs H',Rel K Z G' σ H' e1->Same G0 G'->H' a=some (.lst xs)->G' a=none->Z.H a=none->Free σ e1 a->Reps K G' out xs->Q (.ref a) H'):
  ∀D,H1 D=none->∃W:Nat->Nat->Hp->Prop,(∃m,W 0 m (upd H1 D (.lst [])))/\∀i m H2,W i m H2 ->
   (J.stop i H2/\Q (.ref D) H2)\/(J.go i H2/\∀x H3,J.yld i H2 x H3->gName 0 x (List.replicate 1 none++pj js σ) H3 fun σ4 H4=>Kp (List.replicate 1 none++pj js σ) σ4/\(fun σ H Q=>∃Z',liftT K Z' (fun _=>E0) c σ H Q) σ4 H4 fun b H5=>
    if b=true then(fun σ H Q=>∃Z',AtG K Z' σ H fun G e=>(d e).holds (fun w e'=>∀G' v H',Rel K Z' G' σ H' e'->Same G G'->Rep K G' w v->Q v H') (XH K Z' (fun _=>E0) σ G)) σ4 H5 fun y H6=>∃ys,H6 D=some (.lst ys)/\ys.length<sizeLine/\∃m',m'<m/\W (i+1) m' (upd H6 D (.lst (ys++[y])))else ∃m',m'<m/\W (i+1) m' H5):=by
 intro D hD;have hlen:=rp.length
 refine⟨fun i m H2=>m=ws.length-i/\i<=ws.length/\∃G2 ys done rest,Rel K Z G2 σ H2 e1/\Same G1 G2/\H2 D=some (.lst ys)/\G2 D=none/\Reps K G2 done ys/\done.length<=i/\compD c d (pjS js e1) (ws.drop i)=some rest/\done++rest=out,
  ⟨ws.length,by omega,w1b _,G1,[],[],out,r1.grow (Grow.hid r1.sub hD _),.refl _,q0l,r1.sub.free hD,rfl,w0f _,hc,rfl⟩,?_⟩
 rintro i m H2 ⟨rfl,hi,G2,ys,done,rest,r2,s2,hd2,hg2,rp2,hdl,hc2,ho⟩;have hfree:Free σ e1 D:=q6i r1 hD;have hzh:Z.H D=none:=q6j r1 hD
 by_cases hlt:i<ws.length
 ·refine .inr ⟨W0.go i H2 (hSQ G2 H2 s2 r2.sub) (by omega),fun x H3 hy=>?_⟩
  obtain⟨rfl,hx⟩:=W0.yld i H2 x H3 (hSQ G2 H2 s2 r2.sub) hy (by omega);obtain⟨w,hw,pw⟩:=rp.getV hx;rw[x3u hw]at hc2;refine⟨Kp.one,⟨H3,G2,[]⟩,G2,.fr w::pjS js e1,r2.block js (Rep.mono s2 w pw),?_⟩;unfold compD at hc2;cases qc:c (.fr w::pjS js e1)with
  |no=>rw[qc]at hc2;cases hc2
  |ex _ _=>rw[qc]at hc2;cases hc2
  |ok k e2=>
   rw[qc]at hc2;intro G3 H5 r3 s3;have g3:=r3.toGrow s3;cases k with
   |false=>
    exact⟨ws.length-(i+1),by omega,rfl,hlt,G3,ys,done,rest,r2.grow g3,s2.trans s3,g3.hh _ _ hd2,by rw[g3.new D (by rw[hd2];simp)];exact hg2,Reps.mono s3 _ rp2,by omega,hc2,ho⟩
   |true=>
    refine⟨⟨H3,G2,[]⟩,G3,e2,r3,?_⟩;dsimp only at hc2;cases qd:d e2 with
    |no=>rw[qd]at hc2;cases hc2
    |ex _ _=>rw[qd]at hc2;cases hc2
    |ok y e3=>
     rw[qd]at hc2;intro G4 v H6 r4 s4 p4;have g4:=r4.toGrow (s3.trans s4);obtain⟨rest',hr,rfl⟩:=w0o.mp hc2;have hd6:H6 D=some (.lst ys):=g4.hh _ _ hd2;have hg6:G4 D=none:=by rw[g4.new D (by rw[hd2];simp)];exact hg2
     refine⟨ys,hd6,?_,ws.length-(i+1),by omega,rfl,hlt,G4,ys++[v],done++[y],rest',(r2.grow g4).mutFree hg6 hzh (hz D hD) hfree hd6,s2.trans (s3.trans s4),q0l,hg6,(Reps.mono (s3.trans s4) _ rp2).append (.one p4),by simp;omega,hr,by rw[w2v];exact ho⟩;rw[rp2.length,sizeLine_eq];omega
 ·have:i=ws.length:=by omega
  subst this;rw[w3l]at hc2;cases hc2;rw[w1n]at ho;subst ho;exact .inl ⟨W0.stop _ H2 (hSQ G2 H2 s2 r2.sub) (by omega),h G2 D ys H2 r2 (s1.trans s2) hd2 hg2 hzh hfree rp2⟩
end
section
variable{elt iter a b:Expr}{ifs:List Expr}{scope sc:Scope}{pt:Pos}{Nf N:List Str}{di:Den W}
def DTs(Z:Zt)(X:Cx)(EE:L2.St->XK)(ifs:List Expr)(c:Den Bool):Prop:=PTs X ifs (liftT X.K Z EE c)
theorem q19:DTs Z X EE [] dYes:=fun pins s σ H Q I ⟨G,e,r,h⟩=>y6q pins s σ H Q I (h G H r (.refl _))
theorem q41(h:DT Z X EE a c):DTs Z X EE [a] c:=y6r h
def cT(K:PySem.W.Frag)(c:Den Bool):TT:=fun σ H Q=>∃Z',liftT K Z' (fun _=>E0) c σ H Q
def cE(K:PySem.W.Frag)(d:Den W):TE:=fun σ H Q=>∃Z',AtG K Z' σ H fun G e=>(d e).holds (fun w e'=>∀G' v H',Rel K Z' G' σ H' e'->Same G G'->Rep K G' w v->Q v H') (XH K Z' (fun _=>E0) σ G)
theorem x3w{D:Ends}{r:R (List W)}{k:W->List S->SR}(h:PostS K Z EE D G ((r.bind fun ws e'=>.ok (.lst ws) e').stm k)):r.holds (fun ws e'=>PostS K Z EE D G (k (.lst ws) e')) (XH K Z EE σ G):=by
 cases r with
 |ok a e=>exact h
 |ex c e=>exact fun G' H' r q=>h G' σ H' r q
 |no=>exact h
theorem x1q{Y:List Str}(ht:∀Z' cl C s₀ H₀ ex,DTs Z' (X.cp Y scope cl C s₀ H₀ ex) (fun _=>E0) ifs c):∀cl C s₀ H₀ ex,PTs (X.cp Y scope cl C s₀ H₀ ex) ifs (cT X.K c):=fun cl C s₀ H₀ ex pins s σ H Q I ⟨Z',h⟩=>ht Z' cl C s₀ H₀ ex pins s σ H Q I h
theorem x1r{Y:List Str}(he:∀Z' cl C s₀ H₀ ex,DE Z' (X.cp Y scope cl C s₀ H₀ ex) (fun _=>E0) elt d):∀cl C s₀ H₀ ex,PE (X.cp Y scope cl C s₀ H₀ ex) elt (cE X.K d):=fun cl C s₀ H₀ ex pins s σ H Q I ⟨Z',h⟩=>he Z' cl C s₀ H₀ ex pins s σ H Q I h
theorem ionone{e:List S}(r:Rel K Z G σ H e):∀p,H p=none->p∉Z.io:=fun p hp hi=>r.ion p hi hp
theorem x3x:∀σ H Q,liftF K Z EE (dComp js di c d) σ H Q->tComp (iSeq K (liftE K Z EE di)) 1 js (gName 0) (cT K c) (cE K d) σ H Q:=by
 rintro σ H Q ⟨G,e,rel,h⟩;simp only[dComp,R.holds_bind]at h;refine⟨G,e,rel,h.imp (fun w e1 h G1 v1 H1 r1 s1 p1=>?_) fun _ _ h=>h⟩
 split at h
 ·rename_i ws hw;unfold compK at h;split at h
  ·rename_i hl;split at h
   ·rename_i out ho;obtain⟨G2,s2,r2⟩:=r1.frzs js;have p2:=Rep.mono s2 w p1;have io:=ionone r2;cases w with
    |tup us=>
     cases hw;obtain⟨a,xs,rfl,hq,rp⟩:=p2;exact⟨a,rfl,.inr ⟨⟨xs,r2.sub.tup hq⟩,x2s y1a r2 (s1.trans s2) rp (fun G' H' s s'=>Same.tup s' (Same.tup s hq)) hl io ho h⟩⟩
    |lst us=>
     cases hw;obtain⟨a,xs,rfl,hq,rp⟩:=p2;exact⟨a,rfl,.inl ⟨⟨xs,r2.sub.seq hq⟩,x2s y09 r2 (s1.trans s2) rp (fun G' H' s s'=>Same.seq s' (Same.seq s hq)) hl io ho h⟩⟩
    |_=>cases hw
   ·exact h.elim
  ·exact h.elim
 ·exact h.elim
theorem q3y(hc:X.calm=true)(hi:DE Z X EE iter di)(ok:compOk sc scope N Nf js=true)
  (ht:∀Z' cl C s₀ H₀ ex,DTs Z' (X.cp ([x]++Nf) scope cl C s₀ H₀ ex) (fun _=>E0) ifs c)(he:∀Z' cl C s₀ H₀ ex,DE Z' (X.cp ([x]++Nf) scope cl C s₀ H₀ ex) (fun _=>E0) elt d)
  (hg:∀cl C s₀ H₀ ex,PG (X.cp ([x]++Nf) scope cl C s₀ H₀ ex) (.Name x pt) (gName 0))
  (hsc:X.env.scope=sc:=by rfl)(hN:X.N=N:=by rfl)(hs:∀x,foldedSetIterable iter X.env x=pure x:=by intro _;rfl):
  DF Z X EE (.ListComp elt [⟨.Name x pt,iter,ifs,0⟩] scope pos) (dComp js di c d):=by
 exact PE.mono (x0s (Nl:=[x]) (tc:=cT X.K c) (te:=cE X.K d) hc (x1m hi) ok hg (x1q ht) (x1r he) hsc hN hs) x3x
theorem x9u(i:Nat){py spos:Pos}(hNd:X.N.Nodup)(hc:X.calm=true)(hi:DE Z X EE iter di)(ok:compOk sc scope N Nf js=true)
  (ht:∀Z' cl C s₀ H₀ ex,DTs Z' (X.cp ([x]++Nf) scope cl C s₀ H₀ ex) (fun _=>E0) ifs c)(he:∀Z' cl C s₀ H₀ ex,DE Z' (X.cp ([x]++Nf) scope cl C s₀ H₀ ex) (fun _=>E0) elt d)
  (hg:∀cl C s₀ H₀ ex,PG (X.cp ([x]++Nf) scope cl C s₀ H₀ ex) (.Name x pt) (gName 0))
  (hsc:X.env.scope=sc:=by rfl)(hN:X.N=N:=by rfl)(hs:∀x,foldedSetIterable iter X.env x=pure x:=by intro _;rfl)(hiy:X.N[i]?=some y:=by rfl)(hxy:Loc X.env.scope y:=by walk_at "3")(hfy:X.fn y=true\/X.env.scope.names.lookup y=some .local:=by walk_at "2")(hsw:swapsWith (.ListComp elt [⟨.Name x pt,iter,ifs,0⟩] scope pos) (some (.Name y py)) spos.line X.env=pure true:=by rfl):
  DS Z X EE (.Assign [.Name y py] (.ListComp elt [⟨.Name x pt,iter,ifs,0⟩] scope pos) spos) (dSet i (dFz (dComp js di c d))):=by
 refine PS.mono (x3v (Nl:=[x]) (tc:=cT X.K c) (te:=cE X.K d) hc (x1m hi) ok hg (x1q ht) (x1r he) (q09 i hNd hiy hxy hfy) hsw hsc hN hs) ?_;rintro D σ H ⟨G,e,rel,h⟩;refine x3x σ H _ ⟨G,e,rel,?_⟩;refine(x3w h).imp (fun w e1 h G1 a xs H1 r1 s1 q1 q2 q3 q4 p1=>?_) fun _ _ h=>h
 obtain⟨sg,rg⟩:=r1.seen q1 q2 q3 q4;exact h _ _ H1 (rg.set (v:=.ref a) ⟨a,xs,rfl,SqL.of q0l,Reps.mono sg w p1⟩) (s1.trans sg)
theorem x1s:∀σ H Q,liftF K Z EE (dCompR rng1 js dA c d) σ H Q->tComp (iRng1 (liftA K Z EE dA)) 1 js (gName 0) (cT K c) (cE K d) σ H Q:=by
 rintro σ H Q ⟨G,e,rel,h⟩;simp only[dCompR,R.holds_bind]at h;refine⟨G,e,rel,h.imp (fun ws e1 h G1 vs H1 r1 s1 p1=>?_) fun _ _ h=>h⟩
 unfold rng1 at h;split at h
 ·rename_i us hh;split at hh
  ·rename_i j;split at hh
   ·rename_i hj;cases hh;obtain⟨y,r,rfl,e1,e2⟩:=p1;cases(show y=V.int j from e1);cases(show r=[]from e2);refine⟨j,rfl,(x1k hj).1,(x1k hj).2,?_⟩;unfold compK at h;split at h
    ·rename_i hl;split at h
     ·rename_i out ho;obtain⟨G2,s2,r2⟩:=r1.frzs js;have z:=x2s (J:=Itr 0 (j-0).toNat) z0q r2 (s1.trans s2) (x1n (lo:=0) (hi:=j)) (fun _ _ _ _=>trivial) hl (ionone r2) ho h
      rwa [w5k]at z
     ·exact h.elim
    ·exact h.elim
   ·cases hh
  ·cases hh
 ·exact h.elim
theorem q6k(hc:X.calm=true)(hm:X.mg "range"=none)(ha:DA Z X EE [a] dA)(ok:compOk sc scope N Nf js=true)
  (ht:∀Z' cl C s₀ H₀ ex,DTs Z' (X.cp ([x]++Nf) scope cl C s₀ H₀ ex) (fun _=>E0) ifs c)(he:∀Z' cl C s₀ H₀ ex,DE Z' (X.cp ([x]++Nf) scope cl C s₀ H₀ ex) (fun _=>E0) elt d)
  (hg:∀cl C s₀ H₀ ex,PG (X.cp ([x]++Nf) scope cl C s₀ H₀ ex) (.Name x pt) (gName 0))
  (hgr:Gl X "range":=by rfl)(hs1:starEach [a] X.env=[(false,eval a X.env)]:=by rfl)(hsc:X.env.scope=sc:=by rfl)(hN:X.N=N:=by rfl)(hs:∀x,foldedSetIterable (.Call (.Name "range" p1) [a] [] p2) X.env x=pure x:=by intro _;rfl):
  DF Z X EE (.ListComp elt [⟨.Name x pt,.Call (.Name "range" p1) [a] [] p2,ifs,0⟩] scope pos) (dCompR rng1 js dA c d):=by
 exact PE.mono (x0s (Nl:=[x]) (tc:=cT X.K c) (te:=cE X.K d) hc (q8u hgr hm ha hs1) ok hg (x1q ht) (x1r he) hsc hN hs) x1s
theorem q7b(i:Nat){py spos:Pos}(hNd:X.N.Nodup)(hc:X.calm=true)(hm:X.mg "range"=none)(ha:DA Z X EE [a] dA)(ok:compOk sc scope N Nf js=true)
  (ht:∀Z' cl C s₀ H₀ ex,DTs Z' (X.cp ([x]++Nf) scope cl C s₀ H₀ ex) (fun _=>E0) ifs c)(he:∀Z' cl C s₀ H₀ ex,DE Z' (X.cp ([x]++Nf) scope cl C s₀ H₀ ex) (fun _=>E0) elt d)
  (hg:∀cl C s₀ H₀ ex,PG (X.cp ([x]++Nf) scope cl C s₀ H₀ ex) (.Name x pt) (gName 0))
  (hgr:Gl X "range":=by rfl)(hs1:starEach [a] X.env=[(false,eval a X.env)]:=by rfl)(hsc:X.env.scope=sc:=by rfl)(hN:X.N=N:=by rfl)(hs:∀x,foldedSetIterable (.Call (.Name "range" p1) [a] [] p2) X.env x=pure x:=by intro _;rfl)(hiy:X.N[i]?=some y:=by rfl)(hxy:Loc X.env.scope y:=by walk_at "3")(hfy:X.fn y=true\/X.env.scope.names.lookup y=some .local:=by walk_at "2")(hsw:swapsWith (.ListComp elt [⟨.Name x pt,.Call (.Name "range" p1) [a] [] p2,ifs,0⟩] scope pos) (some (.Name y py)) spos.line X.env=pure true:=by rfl):
  DS Z X EE (.Assign [.Name y py] (.ListComp elt [⟨.Name x pt,.Call (.Name "range" p1) [a] [] p2,ifs,0⟩] scope pos) spos) (dSet i (dFz (dCompR rng1 js dA c d))):=by
 refine PS.mono (x3v (Nl:=[x]) (tc:=cT X.K c) (te:=cE X.K d) hc (q8u hgr hm ha hs1) ok hg (x1q ht) (x1r he) (q09 i hNd hiy hxy hfy) hsw hsc hN hs) ?_;rintro D σ H ⟨G,e,rel,h⟩;refine x1s σ H _ ⟨G,e,rel,?_⟩;refine(x3w h).imp (fun w e1 h G1 a xs H1 r1 s1 q1 q2 q3 q4 p1=>?_) fun _ _ h=>h
 obtain⟨sg,rg⟩:=r1.seen q1 q2 q3 q4;exact h _ _ H1 (rg.set (v:=.ref a) ⟨a,xs,rfl,SqL.of q0l,Reps.mono sg w p1⟩) (s1.trans sg)
end
mutual
noncomputable def depW:W->Nat
 |.tup ws=>depWs ws+1
 |.lst ws=>depWs ws+1
 |_=>0
noncomputable def depWs:List W->Nat
 |[]=>0
 |w::ws=>max (depW w) (depWs ws)
end
mutual
theorem x2t(I:Inv X pins σ H s)(sg:Same G H):∀(w:W){w':W}{v:V}{k:Bool},Rep X.K G w v->Rep X.K G w' v->eqW w w'=some k->k=true
 |.non,w',v,k,h,h',e=>by
  cases(show v=.non from h);cases w'<;>first|(cases e;done)|(cases h';cases e;rfl)|(exfalso;obtain⟨_,_,z,_⟩:=h';first|done|cases z)|(exfalso;obtain⟨_,z,_⟩:=h';first|done|cases z)
 |.bl b,w',v,k,h,h',e=>by
  cases(show v=.bl b from h);cases w'<;>first|(cases e;done)|(cases h';cases e;exact beq_self_eq_true _)|(exfalso;obtain⟨_,_,z,_⟩:=h';first|done|cases z)|(exfalso;obtain⟨_,z,_⟩:=h';first|done|cases z)
 |.int b,w',v,k,h,h',e=>by
  cases(show v=.int b from h);cases w'<;>first|(cases e;done)|(cases h';cases e;exact beq_self_eq_true _)|(exfalso;obtain⟨_,_,z,_⟩:=h';first|done|cases z)|(exfalso;obtain⟨_,z,_⟩:=h';first|done|cases z)
 |.str b,w',v,k,h,h',e=>by
  cases(show v=.str b from h);cases w'<;>first|(cases e;done)|(cases h';cases e;exact beq_self_eq_true _)|(exfalso;obtain⟨_,_,z,_⟩:=h';first|done|cases z)|(exfalso;obtain⟨_,z,_⟩:=h';first|done|cases z)
 |.tup ws,w',v,k,h,h',e=>by
  obtain⟨a,xs,rfl,q,r⟩:=h;cases w' with
  |tup ws'=>
   obtain⟨a',xs',z,q',r'⟩:=h';cases z;have:=I.tuple_inj (sg.tup q) (sg.tup q');subst this;exact x0v I sg ws r r' (e)
  |lst ws'=>
   obtain⟨a',xs',z,q',r'⟩:=h';cases z;obtain⟨its,_,p1,_⟩:=I.tuple (sg.tup q);obtain⟨its2,_,p2,_⟩:=I.list (sg.seq q');exact absurd rfl (SeqAt.ne_of_list_tuple p2.isList (show s.heap.IsTuple a _ from p1))
  |non=>cases h'
  |bl _=>cases h'
  |int _=>cases h'
  |str _=>cases h'
  |exc _=>cases e
  |dic _=>cases e
  |dw _ _ _ _=>cases e
  |fn _ _ _=>cases e
 |.lst ws,w',v,k,h,h',e=>by
  obtain⟨a,xs,rfl,q,r⟩:=h;cases w' with
  |lst ws'=>
   obtain⟨a',xs',z,q',r'⟩:=h';cases z;have:=I.list_inj (sg.seq q) (sg.seq q');subst this;exact x0v I sg ws r r' (e)
  |tup ws'=>
   obtain⟨a',xs',z,q',r'⟩:=h';cases z;obtain⟨its,_,p1,_⟩:=I.tuple (sg.tup q');obtain⟨its2,_,p2,_⟩:=I.list (sg.seq q);exact absurd rfl (SeqAt.ne_of_list_tuple p2.isList (show s.heap.IsTuple a _ from p1))
  |non=>cases h'
  |bl _=>cases h'
  |int _=>cases h'
  |str _=>cases h'
  |exc _=>cases e
  |dic _=>cases e
  |dw _ _ _ _=>cases e
  |fn _ _ _=>cases e
 |.exc c,w',v,k,h,h',e=>by cases w'<;>cases e
 |.dic c,w',v,k,h,h',e=>by cases w'<;>cases e
 |.dw _ _ _ _,w',v,k,h,h',e=>by cases w'<;>cases e
 |.fn _ _ _,w',v,k,h,h',e=>by cases w'<;>cases e
theorem x0v(I:Inv X pins σ H s)(sg:Same G H):∀(ws:List W){ws':List W}{vs:List V}{k:Bool},Reps X.K G ws vs->Reps X.K G ws' vs->eqWs ws ws'=some k->k=true
 |[],ws',vs,k,h,h',e=>by
  cases h;cases ws' with
  |nil=>cases e;rfl
  |cons _ _=>obtain⟨_,_,z,_⟩:=h';cases z
 |w::ws,ws',vs,k,h,h',e=>by
  obtain⟨x,r,rfl,h1,h2⟩:=h;cases ws' with
  |nil=>cases h'
  |cons w' ws'=>
   obtain⟨x',r',z,h1',h2'⟩:=h';cases z;have e:(match eqW w w',eqWs ws ws' with|some a,some b=>some (a&&b)|_,_=>none)=some k:=e;cases q1:eqW w w' with
   |none=>rw[q1]at e;cases e
   |some b1=>
    cases q2:eqWs ws ws' with
    |none=>rw[q1,q2]at e;cases e
    |some b2=>
     rw[q1,q2]at e;rw[x2t I sg w h1 h1' q1,x0v I sg ws h2 h2' q2]at e;cases e;rfl
end
theorem q5d:∀{xs ys:List W}{b:Bool},eqWs xs ys=some b->(∀(j:Nat) x y,xs[j]?=some x->ys[j]?=some y->∃k,eqW x y=some k)/\b=((List.range (min xs.length ys.length)).all (fun j=>((eqW (xs.getD j .non) (ys.getD j .non)).getD false))&&xs.length==ys.length):=by
 intro xs
 induction xs with
 |nil=>
  intro ys b h;refine⟨fun j x y hx=>by simp at hx,?_⟩
  cases ys<;>(cases h;simp)
 |cons x xs ih=>
  intro ys b h;cases ys with
  |nil=>refine⟨fun j x y hx hy=>by simp at hy,?_⟩;cases h;simp
  |cons y ys=>
   have h:(match eqW x y,eqWs xs ys with|some a,some b=>some (a&&b)|_,_=>none)=some b:=h;cases q1:eqW x y with
   |none=>rw[q1]at h;cases h
   |some b1=>
    cases q2:eqWs xs ys with
    |none=>rw[q1,q2]at h;cases h
    |some b2=>
     rw[q1,q2]at h;cases h;obtain⟨h1,h2⟩:=ih q2;refine⟨fun j x' y' hx hy=>?_,?_⟩
     ·cases j with
      |zero=>simp at hx hy;subst hx hy;exact⟨_,q1⟩
      |succ j=>exact h1 j x' y' (by simpa using hx) (by simpa using hy)
     ·rw[h2];simp only[w0p,Nat.succ_min_succ,List.range_succ_eq_map,w1s,w3s]
      have e0:(eqW ((x::xs).getD 0 .non) ((y::ys).getD 0 .non)).getD false=b1:=by
       show(eqW x y).getD false=b1;rw[q1];rfl
      rw[e0,w4s];congr 1;congr 1;simp
theorem q81:∀{xs:List W}{j:Nat}{x:W},xs[j]?=some x->depW x<=depWs xs
 |[],_,_,h=>by simp at h
 |y::ys,0,x,h=>by simp at h;subst h;simp only[depWs];omega
 |y::ys,j+1,x,h=>by
  have:=q81 (xs:=ys) (j:=j) (by simpa using h);simp only[depWs];omega
theorem q9r{xs:List α}{x d:α}(h:xs[j]?=some x):xs.getD j d=x:=by
 simp[List.getD,h]
theorem x5v(I:Inv X pins σ H s)(sg:Same G H){b:Bool}(hu:A.units<cLine)(n1:∀ws,w=.tup ws->∀ws',w'≠.tup ws')(n2:∀ws,w=.lst ws->∀ws',w'≠.lst ws')(h:Rep X.K G w v)(h':Rep X.K G w' v')(r:RelV v u)(r':RelV v' u')(e:eqW w w'=some b):SeqAt.RcAt A s u u' b:=by
 have tl:∀{ws:List W}{v:V}{u:Value},Rep X.K G (.lst ws) v->RelV v u->∃l items,u=.ref l/\s.heap.IsList l items:=fun h r=>by
  obtain⟨a,xs,rfl,q,_⟩:=h;cases r;obtain⟨its,_,p,_⟩:=I.list (sg.seq q);exact⟨a,_,rfl,p.isList⟩
 have tt:∀{ws:List W}{v:V}{u:Value},Rep X.K G (.tup ws) v->RelV v u->∃l items,u=.ref l/\s.heap.IsTuple l items:=fun h r=>by
  obtain⟨a,xs,rfl,q,_⟩:=h;cases r;obtain⟨its,_,p,_⟩:=I.tuple (sg.tup q);exact⟨a,_,rfl,p⟩
 have tn:∀{v:V}{u:Value},Rep X.K G .non v->RelV v u->u=.none:=fun h r=>by cases h;exact r
 have tb:∀{k:Bool}{v:V}{u:Value},Rep X.K G (.bl k) v->RelV v u->u=.bool k:=fun h r=>by cases h;exact r
 have ti:∀{k:Int}{v:V}{u:Value},Rep X.K G (.int k) v->RelV v u->∃t,u=.int k t:=fun h r=>by cases h;exact r
 have ts:∀{k:Str}{v:V}{u:Value},Rep X.K G (.str k) v->RelV v u->∃t,u=.str k t:=fun h r=>by cases h;exact r
 cases w with
 |non=>
  obtain rfl:=tn h r;cases w' with
  |non=>obtain rfl:=tn h' r';cases e;exact .none_none
  |bl k=>obtain rfl:=tb h' r';cases e;exact .none_bool k
  |int k=>obtain⟨t,rfl⟩:=ti h' r';cases e;exact .none_int k t
  |str k=>obtain⟨t,rfl⟩:=ts h' r';cases e;exact .none_str k t
  |tup k=>obtain⟨l,it,rfl,p⟩:=tt h' r';cases e;exact .none_tuple p hu
  |lst k=>obtain⟨l,it,rfl,p⟩:=tl h' r';cases e;exact .none_list p hu
  |exc k=>cases e
  |dic k=>cases e
  |dw _ _ _ _=>cases e
  |fn _ _ _=>cases e
 |bl j=>
  obtain rfl:=tb h r;cases w' with
  |non=>obtain rfl:=tn h' r';cases e;exact .bool_none j
  |bl k=>obtain rfl:=tb h' r';cases e;exact .bool_bool j k
  |int k=>obtain⟨t,rfl⟩:=ti h' r';cases e;exact .bool_int j k t
  |str k=>obtain⟨t,rfl⟩:=ts h' r';cases e;exact .bool_str j k t
  |tup k=>obtain⟨l,it,rfl,p⟩:=tt h' r';cases e;exact .bool_tuple j p hu
  |lst k=>obtain⟨l,it,rfl,p⟩:=tl h' r';cases e;exact .bool_list j p hu
  |exc k=>cases e
  |dic k=>cases e
  |dw _ _ _ _=>cases e
  |fn _ _ _=>cases e
 |int j=>
  obtain⟨t1,rfl⟩:=ti h r;cases w' with
  |non=>obtain rfl:=tn h' r';cases e;exact .int_none j t1
  |bl k=>obtain rfl:=tb h' r';cases e;exact .int_bool j t1 k
  |int k=>obtain⟨t,rfl⟩:=ti h' r';cases e;exact .int_int j t1 k t
  |str k=>obtain⟨t,rfl⟩:=ts h' r';cases e;exact .int_str j t1 k t
  |tup k=>obtain⟨l,it,rfl,p⟩:=tt h' r';cases e;exact .int_tuple j t1 p hu
  |lst k=>obtain⟨l,it,rfl,p⟩:=tl h' r';cases e;exact .int_list j t1 p hu
  |exc k=>cases e
  |dic k=>cases e
  |dw _ _ _ _=>cases e
  |fn _ _ _=>cases e
 |str j=>
  obtain⟨t1,rfl⟩:=ts h r;cases w' with
  |non=>obtain rfl:=tn h' r';cases e;exact .str_none j t1
  |bl k=>obtain rfl:=tb h' r';cases e;exact .str_bool j t1 k
  |int k=>obtain⟨t,rfl⟩:=ti h' r';cases e;exact .str_int j t1 k t
  |str k=>obtain⟨t,rfl⟩:=ts h' r';cases e;exact .str_str j t1 k t
  |tup k=>obtain⟨l,it,rfl,p⟩:=tt h' r';cases e;exact .str_tuple j t1 p hu
  |lst k=>obtain⟨l,it,rfl,p⟩:=tl h' r';cases e;exact .str_list j t1 p hu
  |exc k=>cases e
  |dic k=>cases e
  |dw _ _ _ _=>cases e
  |fn _ _ _=>cases e
 |tup j=>
  obtain⟨l1,it1,rfl,p1⟩:=tt h r;cases w' with
  |non=>obtain rfl:=tn h' r';cases e;exact .tuple_none p1 hu
  |bl k=>obtain rfl:=tb h' r';cases e;exact .tuple_bool k p1 hu
  |int k=>obtain⟨t,rfl⟩:=ti h' r';cases e;exact .tuple_int k t p1 hu
  |str k=>obtain⟨t,rfl⟩:=ts h' r';cases e;exact .tuple_str k t p1 hu
  |tup k=>exact absurd rfl (n1 j rfl k)
  |lst k=>obtain⟨l,it,rfl,p⟩:=tl h' r';cases e;exact .tuple_list p1 p hu
  |exc k=>cases e
  |dic k=>cases e
  |dw _ _ _ _=>cases e
  |fn _ _ _=>cases e
 |lst j=>
  obtain⟨l1,it1,rfl,p1⟩:=tl h r;cases w' with
  |non=>obtain rfl:=tn h' r';cases e;exact .list_none p1 hu
  |bl k=>obtain rfl:=tb h' r';cases e;exact .list_bool k p1 hu
  |int k=>obtain⟨t,rfl⟩:=ti h' r';cases e;exact .list_int k t p1 hu
  |str k=>obtain⟨t,rfl⟩:=ts h' r';cases e;exact .list_str k t p1 hu
  |lst k=>exact absurd rfl (n2 j rfl k)
  |tup k=>obtain⟨l,it,rfl,p⟩:=tt h' r';cases e;exact .list_tuple p1 p hu
  |exc k=>cases e
  |dic k=>cases e
  |dw _ _ _ _=>cases e
  |fn _ _ _=>cases e
 |exc j=>cases w'<;>cases e
 |dic j=>cases w'<;>cases e
 |dw _ _ _ _=>cases w'<;>cases e
 |fn _ _ _=>cases w'<;>cases e
theorem x8q(I:Inv X pins σ H s)(sg:Same G H){b:Bool}(hd:depW w<=0)(hu:A.units<cLine)(h:Rep X.K G w v)(h':Rep X.K G w' v')(r:RelV v u)(r':RelV v' u')(e:eqW w w'=some b):SeqAt.RcAt A s u u' b:=
 x5v I sg hu (fun ws z=>by subst z;simp[depW]at hd) (fun ws z=>by subst z;simp[depW]at hd) h h' r r' e
theorem x5w(h:Rep K G w v):∀x,v≠.flt x:=fun x z=>by
 subst z;cases w with
 |tup ws=>obtain⟨_,_,z,_⟩:=h;cases z
 |lst ws=>obtain⟨_,_,z,_⟩:=h;cases z
 |exc c=>obtain⟨_,z,_⟩:=h;cases z
 |dic c=>obtain⟨_,z,_⟩:=h;cases z
 |dw _ _ _ _=>obtain⟨_,_,_,z,_⟩:=h;cases z
 |fn _ _ _=>obtain⟨_,_,_,_,z,_⟩:=h;cases z
 |_=>cases h
theorem x5x{b:Bool}(rv:RelV v u)(hf:∀x,v≠.flt x)(h:SeqAt.RcAt A s u u' b)(hs:u=u'->b=true):SeqAt.EqAt A s u u' b:=fun prog w E Q hq=>by
 unfold eqBool;refine wpAny_holding ?_;refine wpAny_ite_split (fun hab=>?_) (fun _=>?_)
 ·have hb:=hs (eq_of_beq hab);subst hb;exact wpAny_bind (wpAny_rule (wpAny_pure hq))
 ·have z:=wpAny_bind (h prog w E (fun a s'=>wpAny (model prog w) A (truthOfDropped a) Q E s') (wpAny_truthy_bool hq))
  cases v with
  |flt x=>exact absurd rfl (hf x)
  |non=>cases rv;exact z
  |bl _=>cases rv;exact z
  |int _=>obtain⟨t,rfl⟩:=rv;exact z
  |str _=>obtain⟨t,rfl⟩:=rv;exact z
  |byt _=>obtain⟨t,rfl⟩:=rv;exact z
  |ref _=>cases rv;exact z
  |ty _=>cases rv;exact z
theorem y57(I:Inv X pins σ H s)(sg:Same G H):∀(n:Nat){w w':W}{v v':V}{u u':Value}{b:Bool}{A:Around},depW w<=n->A.units+n<cLine->Rep X.K G w v->Rep X.K G w' v'->RelV v u->RelV v' u'->eqW w w'=some b->SeqAt.RcAt A s u u' b:=by
 intro n
 induction n with
 |zero=>
  intro w w' v v' u u' b A hd hu h h' r r' e;exact x8q I sg hd (by omega) h h' r r' e
 |succ n ih=>
  intro w w' v v' u u' b A hd hu h h' r r' e
  have items:∀{ws ws':List W}{xs xs':List V}{its its':List Value}{k:Bool},depWs ws<=n->Reps X.K G ws xs->Reps X.K G ws' xs'->Vals xs its->Vals xs' its'->eqWs ws ws'=some k ->
    ∀j (h1:j<its.toArray.size) (h2:j<its'.toArray.size),SeqAt.EqAt A.in1 s its.toArray[j] its'.toArray[j] ((eqW (ws.getD j .non) (ws'.getD j .non)).getD false):=by
   intro ws ws' xs xs' its its' k hd r1 r2 v1 v2 he j h1 h2;have l1:=r1.length;have l2:=r2.length;have m1:=v1.length;have m2:=v2.length;have i1:j<xs.length:=by rw[m1];simpa using h1
   have i2:j<xs'.length:=by rw[m2];simpa using h2
   obtain⟨u1,e1,ru1⟩:=v1.get (w0b i1);obtain⟨u2,e2,ru2⟩:=v2.get (w0b i2);obtain⟨w1,f1,p1⟩:=r1.getV (w0b i1);obtain⟨w2,f2,p2⟩:=r2.getV (w0b i2);obtain⟨b',hb'⟩:=(q5d he).1 j w1 w2 f1 f2;rw[q9r f1,q9r f2,hb']
   have g1:its.toArray[j]=u1:=by
    obtain⟨_,z⟩:=w0d.mp e1
    simpa using z
   have g2:its'.toArray[j]=u2:=by
    obtain⟨_,z⟩:=w0d.mp e2
    simpa using z
   rw[g1,g2];have hdw:depW w1<=n:=w0l (q81 f1) hd
   have hun:A.in1.units+n<cLine:=by
    have:A.in1.units=A.units+1:=rfl;omega
   refine x5x ru1 (x5w p1) (ih hdw hun p1 p2 ru1 ru2 hb') fun z=>?_
   subst z;have:=ru1.inj ru2;rw[this]at p1;exact x2t I sg w1 p1 p2 hb'
  cases w with
  |tup ws=>
   cases w' with
   |tup ws'=>
    obtain⟨a,xs,rfl,q1,r1⟩:=h;obtain⟨a',xs',rfl,q2,r2⟩:=h';cases r;cases r';obtain⟨its,v1,p1,_⟩:=I.tuple (sg.tup q1);obtain⟨its',v2,p2,_⟩:=I.tuple (sg.tup q2);have e:eqWs ws ws'=some b:=e;have z:=SeqAt.RcAt.tuples (show s.heap.IsTuple a _ from p1) (show s.heap.IsTuple a' _ from p2) (show A.units<cLine by omega) (items (by simp only[depW]at hd;omega) r1 r2 v1 v2 e);have l1:=r1.length;have l2:=r2.length;have m1:=v1.length;have m2:=v2.length;have eb:=(q5d e).2;have n1:its.length=ws.length:=by omega
    have n2:its'.length=ws'.length:=by omega
    rw[eb];simp only[w0c,n1,n2]at z;exact z
   |_=>exact x5v I sg (by omega) (by intro ws';simp) (by intro ws';simp) h h' r r' e
  |lst ws=>
   cases w' with
   |lst ws'=>
    obtain⟨a,xs,rfl,q1,r1⟩:=h;obtain⟨a',xs',rfl,q2,r2⟩:=h';cases r;cases r';obtain⟨its,v1,p1,_⟩:=I.list (sg.seq q1);obtain⟨its',v2,p2,_⟩:=I.list (sg.seq q2);have e:eqWs ws ws'=some b:=e;have l1:=r1.length;have l2:=r2.length;have m1:=v1.length;have m2:=v2.length;have eb:=(q5d e).2;have n1:its.length=ws.length:=by omega
    have n2:its'.length=ws'.length:=by omega
    by_cases hl:ws.length=ws'.length
    ·have z:=SeqAt.RcAt.lists p1.isList p2.isList (by simp only[w0c];omega) (show A.units<cLine by omega) (items (by simp only[depW]at hd;omega) r1 r2 v1 v2 e);rw[eb,hl];simp only[w0c,n1,hl,Nat.min_self,beq_self_eq_true,w5h]at z |-
     exact z
    ·have z:=SeqAt.RcAt.lists_lengths (A:=A) p1.isList p2.isList (by simp only[w0c,bne_iff_ne];omega) (show A.units<cLine by omega)
     have:b=false:=by
      rw[eb];have:(ws.length==ws'.length)=false:=by simp[hl]
      rw[this,w4t]
     rw[this];exact z
   |_=>exact x5v I sg (by omega) (by intro ws';simp) (by intro ws';simp) h h' r r' e
  |_=>exact x8q I sg (by simp[depW]) (by omega) h h' r r' e
theorem x0w(I:Inv X pins σ H s)(sg:Same G H){b:Bool}(hu:A.units<cLine)(n1:∀ws,w=.tup ws->∀ws',w'≠.tup ws')(n2:∀ws,w=.lst ws->∀ws',w'≠.lst ws')(h:Rep X.K G w v)(h':Rep X.K G w' v')(r:RelV v u)(r':RelV v' u')(e:eqW w w'=some b):SeqAt.RcNeAt A s u u' (!b):=by
 have tl:∀{ws:List W}{v:V}{u:Value},Rep X.K G (.lst ws) v->RelV v u->∃l items,u=.ref l/\s.heap.IsList l items:=fun h r=>by
  obtain⟨a,xs,rfl,q,_⟩:=h;cases r;obtain⟨its,_,p,_⟩:=I.list (sg.seq q);exact⟨a,_,rfl,p.isList⟩
 have tt:∀{ws:List W}{v:V}{u:Value},Rep X.K G (.tup ws) v->RelV v u->∃l items,u=.ref l/\s.heap.IsTuple l items:=fun h r=>by
  obtain⟨a,xs,rfl,q,_⟩:=h;cases r;obtain⟨its,_,p,_⟩:=I.tuple (sg.tup q);exact⟨a,_,rfl,p⟩
 have tn:∀{v:V}{u:Value},Rep X.K G .non v->RelV v u->u=.none:=fun h r=>by cases h;exact r
 have tb:∀{k:Bool}{v:V}{u:Value},Rep X.K G (.bl k) v->RelV v u->u=.bool k:=fun h r=>by cases h;exact r
 have ti:∀{k:Int}{v:V}{u:Value},Rep X.K G (.int k) v->RelV v u->∃t,u=.int k t:=fun h r=>by cases h;exact r
 have ts:∀{k:Str}{v:V}{u:Value},Rep X.K G (.str k) v->RelV v u->∃t,u=.str k t:=fun h r=>by cases h;exact r
 cases w with
 |non=>
  obtain rfl:=tn h r;cases w' with
  |non=>obtain rfl:=tn h' r';cases e;exact .none_none
  |bl k=>obtain rfl:=tb h' r';cases e;exact .none_bool k
  |int k=>obtain⟨t,rfl⟩:=ti h' r';cases e;exact .none_int k t
  |str k=>obtain⟨t,rfl⟩:=ts h' r';cases e;exact .none_str k t
  |tup k=>obtain⟨l,it,rfl,p⟩:=tt h' r';cases e;exact .none_tuple p hu
  |lst k=>obtain⟨l,it,rfl,p⟩:=tl h' r';cases e;exact .none_list p hu
  |exc k=>cases e
  |dic k=>cases e
  |dw _ _ _ _=>cases e
  |fn _ _ _=>cases e
 |bl j=>
  obtain rfl:=tb h r;cases w' with
  |non=>obtain rfl:=tn h' r';cases e;exact .bool_none j
  |bl k=>obtain rfl:=tb h' r';cases e;exact .bool_bool j k
  |int k=>obtain⟨t,rfl⟩:=ti h' r';cases e;exact .bool_int j k t
  |str k=>obtain⟨t,rfl⟩:=ts h' r';cases e;exact .bool_str j k t
  |tup k=>obtain⟨l,it,rfl,p⟩:=tt h' r';cases e;exact .bool_tuple j p hu
  |lst k=>obtain⟨l,it,rfl,p⟩:=tl h' r';cases e;exact .bool_list j p hu
  |exc k=>cases e
  |dic k=>cases e
  |dw _ _ _ _=>cases e
  |fn _ _ _=>cases e
 |int j=>
  obtain⟨t1,rfl⟩:=ti h r;cases w' with
  |non=>obtain rfl:=tn h' r';cases e;exact .int_none j t1
  |bl k=>obtain rfl:=tb h' r';cases e;exact .int_bool j t1 k
  |int k=>obtain⟨t,rfl⟩:=ti h' r';cases e;exact .int_int j t1 k t
  |str k=>obtain⟨t,rfl⟩:=ts h' r';cases e;exact .int_str j t1 k t
  |tup k=>obtain⟨l,it,rfl,p⟩:=tt h' r';cases e;exact .int_tuple j t1 p hu
  |lst k=>obtain⟨l,it,rfl,p⟩:=tl h' r';cases e;exact .int_list j t1 p hu
  |exc k=>cases e
  |dic k=>cases e
  |dw _ _ _ _=>cases e
  |fn _ _ _=>cases e
 |str j=>
  obtain⟨t1,rfl⟩:=ts h r;cases w' with
  |non=>obtain rfl:=tn h' r';cases e;exact .str_none j t1
  |bl k=>obtain rfl:=tb h' r';cases e;exact .str_bool j t1 k
  |int k=>obtain⟨t,rfl⟩:=ti h' r';cases e;exact .str_int j t1 k t
  |str k=>obtain⟨t,rfl⟩:=ts h' r';cases e;exact .str_str j t1 k t
  |tup k=>obtain⟨l,it,rfl,p⟩:=tt h' r';cases e;exact .str_tuple j t1 p hu
  |lst k=>obtain⟨l,it,rfl,p⟩:=tl h' r';cases e;exact .str_list j t1 p hu
  |exc k=>cases e
  |dic k=>cases e
  |dw _ _ _ _=>cases e
  |fn _ _ _=>cases e
 |tup j=>
  obtain⟨l1,it1,rfl,p1⟩:=tt h r;cases w' with
  |non=>obtain rfl:=tn h' r';cases e;exact .tuple_none p1 hu
  |bl k=>obtain rfl:=tb h' r';cases e;exact .tuple_bool k p1 hu
  |int k=>obtain⟨t,rfl⟩:=ti h' r';cases e;exact .tuple_int k t p1 hu
  |str k=>obtain⟨t,rfl⟩:=ts h' r';cases e;exact .tuple_str k t p1 hu
  |tup k=>exact absurd rfl (n1 j rfl k)
  |lst k=>obtain⟨l,it,rfl,p⟩:=tl h' r';cases e;exact .tuple_list p1 p hu
  |exc k=>cases e
  |dic k=>cases e
  |dw _ _ _ _=>cases e
  |fn _ _ _=>cases e
 |lst j=>
  obtain⟨l1,it1,rfl,p1⟩:=tl h r;cases w' with
  |non=>obtain rfl:=tn h' r';cases e;exact .list_none p1 hu
  |bl k=>obtain rfl:=tb h' r';cases e;exact .list_bool k p1 hu
  |int k=>obtain⟨t,rfl⟩:=ti h' r';cases e;exact .list_int k t p1 hu
  |str k=>obtain⟨t,rfl⟩:=ts h' r';cases e;exact .list_str k t p1 hu
  |lst k=>exact absurd rfl (n2 j rfl k)
  |tup k=>obtain⟨l,it,rfl,p⟩:=tt h' r';cases e;exact .list_tuple p1 p hu
  |exc k=>cases e
  |dic k=>cases e
  |dw _ _ _ _=>cases e
  |fn _ _ _=>cases e
 |exc j=>cases w'<;>cases e
 |dic j=>cases w'<;>cases e
 |dw _ _ _ _=>cases w'<;>cases e
 |fn _ _ _=>cases w'<;>cases e
theorem y1b(I:Inv X pins σ H s)(sg:Same G H){b:Bool}(hd:depW w<=0)(hu:A.units<cLine)(h:Rep X.K G w v)(h':Rep X.K G w' v')(r:RelV v u)(r':RelV v' u')(e:eqW w w'=some b):SeqAt.RcNeAt A s u u' (!b):=
 x0w I sg hu (fun ws z=>by subst z;simp[depW]at hd) (fun ws z=>by subst z;simp[depW]at hd) h h' r r' e
theorem x5y(I:Inv X pins σ H s)(sg:Same G H)(hu:A.units+(n+1)<cLine){ws':List W}{xs':List V}{its its':List Value}{k:Bool}(hd:depWs ws<=n)(r1:Reps X.K G ws xs)(r2:Reps X.K G ws' xs')(v1:Vals xs its)(v2:Vals xs' its')(he:eqWs ws ws'=some k):
  ∀j (h1:j<its.toArray.size) (h2:j<its'.toArray.size),SeqAt.EqAt A.in1 s its.toArray[j] its'.toArray[j] ((eqW (ws.getD j .non) (ws'.getD j .non)).getD false):=by
 intro j h1 h2;have l1:=r1.length;have l2:=r2.length;have m1:=v1.length;have m2:=v2.length;have i1:j<xs.length:=by rw[m1];simpa using h1
 have i2:j<xs'.length:=by rw[m2];simpa using h2
 obtain⟨u1,e1,ru1⟩:=v1.get (w0b i1);obtain⟨u2,e2,ru2⟩:=v2.get (w0b i2);obtain⟨w1,f1,p1⟩:=r1.getV (w0b i1);obtain⟨w2,f2,p2⟩:=r2.getV (w0b i2);obtain⟨b',hb'⟩:=(q5d he).1 j w1 w2 f1 f2;rw[q9r f1,q9r f2,hb']
 have g1:its.toArray[j]=u1:=by
  obtain⟨_,z⟩:=w0d.mp e1
  simpa using z
 have g2:its'.toArray[j]=u2:=by
  obtain⟨_,z⟩:=w0d.mp e2
  simpa using z
 rw[g1,g2];have hdw:depW w1<=n:=w0l (q81 f1) hd
 have hun:A.in1.units+n<cLine:=by
  have:A.in1.units=A.units+1:=rfl;omega
 refine x5x ru1 (x5w p1) (y57 I sg n hdw hun p1 p2 ru1 ru2 hb') fun z=>?_
 subst z;have:=ru1.inj ru2;rw[this]at p1;exact x2t I sg w1 p1 p2 hb'
theorem y65(I:Inv X pins σ H s)(sg:Same G H)(n:Nat){b:Bool}(hd:depW w<=n+1)(hu:A.units+(n+1)<cLine)(h:Rep X.K G w v)(h':Rep X.K G w' v')(r:RelV v u)(r':RelV v' u')(e:eqW w w'=some b):SeqAt.RcNeAt A s u u' (!b):=by
 cases w with
 |tup ws=>
  cases w' with
  |tup ws'=>
   obtain⟨a,xs,rfl,q1,r1⟩:=h;obtain⟨a',xs',rfl,q2,r2⟩:=h';cases r;cases r';obtain⟨its,v1,p1,_⟩:=I.tuple (sg.tup q1);obtain⟨its',v2,p2,_⟩:=I.tuple (sg.tup q2);have e:eqWs ws ws'=some b:=e;have z:=SeqAt.RcNeAt.tuples (show s.heap.IsTuple a _ from p1) (show s.heap.IsTuple a' _ from p2) (show A.units<cLine by omega) (x5y I sg hu (by simp only[depW]at hd;omega) r1 r2 v1 v2 e);have l1:=r1.length;have l2:=r2.length;have m1:=v1.length;have m2:=v2.length;have eb:=(q5d e).2;have n1:its.length=ws.length:=by omega
   have n2:its'.length=ws'.length:=by omega
   rw[eb];simp only[w0c,n1,n2]at z;exact z
  |_=>exact x0w I sg (by omega) (by intro ws';simp) (by intro ws';simp) h h' r r' e
 |lst ws=>
  cases w' with
  |lst ws'=>
   obtain⟨a,xs,rfl,q1,r1⟩:=h;obtain⟨a',xs',rfl,q2,r2⟩:=h';cases r;cases r';obtain⟨its,v1,p1,_⟩:=I.list (sg.seq q1);obtain⟨its',v2,p2,_⟩:=I.list (sg.seq q2);have e:eqWs ws ws'=some b:=e;have l1:=r1.length;have l2:=r2.length;have m1:=v1.length;have m2:=v2.length;have eb:=(q5d e).2;have n1:its.length=ws.length:=by omega
   have n2:its'.length=ws'.length:=by omega
   by_cases hl:ws.length=ws'.length
   ·have z:=SeqAt.RcNeAt.lists p1.isList p2.isList (by simp only[w0c];omega) (show A.units<cLine by omega) (x5y I sg hu (by simp only[depW]at hd;omega) r1 r2 v1 v2 e);rw[eb,hl];simp only[w0c,n1,hl,Nat.min_self,beq_self_eq_true,w5h]at z |-
    exact z
   ·have z:=SeqAt.RcNeAt.lists_lengths (A:=A) p1.isList p2.isList (by simp only[w0c,bne_iff_ne];omega) (show A.units<cLine by omega)
    have:b=false:=by
     rw[eb];have:(ws.length==ws'.length)=false:=by simp[hl]
     rw[this,w4t]
    rw[this];exact z
  |_=>exact x0w I sg (by omega) (by intro ws';simp) (by intro ws';simp) h h' r r' e
 |_=>exact y1b I sg (by simp[depW]) (by omega) h h' r r' e
noncomputable def eq2(x y:W):Option W:=if depW x<=150 then(eqW x y).map .bl else none
def rEqD(K:PySem.W.Frag):R2:=fun x y H Q=>∃G wx wy b,Same G H/\depW wx<=150/\Rep K G wx x/\Rep K G wy y/\eqW wx wy=some b/\Q (.bl b) H
theorem y1c(hu:X.A.units+150<cLine):OpR X (compareOp .Eq) (rEqD X.K):=by
 intro pins s σ H x y v u Q I rx ry h;obtain⟨G,wx,wy,b,sg,hd,hx,hy,e,q⟩:=h;exact y57 I sg 150 hd hu hx hy rx ry e _ _ _ _ ⟨.bl b,H,I,rfl,q⟩
theorem y58:Op2 K (rEqD K) eq2:=by
 intro G H x y wx wy w Q s px py hf h;unfold eq2 at hf;split at hf
 ·rename_i hd;obtain⟨b,hb,rfl⟩:=w0o.mp hf;exact⟨G,wx,wy,b,s,hd,px,py,hb,h G _ H (.refl s) rfl⟩
 ·cases hf
noncomputable def ne2(x y:W):Option W:=if depW x<=150 then(eqW x y).map fun b=>.bl (!b)else none
def rNeD(K:PySem.W.Frag):R2:=fun x y H Q=>∃G wx wy b,Same G H/\depW wx<=150/\Rep K G wx x/\Rep K G wy y/\eqW wx wy=some b/\Q (.bl (!b)) H
theorem z0r(hu:X.A.units+150<cLine):OpR X (compareOp .NotEq) (rNeD X.K):=by
 intro pins s σ H x y v u Q I rx ry h;obtain⟨G,wx,wy,b,sg,hd,hx,hy,e,q⟩:=h;exact y65 I sg 149 hd hu hx hy rx ry e _ _ _ _ ⟨.bl (!b),H,I,rfl,q⟩
theorem z3h:Op2 K (rNeD K) ne2:=by
 intro G H x y wx wy w Q s px py hf h;unfold ne2 at hf;split at hf
 ·rename_i hd;obtain⟨b,hb,rfl⟩:=w0o.mp hf;exact⟨G,wx,wy,b,s,hd,px,py,hb,h G _ H (.refl s) rfl⟩
 ·cases hf
noncomputable def isW:W->W->Option W
 |.non,.non=>some (.bl true)
 |_,.non=>some (.bl false)
 |.bl a,.bl b=>some (.bl (a==b))
 |_,.bl _=>some (.bl false)
 |_,_=>none
noncomputable def nisW:W->W->Option W
 |.non,.non=>some (.bl false)
 |_,.non=>some (.bl true)
 |.bl a,.bl b=>some (.bl (!(a==b)))
 |_,.bl _=>some (.bl true)
 |_,_=>none
def rIs:R2:=fun x y H Q=>(y=.non\/∃b,y=.bl b)/\Q (.bl (decide (x=y))) H
def rNis:R2:=fun x y H Q=>(y=.non\/∃b,y=.bl b)/\Q (.bl (!decide (x=y))) H
theorem x5z{x y:V}{v:Value}(rx:RelV x v)(ry:RelV y u)(h:y=.non\/∃b,y=.bl b):plainIs v u=true/\(v==u)=decide (x=y):=by
 rcases h with rfl|⟨b,rfl⟩
 ·cases ry
  cases x<;>first
   |(cases rx;exact⟨rfl,by first|rfl|(rw[w1k];simp)⟩)
   |(obtain⟨t,rfl⟩:=rx;exact⟨rfl,by rw[w1k];simp⟩)
 ·cases ry
  cases x<;>first
   |(cases rx;exact⟨rfl,by first|rfl|(rw[w1k];simp)⟩)
   |(obtain⟨t,rfl⟩:=rx;exact⟨rfl,by rw[w1k];simp⟩)
theorem y1d:OpR X (compareOp .Is) rIs:=by
 intro pins s σ H x y v u Q I rx ry h;obtain⟨hy,q⟩:=h;obtain⟨h1,h2⟩:=x5z rx ry hy;exact wpAny_is_plain h1 (y0t I q h2.symm)
theorem x8r:OpR X (compareOp .IsNot) rNis:=by
 intro pins s σ H x y v u Q I rx ry h;obtain⟨hy,q⟩:=h;obtain⟨h1,h2⟩:=x5z rx ry hy;exact wpAny_isNot_plain h1 (y0t I q (by rw[h2]))
theorem z3i{x y:V}{wx wy:W}(px:Rep K G wx x)(py:Rep K G wy y)(h:isW wx wy=some w):(y=.non\/∃b,y=.bl b)/\w=.bl (decide (x=y)):=by
 cases wy with
 |non=>
  cases(show y=.non from py);refine⟨.inl rfl,?_⟩;cases wx with
  |tup ws=>obtain⟨_,_,rfl,_⟩:=px;cases h;simp
  |lst ws=>obtain⟨_,_,rfl,_⟩:=px;cases h;simp
  |exc c=>obtain⟨_,rfl,_⟩:=px;cases h;simp
  |dic c=>obtain⟨_,rfl,_⟩:=px;cases h;simp
  |dw _ _ _ _=>obtain⟨_,_,_,rfl,_⟩:=px;cases h;simp
  |fn _ _ _=>obtain⟨_,_,_,_,rfl,_⟩:=px;cases h;simp
  |_=>cases px;cases h;simp
 |bl b=>
  cases(show y=.bl b from py);refine⟨.inr ⟨b,rfl⟩,?_⟩;cases wx with
  |tup ws=>obtain⟨_,_,rfl,_⟩:=px;cases h;simp
  |lst ws=>obtain⟨_,_,rfl,_⟩:=px;cases h;simp
  |exc c=>obtain⟨_,rfl,_⟩:=px;cases h;simp
  |dic c=>obtain⟨_,rfl,_⟩:=px;cases h;simp
  |dw _ _ _ _=>obtain⟨_,_,_,rfl,_⟩:=px;cases h;simp
  |fn _ _ _=>obtain⟨_,_,_,_,rfl,_⟩:=px;cases h;simp
  |bl k=>cases px;cases h;cases k<;>cases b<;>rfl
  |_=>cases px;cases h;simp
 |_=>cases wx<;>cases h
theorem z0s{x y:V}{wx wy:W}(px:Rep K G wx x)(py:Rep K G wy y)(h:nisW wx wy=some w):(y=.non\/∃b,y=.bl b)/\w=.bl (!decide (x=y)):=by
 cases wy with
 |non=>
  cases(show y=.non from py);refine⟨.inl rfl,?_⟩;cases wx with
  |tup ws=>obtain⟨_,_,rfl,_⟩:=px;cases h;simp
  |lst ws=>obtain⟨_,_,rfl,_⟩:=px;cases h;simp
  |exc c=>obtain⟨_,rfl,_⟩:=px;cases h;simp
  |dic c=>obtain⟨_,rfl,_⟩:=px;cases h;simp
  |dw _ _ _ _=>obtain⟨_,_,_,rfl,_⟩:=px;cases h;simp
  |fn _ _ _=>obtain⟨_,_,_,_,rfl,_⟩:=px;cases h;simp
  |_=>cases px;cases h;simp
 |bl b=>
  cases(show y=.bl b from py);refine⟨.inr ⟨b,rfl⟩,?_⟩;cases wx with
  |tup ws=>obtain⟨_,_,rfl,_⟩:=px;cases h;simp
  |lst ws=>obtain⟨_,_,rfl,_⟩:=px;cases h;simp
  |exc c=>obtain⟨_,rfl,_⟩:=px;cases h;simp
  |dic c=>obtain⟨_,rfl,_⟩:=px;cases h;simp
  |dw _ _ _ _=>obtain⟨_,_,_,rfl,_⟩:=px;cases h;simp
  |fn _ _ _=>obtain⟨_,_,_,_,rfl,_⟩:=px;cases h;simp
  |bl k=>cases px;cases h;cases k<;>cases b<;>rfl
  |_=>cases px;cases h;simp
 |_=>cases wx<;>cases h
theorem y59:Op2 K rIs isW:=by
 intro G H x y wx wy w Q s px py hf h;obtain⟨h1,rfl⟩:=z3i px py hf;exact⟨h1,h G _ H (.refl s) rfl⟩
theorem y1e:Op2 K rNis nisW:=by
 intro G H x y wx wy w Q s px py hf h;obtain⟨h1,rfl⟩:=z0s px py hf;exact⟨h1,h G _ H (.refl s) rfl⟩
section
variable{a b c:Expr}{p:Pos}
theorem q5l(ha:DE Z X EE a da)(hb:DE Z X EE b db):DE Z X EE (.BinOp a .Sub b pos) (dOp subW da db):=q9q y94 z0m ha hb
theorem q23(ha:DE Z X EE a da)(hb:DE Z X EE b db):DE Z X EE (.BinOp a .Mult b pos) (dOp mulW da db):=q9q y95 z0n ha hb
theorem x2u(ha:DE Z X EE a da)(hb:DE Z X EE b db):DE Z X EE (.BinOp a .FloorDiv b pos) (dOp fdivW da db):=q9q y6i y64 ha hb
theorem q3e(ha:DE Z X EE a da)(hb:DE Z X EE b db):DE Z X EE (.BinOp a .Mod b pos) (dOp modW da db):=q9q y96 z0o ha hb
theorem q53(hu:X.A.units+150<cLine)(ha:DE Z X EE a da)(hb:DE Z X EE b db):DE Z X EE (.Compare a [.Eq] [b] pos) (dOp eq2 da db):=x1h (y1c hu) y58 ha hb (nomark _)
theorem x9v(ha:DE Z X EE a da)(hb:DE Z X EE b db):DE Z X EE (.Compare a [.Is] [b] pos) (dOp isW da db):=x1h y1d y59 ha hb (nomark _)
theorem z0t(ha:DE Z X EE a da)(hb:DE Z X EE b db):DE Z X EE (.Compare a [.IsNot] [b] pos) (dOp nisW da db):=x1h x8r y1e ha hb (nomark _)
theorem x9w(ha:DE Z X EE a da)(hb:DE Z X EE b db):DT Z X EE (.Compare a [.Lt] [b] pos) (dTest (dOp ltW da db)):=q5k z3a z3e ha hb (nomark _)
theorem z3j(ha:DE Z X EE a da)(hb:DE Z X EE b db):DT Z X EE (.Compare a [.Gt] [b] pos) (dTest (dOp gtW da db)):=q5k z3b z3f ha hb (nomark _)
theorem q5i(hu:X.A.units+150<cLine)(ha:DE Z X EE a da)(hb:DE Z X EE b db):DT Z X EE (.Compare a [.Eq] [b] pos) (dTest (dOp eq2 da db)):=q5k (y1c hu) y58 ha hb (nomark _)
theorem x5c(hu:X.A.units+150<cLine)(ha:DE Z X EE a da)(hb:DE Z X EE b db):DT Z X EE (.Compare a [.NotEq] [b] pos) (dTest (dOp ne2 da db)):=q5k (z0r hu) z3h ha hb (nomark _)
theorem x1t(ha:DE Z X EE a da)(hb:DE Z X EE b db):DT Z X EE (.Compare a [.Is] [b] pos) (dTest (dOp isW da db)):=q5k y1d y59 ha hb (nomark _)
theorem x50(ha:DE Z X EE a da)(hb:DE Z X EE b db):DT Z X EE (.Compare a [.IsNot] [b] pos) (dTest (dOp nisW da db)):=q5k x8r y1e ha hb (nomark _)
theorem q0u(h:Room k A):A.units+150<cLine:=by have:=h.un;omega
noncomputable def cutW(xs:List W)(lo hi:Option Int):List W:=(xs.drop (HT.sIx xs.length 0 lo)).take (HT.sIx xs.length xs.length hi-HT.sIx xs.length 0 lo)
theorem Reps.cut(r:Reps K G ws xs)(lo hi:Option Int):Reps K G (cutW ws lo hi) (cutV xs lo hi):=by
 unfold cutW cutV;rw[r.length];exact(r.drop _).take _
def DO(Z:Zt)(X:Cx)(EE:L2.St->XK)(e:Option Expr)(d:Den (Option Int)):Prop:=PO X e (fun σ H Q=>∃G e,Rel X.K Z G σ H e/\(d e).holds (fun o e'=>∀G' H',Rel X.K Z G' σ H' e'->Same G G'->Q o H') (XH X.K Z EE σ G))
noncomputable def dNoPart:Den (Option Int):=fun e=>.ok none e
noncomputable def dPart(d:Den W):Den (Option Int):=fun e=>(d e).bind fun w e1=>match w with
 |.int i=>.ok (some i) e1
 |_=>.no
theorem PO.mono{e:Option Expr}{t t':TO}(h:PO X e t)(i:∀σ H Q,t' σ H Q->t σ H Q):PO X e t':=fun pins s σ H Q I q=>h pins s σ H Q I (i σ H Q q)
theorem q9s:DO Z X EE none dNoPart:=PO.mono y6l fun σ H Q ⟨G,e,r,h⟩=>h G H r (.refl _)
theorem q9t(h:DE Z X EE e da):DO Z X EE (some e) (dPart da):=by
 refine PO.mono (y6m h) ?_;rintro σ H Q ⟨G,e,rel,h⟩;simp only[dPart,R.holds_bind]at h;refine⟨G,e,rel,h.imp (fun x e1 h G1 v1 H1 r1 s1 p1=>?_) fun _ _ h=>h⟩
 cases x with
 |int i=>cases(show v1=V.int i from p1);exact⟨i,rfl,h G1 H1 r1 s1⟩
 |_=>exact h.elim
noncomputable def slW:W->Option Int->Option Int->Option W
 |.lst ws,lo,hi=>some (.lst (cutW ws lo hi))
 |.tup ws,lo,hi=>if ¬(HT.sIx ws.length 0 lo=0/\HT.sIx ws.length ws.length hi=ws.length)then some (.tup (cutW ws lo hi))else none
 |_,_,_=>none
noncomputable def dSl(d:Den W)(dl dh:Den (Option Int)):Den W:=fun e=>(d e).bind fun w e1=>(dl e1).bind fun lo e2=>(dh e2).bind fun hi e3=>ofOpt (slW w lo hi) e3
theorem q7y{lo hi:Option Expr}{dl dh:Den (Option Int)}(he:DE Z X EE e da)(hl:DO Z X EE lo dl)(hh:DO Z X EE hi dh):DE Z X EE (.Subscript e (.Slice lo hi none p2) pos) (dSl da dl dh):=by
 refine PE.mono (y3s (sl_list.or z0b) he hl hh) ?_;rintro σ H Q ⟨G,e,rel,h⟩;simp only[dSl,R.holds_bind,ofOpt_holds]at h;refine⟨G,e,rel,h.imp (fun w e1 h G1 v1 H1 r1 s1 p1=>?_) fun _ _ h=>h⟩
 refine⟨G1,e1,r1,h.imp (fun lo e2 h G2 H2 r2 s2=>?_) fun _ _ h=>XH.trans s1 h⟩
 refine⟨G2,e2,r2,h.imp (fun hi e3 h G3 H3 r3 s3=>?_) fun _ _ h=>XH.trans (s1.trans s2) h⟩
 obtain⟨y,hf,h⟩:=h;have p3:=Rep.mono (s2.trans s3) w p1;have s03:=(s1.trans s2).trans s3;cases w with
 |lst ws=>
  cases hf;obtain⟨a,xs,rfl,q,r⟩:=p3;refine .inl ⟨a,xs,rfl,r3.sub.seq q,fun p hp=>?_⟩
  have g:=Grow.laid r3.sub hp (.lst (cutV xs lo hi));exact h _ _ _ (r3.grow g) (s03.trans g.gg) ⟨p,_,rfl,SqL.of q0l,Reps.mono g.gg _ (r.cut lo hi)⟩
 |tup ws=>
  simp only[slW]at hf;split at hf
  ·rename_i hw;cases hf;obtain⟨a,xs,rfl,q,r⟩:=p3;refine .inr ⟨a,xs,rfl,r3.sub.tup q,by rw[r.length];exact hw,fun p hp=>?_⟩
   have g:=Grow.laid r3.sub hp (.tup (cutV xs lo hi));exact h _ _ _ (r3.grow g) (s03.trans g.gg) ⟨p,_,rfl,SqT.of q0l,Reps.mono g.gg _ (r.cut lo hi)⟩
  ·cases hf
 |_=>cases hf
noncomputable def tyW:W->Value
 |.non=>.type "NoneType"
 |.bl _=>.type "bool"
 |.int _=>.type "int"
 |.str _=>.type "str"
 |.tup _=>.type "tuple"
 |.lst _=>.type "list"
 |.exc c=>c
 |.dic _=>.type "dict"
 |.dw _ _ _ _=>.type "dict"
 |.fn _ _ _=>.type "dict"
noncomputable def isiW(K:PySem.W.Frag)(cv:Value):W->Option W
 |.exc (.ref D)=>if excClsIn K D=true then(kitOne K (.ref D) cv).map .bl else none
 |.exc _=>none
 |.dic _=>none
 |.dw _ _ _ _=>none
 |.fn _ _ _=>none
 |w=>(kitOne K (tyW w) cv).map .bl
theorem y66{b:Bool}{Q:VK}(I:Inv X pins σ H s)(sg:Same G H)(p:Rep X.K G w v)(r:RelV v u)(h:isiW X.K cv w=some (.bl b))(q:Q (.bl b) H):
  wpAny (model X.prog X.w) X.A (call (.builtin "isinstance") [u,cv]) (EP X pins σ Q) X.xe s:=by
 have fin:∀tk,EP X pins σ Q (.bool b) {s with toks:=tk}:=fun tk=>⟨.bl b,H,I.tok _,rfl,q⟩
 have kit:∀{t:Value},(kitOne X.K t cv).map W.bl=some (.bl b)->kitOne X.K t cv=some b:=fun z=>by
  obtain⟨y,h1,h2⟩:=w0o.mp z;cases h2;exact h1
 cases w with
 |non=>cases p;cases r;exact kia_one PySem.W.kitx_none I.kIn True.intro (kit h) (fun z=>nomatch z) fin
 |bl y=>cases p;cases r;exact kia_one PySem.W.kitx_bool I.kIn True.intro (kit h) (fun z=>nomatch z) fin
 |int y=>cases p;obtain⟨t,rfl⟩:=r;exact kia_one PySem.W.kitx_int I.kIn True.intro (kit h) (fun z=>nomatch z) fin
 |str y=>cases p;obtain⟨t,rfl⟩:=r;exact kia_one PySem.W.kitx_str I.kIn True.intro (kit h) (fun z=>nomatch z) fin
 |tup ws=>
  obtain⟨a,xs,rfl,hq,_⟩:=p;cases r;obtain⟨its,_,⟨o,h1,h2,_⟩,_⟩:=I.tuple (sg.tup hq);exact kia_one PySem.W.kitx_tuple I.kIn ⟨o,h1,h2⟩ (kit h) (fun z=>nomatch z) fin
 |lst ws=>
  obtain⟨a,xs,rfl,hq,_⟩:=p;cases r;obtain⟨its,_,⟨o,n,h1,h2,_⟩,_⟩:=I.list (sg.seq hq);exact kia_one PySem.W.kitx_list I.kIn ⟨o,h1,h2⟩ (kit h) (fun z=>nomatch z) fin
 |dic c=>simp[isiW]at h
 |dw _ _ _ _=>simp[isiW]at h
 |fn _ _ _=>simp[isiW]at h
 |exc c=>
  obtain⟨e,rfl,he⟩:=p;cases r;unfold isiW at h;split at h
  ·rename_i D heq;cases heq;split at h
   ·rename_i hC;obtain⟨⟨o,vs,h1,h2,h3⟩,_⟩:=(show ObjOk X.prog X.w H s.heap e (excO e (.ref D))from I.hok e _ (sg _ _ he));exact kia_one (y3y (ExcCls.of hC)) I.kIn ⟨o,vs,h1,h2,h3⟩ (kit h) (fun z=>nomatch z) fin
   ·cases h
  all_goals first|(cases h;done)|(rename_i h1 h2 h3 h4 h5;exact absurd rfl (h2 c))|(rename_i h1 h2 h3 h4;exact absurd rfl (h2 c))|(rename_i h1 h2 h3;exact absurd rfl (h2 c))|(rename_i h1 h2;exact absurd rfl (h2 c))
noncomputable def dIsi(K:PySem.W.Frag)(cv:Value)(d:Den W):Den W:=fun e=>(d e).bind fun w e1=>match isiW K cv w with
 |some (.bl b)=>.ok (.bl b) e1
 |_=>.no
theorem y1f{c:V}(hc:ClsV c cv):CallR X (.builtin "isinstance") (fun xs H Q=>∃x G w b,xs=[x,c]/\Same G H/\Rep X.K G w x/\isiW X.K cv w=some (.bl b)/\Q (.bl b) H):=by
 intro pins s σ H xs us Q I r h;obtain⟨x,G,w,b,rfl,sg,p,hi,q⟩:=h;obtain⟨u,u2,rfl,rx,rc⟩:=vals2 r
 have ec:u2=cv:=by
  cases c with
  |ty n=>exact(show u2=Value.type n from rc).trans (show cv=Value.type n from hc).symm
  |ref a=>exact(show u2=Value.ref a from rc).trans (show cv=Value.ref a from hc).symm
  |_=>exact hc.elim
 subst ec;exact y66 I sg p rx hi q
theorem q7l{c0:V}(hc:ClsV c0 cv)(hcl:PE X c (tC c0))(hm:X.mg "isinstance"=none)(he:DE Z X EE e da)(hg:Gl X "isinstance":=by rfl)(hs:starEach [e,c] X.env=(false,eval e X.env)::starEach [c] X.env:=by rfl)(hs2:starEach [c] X.env=(false,eval c X.env)::starEach [] X.env:=by rfl)(hpl:(backTo pos (starEach [c] X.env)).any (·.1)=false:=by rfl):
  DE Z X EE (.Call (.Name "isinstance" p) [e,c] [] pos) (dIsi X.K cv da):=by
 refine PE.mono (x5n (y1f hc) hg hm PyProof.Rows.Boot.«isinstance» (x2p he (x2p hcl y0v hs2) hs) (by decide) (by decide) hs hpl) ?_;rintro σ H Q ⟨G,e,rel,h⟩;simp only[dIsi,R.holds_bind]at h;refine⟨G,e,rel,h.imp (fun w e1 h G1 v1 H1 r1 s1 p1=>?_) fun _ _ h=>h⟩
 split at h
 ·rename_i b hb;exact⟨v1,G1,w,b,rfl,r1.sub,p1,hb,h G1 _ H1 r1 s1 rfl⟩
 ·exact h.elim
theorem q59{n:Str}(hv:bootBuiltins n=some (.type T))(hm:X.mg n=none)(hg:Gl X n:=by rfl)(hn:n≠"__name__":=by decide)(hd:(n==("__debug__":Str))=false:=by decide):PE X (.Name n pos) (tC (.ty T)):=y6c (v:=.ty T) hg hm hv rfl hn hd
noncomputable def tup1:List W->Option W
 |[.lst ws]=>some (.tup ws)
 |[.tup ws]=>some (.tup ws)
 |_=>none
theorem z0u:OpN K (fun xs H Q=>∃p ys,xs=[.ref p]/\((SqL K H p ys/\∀l,H l=none->Q (.ref l) (upd H l (.tup ys)))\/(SqT K H p ys/\Q (.ref p) H))) tup1:=by
 intro G H xs ws w Q s pr hf h;unfold tup1 at hf;split at hf
 ·cases hf;obtain⟨x,r,rfl,px,pr⟩:=pr;cases(show r=[]from pr);obtain⟨a,ys,rfl,ha,ra⟩:=px;refine⟨a,ys,rfl,.inl ⟨s.seq ha,fun l hl=>?_⟩⟩
  have g:=Grow.laid s hl (.tup ys);exact h _ _ _ g ⟨l,ys,rfl,SqT.of q0l,Reps.mono g.gg _ ra⟩
 ·cases hf;obtain⟨x,r,rfl,px,pr⟩:=pr;cases(show r=[]from pr);obtain⟨a,ys,rfl,ha,ra⟩:=px;exact⟨a,ys,rfl,.inr ⟨s.tup ha,h G _ H (.refl s) ⟨a,ys,rfl,ha,ra⟩⟩⟩
 ·cases hf
theorem x0x(hm:X.mg "tuple"=none)(ha:DA Z X EE [e] dA)(hg:Gl X "tuple":=by rfl)(he:starEach [e] X.env=(false,eval e X.env)::starEach [] X.env:=by rfl)(hpl:(backTo pos (starEach [] X.env)).any (·.1)=false:=by rfl):DE Z X EE (.Call (.Name "tuple" p) [e] [] pos) (dFn tup1 dA):=
 y05 x4t z0u PyProof.Rows.Boot.«tuple» hm ha hg (by decide) (by decide) he hpl
theorem q1c(hm:X.mg "len"=none)(ha:DA Z X EE [e] dA)(hg:Gl X "len":=by rfl)(he:starEach [e] X.env=(false,eval e X.env)::starEach [] X.env:=by rfl)(hpl:(backTo pos (starEach [] X.env)).any (·.1)=false:=by rfl):DE Z X EE (.Call (.Name "len" p) [e] [] pos) (dFn len1 dA):=
 x1j y3q z0p PySem.boot_len hm ha hg (by decide) (by decide) he hpl
noncomputable def lst1:List W->Option (List W)
 |[.lst ws]=>some ws
 |[.tup ws]=>some ws
 |_=>none
noncomputable def dList(dA:Den (List W)):Den (List W):=fun e=>(dA e).bind fun ws e1=>ofOpt (lst1 ws) e1
theorem q9u(hm:X.mg "list"=none)(ha:DA Z X EE [e] dA)(hg:Gl X "list":=by rfl)(he:starEach [e] X.env=(false,eval e X.env)::starEach [] X.env:=by rfl)(hpl:(backTo pos (starEach [] X.env)).any (·.1)=false:=by rfl):DF Z X EE (.Call (.Name "list" p) [e] [] pos) (dList dA):=by
 refine PE.mono (x3p x5p hg hm PyProof.Rows.Boot.«list» ha (by decide) (by decide) he hpl) ?_;rintro σ H Q ⟨G,e,rel,h⟩;simp only[dList,R.holds_bind,ofOpt_holds]at h;refine⟨G,e,rel,h.imp (fun ws e1 h G1 vs H1 r1 s1 p1=>?_) fun _ _ h=>h⟩
 obtain⟨out,hf,h⟩:=h;unfold lst1 at hf;split at hf
 ·cases hf;obtain⟨y,r,rfl,py,pr⟩:=p1;cases(show r=[]from pr);obtain⟨a,ys,rfl,hq,rq⟩:=py;exact⟨a,ys,rfl,.inl (r1.sub.seq hq),x0t r1 s1 rq h⟩
 ·cases hf;obtain⟨y,r,rfl,py,pr⟩:=p1;cases(show r=[]from pr);obtain⟨a,ys,rfl,hq,rq⟩:=py;exact⟨a,ys,rfl,.inr (r1.sub.tup hq),x0t r1 s1 rq h⟩
 ·cases hf
end
section
variable{w:World}{mg:Str->Option Value}{base:Heap}
theorem x1u{F:List W->FR}(hF:∀ws,F ws=.no){vs:List V}{Q:VK}{E:XK}(h:spF K F vs H Q E):False:=by
 obtain⟨G,ws,hn,_⟩:=x1o h;exact hn (hF ws)
theorem conF{st:Stmt}{N ps:List Str}{F:List W->FR}{f:Addr}{fd:FuncData}(A:Fun K x x st f fd)(sc:FnScope N ps (defScope st))(len:∀ws,F ws≠.no->ws.length=ps.length)
  (hb:∀ws,F ws≠.no->∀(cdv:Value)(A:Around)(outer:List Env)(s:Shared)(H:Hp)(E:XK)(Z:Zt),Room k (A.deeper (PyProof.Rows.envOfC x (defScope st) s.heap.objs.size f cdv)) ->
   ∃d,DSs Z (cxOf (CX1 P w) P w K mg base N x (defScope st) f cdv A outer s H E) (fun _=>E) (defBody st) d/\(d (init N.length ws)).fn=F ws):FnOk P w K mg base (CX1 P w) (k+1) f fd ps (spF K F):=by
 refine A.okX sc (fun vs H Q E h=>?_) (fun cdv A outer s H vs Q E hr h=>?_)
 ·obtain⟨G,ws,hn,r⟩:=x1o h;rw[r.length];exact len ws hn
 ·obtain⟨G,ws,sg,rp,h⟩:=h;have hn:F ws≠.no:=fun z=>by rw[z]at h;exact h
  obtain⟨d,hd,he⟩:=hb ws hn cdv A outer s H E ⟨H,G,[]⟩ hr;exact⟨_,hd,G,init N.length ws,q7x sg rp,x2r he h⟩
theorem q82:∀(ns:List Int),Reps K G (ns.map W.int) (ns.map V.int)
 |[]=>rfl
 |n::ns=>⟨_,_,rfl,rfl,q82 ns⟩
theorem z0v{w:World}{e:Value}{s':Shared}(z:CX1 P w [] H s (fun _ _ _=>False) e s'):False:=by
 obtain⟨_,_,_,_,_,_,_,_,_,_,h⟩:=z;exact h
theorem con0{st:Stmt}{ps:List Str}{F:List W->FR}(A:At K mg x st ps)(hF:∀ws,F ws=.no:=by intro _;rfl):Cal P w K mg base 0 x ps (spF K F):=by
 obtain⟨f,fd,F0,m,b⟩:=A.ex;exact⟨f,fd,⟨fun vs H Q E h=>(x1u hF h).elim,fun A outer s H args us vs Q E _ _ _ _ h=>(x1u hF h).elim⟩,m,F0.kp,b⟩
end
section
variable{d:Den Str}
def DFm(Z:Zt)(X:Cx)(EE:L2.St->XK)(n:Nat)(es:List Expr)(d:Den Str):Prop:=PF X es (fun acc σ H Q=>acc.length+n*1000001<=16777216/\∃G e,Rel X.K Z G σ H e/\(d e).holds (fun y e'=>∀G' H',Rel X.K Z G' σ H' e'->Same G G'->Q (acc++y) H') (XH X.K Z EE σ G))
end
section
variable{β:Type}{c:Prop} [Decidable c]{a:α}{e e':List S}{k:α->List S->R β}{ks:α->List S->SR}{x y:R α}{s t:SR}{v:Value}{st:S}
theorem y67:(R.ok a e).bind k=k a e:=rfl
theorem y68:(R.ex v e:R α).bind k=.ex v e:=rfl
theorem y69:(R.no:R α).bind k=.no:=rfl
theorem y38:(if c then x else y).bind k=if c then x.bind k else y.bind k:=by split<;>rfl
theorem y1g:(R.ok a e).stm ks=ks a e:=rfl
theorem z0w:(R.ex v e:R α).stm ks=.ex v e:=rfl
theorem z0x:(R.no:R α).stm ks=.no:=rfl
theorem y7a:(if c then x else y).stm ks=if c then x.stm ks else y.stm ks:=by split<;>rfl
noncomputable def SR.seq:SR->(List S->SR)->SR
 |.nx e,b=>b e
 |r,_=>r
theorem z0y{p:List S->SR}:dSeq p q e=(p e).seq q:=by
 unfold dSeq SR.seq;cases p e<;>rfl
theorem z0z:(SR.nx e).seq q=q e:=rfl
theorem z00:(SR.rt st e).seq q=.rt st e:=rfl
theorem z01:(SR.ex v e).seq q=.ex v e:=rfl
theorem z02:(SR.bk e).seq q=.bk e:=rfl
theorem z03:(SR.ct e).seq q=.ct e:=rfl
theorem z04:(SR.no).seq q=.no:=rfl
theorem y7b:(if c then s else t).seq q=if c then s.seq q else t.seq q:=by split<;>rfl
theorem z3k:(SR.nx e).fn=.ok (.fr .non):=rfl
theorem z3l:(SR.rt st e).fn=.ok st:=rfl
theorem z3m:(SR.ex v e).fn=.ex v:=rfl
theorem z3n:(SR.no).fn=.no:=rfl
theorem z05:(if c then s else t).fn=if c then s.fn else t.fn:=by split<;>rfl
theorem x9x:ofOpt (some a) e=.ok a e:=rfl
theorem x9y:ofOpt (none:Option α) e=.no:=rfl
theorem y1h{o p:Option α}:ofOpt (if c then o else p) e=if c then ofOpt o e else ofOpt p e:=by split<;>rfl
noncomputable def varS(i:Nat)(e:List S):Option S->R W
 |some (.fr w)=>.ok w e
 |some (.own none ws)=>.ok (.lst ws) (e.set i (.fr (.lst ws)))
 |some (.x k)=>match k.plain with
  |some w=>.ok w e
  |none=>.no
 |_=>.no
theorem z06:dVar i e=varS i e e[i]?:=by
 unfold dVar varS;cases e[i]? with
 |none=>rfl
 |some s=>cases s with
  |own b ws=>cases b<;>rfl
  |_=>rfl
theorem y7c:varS i e (some (.x (.old w)))=.ok w e:=rfl
theorem y7d:varS i e (some (.x (.new w)))=.ok w e:=rfl
theorem z07:varS i e (some (.fr w))=.ok w e:=rfl
theorem y7e:varS i e (some (.own none ws))=.ok (.lst ws) (e.set i (.fr (.lst ws))):=rfl
theorem dC_s:dC w e=.ok w e:=rfl
theorem z3o{f:W->W->Option W}:dOp f da db e=(da e).bind fun x e1=>(db e1).bind fun y e2=>ofOpt (f x y) e2:=rfl
theorem z3p{f:W->Option W}:dUn f da e=(da e).bind fun x e1=>ofOpt (f x) e1:=rfl
noncomputable def testW(e:List S):W->R Bool
 |.bl k=>.ok k e
 |_=>.no
theorem y7f:dTest da e=(da e).bind fun x e1=>testW e1 x:=rfl
theorem y7g{b:Bool}:testW e (.bl b)=.ok b e:=rfl
theorem z08:dTru da e=(da e).bind fun x e1=>ofOpt (truW x) e1:=rfl
theorem z09{p q:Den Bool}:dAnd p q e=(p e).bind fun x e1=>if x=true then q e1 else .ok false e1:=rfl
theorem z3q{p q:Den Bool}:dOr p q e=(p e).bind fun x e1=>if x=true then .ok true e1 else q e1:=rfl
theorem z1a{p:Den Bool}:dNot p e=(p e).bind fun x e1=>.ok (!x) e1:=rfl
noncomputable def andK(q:Den W)(e:List S):W->R W
 |.bl true=>q e
 |.bl false=>.ok (.bl false) e
 |_=>.no
theorem y7h{p q:Den W}:dAndV p q e=(p e).bind fun x e1=>andK q e1 x:=rfl
theorem z1b{q:Den W}{b:Bool}:andK q e (.bl b)=if b=true then q e else .ok (.bl false) e:=by cases b<;>rfl
noncomputable def orK(q:Den W)(e:List S):W->R W
 |.bl true=>.ok (.bl true) e
 |.bl false=>q e
 |_=>.no
theorem z1c{p q:Den W}:dOrV p q e=(p e).bind fun x e1=>orK q e1 x:=rfl
theorem z3r{q:Den W}{b:Bool}:orK q e (.bl b)=if b=true then .ok (.bl true) e else q e:=by cases b<;>rfl
noncomputable def notK(e:List S):W->R W
 |.bl k=>.ok (.bl (!k)) e
 |_=>.no
theorem y7i{p:Den W}:dNotV p e=(p e).bind fun x e1=>notK e1 x:=rfl
theorem z1d{b:Bool}:notK e (.bl b)=.ok (.bl (!b)) e:=rfl
theorem z1e:dNil e=.ok [] e:=rfl
theorem y7j{p:Den W}{q:Den (List W)}:dCons p q e=(p e).bind fun x e1=>(q e1).bind fun xs e2=>.ok (x::xs) e2:=rfl
theorem z1f:dTup p e=(p e).bind fun xs e1=>if xs.length<=16777216 then .ok (.tup xs) e1 else .no:=rfl
theorem z1g:dLst p e=(p e).bind fun xs e1=>if xs.length<=16777216 then .ok xs e1 else .no:=rfl
theorem z3s:dFz p e=(p e).bind fun xs e1=>.ok (.lst xs) e1:=rfl
theorem z3t{f:List W->Option W}:dFn f p e=(p e).bind fun xs e1=>ofOpt (f xs) e1:=rfl
theorem y7k:dList p e=(p e).bind fun xs e1=>ofOpt (lst1 xs) e1:=rfl
theorem z3u:dNx e=.nx e:=rfl
theorem y7l:dDrop d e=(d e).stm fun _ e'=>.nx e':=rfl
theorem z1h:dRet d e=(d e).stm fun w e'=>.rt (.fr w) e':=rfl
theorem y7m{d:Den (List W)}:dRetF d e=(d e).stm fun w e'=>.rt (.own none w) e':=rfl
noncomputable def retS(e:List S):Option S->SR
 |some (.own none ws)=>.rt (.own none ws) e
 |some (.fr w)=>.rt (.fr w) e
 |_=>.no
theorem y7n:dRetO i e=retS e e[i]?:=by
 unfold dRetO retS;cases e[i]? with
 |none=>rfl
 |some s=>cases s with
  |own b ws=>cases b<;>rfl
  |_=>rfl
theorem y7o:retS e (some (.own none ws))=.rt (.own none ws) e:=rfl
theorem z1i:retS e (some (.fr w))=.rt (.fr w) e:=rfl
theorem z1j{p:Den Bool}{q':List S->SR}:dIfS p q q' e=(p e).stm fun x e1=>if x=true then q e1 else q' e1:=rfl
theorem z1k:dSet i d e=(d e).stm fun w e'=>.nx (e'.set i (.fr w)):=rfl
theorem y7p{d:Den (List W)}:dSetO i d e=(d e).stm fun w e'=>.nx (e'.set i (.own none w)):=rfl
noncomputable def callR(e:List S):FR->R W
 |.ok (.fr w)=>.ok w e
 |.ok (.own none ws)=>.ok (.lst ws) e
 |.ok (.dic kvs)=>.ok (.dic kvs) e
 |.ok (.thr us ws vs)=>.ok (.tup (us++.lst ws::vs)) e
 |.ok (.x (.new w))=>.ok w e
 |.ok (.x (.tn us wss))=>.ok (.tup (us++[.lst (wss.map .lst)])) e
 |.ex c=>.ex c e
 |_=>.no
theorem y39{vs:List W}:callR e (.ok (.thr us ws vs))=.ok (.tup (us++.lst ws::vs)) e:=rfl
theorem y4a:callR e (.ok (.x (.new w)))=.ok w e:=rfl
theorem y4b{kvs:Dd}:callR e (.ok (.dic kvs))=.ok (.dic kvs) e:=rfl
theorem y7q{F:List W->FR}{d:Den (List W)}:dCall F d e=(d e).bind fun ws e1=>callR e1 (F ws):=by
 unfold dCall;congr 1
theorem y7r:callR e (.ok (.fr w))=.ok w e:=rfl
theorem y4c:callR e (.ok (.own none ws))=.ok (.lst ws) e:=rfl
theorem y7s:callR e (.ex v)=.ex v e:=rfl
theorem y7t:callR e .no=.no:=rfl
theorem y4d{f g:FR}:callR e (if c then f else g)=if c then callR e f else callR e g:=by split<;>rfl
noncomputable def callF(e:List S):FR->R (List W)
 |.ok (.own none ws)=>.ok ws e
 |.ex c=>.ex c e
 |_=>.no
theorem y1i:callF e (.ok (.own none ws))=.ok ws e:=rfl
theorem y4e:callF e (.ex v)=.ex v e:=rfl
theorem y1j{f g:FR}:callF e (if c then f else g)=if c then callF e f else callF e g:=by split<;>rfl
noncomputable def forW(i:Nat)(b:List S->SR)(e:List S):Option (List W)->SR
 |some ws=>forD i b ws e
 |none=>.no
theorem z1l{b:List S->SR}:dFor i d b e=(d e).stm fun w e1=>forW i b e1 (seqW w):=by
 unfold dFor;congr 1
theorem y7u{g:List W->Option (List W)}{d:Den (List W)}{b:List S->SR}:dForR i g d b e=(d e).stm fun w e1=>forW i b e1 (g w):=by
 unfold dForR;congr 1
theorem y1k{b:List S->SR}:forW i b e (some ws)=forD i b ws e:=rfl
noncomputable def SR.turn:SR->(List S->SR)->SR
 |.nx e,k=>k e
 |.ct e,k=>k e
 |.bk e,_=>.nx e
 |.rt s e,_=>.rt s e
 |.ex c e,_=>.ex c e
 |.no,_=>.no
theorem q3m{b:List S->SR}:forD i b (w::ws) e=(b (e.set i (.fr w))).turn (forD i b ws):=by
 show(match b (e.set i (.fr w))with|.nx e'=>forD i b ws e'|.ct e'=>forD i b ws e'|.bk e'=>.nx e'|.rt s e'=>.rt s e'|.ex c e'=>.ex c e'|.no=>.no)=_;cases b (e.set i (.fr w))<;>rfl
theorem q4f:(SR.nx e).turn q=q e:=rfl
theorem y7v:(SR.ct e).turn q=q e:=rfl
theorem y7w:(SR.bk e).turn q=.nx e:=rfl
theorem x8s:(SR.rt st e).turn q=.rt st e:=rfl
theorem y7x:(SR.ex v e).turn q=.ex v e:=rfl
theorem y7y:(SR.no).turn q=.no:=rfl
theorem y4f:(if c then s else t).turn q=if c then s.turn q else t.turn q:=by split<;>rfl
theorem x8t{p:Den Bool}{b:List S->SR}:whileD p b (n+1) e=(p e).stm fun x e1=>if x=true then(b e1).turn (whileD p b n)else .nx e1:=by
 show(p e).stm _=_;congr 1;funext x e1
 split
 ·cases b e1<;>rfl
 ·rfl
theorem z3v:S.look (.fr w)=some w:=rfl
theorem z1m:S.look (.x (.old w))=some w:=rfl
theorem z1n:S.look (.x (.new w))=some w:=rfl
theorem z1o:S.look (.x (.acc ws))=some (.lst ws):=rfl
theorem z1p:S.look (.own b ws)=some (.lst ws):=rfl
noncomputable def appK(i:Nat)(e:List S):List W->Option S->SR
 |[w],some (.own b xs)=>if xs.length<16777216 then .nx (e.set i (.own b (xs++[w])))else .no
 |_,_=>.no
noncomputable def ownQ(k:SR):Option S->SR
 |some (.own _ _)=>k
 |_=>.no
theorem z1q{d:Den (List W)}:dApp i d e=ownQ ((d e).stm fun ws e1=>appK i e1 ws e1[i]?) e[i]?:=by
 unfold dApp ownQ;cases e[i]? with
 |none=>rfl
 |some s=>cases s with
  |own b xs=>
   dsimp only;try congr 1
  |_=>rfl
theorem z3w{k:SR}:ownQ k (some (.own b ws))=k:=rfl
theorem z3x{xs:List W}:appK i e [w] (some (.own b xs))=if xs.length<16777216 then .nx (e.set i (.own b (xs++[w])))else .no:=rfl
theorem y4g{C:Addr}{d:Den (List W)}:dRaise C d e=(d e).stm fun ws e1=>if ws.length<=16777216 then .ex (.ref C) e1 else .no:=rfl
theorem z3y{dl dh:Den (Option Int)}:dSl d dl dh e=(d e).bind fun w e1=>(dl e1).bind fun lo e2=>(dh e2).bind fun hi e3=>ofOpt (slW w lo hi) e3:=rfl
theorem y1l:dNoPart e=.ok none e:=rfl
noncomputable def partK(e:List S):W->R (Option Int)
 |.int i=>.ok (some i) e
 |_=>.no
theorem y7z:dPart d e=(d e).bind fun w e1=>partK e1 w:=rfl
theorem y4h{i:Int}:partK e (.int i)=.ok (some i) e:=rfl
noncomputable def isiK(e:List S):Option W->R W
 |some (.bl b)=>.ok (.bl b) e
 |_=>.no
theorem z1r:dIsi K cv d e=(d e).bind fun w e1=>isiK e1 (isiW K cv w):=by
 unfold dIsi;congr 1
theorem z1s{b:Bool}:isiK e (some (.bl b))=.ok (.bl b) e:=rfl
theorem x0y{b k:Bool}(h:kitOne K (.type "bool") cv=some k):isiW K cv (.bl b)=some (.bl k):=by show(kitOne K (.type "bool") cv).map W.bl=_;rw[h];rfl
theorem x2v{b:Int}{k:Bool}(h:kitOne K (.type "int") cv=some k):isiW K cv (.int b)=some (.bl k):=by show(kitOne K (.type "int") cv).map W.bl=_;rw[h];rfl
theorem x2w{b:List W}{k:Bool}(h:kitOne K (.type "tuple") cv=some k):isiW K cv (.tup b)=some (.bl k):=by show(kitOne K (.type "tuple") cv).map W.bl=_;rw[h];rfl
theorem x2x{b:List W}{k:Bool}(h:kitOne K (.type "list") cv=some k):isiW K cv (.lst b)=some (.bl k):=by show(kitOne K (.type "list") cv).map W.bl=_;rw[h];rfl
theorem x2y{k:Bool}(h:kitOne K (.type "NoneType") cv=some k):isiW K cv .non=some (.bl k):=by show(kitOne K (.type "NoneType") cv).map W.bl=_;rw[h];rfl
noncomputable def compR(e:List S):Option (List W)->R (List W)
 |some out=>.ok out e
 |none=>.no
theorem y70:compK js cc d ws e=if ws.length<=16777216 then compR (frzs js e) (compD cc d (pjS js (frzs js e)) ws)else .no:=by
 unfold compK compR;split
 ·cases compD cc d (pjS js (frzs js e)) ws<;>rfl
 ·rfl
noncomputable def compW(js:List Nat)(cc:Den Bool)(d:Den W)(e:List S):Option (List W)->R (List W)
 |some ws=>compK js cc d ws e
 |none=>.no
theorem y71{di:Den W}:dComp js di cc d e=(di e).bind fun w e1=>compW js cc d e1 (seqW w):=by
 unfold dComp;congr 1
theorem y4i{g:List W->Option (List W)}{di:Den (List W)}:dCompR g js di cc d e=(di e).bind fun w e1=>compW js cc d e1 (g w):=by
 unfold dCompR;congr 1
theorem x9z:compW js cc d e (some ws)=compK js cc d ws e:=rfl
theorem x90{out:List W}:compR e (some out)=.ok out e:=rfl
theorem y1m:dYes e=.ok true e:=rfl
theorem y4j:frzs [] e=e:=rfl
theorem y1n:frzs (j::js) e=frzs js (frz1 e j):=rfl
theorem y72:pjS [] e=[]:=rfl
theorem y4k:pjS (j::js) e=pj1 e j::pjS js e:=rfl
theorem x51{g:W->W}:∀(ws:List W),(∀w∈ws,∃e',d (.fr w::pe)=.ok (g w) e')->compD dYes d pe ws=some (ws.map g)
 |[],_=>rfl
 |w::ws,h=>by
  obtain⟨e',he⟩:=h w (by simp);show(match d (.fr w::pe)with|.ok y _=>(compD dYes d pe ws).map (y::·)|_=>none)=_;rw[he,x51 ws fun u hu=>h u (by simp[hu])]
  rfl
theorem x3y:compD cc d pe (w::ws)=(match cc (.fr w::pe)with
  |.ok true e1=>(match d e1 with|.ok y _=>(compD cc d pe ws).map (y::·)|_=>none)
  |.ok false _=>compD cc d pe ws
  |_=>none):=rfl
end
section
variable{i j:Int}{b c:Bool}
theorem z1t:addW (.int i) (.int j)=some (.int (i+j)):=rfl
theorem z1u:addW (.str x) (.str y)=if x.length+y.length<=16777216 then some (.str (x++y))else none:=rfl
theorem z1v:addW (.lst ws) (.lst us)=if ws.length+us.length<=16777216 then some (.lst (ws++us))else none:=rfl
theorem z1w:subW (.int i) (.int j)=some (.int (i-j)):=rfl
theorem z1x:mulW (.int i) (.int j)=if(-18446744073709551616<i/\i<18446744073709551616)\/(-18446744073709551616<j/\j<18446744073709551616)then some (.int (i*j))else none:=rfl
theorem y73:fdivW (.int i) (.int j)=if 0<j/\j<1073741824 then some (.int (i / j))else none:=rfl
theorem z1y:modW (.int i) (.int j)=if 0<j then some (.int (i%j))else none:=rfl
theorem z3z:ltW (.int i) (.int j)=some (.bl (decide (i<j))):=rfl
theorem z30:gtW (.int i) (.int j)=some (.bl (decide (j<i))):=rfl
theorem z31:eq2 (.int i) (.int j)=some (.bl (decide (i=j))):=by
 show some (W.bl (i==j))=_;congr 2
theorem z32:eq2 (.str x) (.str y)=some (.bl (decide (x=y))):=by
 show some (W.bl (x==y))=_;congr 2
theorem z33:eq2 (.bl b) (.bl c)=some (.bl (decide (b=c))):=by
 show some (W.bl (b==c))=_;congr 2
theorem z34:ne2 (.int i) (.int j)=some (.bl (!decide (i=j))):=by
 show some (W.bl (!(i==j)))=_;congr 2
theorem z35:ne2 (.str x) (.str y)=some (.bl (!decide (x=y))):=by
 show some (W.bl (!(x==y)))=_;congr 2
theorem z36:ne2 (.bl b) (.bl c)=some (.bl (!decide (b=c))):=by
 show some (W.bl (!(b==c)))=_;congr 2
theorem z37:isW (.bl b) (.bl c)=some (.bl (decide (b=c))):=by
 show some (W.bl (b==c))=_;congr 2
theorem z38:isW .non .non=some (.bl true):=rfl
theorem z39:isW (.bl b) .non=some (.bl false):=rfl
theorem z4a:isW (.int i) .non=some (.bl false):=rfl
theorem z4b:isW (.str x) .non=some (.bl false):=rfl
theorem z4c:isW (.tup ws) .non=some (.bl false):=rfl
theorem z4d:isW (.lst ws) .non=some (.bl false):=rfl
theorem z1z:nisW (.bl b) (.bl c)=some (.bl (!decide (b=c))):=by
 show some (W.bl (!(b==c)))=_;congr 2
theorem z10:nisW .non .non=some (.bl false):=rfl
theorem z11:nisW (.bl b) .non=some (.bl true):=rfl
theorem z12:nisW (.int i) .non=some (.bl true):=rfl
theorem z13:nisW (.str x) .non=some (.bl true):=rfl
theorem z14:nisW (.tup ws) .non=some (.bl true):=rfl
theorem z15:nisW (.lst ws) .non=some (.bl true):=rfl
theorem ix_t:ixW (.tup ws) (.int i)=atI ws i:=rfl
theorem ix_l:ixW (.lst ws) (.int i)=atI ws i:=rfl
theorem z4e:len1 [.tup ws]=some (.int ws.length):=rfl
theorem z4f:len1 [.lst ws]=some (.int ws.length):=rfl
theorem z4g:tup1 [.lst ws]=some (.tup ws):=rfl
theorem z4h:tup1 [.tup ws]=some (.tup ws):=rfl
theorem z4i:lst1 [.lst ws]=some ws:=rfl
theorem z4j:lst1 [.tup ws]=some ws:=rfl
theorem z4k:truW (.bl b)=some b:=rfl
theorem z4l:truW (.int i)=some (i != 0):=rfl
theorem z4m:truW .non=some false:=rfl
theorem z4n:truW (.tup ws)=some (!ws.isEmpty):=rfl
theorem z4o:truW (.lst ws)=some (!ws.isEmpty):=rfl
theorem z4p:seqW (.tup ws)=some ws:=rfl
theorem z4q:seqW (.lst ws)=some ws:=rfl
theorem sc_i:scalW (.int i)=true:=rfl
theorem sc_b:scalW (.bl b)=true:=rfl
theorem sc_s:scalW (.str x)=true:=rfl
theorem sc_n:scalW .non=true:=rfl
theorem sl_l{lo hi:Option Int}:slW (.lst ws) lo hi=some (.lst (cutW ws lo hi)):=rfl
theorem at0{xs:List α}:atI xs 0=xs[0]?:=by
 cases xs with
 |nil=>rfl
 |cons a l=>exact q7i (j:=0) rfl
theorem at1{xs:List α}:atI xs 1=xs[1]?:=by
 cases xs with
 |nil=>rfl
 |cons a l=>
  cases l with
  |nil=>rfl
  |cons b l=>exact q7i (j:=1) rfl
theorem at2{xs:List α}:atI xs 2=xs[2]?:=by
 cases xs with
 |nil=>rfl
 |cons a l=>
  cases l with
  |nil=>rfl
  |cons b l=>
   cases l with
   |nil=>rfl
   |cons c l=>exact q7i (j:=2) rfl
theorem x52{xs:List α}{k:Int}(h0:0<=k):atI xs k=xs[k.toNat]?:=by
 unfold atI ixN;rw[if_pos h0]
 by_cases h:k<xs.length
 ·rw[if_pos h];rfl
 ·rw[if_neg h];exact(w1m (by omega)).symm
theorem x53{a b:String}(h:Str.ofString a=Str.ofString b):a=b:=by
 rw[Str.ofString_eq_toList,Str.ofString_eq_toList]at h;have h1:(a.toList.map Char.toNat).toArray=(b.toList.map Char.toNat).toArray:=congrArg Str.cps h;have h2:a.toList.map Char.toNat=b.toList.map Char.toNat:=by simpa using congrArg Array.toList h1
 have h3:a.toList=b.toList:=by
  have inj:∀c d:Char,c.toNat=d.toNat->c=d:=fun c d e=>by
   apply Char.ext;exact UInt32.toNat_inj.mp e
  exact(List.map_inj_right inj).mp h2
 exact String.toList_inj.mp h3
theorem z16{a b:String}:(Str.ofString a=Str.ofString b)=(a=b):=propext ⟨x53,fun h=>by rw[h]⟩
end
noncomputable def tuprevW:W->Option W
 |.lst ws=>some (.tup ws.reverse)
 |_=>none
noncomputable def boolsW:List W->Option (List Bool)
 |[]=>some []
 |.bl b::ws=>(boolsW ws).map (b::·)
 |_=>none
noncomputable def all1:List W->Option W
 |[.lst ws]=>(boolsW ws).map fun bs=>.bl (bs.all id)
 |_=>none
noncomputable def int1:List W->Option W
 |[.int i]=>some (.int i)
 |[.bl b]=>some (.int (if b then 1 else 0))
 |_=>none
noncomputable def eqS(y x:W):Bool:=(eqW y x).getD false
noncomputable def inW:W->W->Option W
 |x,.tup ws=>if scalW x=true/\ws.all scalW=true then some (.bl (ws.any fun y=>eqS y x))else none
 |x,.lst ws=>if scalW x=true/\ws.all scalW=true then some (.bl (ws.any fun y=>eqS y x))else none
 |_,_=>none
noncomputable def ninW:W->W->Option W
 |x,.tup ws=>if scalW x=true/\ws.all scalW=true then some (.bl (!ws.any fun y=>eqS y x))else none
 |x,.lst ws=>if scalW x=true/\ws.all scalW=true then some (.bl (!ws.any fun y=>eqS y x))else none
 |_,_=>none
theorem q5m(h:scalW w=true)(p:Rep K G w v):flatV v=true:=by
 cases w with
 |non=>cases p;rfl
 |bl b=>cases p;rfl
 |int b=>cases p;rfl
 |str b=>cases p;rfl
 |_=>cases h
theorem y74{u:W}{x:V}(h:scalW w=true)(h':scalW u=true)(p:Rep K G w v)(q:Rep K G u x):eqV v x=eqS w u:=by
 cases w<;>cases u<;>first|(cases p;cases q;rfl)|exact absurd (show false=true from h') w1e|exact absurd (show false=true from h) w1e
theorem q6l{u:W}{x:V}(hu:scalW u=true)(q:Rep K G u x):∀{ws:List W}{xs:List V},ws.all scalW=true->Reps K G ws xs->xs.all flatV=true/\inV x xs=ws.any fun y=>eqS y u
 |[],xs,_,r=>by cases r;exact⟨rfl,rfl⟩
 |w::ws,xs,h,r=>by
  obtain⟨y,r',rfl,p,r⟩:=r;rw[w1s,w0j]at h;obtain⟨i1,i2⟩:=q6l hu q h.2 r;refine⟨by rw[w1s,q5m h.1 p,i1];rfl,?_⟩;show(eqV y x||inV x r')=(eqS w u||ws.any _);rw[y74 h.1 hu p q,i2]
theorem z4r:Op2 K (rIn K false) inW:=by
 intro G H x y wx wy w Q s px py hf h;cases wy with
 |tup ws=>
  simp only[inW]at hf;split at hf
  ·rename_i hc;cases hf;obtain⟨a,xs,rfl,ha,ra⟩:=py;obtain⟨i1,i2⟩:=q6l hc.1 px hc.2 ra;refine⟨a,xs,rfl,.inr (s.tup ha),q5m hc.1 px,i1,?_⟩;rw[i2];exact h G _ H (.refl s) rfl
  ·cases hf
 |lst ws=>
  simp only[inW]at hf;split at hf
  ·rename_i hc;cases hf;obtain⟨a,xs,rfl,ha,ra⟩:=py;obtain⟨i1,i2⟩:=q6l hc.1 px hc.2 ra;refine⟨a,xs,rfl,.inl (s.seq ha),q5m hc.1 px,i1,?_⟩;rw[i2];exact h G _ H (.refl s) rfl
  ·cases hf
 |_=>simp[inW]at hf
theorem y1o:Op2 K (rIn K true) ninW:=by
 intro G H x y wx wy w Q s px py hf h;cases wy with
 |tup ws=>
  simp only[ninW]at hf;split at hf
  ·rename_i hc;cases hf;obtain⟨a,xs,rfl,ha,ra⟩:=py;obtain⟨i1,i2⟩:=q6l hc.1 px hc.2 ra;refine⟨a,xs,rfl,.inr (s.tup ha),q5m hc.1 px,i1,?_⟩;rw[i2];exact h G _ H (.refl s) rfl
  ·cases hf
 |lst ws=>
  simp only[ninW]at hf;split at hf
  ·rename_i hc;cases hf;obtain⟨a,xs,rfl,ha,ra⟩:=py;obtain⟨i1,i2⟩:=q6l hc.1 px hc.2 ra;refine⟨a,xs,rfl,.inl (s.seq ha),q5m hc.1 px,i1,?_⟩;rw[i2];exact h G _ H (.refl s) rfl
  ·cases hf
 |_=>simp[ninW]at hf
theorem y1p:Op1 K (fun x H1 Q=>∃p ys,x=.ref p/\SqL K H1 p ys/\∀l,H1 l=none->Q (.ref l) (upd H1 l (.tup ys.reverse))) tuprevW:=by
 intro G H x wx w Q s px hf h;unfold tuprevW at hf;split at hf
 ·cases hf;obtain⟨a,xs,rfl,ha,ra⟩:=px;refine⟨a,xs,rfl,s.seq ha,fun l hl=>?_⟩
  have g:=Grow.laid s hl (.tup xs.reverse);exact h _ _ _ g ⟨l,_,rfl,SqT.of q0l,Reps.mono g.gg _ ra.reverse⟩
 ·cases hf
theorem q7z:∀{ws:List W}{bs:List Bool},boolsW ws=some bs->ws=bs.map .bl
 |[],bs,h=>by cases h;rfl
 |.bl b::ws,bs,h=>by
  obtain⟨cs,h1,rfl⟩:=w0o.mp (show(boolsW ws).map (b::·)=some bs from h);rw[q7z h1];rfl
 |.non::ws,bs,h=>by cases h
 |.int _::ws,bs,h=>by cases h
 |.str _::ws,bs,h=>by cases h
 |.tup _::ws,bs,h=>by cases h
 |.lst _::ws,bs,h=>by cases h
 |.exc _::ws,bs,h=>by cases h
theorem q83:∀(bs:List Bool),boolsW (bs.map .bl)=some bs
 |[]=>rfl
 |b::bs=>by
  show(boolsW (bs.map W.bl)).map (b::·)=_;rw[q83 bs];rfl
theorem q70:∀{bs:List Bool}{xs:List V},Reps K G (bs.map W.bl) xs->xs=bs.map V.bl
 |[],xs,h=>h
 |b::bs,xs,h=>by
  obtain⟨x,r,rfl,h1,h2⟩:=h;rw[q70 h2,show x=V.bl b from h1];rfl
theorem z17:OpN K (fun xs H Q=>∃p ys,xs=[.ref p]/\SqL K H p ys/\(∀y∈ys,∃b,y=.bl b)/\Q (.bl (ys.all fun y=>decide (y=.bl true))) H) all1:=by
 intro G H xs ws w Q s pr hf h;unfold all1 at hf;split at hf
 ·obtain⟨bs,hb,rfl⟩:=w0o.mp hf;have:=q7z hb;subst this;obtain⟨x,r,rfl,px,pr⟩:=pr;cases(show r=[]from pr);obtain⟨a,ys,rfl,ha,ra⟩:=px;have:=q70 ra;subst this;refine⟨a,_,rfl,s.seq ha,fun y hy=>?_,h G _ H (.refl s) ?_⟩
  ·obtain⟨b,_,rfl⟩:=w1f.mp hy;exact⟨b,rfl⟩
  ·show V.bl _=V.bl _;congr 1;rw[w3s];congr 1;funext b
   cases b<;>rfl
 ·cases hf
theorem z18:OpN K (fun xs H Q=>(∃i,xs=[.int i]/\Q (.int i) H)\/∃k,xs=[.bl k]/\Q (.int (if k then 1 else 0)) H) int1:=by
 intro G H xs ws w Q s pr hf h;unfold int1 at hf;split at hf
 ·cases hf;obtain⟨x,r,rfl,px,pr⟩:=pr;cases(show r=[]from pr);cases px;exact .inl ⟨_,rfl,h G _ H (.refl s) rfl⟩
 ·cases hf;obtain⟨x,r,rfl,px,pr⟩:=pr;cases(show r=[]from pr);cases px;exact .inr ⟨_,rfl,h G _ H (.refl s) rfl⟩
 ·cases hf
section
variable{a b c:Expr}{p pos1 pos2:Pos}
theorem z4s(hu:X.A.units+150<cLine)(ha:DE Z X EE a da)(hb:DE Z X EE b db)(hm:behindInMarks .In b=false:=by with_unfolding_all rfl):DT Z X EE (.Compare a [.In] [b] pos) (dTest (dOp inW da db)):=q5k y0y z4r ha hb hm
theorem y1q(hu:X.A.units+150<cLine)(ha:DE Z X EE a da)(hb:DE Z X EE b db)(hm:behindInMarks .NotIn b=false:=by with_unfolding_all rfl):DE Z X EE (.Compare a [.NotIn] [b] pos) (dOp ninW da db):=x1h q8v y1o ha hb hm
theorem x54(hu:X.A.units+150<cLine)(ha:DE Z X EE a da)(hb:DE Z X EE b db)(hm:behindInMarks .NotIn b=false:=by with_unfolding_all rfl):DT Z X EE (.Compare a [.NotIn] [b] pos) (dTest (dOp ninW da db)):=q5k q8v y1o ha hb hm
theorem y1r(hc:X.calm=true)(hm1:X.mg "tuple"=none)(hm2:X.mg "reversed"=none)(he:DE Z X EE e da)(hg1:Gl X "tuple":=by rfl)(hg2:Gl X "reversed":=by rfl)
  (hs1:starEach [.Call (.Name "reversed" p2) [e] [] pos2] X.env=(false,eval (.Call (.Name "reversed" p2) [e] [] pos2) X.env)::starEach [] X.env:=by rfl)(hs2:starEach [e] X.env=(false,eval e X.env)::starEach [] X.env:=by rfl):
  DE Z X EE (.Call (.Name "tuple" p1) [.Call (.Name "reversed" p2) [e] [] pos2] [] pos1) (dUn tuprevW da):=PE.mono (y00 hc hm1 hm2 he hg1 hg2 hs1 hs2) (y6x y1p)
theorem x1v(hc:X.calm=true)(hm:X.mg "all"=none)(ha:DA Z X EE [e] dA)(hg:Gl X "all":=by rfl)(he:starEach [e] X.env=(false,eval e X.env)::starEach [] X.env:=by rfl)(hpl:(backTo pos (starEach [] X.env)).any (·.1)=false:=by rfl):DE Z X EE (.Call (.Name "all" p) [e] [] pos) (dFn all1 dA):=
 x1j (y3w hc) z17 PyProof.Rows.Boot.«all» hm ha hg (by decide) (by decide) he hpl
theorem y75(hm:X.mg "int"=none)(ha:DA Z X EE [e] dA)(hg:Gl X "int":=by rfl)(he:starEach [e] X.env=(false,eval e X.env)::starEach [] X.env:=by rfl)(hpl:(backTo pos (starEach [] X.env)).any (·.1)=false:=by rfl):DE Z X EE (.Call (.Name "int" p) [e] [] pos) (dFn int1 dA):=
 y05 y0u z18 PyProof.Rows.Boot.«int» hm ha hg (by decide) (by decide) he hpl
end
theorem y4l:tuprevW (.lst ws)=some (.tup ws.reverse):=rfl
theorem x5d{bs:List Bool}:all1 [.lst (bs.map .bl)]=some (.bl (bs.all id)):=by
 show(boolsW (bs.map W.bl)).map _=_;rw[q83];rfl
theorem z4t{i:Int}:int1 [.int i]=some (.int i):=rfl
theorem z4u{b:Bool}:int1 [.bl b]=some (.int (if b then 1 else 0)):=rfl
theorem cast0:((0:Nat):Int)=0:=rfl
theorem cast1:((1:Nat):Int)=1:=rfl
theorem y1s{b:List S->SR}(I:Nat->List S->Prop):∀(ws:List W)(k:Nat)(e:List S),I k e->(∀(j:Nat)(w:W)(e:List S),ws[j]?=some w->I (k+j) e->∃e',b (e.set i (.fr w))=.nx e'/\I (k+j+1) e')->∃e',forD i b ws e=.nx e'/\I (k+ws.length) e'
 |[],k,e,h0,_=>⟨e,rfl,h0⟩
 |w::ws,k,e,h0,h=>by
  obtain⟨e1,h1,h2⟩:=h 0 w e rfl h0
  obtain⟨e2,h3,h4⟩:=y1s I ws (k+1) e1 h2 fun j u e hu hI=>by
   have z:=h (j+1) u e (by simpa using hu) (by rw[show k+(j+1)=k+1+j by omega];exact hI);rw[show k+(j+1)+1=k+1+j+1 by omega]at z;exact z
  refine⟨e2,?_,?_⟩
  ·rw[q3m,h1,q4f,h3]
  ·rw[w0p,show k+(ws.length+1)=k+1+ws.length by omega];exact h4
theorem q24{hi:Int}:(rangeW lo hi).length=(hi-lo).toNat:=by simp[rangeW]
theorem y1t{hi:Int}(h:(rangeW lo hi)[j]?=some w):w=.int (lo+j)/\j<(hi-lo).toNat:=by
 unfold rangeW at h;rw[w0w]at h;obtain⟨k,h1,rfl⟩:=w0o.mp h;obtain⟨h2,h3⟩:=w0d.mp h1;simp at h2 h3;subst h3;exact⟨rfl,by omega⟩
theorem q43{b:List S->SR}{hi:Int}(n:Nat)(hn:(hi-lo).toNat=n)(I:Nat->List S->Prop)(e:List S)(h0:I 0 e)(h:∀(j:Nat)(e:List S),j<n->I j e->∃e',b (e.set i (.fr (.int (lo+j))))=.nx e'/\I (j+1) e'):∃e',forD i b (rangeW lo hi) e=.nx e'/\I n e':=by
 obtain⟨e',h1,h2⟩:=y1s (b:=b) (i:=i) I (rangeW lo hi) 0 e h0 fun j w e hw hI=>by
  obtain⟨rfl,hj⟩:=y1t hw;rw[w2z]at hI |-
  exact h j e (by omega) hI
 rw[q24,hn,w2z]at h2;exact⟨e',h1,h2⟩
noncomputable def dLend(F:List W->FR)(i:Nat)(dA:Den (List W)):Den W:=fun e=>match e[i]? with
 |some (.own _ _)=>(dA e).bind fun us e1=>match e1[i]? with
  |some (.own _ ws)=>match F (.lst ws::us)with
   |.ok (.fr w)=>if scalW w=true then .ok w e1 else .no
   |_=>.no
  |_=>.no
 |_=>.no
mutual
noncomputable def conIn(K:PySem.W.Frag):W->Value->Bool
 |.non,u=>match u with|.none=>true|_=>false
 |.bl b,u=>match u with|.bool c=>b==c|_=>false
 |.int i,u=>match u with|.int j _=>decide (i=j)|_=>false
 |.str x,u=>match u with|.str y _=>decide (x=y)|_=>false
 |.tup ws,u=>match u with
  |.ref a=>match K.lookup a with
   |some o=>(o.cls==.type "tuple"&&o.dict.isNone)&&(match o.data with|.seq its _=>Nat.ble its.size 1000000&&consIn K ws its.toList|_=>false)
   |none=>false
  |_=>false
 |.lst _,_=>false
 |.exc _,_=>false
 |.dic _,_=>false
 |.dw _ _ _ _,_=>false
 |.fn _ _ _,_=>false
noncomputable def consIn(K:PySem.W.Frag):List W->List Value->Bool
 |[],us=>us.isEmpty
 |w::ws,us=>match us with
  |u::us=>conIn K w u&&consIn K ws us
  |[]=>false
end
mutual
theorem x8u{K:PySem.W.Frag}:∀(w:W){u:Value},conIn K w u=true->∃v,RelV v u/\∀G,Rep K G w v
 |.non,u,h=>by
  unfold conIn at h;split at h
  ·exact⟨.non,rfl,fun _=>rfl⟩
  ·cases h
 |.bl b,u,h=>by
  unfold conIn at h;split at h
  ·rename_i c;have:b=c:=by simpa using h
   exact⟨.bl b,by rw[this];rfl,fun _=>rfl⟩
  ·cases h
 |.int i,u,h=>by
  unfold conIn at h;split at h
  ·rename_i j t;have:i=j:=by simpa using h
   exact⟨.int i,⟨t,by rw[this]⟩,fun _=>rfl⟩
  ·cases h
 |.str x,u,h=>by
  unfold conIn at h;split at h
  ·rename_i y t;have:x=y:=by simpa using h
   exact⟨.str x,⟨t,by rw[this]⟩,fun _=>rfl⟩
  ·cases h
 |.tup ws,u,h=>by
  unfold conIn at h;split at h
  ·rename_i a;split at h
   ·rename_i o ho;rw[w0j]at h;obtain⟨h1,h2⟩:=h;split at h2
    ·rename_i its n hd;rw[w0j]at h2;obtain⟨h3,h4⟩:=h2;obtain⟨xs,r,q⟩:=x55 ws h4;exact⟨.ref a,rfl,fun G=>⟨a,xs,rfl,.inr ⟨o,its,n,ho,by simpa using ((w0j _ _).mp h1).1,Option.isNone_iff_eq_none.mp ((w0j _ _).mp h1).2,hd,by rw[sizeLine_eq];have:=w3k h3;omega,r⟩,q G⟩⟩
    ·cases h2
   ·cases h
  ·cases h
 |.lst _,u,h=>by unfold conIn at h;cases h
 |.exc _,u,h=>by unfold conIn at h;cases h
 |.dic _,u,h=>by unfold conIn at h;cases h
 |.dw _ _ _ _,u,h=>by unfold conIn at h;cases h
 |.fn _ _ _,u,h=>by unfold conIn at h;cases h
theorem x55{K:PySem.W.Frag}:∀(ws:List W){us:List Value},consIn K ws us=true->∃xs,Vals xs us/\∀G,Reps K G ws xs
 |[],us,h=>by
  unfold consIn at h;cases us with
  |nil=>exact⟨[],.nil,fun _=>rfl⟩
  |cons _ _=>cases h
 |w::ws,us,h=>by
  unfold consIn at h;cases us with
  |nil=>cases h
  |cons u us=>
   rw[w0j]at h;obtain⟨v,r,q⟩:=x8u w h.1;obtain⟨xs,r',q'⟩:=x55 ws h.2;exact⟨v::xs,.cons r r',fun G=>⟨v,xs,rfl,q G,q' G⟩⟩
end
theorem y1u(hm:X.mg x=some u)(hc:conIn X.K w u=true)(hg:Gl X x:=by rfl)(hd:(x==("__debug__":Str))=false:=by decide):DE Z X EE (.Name x pos) (dC w):=by
 obtain⟨v,r,q⟩:=x8u w hc;exact PE.mono (x8l hg hm r hd) fun σ H Q ⟨G,e,rel,h⟩=>h G v H rel (.refl _) (q G)
theorem x1w(l : Addr)(items : Array Value)(n : Nat)(b : Addr)(items2 : Array Value)(n2 : Nat)(T : String)(hT : T = "list" \/ T = "tuple")(hs0 : ¬(!items.isEmpty && Builtin.List.listTooLong (items.size + items2.size)) = true)(hs1 : items.size <= sizeLine)(hs2 : items.size + items2.size <= sizeLine + 1) :
  Meets (Builtin.«list.extend» { pos := [Value.ref l, Value.ref b] }) fun _ R s =>
     s.heap.get? l = some { cls := Value.type "list", data := Data.seq items n } /\
      (∃ o, s.heap.get? b = some o /\ o.cls = .type T /\ o.data = Data.seq items2 n2) /\
       R (Except.ok (Flow.ret Value.none)) { s with heap := s.heap.update l (Obj.mapSeq fun x => x ++ items2) } := by
 refine Meets.of_wp fun prog w A R s h => ?_
 obtain ⟨hl, ⟨o, hb, hc, hd⟩, h⟩ := h;obtain ⟨cls, dict, data, slots⟩ := o;simp only at hc hd;subst hc hd;refine wpAny_bind (wpAny_bind (wpAny_ite_true rfl (wpAny_pure (wpAny_pure ?_))));refine wpAny_bind (wpAny_bind (AutoSeq1.wpAny_loadPart' hb (wpAny_pure (wpAny_ite_true ?_ ?_))))
 ·rcases hT with rfl | rfl <;> simp
 refine wpAny_bind (wpAny_bind (wpAny_bind (wpAny_load' hb (wpAny_pure (wpAny_pure ?_)))));refine wpAny_bind (wpAny_bind (wpAny_bind (wpAny_load' hl (wpAny_pure (wpAny_pure ?_)))));refine wpAny_ite_false (by simpa using hs0) ?_;exact wpAny_bind (wpAny_updateSeq hl rfl (wpAny_pure ⟨_, rfl, h⟩) hs1 (by rw [Array.size_append]; exact hs2))
def rExt(K:PySem.W.Frag):V->List V->Hp->VK->Prop:=fun x vs H Q=>∃l b xs zs,x=.ref l/\vs=[.ref b]/\H l=some (.lst xs)/\(SqL K H b zs\/SqT K H b zs)/\xs.length+zs.length<=sizeLine/\Q .non (upd H l (.lst (xs++zs)))
theorem z19:MtM X "list.extend" (rExt X.K):=by
 intro pins s σ H x vs v us Q I rx rv h;obtain⟨l,b,xs,zs,rfl,rfl,hH,hB,hz,q⟩:=h;cases rx;obtain⟨u,rfl,ru⟩:=rv.one;cases ru;obtain⟨z,its,n,r,hl,e⟩:=I.lstM hH
 have fin:∀(T:String)(its2:List Value)(n2:Nat)(o:Obj),T="list"\/T="tuple"->Vals zs its2->s.heap.get? b=some o->o.cls=.type T->o.data=.seq its2.toArray n2->wpAny (model X.prog X.w) X.A (call (.builtin "list.extend") [.ref l,.ref b]) (EP X pins σ Q) X.xe s:=fun T its2 n2 o hT r2 e2 hc hd=>by
  have hl2:=r2.length;have hsz:its.toArray.size+its2.toArray.size<=sizeLine:=by rw[w0c,w0c];omega
  have hlong:¬(!its.toArray.isEmpty&&Builtin.List.listTooLong (its.toArray.size+its2.toArray.size))=true:=by
   rw[notLongL hsz,w4t];exact w1e
  refine call_meets F.slot_list_extend ⟨_,e,rfl⟩ F.entry_list_extend (F.args_list_extend_2 _ _)
   (x1w l its.toArray n b its2.toArray n2 T hT hlong (by rw[w0c];omega) (by omega)) ⟨e,⟨o,e2,hc,hd⟩,?_⟩
  refine⟨.non,_,I.lset (its':=its++its2) hH e (by simp) (r.append r2) ?_,rfl,q⟩;rw[w0q];omega
 rcases hB with hB|hB
 ·obtain⟨its2,r2,pl,_⟩:=I.list hB;obtain⟨o,e2,hc,n2,hd⟩:=pl.isList;exact fin "list" its2 n2 o (.inl rfl) r2 e2 hc hd
 ·obtain⟨its2,r2,⟨o,e2,hc,n2,hd⟩,_⟩:=I.tuple hB;exact fin "tuple" its2 n2 o (.inr rfl) r2 e2 hc hd
noncomputable def dExt(i:Nat)(d:Den (List W)):List S->SR:=fun e=>match e[i]? with
 |some (.own _ _)=>(d e).stm fun ws e1=>match ws,e1[i]? with
  |[w],some (.own b xs)=>match seqW w with
   |some ys=>if xs.length+ys.length<=16777216 then .nx (e1.set i (.own b (xs++ys)))else .no
   |none=>.no
  |_,_=>.no
 |_=>.no
section
variable{p:Pos}
theorem z2a(i:Nat)(ha:DA Z X EE (e::es) dA)(hN:X.N[i]?=some x:=by rfl)(hv:Vis X.env.scope x:=by first|exact Or.inl rfl|exact Or.inr (Or.inl rfl)|exact Or.inr (Or.inr rfl))(hd:(x==("__debug__":Str))=false:=by decide)(hcd:(x==("__classdict__":Str))=false:=by decide)
  (hbase:attributeBase (.Name x p) "extend" X.env (eval (.Name x p) X.env)=eval (.Name x p) X.env:=by rfl)
  (hfew:((backTo cpos (starEach (e::es) X.env)).all (fun x=>!x.1)&&(backToKw cpos (keywordEach [] X.env)).all (fun x=>x.1.isSome)&&decide ((e::es).length+([]:List Keyword).length+(if([]:List Keyword).isEmpty then 0 else 1)<30))=true:=by rfl)
  (hline:(apos.endLine==cpos.line)=true:=by rfl)(hs:starEach (e::es) X.env=(false,eval e X.env)::starEach es X.env:=by rfl)(hplain:(backTo cpos (starEach es X.env)).any (·.1)=false:=by rfl)
  (hsw:swapsWith (.Call (.Attribute (.Name x p) "extend" apos) (e::es) [] cpos) none pos.line X.env=pure false:=by rfl):
  DS Z X EE (.Expr (.Call (.Attribute (.Name x p) "extend" apos) (e::es) [] cpos) pos) (dExt i dA):=by
 refine PS.mono (x2n (x9r PySem.F.plainAttrs_list PySem.F.slot_list_extend PySem.F.type_list_extend z19 (pv i hN hv hd hcd) ha hbase hfew hline hs hplain) hsw) ?_;rintro D σ H ⟨G,e,rel,h⟩;unfold dExt at h;split at h
 ·rename_i b0 ws0 he0;obtain⟨a,xs,h1,h2,h3,h4,h5⟩:=rel.own he0;refine⟨.ref a,h1,.inl ⟨rfl,xs,SqL.of h2⟩,G,e,rel,(q14 h).imp (fun ws e1 h G1 vs H1 r1 s1 p1=>?_) fun _ _ h=>h⟩
  split at h
  ·rename_i w b ys he1;obtain⟨a',zs,g1,g2,g3,g4,g5⟩:=r1.own he1;rw[h1]at g1;cases g1;obtain⟨y,r,rfl,py,pr⟩:=p1;cases(show r=[]from pr);split at h
   ·rename_i us hu;split at h
    ·rename_i hl
     have step:∀c cs,y=.ref c->(SqL X.K G1 c cs\/SqT X.K G1 c cs)->Reps X.K G1 us cs->rExt X.K (.ref a) [y] H1 (fun v H'=>D.nx σ H'):=fun c cs hy hq hr=>by
      subst hy;refine⟨a,c,zs,cs,rfl,rfl,g2,?_,by rw[g5.length,hr.length,sizeLine_eq];exact hl,?_⟩
      ·rcases hq with q|q
       ·exact .inl (r1.sub.seq q)
       ·exact .inr (r1.sub.tup q)
      ·exact h G1 σ _ (r1.mut he1 h1 (g5.append hr)) s1
     unfold seqW at hu;split at hu
     ·cases hu;obtain⟨c,cs,hy,q,hr⟩:=py;exact step c cs hy (.inr q) hr
     ·cases hu;obtain⟨c,cs,hy,q,hr⟩:=py;exact step c cs hy (.inl q) hr
     ·cases hu
    ·exact h.elim
   ·exact h.elim
  ·exact h.elim
 ·exact h.elim
end
noncomputable def ltS:W->W->Option W
 |.str i,.str j=>some (.bl (decide (i.cps.toList<j.cps.toList)))
 |_,_=>none
def OpM(K:PySem.W.Frag)(r:V->List V->Hp->VK->Prop)(f:W->List W->Option W):Prop:=∀(G H:Hp)(x:V)(xs:List V)(wx:W)(ws:List W)(w:W)(Q:VK),Same G H->Rep K G wx x->Reps K G ws xs->f wx ws=some w->(∀G' v H',Grow G H G' H'->Rep K G' w v->Q v H')->r x xs H Q
noncomputable def kindW(T:String):W->Bool
 |.str _=>T=="str"
 |.lst _=>T=="list"
 |_=>false
noncomputable def dMeth(T:String)(f:W->List W->Option W)(d:Den W)(dA:Den (List W)):Den W:=fun e=>(d e).bind fun x e1=>if kindW T x=true then(dA e1).bind fun ws e2=>ofOpt (f x ws) e2 else .no
section
variable{o:Expr}{p:Pos}
theorem y76{id:String}{name:Str}{r:V->List V->Hp->VK->Prop}{f:W->List W->Option W}(pa:PlainAttrs T)(slot:Slot T name id)(hty:typeOf (.builtin id)=pure (.type "method_descriptor"))(hm:MtR X id r)(hf:OpM X.K r f)(ho:DE Z X EE o d)(ha:DA Z X EE (e::es) dA)
  (hbase:attributeBase o name X.env (eval o X.env)=eval o X.env:=by rfl)
  (hfew:((backTo cpos (starEach (e::es) X.env)).all (fun x=>!x.1)&&(backToKw cpos (keywordEach [] X.env)).all (fun x=>x.1.isSome)&&decide ((e::es).length+([]:List Keyword).length+(if([]:List Keyword).isEmpty then 0 else 1)<30))=true:=by rfl)
  (hline:(apos.endLine==cpos.line)=true:=by rfl)(hs:starEach (e::es) X.env=(false,eval e X.env)::starEach es X.env:=by rfl)(hplain:(backTo cpos (starEach es X.env)).any (·.1)=false:=by rfl):
  DE Z X EE (.Call (.Attribute o name apos) (e::es) [] cpos) (dMeth T f d dA):=by
 refine PE.mono (x9r pa slot hty hm ho ha hbase hfew hline hs hplain) ?_;rintro σ H Q ⟨G,e,rel,h⟩;simp only[dMeth,R.holds_bind]at h;refine⟨G,e,rel,h.imp (fun wx e1 h G1 v1 H1 r1 s1 p1=>?_) fun _ _ h=>h⟩
 split at h
 ·rename_i hk;refine⟨?_,G1,e1,r1,(R.holds_bind.mp h).imp (fun ws e2 h G2 vs H2 r2 s2 p2=>?_) fun _ _ h=>XH.trans s1 h⟩
  ·cases wx with
   |str z=>cases p1;exact(by simpa [kindW]using hk:T="str")
   |lst ws=>
    obtain⟨a,xs,rfl,q,_⟩:=p1;exact .inl ⟨by simpa [kindW]using hk,xs,r1.sub.seq q⟩
   |_=>cases hk
  ·obtain⟨w,hw,h⟩:=ofOpt_holds.mp h;exact hf G2 H2 v1 vs wx ws w Q r2.sub (Rep.mono s2 wx p1) p2 hw fun G' v H' g p=>h G' v H' (r2.grow g) ((s1.trans s2).trans g.gg) p
 ·exact h.elim
end
noncomputable def strsW:List W->Option (List Str)
 |[]=>some []
 |.str x::r=>(strsW r).map (x::·)
 |_=>none
noncomputable def joinOk(sep:Str)(ys:List Str):Bool:=Nat.ble ((ys.map fun x=>x.length).sum+ys.length*sep.length) 16777216
noncomputable def joinW:W->List W->Option W
 |.str sep,[w]=>match seqW w with
  |some ws=>match strsW ws with
   |some ys=>if joinOk sep ys=true then some (.str (Txt.join sep ys))else none
   |none=>none
  |none=>none
 |_,_=>none
def rJoin(K:PySem.W.Frag):V->List V->Hp->VK->Prop:=fun x vs H Q=>∃sep b zs ys,x=.str sep/\vs=[.ref b]/\(SqL K H b zs\/SqT K H b zs)/\zs=ys.map V.str/\joinOk sep ys=true/\Q (.str (Txt.join sep ys)) H
theorem x0z:∀{ys:List Str}{its:List Value},Vals (ys.map V.str) its->PyProof.Rows.StrsAre its ys
 |[],its,h=>by cases h;exact .nil
 |y::ys,its,h=>by
  cases h with
  |cons r t=>
   obtain⟨k,rfl⟩:=r;exact .cons y k (x0z t)
theorem y77:MtR X "str.join" (rJoin X.K):=by
 intro pins s σ H x vs v us Q I rx rv h;obtain⟨sep,b,zs,ys,rfl,rfl,hB,rfl,hz,q⟩:=h;obtain⟨t,rfl⟩:=rx;obtain⟨u,rfl,ru⟩:=rv.one;cases ru;have hz':=w3k hz;have fin:∀(t':Tok)(k:Nat),EP X pins σ Q (Value.str (Txt.join sep ys) t') {s with toks:=k}:=fun t' k=>⟨.str _,H,I.tok k,⟨t',rfl⟩,q⟩
 rcases hB with hB|hB
 ·obtain⟨its,r,pl,_⟩:=I.list hB;exact PyProof.Rows.join_list pl.isList (by simpa using x0z r) hz' fin
 ·obtain⟨its,r,pl,_⟩:=I.tuple hB;exact PyProof.Rows.join_tuple pl (by simpa using x0z r) hz' fin
theorem x56:∀{ws:List W}{ys:List Str}{xs:List V},strsW ws=some ys->Reps K G ws xs->xs=ys.map V.str
 |[],ys,xs,h,r=>by cases h;exact r
 |.str x::ws,ys,xs,h,r=>by
  unfold strsW at h;obtain⟨zs,h1,rfl⟩:=w0o.mp h;obtain⟨v,t,rfl,p,q⟩:=r;cases p;rw[x56 h1 q];rfl
 |.non::ws,_,_,h,_=>by cases h
 |.bl _::ws,_,_,h,_=>by cases h
 |.int _::ws,_,_,h,_=>by cases h
 |.tup _::ws,_,_,h,_=>by cases h
 |.lst _::ws,_,_,h,_=>by cases h
 |.exc _::ws,_,_,h,_=>by cases h
theorem y78:OpM K (rJoin K) joinW:=by
 intro G H x xs wx ws w Q s px pr hf h;unfold joinW at hf;split at hf
 ·rename_i sep w0;obtain⟨y,r,rfl,py,pr⟩:=pr;cases(show r=[]from pr);cases px;split at hf
  ·rename_i us hu;split at hf
   ·rename_i ys hy;split at hf
    ·rename_i ho;cases hf
     have step:∀c cs,y=.ref c->(SqL K G c cs\/SqT K G c cs)->Reps K G us cs->rJoin K (.str sep) [y] H Q:=fun c cs hc hq hr=>by
      subst hc;refine⟨sep,c,cs,ys,rfl,rfl,?_,x56 hy hr,ho,h G _ H (.refl s) rfl⟩;rcases hq with q|q
      ·exact .inl (s.seq q)
      ·exact .inr (s.tup q)
     unfold seqW at hu;split at hu
     ·cases hu;obtain⟨c,cs,hc,q,hr⟩:=py;exact step c cs hc (.inr q) hr
     ·cases hu;obtain⟨c,cs,hc,q,hr⟩:=py;exact step c cs hc (.inl q) hr
     ·cases hu
    ·cases hf
   ·cases hf
  ·cases hf
 ·cases hf
section
variable{o:Expr}
theorem y79(ho:DE Z X EE o d)(ha:DA Z X EE [e] dA)
  (hbase:attributeBase o "join" X.env (eval o X.env)=eval o X.env:=by rfl)
  (hfew:((backTo cpos (starEach [e] X.env)).all (fun x=>!x.1)&&(backToKw cpos (keywordEach [] X.env)).all (fun x=>x.1.isSome)&&decide ([e].length+([]:List Keyword).length+(if([]:List Keyword).isEmpty then 0 else 1)<30))=true:=by rfl)
  (hline:(apos.endLine==cpos.line)=true:=by rfl)(hs:starEach [e] X.env=(false,eval e X.env)::starEach [] X.env:=by rfl)(hplain:(backTo cpos (starEach [] X.env)).any (·.1)=false:=by rfl):
  DE Z X EE (.Call (.Attribute o "join" apos) [e] [] cpos) (dMeth "str" joinW d dA):=
 y76 PySem.F.plainAttrs_str PySem.F.slot_str_join PySem.F.type_str_join y77 y78 ho ha hbase hfew hline hs hplain
end
noncomputable def SR.turnT(r:SR)(k:List S->SR):SR:=match r with
 |.nx e'=>k e'
 |.ct e'=>k e'
 |.bk e'=>.nx e'
 |.rt s e'=>.rt s e'
 |.ex c e'=>.ex c e'
 |.no=>.no
structure TabK(P:Program)(w:World)(K:PySem.W.Frag)(d:Addr)(tb:List (Str×Int)):Prop where
 tab:∀h,K.In h->PyProof.Rows.StrTab P w h d (PySem.W.kdpD tb)
 obj:∃o,K.lookup d=some o/\o.cls=.type "dict" /\ o.dict=none
section
variable{e:List S}
noncomputable def putC(i:Nat)(e:List S)(b:Option Nat)(ws:List W)(w:W):Option Nat->SR
 |some j=>.nx (e.set i (.own b (ws.set j w)))
 |none=>.no
noncomputable def putB(i:Nat)(e:List S)(w:W):W->Option S->SR
 |.int k,some (.own b ws)=>putC i e b ws w (ixN ws.length k)
 |_,_=>.no
noncomputable def putA(i:Nat)(dk:Den W)(w:W)(e:List S):Option S->SR
 |some (.own _ _)=>(dk e).stm fun k e2=>putB i e2 w k e2[i]?
 |_=>.no
theorem y4m:putA i dk w e (some (.own b ws))=(dk e).stm fun k e2=>putB i e2 w k e2[i]?:=rfl
theorem y4n{k:Int}:putB i e w (.int k) (some (.own b ws))=putC i e b ws w (ixN ws.length k):=rfl
theorem y1v:putC i e b ws w (some j)=.nx (e.set i (.own b (ws.set j w))):=rfl
noncomputable def lendC(e:List S):FR->R W
 |.ok (.fr w)=>if scalW w=true then .ok w e else .no
 |_=>.no
noncomputable def lendB(F:List W->FR)(us:List W)(e:List S):Option S->R W
 |some (.own _ ws)=>lendC e (F (.lst ws::us))
 |_=>.no
noncomputable def lendA(F:List W->FR)(i:Nat)(dA:Den (List W))(e:List S):Option S->R W
 |some (.own _ _)=>(dA e).bind fun us e1=>lendB F us e1 e1[i]?
 |_=>.no
theorem y8a{F:List W->FR}:dLend F i dA e=lendA F i dA e e[i]?:=by
 unfold dLend lendA;cases e[i]? with
 |none=>rfl
 |some s=>cases s with
  |own b ws=>
   dsimp only;congr 1
  |_=>rfl
theorem y1w{F:List W->FR}:lendA F i dA e (some (.own b ws))=(dA e).bind fun us e1=>lendB F us e1 e1[i]?:=rfl
theorem y1x{F:List W->FR}:lendB F us e (some (.own b ws))=lendC e (F (.lst ws::us)):=rfl
theorem y4o:lendC e (.ok (.fr w))=if scalW w=true then .ok w e else .no:=rfl
noncomputable def extB(i:Nat)(e:List S)(b:Option Nat)(xs:List W):Option (List W)->SR
 |some ys=>if xs.length+ys.length<=16777216 then .nx (e.set i (.own b (xs++ys)))else .no
 |none=>.no
noncomputable def extA(i:Nat)(e:List S):List W->Option S->SR
 |[w],some (.own b xs)=>extB i e b xs (seqW w)
 |_,_=>.no
noncomputable def ext0(i:Nat)(d:Den (List W))(e:List S):Option S->SR
 |some (.own _ _)=>(d e).stm fun ws e1=>extA i e1 ws e1[i]?
 |_=>.no
theorem z2b{d:Den (List W)}:dExt i d e=ext0 i d e e[i]?:=by
 unfold dExt ext0;cases e[i]? with
 |none=>rfl
 |some s=>cases s with
  |own b ws=>
   dsimp only;congr 1
  |_=>rfl
theorem y4p{d:Den (List W)}{xs:List W}:ext0 i d e (some (.own b xs))=(d e).stm fun ws e1=>extA i e1 ws e1[i]?:=rfl
theorem y4q{xs:List W}:extA i e [w] (some (.own b xs))=extB i e b xs (seqW w):=rfl
theorem y1y{xs ys:List W}:extB i e b xs (some ys)=if xs.length+ys.length<=16777216 then .nx (e.set i (.own b (xs++ys)))else .no:=rfl
theorem y8b{f:W->List W->Option W}:dMeth T f d dA e=(d e).bind fun x e1=>if kindW T x=true then(dA e1).bind fun ws e2=>ofOpt (f x ws) e2 else .no:=rfl
theorem z2c{z:Str}:kindW "str" (.str z)=true:=rfl
theorem z2d:kindW "list" (.lst ws)=true:=rfl
theorem z2e{i j:Str}:ltS (.str i) (.str j)=some (.bl (decide (i.cps.toList<j.cps.toList))):=rfl
end
noncomputable def forP(i j:Nat)(b:List S->SR):List (W×W)->List S->SR
 |[],e=>.nx e
 |p::ps,e=>(b ((e.set i (.fr p.1)).set j (.fr p.2))).turnT (forP i j b ps)
noncomputable def dForP(i j:Nat)(d:Den (List (W×W)))(b:List S->SR):List S->SR:=fun e=>(d e).stm fun ps e1=>forP i j b ps e1
noncomputable def compP(c:Den Bool)(d:Den W)(pe:List S):List (W×W)->Option (List W)
 |[]=>some []
 |p::ps=>match c (.fr p.1::.fr p.2::pe)with
  |.ok true e1=>match d e1 with
   |.ok y _=>(compP c d pe ps).map (y::·)
   |_=>none
  |.ok false _=>compP c d pe ps
  |_=>none
noncomputable def compPK(js:List Nat)(c:Den Bool)(d:Den W)(ps:List (W×W))(e1:List S):R (List W):=
 if ps.length<=16777216 then(match compP c d (pjS js (frzs js e1)) ps with
  |some out=>.ok out (frzs js e1)
  |none=>.no)else .no
noncomputable def dCompP(js:List Nat)(di:Den (List (W×W)))(c:Den Bool)(d:Den W):Den (List W):=fun e=>(di e).bind fun ps e1=>compPK js c d ps e1
structure Walk2(K:PySem.W.Frag)(G1:Hp)(J:It)(ps:List (W×W)):Prop where
 go:∀(i:Nat)(G H:Hp),Same G1 G->Same G H->i<ps.length->J.go i H
 yld:∀(i:Nat)(G H:Hp)(x:V)(H':Hp),Same G1 G->Same G H->J.yld i H x H'->∀u v,ps[i]?=some (u,v) ->
  Grow G H G H'/\∀(m n:Nat)(σ:St)(Q:St->Hp->Prop),(∀y z,Rep K G u y->Rep K G v z->Q ((σ.set m (some y)).set n (some z)) H')->gTup K 2 (gCons (gName m) (gCons (gName n) gNil)) x σ H' Q
 stop:∀(i:Nat)(G H:Hp),Same G1 G->Same G H->ps.length<=i->J.stop i H
def liftI(K:PySem.W.Frag)(Z:Zt)(EE:L2.St->XK)(d:Den (List (W×W))):TI:=fun σ H R=>AtG K Z σ H fun G e=>(d e).holds (fun ps e1=>∀G1 H1 J,Rel K Z G1 σ H1 e1->Same G G1->Walk2 K G1 J ps->R J H1) (XH K Z EE σ G)
def DI(Z:Zt)(X:Cx)(EE:L2.St->XK)(tg iter:Expr)(d:Den (List (W×W))):Prop:=PI X tg iter (liftI X.K Z EE d)
theorem PI.mono{tg iter:Expr}{wi wi':TI}(h:PI X tg iter wi)(m:∀σ H R,wi' σ H R->wi σ H R):PI X tg iter wi':=fun pins s σ H R I q=>h pins s σ H R I (m σ H R q)
theorem y1z{D:Ends}{Pv:St->Hp->Prop}{G':Hp}{e:List S}{p:W×W}{x y:V}(r:Rel K Z G' σ H e)(s:Same G1 G')(pu:Rep K G' p.1 x)(pv:Rep K G' p.2 y)
  (h:PostS K Z EE D G1 (forP i j s1 (p::ps) e))(hP:∀G'' σ'' H'' e'',Rel K Z G'' σ'' H'' e''->Same G1 G''->PostS K Z EE D G1 (forP i j s1 ps e'')->Pv σ'' H''):
  liftS K Z EE s1 {D with nx:=Pv,ct:=Pv,bk:=D.nx} ((σ.set i (some x)).set j (some y)) H:=by
 refine⟨G',_,(r.set pu).set pv,?_⟩;unfold forP at h;cases q:s1 ((e.set i (.fr p.1)).set j (.fr p.2))with
 |nx e'=>rw[q]at h;exact fun G'' σ'' H'' r'' s''=>hP G'' σ'' H'' e' r'' (s.trans s'') h
 |ct e'=>rw[q]at h;exact fun G'' σ'' H'' r'' s''=>hP G'' σ'' H'' e' r'' (s.trans s'') h
 |bk e'=>rw[q]at h;exact fun G'' σ'' H'' r'' s''=>h G'' σ'' H'' r'' (s.trans s'')
 |rt t e'=>rw[q]at h;exact fun G'' σ'' v H'' r'' s'' p=>h G'' σ'' v H'' r'' (s.trans s'') p
 |ex c e'=>rw[q]at h;exact fun G'' σ'' H'' r'' s''=>h G'' σ'' H'' r'' (s.trans s'')
 |no=>rw[q]at h;exact h
theorem x1x{p:W×W}(h:ps[k]?=some p):ps.drop k=p::ps.drop (k+1):=by
 obtain⟨h1,h2⟩:=w0d.mp h;rw[w3y h1,h2]
theorem Rel.block2{e:List S}(r:Rel K Z G σ H e)(js:List Nat){u:W}{y x:V}(q:Rep K G u y)(p:Rep K G w x):Rel K ⟨H,G,[]⟩ G (some y::some x::pj js σ) H (.fr u::.fr w::pjS js e):=by
 have b:=r.block js p
 have hfr:∀(i:Nat)(s:S),(S.fr w::pjS js e)[i]?=some s->s=.no\/∃u,s=.fr u:=fun i s h=>by
  cases i with
  |zero=>cases h;exact .inr ⟨w,rfl⟩
  |succ k=>
   rw[w0e]at h;unfold pjS at h;rw[w0w]at h;obtain⟨j,h1,h2⟩:=w0o.mp h;unfold pj1 at h2;split at h2
   ·subst h2;exact .inr ⟨_,rfl⟩
   ·subst h2;exact .inl rfl
 refine⟨b.sub,fun i s h=>?_,?_,fun i j b1 b2 w1 w2 a h1 h2 _ _=>?_,b.ent,b.ion,b.gen⟩
 ·cases i with
  |zero=>cases h;exact⟨y,rfl,q⟩
  |succ i=>
   rw[w0e]at h;have z:=b.slot i s h;rcases hfr i s h with rfl|⟨u',rfl⟩
   ·trivial
   ·obtain⟨v,z1,z2⟩:=b.fr h;exact⟨v,by rw[w0e,z1];rfl,z2⟩
 ·have:=b.len;simp only[w0p]at this |-
  omega
 ·cases i with
  |zero=>cases h1
  |succ i=>
   rw[w0e]at h1;rcases hfr i _ h1 with z|⟨u',z⟩<;>cases z
theorem y4r{J:It}{out:List W}{Q:VK}{G0 H1:Hp}{e1:List S}(W0:Walk2 K G1 J ps)(r1:Rel K Z G1 σ H1 e1)(s1:Same G0 G1)(hl:ps.length<=16777216)
  (hz:∀p,H1 p=none->p∉Z.io)(hc:compP c d (pjS js e1) ps=some out)
  (h:∀G' a xs H',Rel K Z G' σ H' e1->Same G0 G'->H' a=some (.lst xs)->G' a=none->Z.H a=none->Free σ e1 a->Reps K G' out xs->Q (.ref a) H'):
  ∀D,H1 D=none->∃W:Nat->Nat->Hp->Prop,(∃m,W 0 m (upd H1 D (.lst [])))/\∀i m H2,W i m H2 ->
   (J.stop i H2/\Q (.ref D) H2)\/(J.go i H2/\∀x H3,J.yld i H2 x H3->gTup K 2 (gCons (gName 0) (gCons (gName 1) gNil)) x (List.replicate 2 none++pj js σ) H3 fun σ4 H4=>Kp (List.replicate 2 none++pj js σ) σ4/\cT K c σ4 H4 fun b H5=>
    if b=true then cE K d σ4 H5 fun y H6=>∃ys,H6 D=some (.lst ys)/\ys.length<sizeLine/\∃m',m'<m/\W (i+1) m' (upd H6 D (.lst (ys++[y])))else ∃m',m'<m/\W (i+1) m' H5):=by
 intro D hD
 refine⟨fun i m H2=>m=ps.length-i/\i<=ps.length/\∃G2 ys done rest,Rel K Z G2 σ H2 e1/\Same G1 G2/\H2 D=some (.lst ys)/\G2 D=none/\Reps K G2 done ys/\done.length<=i/\compP c d (pjS js e1) (ps.drop i)=some rest/\done++rest=out,
  ⟨ps.length,by omega,w1b _,G1,[],[],out,r1.grow (Grow.hid r1.sub hD _),.refl _,q0l,r1.sub.free hD,rfl,w0f _,hc,rfl⟩,?_⟩
 rintro i m H2 ⟨rfl,hi,G2,ys,done,rest,r2,s2,hd2,hg2,rp2,hdl,hc2,ho⟩;have hfree:Free σ e1 D:=q6i r1 hD;have hzh:Z.H D=none:=q6j r1 hD
 by_cases hlt:i<ps.length
 ·refine .inr ⟨W0.go i G2 H2 s2 r2.sub hlt,fun x H3 hy=>?_⟩
  have hp:ps[i]?=some ((ps[i]).1,(ps[i]).2):=by rw[w0b hlt]
  obtain⟨g3,hgo⟩:=W0.yld i G2 H2 x H3 s2 r2.sub hy _ _ hp;have r2':=r2.grow g3;have hd3:H3 D=some (.lst ys):=g3.hh _ _ hd2;rw[x1x hp]at hc2;refine hgo 0 1 _ _ fun yv zv py pz=>⟨Kp.two,⟨H3,G2,[]⟩,G2,.fr (ps[i]).1::.fr (ps[i]).2::pjS js e1,r2'.block2 js py pz,?_⟩
  unfold compP at hc2;cases qc:c (.fr (ps[i]).1::.fr (ps[i]).2::pjS js e1)with
  |no=>rw[qc]at hc2;cases hc2
  |ex _ _=>rw[qc]at hc2;cases hc2
  |ok k e2=>
   rw[qc]at hc2;intro G3 H5 r3 s3;have g3:=r3.toGrow s3;cases k with
   |false=>
    exact⟨ps.length-(i+1),by omega,rfl,hlt,G3,ys,done,rest,r2'.grow g3,s2.trans s3,g3.hh _ _ hd3,by rw[g3.new D (by rw[hd3];simp)];exact hg2,Reps.mono s3 _ rp2,by omega,hc2,ho⟩
   |true=>
    refine⟨⟨H3,G2,[]⟩,G3,e2,r3,?_⟩;dsimp only at hc2;cases qd:d e2 with
    |no=>rw[qd]at hc2;cases hc2
    |ex _ _=>rw[qd]at hc2;cases hc2
    |ok y e3=>
     rw[qd]at hc2;intro G4 v H6 r4 s4 p4;have g4:=r4.toGrow (s3.trans s4);obtain⟨rest',hr,rfl⟩:=w0o.mp hc2;have hd6:H6 D=some (.lst ys):=g4.hh _ _ hd3;have hg6:G4 D=none:=by rw[g4.new D (by rw[hd3];simp)];exact hg2
     refine⟨ys,hd6,?_,ps.length-(i+1),by omega,rfl,hlt,G4,ys++[v],done++[y],rest',(r2'.grow g4).mutFree hg6 hzh (hz D hD) hfree hd6,s2.trans (s3.trans s4),q0l,hg6,(Reps.mono (s3.trans s4) _ rp2).append (.one p4),by simp;omega,hr,by rw[w2v];exact ho⟩;rw[rp2.length,sizeLine_eq];omega
 ·have:i=ps.length:=by omega
  subst this;rw[w3l]at hc2;cases hc2;rw[w1n]at ho;subst ho;exact .inl ⟨W0.stop _ G2 H2 s2 r2.sub (by omega),h G2 D ys H2 r2 (s1.trans s2) hd2 hg2 hzh hfree rp2⟩
section
variable{elt iter a:Expr}{body:List Stmt}{ifs:List Expr}{scope sc:Scope}{pt p3:Pos}{Nf N:List Str}{di:Den (List (W×W))}{d0:Den W}
theorem y8c(i j:Nat)(hN:X.N.Nodup)(hp:PassesOwn (model X.prog X.w) X.A X.env X.xe)(hc:X.calm=true)(hl:DI Z X EE (.Tuple [.Name x p1,.Name y p2] kt p3) e di)(hb:DSs Z X EE body s1)
  (hi:X.N[i]?=some x:=by rfl)(hx:Loc X.env.scope x:=by walk_at "3")(hf:X.fn x=true\/X.env.scope.names.lookup x=some .local:=by walk_at "2")
  (hj:X.N[j]?=some y:=by rfl)(hy:Loc X.env.scope y:=by walk_at "3")(hf':X.fn y=true\/X.env.scope.names.lookup y=some .local:=by walk_at "2")
  (hn:(assignEach [.Name x p1,.Name y p2] X.env).length=2:=by rfl)(hst:(assignEach [.Name x p1,.Name y p2] X.env).findIdx? (·.1)=none:=by rfl)
  (g1:(assignEach [.Name x p1,.Name y p2] X.env).map (·.2)=assign (.Name x p1) X.env::(assignEach [.Name y p2] X.env).map (·.2):=by rfl)(g2:(assignEach [.Name y p2] X.env).map (·.2)=assign (.Name y p2) X.env::(assignEach [] X.env).map (·.2):=by rfl)
  (hs:∀x,foldedSetIterable e X.env x=pure x:=by intro _;rfl):
  DS Z X EE (.For (.Tuple [.Name x p1,.Name y p2] kt p3) e body [] pos) (dForP i j di s1):=by
 refine PS.mono (x5l hp hc hl (x5k hc (q5c (q09 i hN hi hx hf) (q5c (q09 j hN hj hy hf') x2o g2) g1) hn hst) hb hs) ?_;rintro D σ H ⟨G,e,rel,h⟩;refine⟨G,e,rel,(q14 h).imp (fun ps e1 h G1 H1 J r1 q1 W0=>?_) fun _ _ h=>h⟩
 have h:=PostS.trans q1 h;refine⟨fun k m σ' H'=>m=ps.length-k/\k<=ps.length/\∃G' e',Rel X.K Z G' σ' H' e'/\Same G1 G'/\PostS X.K Z EE D G1 (forP i j s1 (ps.drop k) e'),⟨ps.length,by omega,w1b _,G1,e1,r1,.refl _,h⟩,?_⟩
 rintro k m σ' H' ⟨rfl,hk,G',e',r',s',h'⟩
 by_cases hlt:k<ps.length
 ·refine .inr ⟨W0.go k G' H' s' r'.sub hlt,fun σ'' H''=>∃G' e',Rel X.K Z G' σ'' H'' e'/\Same G1 G'/\PostS X.K Z EE D G1 (forP i j s1 (ps.drop (k+1)) e'),?_,fun v H2 hy=>?_⟩
  ·rintro σ'' H'' ⟨G'',e'',r'',s'',h''⟩;exact⟨ps.length-(k+1),by omega,rfl,hlt,G'',e'',r'',s'',h''⟩
  ·have hp:ps[k]?=some ((ps[k]).1,(ps[k]).2):=by rw[w0b hlt]
   obtain⟨g3,hgo⟩:=W0.yld k G' H' v H2 s' r'.sub hy _ _ hp;rw[x1x hp]at h';exact hgo i j σ' _ fun y z py pz=>y1z (p:=((ps[k]).1,(ps[k]).2)) (r'.grow g3) s' py pz h' fun G'' σ'' H'' e'' r'' s'' h''=>⟨G'',e'',r'',s'',h''⟩
 ·have:k=ps.length:=by omega
  subst this;rw[w3l]at h';exact .inl ⟨W0.stop _ G' H' s' r'.sub (by omega),h' G' σ' H' r' s'⟩
theorem x91:∀σ H Q,liftF K Z EE (dCompP js di c d) σ H Q->tComp (liftI K Z EE di) 2 js (gTup K 2 (gCons (gName 0) (gCons (gName 1) gNil))) (cT K c) (cE K d) σ H Q:=by
 rintro σ H Q ⟨G,e,rel,h⟩;simp only[dCompP,R.holds_bind]at h;refine⟨G,e,rel,h.imp (fun ps e1 h G1 H1 J r1 s1 W0=>?_) fun _ _ h=>h⟩
 unfold compPK at h;split at h
 ·rename_i hl;split at h
  ·rename_i out ho;obtain⟨G2,s2,r2⟩:=r1.frzs js;have W1:Walk2 K G2 J ps:=⟨fun i G H a=>W0.go i G H (s2.trans a),fun i G H x H' a=>W0.yld i G H x H' (s2.trans a),fun i G H a=>W0.stop i G H (s2.trans a)⟩
   exact y4r W1 r2 (s1.trans s2) hl (ionone r2) ho h
  ·exact h.elim
 ·exact h.elim
theorem q6m(hc:X.calm=true)(hi:DI Z X EE (.Tuple [.Name x p1,.Name y p2] kt p3) iter di)(ok:compOk sc scope N Nf js=true)
  (ht:∀Z' cl C s₀ H₀ ex,DTs Z' (X.cp ([x,y]++Nf) scope cl C s₀ H₀ ex) (fun _=>E0) ifs c)(he:∀Z' cl C s₀ H₀ ex,DE Z' (X.cp ([x,y]++Nf) scope cl C s₀ H₀ ex) (fun _=>E0) elt d)
  (hg:∀cl C s₀ H₀ ex,PG (X.cp ([x,y]++Nf) scope cl C s₀ H₀ ex) (.Tuple [.Name x p1,.Name y p2] kt p3) (gTup X.K 2 (gCons (gName 0) (gCons (gName 1) gNil))))
  (hsc:X.env.scope=sc:=by rfl)(hN:X.N=N:=by rfl)(hs:∀x,foldedSetIterable iter X.env x=pure x:=by intro _;rfl):
  DF Z X EE (.ListComp elt [⟨.Tuple [.Name x p1,.Name y p2] kt p3,iter,ifs,0⟩] scope pos) (dCompP js di c d):=by
 exact PE.mono (x0s (Nl:=[x,y]) (tc:=cT X.K c) (te:=cE X.K d) hc hi ok hg (x1q ht) (x1r he) hsc hN hs) x91
noncomputable def pairsW:List W->Option (List (W×W))
 |[]=>some []
 |.tup [u,v]::ws=>(pairsW ws).map ((u,v)::·)
 |_=>none
noncomputable def srcP(d:Den W):Den (List (W×W)):=fun e=>(d e).bind fun w e1=>match seqW w with
 |some ws=>ofOpt (pairsW ws) e1
 |none=>.no
theorem x3z:∀{ws:List W}{ps:List (W×W)},pairsW ws=some ps->ws.length=ps.length/\∀(i:Nat) u v,ps[i]?=some (u,v)->ws[i]?=some (.tup [u,v])
 |[],ps,h=>by cases h;exact⟨rfl,fun i u v z=>by simp at z⟩
 |w::ws,ps,h=>by
  unfold pairsW at h;split at h
  ·rename_i z;cases z
  ·rename_i u v ws' z;cases z;obtain⟨q,hq,rfl⟩:=w0o.mp h;obtain⟨h1,h2⟩:=x3z hq;refine⟨by simp[h1],fun i u' v' z=>?_⟩
   cases i with
   |zero=>simp at z;simp[z.1,z.2]
   |succ i=>simp only[w0e]at z |-;exact h2 i _ _ z
  ·cases h
theorem x30{J:It}{SQ:Hp->Prop}(W0:Walk J xs SQ)(rp:Reps K G1 ws xs)(hp:pairsW ws=some ps)(hSQ:∀G' H',Same G1 G'->Same G' H'->SQ H'):Walk2 K G1 J ps:=by
 obtain⟨hl,hg⟩:=x3z hp;have hx:=rp.length;refine⟨fun i G H a b h=>W0.go i H (hSQ G H a b) (by omega),fun i G H x H' a b hy u v h=>?_,fun i G H a b h=>W0.stop i H (hSQ G H a b) (by omega)⟩
 have hlt:i<ps.length:=(w0d.mp h).1;obtain⟨rfl,hx'⟩:=W0.yld i H x H' (hSQ G H a b) hy (by omega);refine⟨Grow.refl b,fun m n σ Q hQ=>?_⟩
 obtain⟨w,hw,pw⟩:=rp.getV hx';rw[hg i u v h]at hw;cases hw;have pw:=Rep.mono a _ pw;obtain⟨c,ys,rfl,hq,y1,q1,rfl,p1,y2,q2,rfl,p2,rfl⟩:=pw;exact⟨c,[y1,y2],rfl,b.tup hq,rfl,y1,[y2],rfl,y2,[],rfl,rfl,hQ y1 y2 p1 p2⟩
theorem y4s{tg l:Expr}(hl:DE Z X EE l d0):DI Z X EE tg l (srcP d0):=by
 refine PI.mono (x1m hl) ?_;rintro σ H RR ⟨G,e,rel,h⟩;simp only[srcP,R.holds_bind]at h;refine⟨G,e,rel,h.imp (fun w e1 h G1 v1 H1 r1 s1 p1=>?_) fun _ _ h=>h⟩
 split at h
 ·rename_i ws hw;obtain⟨ps,hp,h⟩:=ofOpt_holds.mp h;cases w with
  |tup us=>
   cases hw;obtain⟨a,xs,rfl,hq,rp⟩:=p1;exact⟨a,rfl,.inr ⟨⟨xs,r1.sub.tup hq⟩,h _ _ _ r1 s1 (x30 y1a rp hp fun G' H' s s'=>Same.tup s' (Same.tup s hq))⟩⟩
  |lst us=>
   cases hw;obtain⟨a,xs,rfl,hq,rp⟩:=p1;exact⟨a,rfl,.inl ⟨⟨xs,r1.sub.seq hq⟩,h _ _ _ r1 s1 (x30 y09 rp hp fun G' H' s s'=>Same.seq s' (Same.seq s hq))⟩⟩
  |_=>cases hw
 ·exact h.elim
noncomputable def enumL:Nat->List W->List (W×W)
 |_,[]=>[]
 |k,w::ws=>(.int k,w)::enumL (k+1) ws
noncomputable def srcE(dA:Den (List W)):Den (List (W×W)):=fun e=>(dA e).bind fun ws e1=>match ws with
 |[.lst us]=>.ok (enumL 0 us) e1
 |_=>.no
theorem x31:∀(k:Nat)(ws:List W),(enumL k ws).length=ws.length
 |_,[]=>rfl
 |k,w::ws=>by simp[enumL,x31 (k+1) ws]
theorem x32:∀(k:Nat)(ws:List W)(i:Nat)(u v:W),(enumL k ws)[i]?=some (u,v)->u=.int ((k+i:Nat):Int)/\ws[i]?=some v
 |_,[],i,u,v,h=>by simp[enumL]at h
 |k,w::ws,i,u,v,h=>by
  cases i with
  |zero=>
   have e:(W.int k,w)=(u,v):=Option.some.inj h;cases e;exact⟨rfl,rfl⟩
  |succ i=>
   have h:(enumL (k+1) ws)[i]?=some (u,v):=h;obtain⟨h1,h2⟩:=x32 (k+1) ws i u v h;exact⟨by rw[h1];congr 2;omega,h2⟩
noncomputable def Ite(K:PySem.W.Frag)(a:Addr):It:=
 ⟨fun i H=>∃xs x,SqL K H a xs/\xs[i]?=some x,fun i H x H'=>∃b y,x=.ref b/\H b=none/\(∀xs,SqL K H a xs->xs[i]?=some y)/\H'=upd H b (.tup [.int i,y]),fun i H=>∃xs,SqL K H a xs/\xs.length<=i⟩
theorem x33{t':Nat}{fp:List Addr}{b:Addr}{o:HO}(I:Inv X pins σ H s)(k:∀b o,b∉fp->s.heap.get? b=some o->h'.get? b=some o)(hf:∀b∈fp,FpOk X pins H b)(hp:s.heap.objs.size<=b)(new:ObjOk X.prog X.w (upd H b o) h' b o):Inv X pins σ (upd H b o) {s with heap:=h',toks:=t'}:=by
 have hn:H b=none:=I.hok.fresh hp;have ne:∀c u,H c=some u->c≠b:=fun c u e=>q0q e hn
 have nfp:∀c u,H c=some u->c∉fp:=fun c u e z=>by rw[(hf c z).1]at e;cases e
 have lt:∀c o,s.heap.get? c=some o->c≠b:=fun c o e=>w0r (w0v (Heap.lt_size e) hp)
 refine I.step (g':=s.gens) (d':=s.drawn) (ch:=fp) (fun c hc=>?_) (fun c o _ _ hc e _=>k c o hc e) (fun c o _ _ hc e _=>⟨o.slots,k c o hc e⟩) (fun c o _ e n=>by rw[q0c (lt c o e)];exact n)
  (fun c o hc e=>⟨o,k c o hc e⟩) (fun c xs e=>by rw[q0c (ne c _ e)];exact e) (fun c o u e=>by rw[q0c (ne c _ e)];exact e) (fun c ps e=>⟨#[],by rw[q0c (ne c _ e),e];simp⟩) (fun m hm=>?_) (fun c u e=>?_) I.bare
 ·obtain⟨f0,f1,f2,f3,f4,f5⟩:=hf c hc;exact⟨f3,f1,f4,f5⟩
 ·obtain⟨o,es,ep,ho,r⟩:=hm;exact⟨o,es,ep,k _ o (fun z=>(hf _ z).2.1 rfl) ho,r⟩
 ·by_cases hb:c=b
  ·subst hb;rw[q0l]at e;cases e;exact new
  ·rw[q0c hb]at e;refine(I.hok c u e).stay (fun d v hd q=>k d v ?_ q) (fun d q=>by rw[q0c (ne d _ q)];exact q) fun d xs _ q=>by rw[q0c (ne d _ q)];exact q
   rcases hd with z|z
   ·rw[z];exact nfp c u e
   ·exact nfp d _ z
theorem y10{w:World}(a e it:Addr)(hne:e≠it):Turn P w K (.Tuple elts kt pt) (Ite K a) [e,it] e (fun i h=>∃old,PySem.IsEnum h e it (i:Nat) old/\h.IsListIter it a i) where
 mem:=by simp
 obj:=fun i h ⟨old,st1,st2⟩ b hb=>by
  simp only[w0h,w1d,or_false]at hb;rcases hb with rfl|rfl
  ·exact⟨_,st1,fun v z=>by cases z⟩
  ·obtain⟨o,e,c,d⟩:=st2;exact⟨o,e,fun v z=>by rw[d]at z;cases z⟩
 keep:=fun i h h' ⟨old,st1,st2⟩ k=>⟨old,k e (by simp) _ st1,st2.at fun o e=>k it (by simp) o e⟩
 item:=by
  intro X hP hw hK hc i pins s σ H E I hf st hg;subst hP hw hK;obtain⟨old,st1,st2⟩:=st;obtain⟨xs,x,hq,hx⟩:=hg;obtain⟨its,rv,p,hz⟩:=I.list hq;obtain⟨u,hu,ru⟩:=rv.get hx;refine wpAny_pyNext_enum_item st1 st2 p.isList (x:=u) (by simpa using hu) hne fun h1 heo hit1 ht1 hz1 hk1=>⟨_,rfl,?_⟩
  refine wpAny_letOwnedTupleGo_enum heo fun h2 he2 hs2=>?_
  have hs2:Heap.SameBut e h1 h2:=hs2;have hlt:e<s.heap.objs.size:=Heap.lt_size st1;have hfr:H s.heap.objs.size=none:=I.hok.fresh (w0f _);have ht2:h2.get? s.heap.objs.size=some {cls:=.type "tuple", data:=.seq #[.int i s.toks,u]}:=(hs2.2 _ (w3i hlt)).trans ht1;refine⟨.ref s.heap.objs.size,upd H s.heap.objs.size (.tup [.int i,x]),?_,rfl,⟨_,x,rfl,hfr,fun ys hy=>by rw[I.list_inj hy hq];exact hx,rfl⟩,⟨u,he2,?_⟩,fun b hb=>?_⟩
  ·show L2.Inv X pins σ _ {s with heap:=h2,toks:=s.toks+1};refine x33 (fp:=[e,it]) I (fun b o hb q=>?_) hf (w0f _) ⟨?_,[.int i s.toks,u],.cons ⟨_,rfl⟩ (.cons ru .nil),⟨_,ht2,rfl,?_⟩,⟨_,ht2,rfl⟩⟩
   ·simp only[w0h,w1d,or_false,not_or]at hb;exact(hs2.2 b hb.1).trans (hk1 b o hb.1 hb.2 q)
   ·rw[sizeLine_eq];simp
   ·exact⟨_,rfl⟩
  ·exact hit1.at fun o q=>(hs2.2 it (Ne.symm hne)).trans q
  ·have:b≠s.heap.objs.size:=by
    obtain⟨o,q,_⟩:∃o,s.heap.get? b=some o/\True:=by
     simp only[w0h,w1d,or_false]at hb;rcases hb with rfl|rfl
     ·exact⟨_,st1,trivial⟩
     ·obtain⟨o,e,_⟩:=st2;exact⟨o,e,trivial⟩
    exact w0r (Heap.lt_size q)
   rw[q0c this];exact(hf b hb).1
 done:=by
  intro X hP hw hK hc i pins s σ H E I hf st hg;subst hP hw hK;obtain⟨old,st1,st2⟩:=st;obtain⟨xs,hq,hx⟩:=hg;obtain⟨its,rv,p,hz⟩:=I.list hq;obtain⟨f0,f1,f2,f3,f4,f5⟩:=hf it (by simp);have hl:=rv.length;exact wpAny_pyNext_enum_end (I.ok.hd hc) st1 st2 p.isList (by simp;omega) fun h' eb=>⟨rfl,I.turned (t':=s.toks) (fun b o hb e=>eb b o hb e) f0 f1 f3 f4 f5⟩
 self:=fun _ _ _ _ _ ⟨old,st1,_⟩ h=>wpAny_pyIter_enum st1 h
def iEnum(K:PySem.W.Frag)(ta:TA):TI:=fun σ H R=>ta σ H fun vs H1=>∃a,vs=[.ref a]/\(∃xs,SqL K H1 a xs)/\R (Ite K a) H1
theorem y8d{ta:TA}{p:Pos}(hg:Gl X "enumerate")(hm:X.mg "enumerate"=none)(ha:PA X [a] ta)(hs:starEach [a] X.env=[(false,eval a X.env)]:=by rfl):PI X (.Tuple elts kt pt) (.Call (.Name "enumerate" p) [a] [] pos) (iEnum X.K ta):=by
 intro pins s σ H R I h;refine PyProof.Rows.Call_ (q4l I hg hm PyProof.Rows.boot_enumerate (PyProof.Rows.callWith_type1 (thn (ha pos pins s σ H _ I h) fun us s1 ⟨vs,H1,I1,r1,q1⟩=>?_) hs rfl))
 obtain⟨l,e,⟨xs,hq⟩,q⟩:=q1;subst e;cases r1 with
 |cons r rr=>
  cases rr;cases r;obtain⟨its,rv,p,hz⟩:=I1.list hq;refine call_enumerate_list p.isList fun h' he hit hsz hk=>?_
  refine wpAny_pyIter_enum he ?_;refine⟨s1.heap.objs.size+1,[s1.heap.objs.size+1,s1.heap.objs.size],_,_,H1,rfl,I1.kept (t':=s1.toks) hk,y10 l _ _ (w4f _),⟨_,he,hit⟩,fun b hb=>?_,q⟩
  simp only[w0h,w1d,or_false]at hb;rcases hb with rfl|rfl
  ·exact I1.fpOk (by omega) (I1.hok.fresh (by omega))
  ·exact I1.fpOk (w0f _) (I1.hok.fresh (w0f _))
theorem x92{b:Addr}(rp:Reps K G1 ws xs)(hq:SqL K G1 b xs):Walk2 K G1 (Ite K b) (enumL 0 ws):=by
 have hx:=rp.length;have hl:=x31 0 ws;refine⟨fun i G H s s' h=>⟨xs,xs[i]'(by omega),Same.seq s' (Same.seq s hq),by simp⟩,fun i G H x H' s s' hy u v h=>?_,fun i G H s s' h=>⟨xs,Same.seq s' (Same.seq s hq),by omega⟩⟩
 obtain⟨c,y,rfl,hn,hx',rfl⟩:=hy;obtain⟨hu,hv⟩:=x32 0 ws i u v h;obtain⟨w,hw,pw⟩:=rp.getV (hx' xs (Same.seq s' (Same.seq s hq)));rw[hv]at hw;cases hw;refine⟨Grow.hid s' hn _,fun m n σ Q hQ=>⟨c,[.int i,y],rfl,SqT.of q0l,rfl,.int i,[y],rfl,y,[],rfl,rfl,hQ _ _ ?_ (Rep.mono s _ pw)⟩⟩
 rw[hu,w2z];exact rfl
theorem x8v{p:Pos}(hm:X.mg "enumerate"=none)(ha:DA Z X EE [a] dA)(hg:Gl X "enumerate":=by rfl)(hs:starEach [a] X.env=[(false,eval a X.env)]:=by rfl):DI Z X EE (.Tuple elts kt pt) (.Call (.Name "enumerate" p) [a] [] pos) (srcE dA):=by
 refine PI.mono (y8d hg hm ha hs) ?_;rintro σ H RR ⟨G,e,rel,h⟩;simp only[srcE,R.holds_bind]at h;refine⟨G,e,rel,h.imp (fun ws e1 h G1 vs H1 r1 s1 p1=>?_) fun _ _ h=>h⟩
 split at h
 ·rename_i us;obtain⟨y,r,rfl,e1,e2⟩:=p1;cases(show r=[]from e2);obtain⟨b,xs,rfl,hq,rp⟩:=e1;exact⟨b,rfl,⟨xs,r1.sub.seq hq⟩,h _ _ _ r1 s1 (x92 rp hq)⟩
 ·exact h.elim
end
theorem q84{p3:Pos}(hN:X.N.Nodup)(hc:X.calm=true)
  (hi:X.N[0]?=some x:=by rfl)(hx:Loc X.env.scope x:=by walk_at "3")(hf:X.fn x=true\/X.env.scope.names.lookup x=some .local:=by walk_at "2")
  (hj:X.N[1]?=some y:=by rfl)(hy:Loc X.env.scope y:=by walk_at "3")(hf':X.fn y=true\/X.env.scope.names.lookup y=some .local:=by walk_at "2")
  (hn:(assignEach [.Name x p1,.Name y p2] X.env).length=2:=by rfl)(hst:(assignEach [.Name x p1,.Name y p2] X.env).findIdx? (·.1)=none:=by rfl)
  (g1:(assignEach [.Name x p1,.Name y p2] X.env).map (·.2)=assign (.Name x p1) X.env::(assignEach [.Name y p2] X.env).map (·.2):=by rfl)(g2:(assignEach [.Name y p2] X.env).map (·.2)=assign (.Name y p2) X.env::(assignEach [] X.env).map (·.2):=by rfl):
  PG X (.Tuple [.Name x p1,.Name y p2] kt p3) (gTup X.K 2 (gCons (gName 0) (gCons (gName 1) gNil))):=
 x5k hc (q5c (q09 0 hN hi hx hf) (q5c (q09 1 hN hj hy hf') x2o g2) g1) hn hst
section
variable{e:List S}{di:Den (List (W×W))}{b:List S->SR}{c:Prop} [Decidable c]{s t:SR}{k:List S->SR}{v:Value}{st:S}
theorem y8e:dForP i j di b e=(di e).stm fun ps e1=>forP i j b ps e1:=rfl
theorem y4t:(SR.nx e).turnT k=k e:=rfl
theorem y4u:(SR.ct e).turnT k=k e:=rfl
theorem y4v:(SR.bk e).turnT k=.nx e:=rfl
theorem y4w:(SR.rt st e).turnT k=.rt st e:=rfl
theorem y4x:(SR.ex v e).turnT k=.ex v e:=rfl
theorem y4y:(SR.no).turnT k=.no:=rfl
theorem y11:(if c then s else t).turnT k=if c then s.turnT k else t.turnT k:=by split<;>rfl
noncomputable def srcEW(e:List S):List W->R (List (W×W))
 |[.lst us]=>.ok (enumL 0 us) e
 |_=>.no
theorem z2f:srcE dA e=(dA e).bind fun ws e1=>srcEW e1 ws:=by
 unfold srcE;congr 1
theorem y8f:srcEW e [.lst ws]=.ok (enumL 0 ws) e:=rfl
noncomputable def srcPW(e:List S):Option (List W)->R (List (W×W))
 |some ws=>ofOpt (pairsW ws) e
 |none=>.no
theorem z2g:srcP d e=(d e).bind fun w e1=>srcPW e1 (seqW w):=by
 unfold srcP;congr 1
theorem x93:srcPW e (some ws)=ofOpt (pairsW ws) e:=rfl
theorem y4z:compPK js cc d ps e=if ps.length<=16777216 then compR (frzs js e) (compP cc d (pjS js (frzs js e)) ps)else .no:=by
 unfold compPK compR;split
 ·cases compP cc d (pjS js (frzs js e)) ps<;>rfl
 ·rfl
theorem y40:dCompP js di cc d e=(di e).bind fun ps e1=>compPK js cc d ps e1:=rfl
theorem q54{p:W×W}:compP cc d pe (p::ps)=(match cc (.fr p.1::.fr p.2::pe)with
  |.ok true e1=>(match d e1 with|.ok y _=>(compP cc d pe ps).map (y::·)|_=>none)
  |.ok false _=>compP cc d pe ps
  |_=>none):=rfl
end
noncomputable def intsW:List W->Option (List Int)
 |[]=>some []
 |.int x::r=>(intsW r).map (x::·)
 |_=>none
theorem x00:∀{ws:List W}{ys:List Int}{xs:List V},intsW ws=some ys->Reps K G ws xs->xs=ys.map V.int
 |[],ys,xs,h,r=>by cases h;cases(show xs=[]from r);rfl
 |w::ws,ys,xs,h,r=>by
  unfold intsW at h;split at h
  ·rename_i z;cases z
  ·rename_i y r' z;cases z;obtain⟨ys',h1,rfl⟩:=w0o.mp h;obtain⟨v,vs,rfl,p1,p2⟩:=r;cases(show v=V.int y from p1);rw[x00 h1 p2];rfl
  ·cases h
section
variable{prog:Program}{w:World}{E:Value->Shared->Prop}
theorem x57{j b:Addr}{x:Value}{Q:Value->Shared->Prop}(gi:s.heap.IsTupleIter j b k)(gt:s.heap.IsTuple b vs)(gx:vs[k]?=some x)
  (hQ:∀h',h'.IsTupleIter j b (k+1)->Heap.SameBut j s.heap h'->Q x {s with heap:=h'}):wpAny (model prog w) A (Builtin.SmallTypes.nextOf (.ref j)) Q E s:=by
 obtain⟨o,ho,hc,hd⟩:=id gi;obtain⟨ot,hot,_,m,hdt⟩:=gt;unfold Builtin.SmallTypes.nextOf;refine wpAny_bind (wpAny_callSpecial?_slot (name:=Str.ofString "__next__") gi.typeIs F.slot_tuple_iterator_next (wpAny_call_entry F.slot_tuple_iterator_next gi.typeIs F.entry_tuple_iterator_next ?_ (F.args_tuple_iterator_next_1 _)));show wpAny _ _ (field (.ref j) 0 >>= _) _ _ s;refine wpAny_bind (wpAny_field ho hd (x:=.ref b) rfl ?_);show wpAny _ _ (if(Value.ref b==Value.none)=true then _ else _) _ _ s;rw[if_neg (show ¬((Value.ref b==Value.none)=true)from w1e)];show wpAny _ _ (field (.ref j) 1 >>= _) _ _ s;refine wpAny_bind (wpAny_field ho hd (x:=.int k 0) rfl ?_);show wpAny _ _ (seqItems? (.ref b) >>= _) _ _ s;refine wpAny_bind (wpAny_seqItems hot hdt ?_);simp only[w1j,gx];refine wpAny_bind (wpAny_setField ho hd (by simp) (wpAny_pure ⟨x,rfl,wpAny_pure (hQ _ ⟨_,Heap.get?_update_self _ ho (Obj.isFreed_of_fields (Obj.data_mapFields hd _)),(Obj.cls_mapFields ..).trans hc,by rw[Obj.data_mapFields hd];simp[rawInt]⟩ (Heap.SameBut.update ..))⟩))
theorem x7t{j b:Addr}{Q:Value->Shared->Prop}(hh:A.handled=none)(gi:s.heap.IsTupleIter j b k)(gt:s.heap.IsTuple b vs)(gx:vs[k]?=none)
  (hE:∀h' e,Heap.ExtBut j s.heap h'->(∃o,h'.get? e=some o/\o.cls=.type "StopIteration")->E (.ref e) {s with heap:=h'}):wpAny (model prog w) A (Builtin.SmallTypes.nextOf (.ref j)) Q E s:=by
 obtain⟨o,ho,hc,hd⟩:=id gi;obtain⟨ot,hot,_,m,hdt⟩:=gt;unfold Builtin.SmallTypes.nextOf;refine wpAny_bind (wpAny_callSpecial?_slot (name:=Str.ofString "__next__") gi.typeIs F.slot_tuple_iterator_next (wpAny_call_entry F.slot_tuple_iterator_next gi.typeIs F.entry_tuple_iterator_next ?_ (F.args_tuple_iterator_next_1 _)));show wpAny _ _ (field (.ref j) 0 >>= _) _ _ s;refine wpAny_bind (wpAny_field ho hd (x:=.ref b) rfl ?_);show wpAny _ _ (if(Value.ref b==Value.none)=true then _ else _) _ _ s;rw[if_neg (show ¬((Value.ref b==Value.none)=true)from w1e)];show wpAny _ _ (field (.ref j) 1 >>= _) _ _ s;refine wpAny_bind (wpAny_field ho hd (x:=.int k 0) rfl ?_);show wpAny _ _ (seqItems? (.ref b) >>= _) _ _ s;refine wpAny_bind (wpAny_seqItems hot hdt ?_);simp only[w1j,gx];refine wpAny_bind (wpAny_rule (wpAny_bind (wpAny_setField ho hd (by simp) ?_)));show wpAny _ _ (newExc (.type "StopIteration") [] >>= _) _ _ _;refine wpAny_bind ?_;simp only[newExc,newTuple];refine wpAny_bind (wpAny_newObj_type ?_ (by size_fits));refine wpAny_bind (m:=firstArgMember _ _) (wpAny_of_eq (a:=Value.none) (by first|rfl|(simp only[firstArgMember];rfl)) (wpAny_newObj_type ?_ (by size_fits)));simp only[raiseNew];refine wpAny_bind (wpAny_handled ?_)
 first|rw[show A.in1.handled=none from hh]|rw[hh]
 refine wpAny_bind (wpAny_pure (wpAny_throw (hE _ _ (((Heap.SameBut.update ..).extBut.push _).push _) ⟨_,Heap.get?_push_size _ rfl,rfl⟩)))
def IsIt(t:Bool)(j b:Addr)(k:Nat)(h:Heap):Prop:=if t=true then h.IsTupleIter j b k else h.IsListIter j b k
def IsSq(t:Bool)(b:Addr)(vs:Array Value)(h:Heap):Prop:=if t=true then h.IsTuple b vs else h.IsList b vs
theorem IsIt.keep{j b:Addr}(x:IsIt t j b k h)(e:∀o,h.get? j=some o->h'.get? j=some o):IsIt t j b k h':=by
 cases t with
 |true=>obtain⟨o,ho,r⟩:=(show h.IsTupleIter j b k from x);exact⟨o,e o ho,r⟩
 |false=>obtain⟨o,ho,r⟩:=(show h.IsListIter j b k from x);exact⟨o,e o ho,r⟩
theorem IsIt.obj{j b:Addr}(x:IsIt t j b k h):∃o,h.get? j=some o/\∀v,o.data≠.cell v:=by
 cases t with
 |true=>obtain⟨o,ho,c,d⟩:=(show h.IsTupleIter j b k from x);exact⟨o,ho,fun v z=>by rw[d]at z;cases z⟩
 |false=>obtain⟨o,ho,c,d⟩:=(show h.IsListIter j b k from x);exact⟨o,ho,fun v z=>by rw[d]at z;cases z⟩
theorem IsSq.keep{b:Addr}(x:IsSq t b vs h)(e:∀o,h.get? b=some o->h'.get? b=some o):IsSq t b vs h':=by
 cases t with
 |true=>obtain⟨o,ho,r⟩:=(show h.IsTuple b vs from x);exact⟨o,e o ho,r⟩
 |false=>obtain⟨o,ho,r⟩:=(show h.IsList b vs from x);exact⟨o,e o ho,r⟩
theorem x2z{j b:Addr}{x:Value}{Q:Value->Shared->Prop}(gi:IsIt t j b k s.heap)(gt:IsSq t b vs s.heap)(gx:vs[k]?=some x)
  (hQ:∀h',IsIt t j b (k+1) h'->Heap.SameBut j s.heap h'->Q x {s with heap:=h'}):wpAny (model prog w) A (Builtin.SmallTypes.nextOf (.ref j)) Q E s:=by
 cases t with
 |true=>exact x57 gi gt gx hQ
 |false=>exact wpAny_nextOf_list_item gi gt gx hQ
theorem y12{j b:Addr}{Q:Value->Shared->Prop}(hh:A.handled=none)(gi:IsIt t j b k s.heap)(gt:IsSq t b vs s.heap)(gx:vs[k]?=none)
  (hE:∀h' e,Heap.ExtBut j s.heap h'->(∃o,h'.get? e=some o/\o.cls=.type "StopIteration")->E (.ref e) {s with heap:=h'}):wpAny (model prog w) A (Builtin.SmallTypes.nextOf (.ref j)) Q E s:=by
 cases t with
 |true=>exact x7t hh gi gt gx hE
 |false=>exact wpAny_nextOf_list_end hh gi gt gx hE
structure Apart(z I O i j a b:Addr):Prop where
 Iz:I≠z
 Oz:O≠z
 iz:i≠z
 jz:j≠z
 IO:I≠O
 Ii:I≠i
 Ij:I≠j
 Oi:O≠i
 Oj:O≠j
 ij:i≠j
 az:a≠z
 aO:a≠O
 ai:a≠i
 aj:a≠j
 bz:b≠z
 bO:b≠O
 bi:b≠i
 bj:b≠j
theorem y8g{z I O i j b:Addr}{u:Bool}{xs:Array Value}{x y p q:Value}{Q:Value->Shared->Prop}(D:Apart z I O i j a b)
  (gz:IsZip s.heap z I O .none)(gI:IsPair s.heap I (.ref i) (.ref j))(gO:IsPair s.heap O p q)
  (g1:IsIt t i a k s.heap)(g2:IsIt u j b k s.heap)(l1:IsSq t a xs s.heap)(l2:IsSq u b ys s.heap)(hx:xs[k]?=some x)(hy:ys[k]?=some y)
  (hQ:∀h',IsZip h' z I O (rawInt s.heap.objs.size)->IsPair h' O x y->IsIt t i a (k+1) h'->IsIt u j b (k+1) h'->IsPair h' s.heap.objs.size x y->h'.objs.size=s.heap.objs.size+1 ->
   (∀c o,c≠z->c≠O->c≠i->c≠j->s.heap.get? c=some o->h'.get? c=some o)->Q (.ref s.heap.objs.size) {s with heap:=h'}):
  wpAny (model prog w) A (Builtin.«zip.__next__» ⟨[.ref z],[]⟩) (fun fin s'=>∃v,fin=.done (.ret v)/\Q v s') E s:=by
 show wpAny _ _ (field (.ref z) 2 >>= _) _ _ _;refine wpAny_bind (wpAny_field gz rfl (x:=.bool false) rfl ?_);show wpAny _ _ (field (.ref z) 3 >>= _) _ _ _;refine wpAny_bind (wpAny_field gz rfl (x:=.ref I) rfl (wpAny_bind (wpAny_seqItems gI rfl ?_)));show wpAny _ _ (Builtin.SmallTypes.ownedTupleIsFree (.ref z) >>= _) _ _ _;refine wpAny_bind ?_;unfold Builtin.SmallTypes.ownedTupleIsFree;refine wpAny_bind (wpAny_field gz rfl (x:=.none) rfl (wpAny_pure ?_));simp only[if_true];refine wpAny_bind (wpAny_rule (wpAny_bind (wpAny_field gz rfl (x:=.ref O) rfl (wpAny_bind (wpAny_setField_rec gz (by simp) fun ha za sa=>?_)))))
 replace za:IsZip ha z I O .ellipsis:=za
 refine wpAny_bind ?_;simp only[List.zipIdx_cons,List.zipIdx_nil,w2o,w4u];refine wpAny_bind (wpAny_bind (wpAny_onRaise ?_));show wpAny _ _ (Builtin.SmallTypes.nextOf (.ref i) >>= _) _ _ _;refine wpAny_bind (x2z (s:={s with heap:=ha}) (g1.keep fun o e=>sa.extBut _ _ D.iz e) (l1.keep fun o e=>sa.extBut _ _ D.az e) hx fun hb ib sb=>wpAny_pure ?_)
 have Ob:IsPair hb O p q:=sb.extBut _ _ D.Oi (sa.extBut _ _ D.Oz gO);refine wpAny_bind (wpAny_seqItems Ob rfl (wpAny_bind (wpAny_updateSeq_pair Ob fun hc Oc sc=>?_)))
 replace Oc:IsPair hc O x q:=Oc
 refine wpAny_bind (wpAny_letGo (wpAny_pure (wpAny_bind (wpAny_bind (wpAny_onRaise ?_)))));show wpAny _ _ (Builtin.SmallTypes.nextOf (.ref j) >>= _) _ _ _;refine wpAny_bind (x2z (s:={s with heap:=hc}) (g2.keep fun o e=>sc.extBut _ _ D.Oj.symm (sb.extBut _ _ D.ij.symm (sa.extBut _ _ D.jz e))) (l2.keep fun o e=>sc.extBut _ _ D.bO (sb.extBut _ _ D.bi (sa.extBut _ _ D.bz e))) hy fun hd jd sd=>wpAny_pure ?_)
 have Od:IsPair hd O x q:=sd.extBut _ _ D.Oj Oc;refine wpAny_bind (wpAny_seqItems Od rfl (wpAny_bind (wpAny_updateSeq_pair Od fun he Oe se=>?_)))
 replace Oe:IsPair he O x y:=Oe
 refine wpAny_bind (wpAny_letGo (wpAny_pure (wpAny_pure (wpAny_bind (wpAny_seqItems Oe rfl (wpAny_bind (wpAny_newTuple ?_)))))));have sz:he.objs.size=s.heap.objs.size:=by rw[se.1,sd.1,sc.1,sb.1,sa.1]
 have ze:IsZip he z I O .ellipsis:=se.extBut _ _ D.Oz.symm (sd.extBut _ _ D.jz.symm (sc.extBut _ _ D.Oz.symm (sb.extBut _ _ D.iz.symm za)));have ke:∀c o,c≠z->c≠O->c≠i->c≠j->s.heap.get? c=some o->he.get? c=some o:=fun c o c1 c2 c3 c4 e=>se.extBut _ _ c2 (sd.extBut _ _ c4 (sc.extBut _ _ c2 (sb.extBut _ _ c3 (sa.extBut _ _ c1 e))))
 have ie:IsIt t i a (k+1) he:=ib.keep fun o e=>se.extBut _ _ D.Oi.symm (sd.extBut _ _ D.ij (sc.extBut _ _ D.Oi.symm e))
 have je:IsIt u j b (k+1) he:=jd.keep fun o e=>se.extBut _ _ D.Oj.symm e
 have zlt:z<he.objs.size:=Heap.lt_size ze;show wpAny _ _ (Builtin.SmallTypes.ownedTupleHandOut (.ref z) (.ref he.objs.size) >>= _) _ _ _;refine wpAny_bind ?_;unfold Builtin.SmallTypes.ownedTupleHandOut;have zf:IsZip (he.push {cls:=.type "tuple", data:=.seq #[x,y]}) z I O .ellipsis:=Heap.get?_push_of_some _ ze;refine wpAny_bind (wpAny_setField_rec zf (by simp) fun hg zg sg=>?_)
 replace zg:IsZip hg z I O (rawInt he.objs.size):=zg
 refine wpAny_setField_rec zg (by simp) fun hk zk sk=>?_
 replace zk:IsZip hk z I O (rawInt he.objs.size):=zk
 have up:∀c o,c≠z->he.get? c=some o->hk.get? c=some o:=fun c o c1 e=>sk.extBut _ _ c1 (sg.extBut _ _ c1 (Heap.get?_push_of_some _ e))
 have Tk:IsPair hk he.objs.size x y:=sk.extBut _ _ (w3i zlt) (sg.extBut _ _ (w3i zlt) (Heap.get?_push_size _ rfl));have nk:hk.objs.size=he.objs.size+1:=by rw[sk.1,sg.1,Heap.size_push]
 rw[sz]at zk Tk nk;refine wpAny_pure ⟨_,rfl,?_⟩;show Q (.ref he.objs.size) _;rw[sz];exact hQ hk zk (up _ _ D.Oz Oe) (ie.keep fun o e=>up _ o D.iz e) (je.keep fun o e=>up _ o D.jz e) Tk nk fun c o c1 c2 c3 c4 e=>up c o c1 (ke c o c1 c2 c3 c4 e)
theorem z2h{z I O i j b:Addr}{u:Bool}{xs:Array Value}{p q:Value}{Q:Fin->Shared->Prop}(hh:A.handled=none)(D:Apart z I O i j a b)
  (gz:IsZip s.heap z I O .none)(gI:IsPair s.heap I (.ref i) (.ref j))(gO:IsPair s.heap O p q)
  (g1:IsIt t i a k s.heap)(g2:IsIt u j b k s.heap)(l1:IsSq t a xs s.heap)(l2:IsSq u b ys s.heap)(hend:xs[k]?=none\/ys[k]?=none)
  (hE:∀h' e,(∀c o,c≠z->c≠O->c≠i->c≠j->s.heap.get? c=some o->h'.get? c=some o)->(∃o,h'.get? e=some o/\o.cls=.type "StopIteration")->E (.ref e) {s with heap:=h'}):
  wpAny (model prog w) A (Builtin.«zip.__next__» ⟨[.ref z],[]⟩) Q E s:=by
 show wpAny _ _ (field (.ref z) 2 >>= _) _ _ _;refine wpAny_bind (wpAny_field gz rfl (x:=.bool false) rfl ?_);show wpAny _ _ (field (.ref z) 3 >>= _) _ _ _;refine wpAny_bind (wpAny_field gz rfl (x:=.ref I) rfl (wpAny_bind (wpAny_seqItems gI rfl ?_)));show wpAny _ _ (Builtin.SmallTypes.ownedTupleIsFree (.ref z) >>= _) _ _ _;refine wpAny_bind ?_;unfold Builtin.SmallTypes.ownedTupleIsFree;refine wpAny_bind (wpAny_field gz rfl (x:=.none) rfl (wpAny_pure ?_));simp only[if_true];refine wpAny_bind (wpAny_rule (wpAny_bind (wpAny_field gz rfl (x:=.ref O) rfl (wpAny_bind (wpAny_setField_rec gz (by simp) fun ha za sa=>?_)))))
 replace za:IsZip ha z I O .ellipsis:=za
 refine wpAny_bind ?_;simp only[List.zipIdx_cons,List.zipIdx_nil,w2o,w4u];refine wpAny_bind (wpAny_bind (wpAny_onRaise ?_));show wpAny _ _ (Builtin.SmallTypes.nextOf (.ref i) >>= _) _ _ _;cases hx:xs[k]? with
 |none=>
  refine wpAny_bind (y12 (s:={s with heap:=ha}) hh (g1.keep fun o e=>sa.extBut _ _ D.iz e) (l1.keep fun o e=>sa.extBut _ _ D.az e) hx fun hb e sb ge=>?_)
  obtain⟨oe,hoe,hce⟩:=ge;have zb:IsZip hb z I O .ellipsis:=sb _ _ D.iz.symm za;have nz:e≠z:=fun x=>by subst x;rw[zb]at hoe;cases hoe;simp at hce
  refine wpAny_setField_rec zb (by simp) fun hc _ sc=>hE hc e (fun c o c1 _ c3 _ x=>sc.extBut _ _ c1 (sb _ _ c3 (sa.extBut _ _ c1 x))) ⟨oe,sc.extBut _ _ nz hoe,hce⟩
 |some x=>
  have hy:ys[k]?=none:=by rcases hend with h|h;rw[hx]at h;cases h;exact h
  refine wpAny_bind (x2z (s:={s with heap:=ha}) (g1.keep fun o e=>sa.extBut _ _ D.iz e) (l1.keep fun o e=>sa.extBut _ _ D.az e) hx fun hb ib sb=>wpAny_pure ?_)
  have Ob:IsPair hb O p q:=sb.extBut _ _ D.Oi (sa.extBut _ _ D.Oz gO);refine wpAny_bind (wpAny_seqItems Ob rfl (wpAny_bind (wpAny_updateSeq_pair Ob fun hc Oc sc=>?_)))
  refine wpAny_bind (wpAny_letGo (wpAny_pure (wpAny_bind (wpAny_bind (wpAny_onRaise ?_)))));show wpAny _ _ (Builtin.SmallTypes.nextOf (.ref j) >>= _) _ _ _;refine wpAny_bind (y12 (s:={s with heap:=hc}) hh (g2.keep fun o e=>sc.extBut _ _ D.Oj.symm (sb.extBut _ _ D.ij.symm (sa.extBut _ _ D.jz e))) (l2.keep fun o e=>sc.extBut _ _ D.bO (sb.extBut _ _ D.bi (sa.extBut _ _ D.bz e))) hy fun hd e sd ge=>?_)
  obtain⟨oe,hoe,hce⟩:=ge;have zd:IsZip hd z I O .ellipsis:=sd _ _ D.jz.symm (sc.extBut _ _ D.Oz.symm (sb.extBut _ _ D.iz.symm za));have nz:e≠z:=fun x=>by subst x;rw[zd]at hoe;cases hoe;simp at hce
  refine wpAny_setField_rec zd (by simp) fun he _ se=>hE he e (fun c o c1 c2 c3 c4 x=>se.extBut _ _ c1 (sd _ _ c4 (sc.extBut _ _ c2 (sb.extBut _ _ c3 (sa.extBut _ _ c1 x))))) ⟨oe,se.extBut _ _ nz hoe,hce⟩
theorem y8h{z I O i j b:Addr}{u:Bool}{xs:Array Value}{x y p q:Value}{Q:Option Value->Shared->Prop}(D:Apart z I O i j a b)
  (gz:IsZip s.heap z I O .none)(gI:IsPair s.heap I (.ref i) (.ref j))(gO:IsPair s.heap O p q)
  (g1:IsIt t i a k s.heap)(g2:IsIt u j b k s.heap)(l1:IsSq t a xs s.heap)(l2:IsSq u b ys s.heap)(hx:xs[k]?=some x)(hy:ys[k]?=some y)
  (hQ:∀h',IsZip h' z I O (rawInt s.heap.objs.size)->IsPair h' O x y->IsIt t i a (k+1) h'->IsIt u j b (k+1) h'->IsPair h' s.heap.objs.size x y->h'.objs.size=s.heap.objs.size+1 ->
   (∀c o,c≠z->c≠O->c≠i->c≠j->s.heap.get? c=some o->h'.get? c=some o)->Q (some (.ref s.heap.objs.size)) {s with heap:=h'}):wpAny (model prog w) A (pyNext (.ref z)) Q E s:=by
 have hT:s.TypeIs (.ref z) "zip":=⟨_,gz,rfl⟩;unfold pyNext;exact wpAny_bind (wpAny_attempt (wpAny_callSpecial?_slot (name:=Str.ofString "__next__") hT F.slot_zip_next (wpAny_call_entry F.slot_zip_next hT F.entry_zip_next (y8g D gz gI gO g1 g2 l1 l2 hx hy fun h' a1 a2 a3 a4 a5 a6 a7=>wpAny_pure (hQ h' a1 a2 a3 a4 a5 a6 a7)) (F.args_zip_next_1 _))))
theorem y8i{z I O i j b:Addr}{u:Bool}{xs:Array Value}{p q:Value}{Q:Option Value->Shared->Prop}(hh:A.handled=none)(D:Apart z I O i j a b)
  (gz:IsZip s.heap z I O .none)(gI:IsPair s.heap I (.ref i) (.ref j))(gO:IsPair s.heap O p q)
  (g1:IsIt t i a k s.heap)(g2:IsIt u j b k s.heap)(l1:IsSq t a xs s.heap)(l2:IsSq u b ys s.heap)(hend:xs[k]?=none\/ys[k]?=none)
  (hQ:∀h',(∀c o,c≠z->c≠O->c≠i->c≠j->s.heap.get? c=some o->h'.get? c=some o)->Q none {s with heap:=h'}):wpAny (model prog w) A (pyNext (.ref z)) Q E s:=by
 have hT:s.TypeIs (.ref z) "zip":=⟨_,gz,rfl⟩;unfold pyNext;refine wpAny_bind (wpAny_attempt (wpAny_callSpecial?_slot (name:=Str.ofString "__next__") hT F.slot_zip_next (wpAny_call_entry F.slot_zip_next hT F.entry_zip_next (z2h hh D gz gI gO g1 g2 l1 l2 hend fun h' e hk he=>?_) (F.args_zip_next_1 _))))
 obtain⟨o,ho,hc⟩:=he;exact wpAny_bind (wpAny_isInstance (T:="StopIteration") (b:=true) ⟨o,ho,hc⟩ isSubtype_stop (wpAny_pure (hQ _ hk)))
end
noncomputable def itT(t:Bool):String:=if t=true then "tuple_iterator" else "list_iterator"
noncomputable abbrev zq1(t:Bool)(h:Heap)(a:Addr):Heap:=h.push {cls:=.type (itT t),data:=.fields #[.ref a,.int 0 0]}
noncomputable abbrev zq2(t u:Bool)(h:Heap)(a b:Addr):Heap:=(zq1 t h a).push {cls:=.type (itT u),data:=.fields #[.ref b,.int 0 0]}
noncomputable abbrev zq3(t u:Bool)(h:Heap)(a b:Addr):Heap:=(zq2 t u h a b).push {cls:=.type "tuple", data:=.seq #[.ref h.objs.size,.ref (zq1 t h a).objs.size]}
noncomputable abbrev zq4(t u:Bool)(h:Heap)(a b:Addr):Heap:=(zq3 t u h a b).push {cls:=.type "tuple", data:=.seq #[.none,.none]}
noncomputable abbrev zq5(t u:Bool)(h:Heap)(a b:Addr):Heap:=(zq4 t u h a b).push {cls:=.type "zip", data:=.fields #[.none,.bool false,.bool false,.ref (zq2 t u h a b).objs.size,.ref (zq3 t u h a b).objs.size]}
theorem z2i(t u:Bool)(a b:Addr)(xs ys:Array Value):
  Meets (Builtin.«zip.__new__» ⟨[.type "zip", .ref a,.ref b],[]⟩) (fun _ R s=>IsSq t a xs s.heap/\IsSq u b ys s.heap/\R (.ok (.ret (.ref (zq4 t u s.heap a b).objs.size))) {s with heap:=zq5 t u s.heap a b}):=
 .of_wp fun prog w A R s hyp=>by
  obtain⟨hp,g,d,tk,os⟩:=s;obtain⟨g1,g2,h⟩:=hyp;have hsub:=sub_zip;have q2:IsSq u b ys (zq1 t hp a):=g2.keep fun o e=>Heap.get?_push_of_some _ e
  cases t with
  |false=>
   have p1:Heap.IsList (Shared.heap ⟨hp,g,d,tk,os⟩) a xs:=g1;cases u with
   |false=>
    have p2:Heap.IsList (Shared.heap ⟨hp.push {cls:=.type "list_iterator", data:=.fields #[.ref a,.int 0 0]},g,d,tk,os⟩) b ys:=q2
    wp_walk using wpAny_pyIter_list p1,wpAny_pyIter_list p2
    exact⟨_,rfl,h⟩
   |true=>
    have p2:Heap.IsTuple (Shared.heap ⟨hp.push {cls:=.type "list_iterator", data:=.fields #[.ref a,.int 0 0]},g,d,tk,os⟩) b ys:=q2
    wp_walk using wpAny_pyIter_list p1,wpAny_pyIter_tuple p2
    exact⟨_,rfl,h⟩
  |true=>
   have p1:Heap.IsTuple (Shared.heap ⟨hp,g,d,tk,os⟩) a xs:=g1;cases u with
   |false=>
    have p2:Heap.IsList (Shared.heap ⟨hp.push {cls:=.type "tuple_iterator", data:=.fields #[.ref a,.int 0 0]},g,d,tk,os⟩) b ys:=q2
    wp_walk using wpAny_pyIter_tuple p1,wpAny_pyIter_list p2
    exact⟨_,rfl,h⟩
   |true=>
    have p2:Heap.IsTuple (Shared.heap ⟨hp.push {cls:=.type "tuple_iterator", data:=.fields #[.ref a,.int 0 0]},g,d,tk,os⟩) b ys:=q2
    wp_walk using wpAny_pyIter_tuple p1,wpAny_pyIter_tuple p2
    exact⟨_,rfl,h⟩
section
variable{prog:Program}{w:World}{E:Value->Shared->Prop}
theorem x58{j:Addr}{o:Obj}(e:h.get? j=some o)(c:o.cls=.type (itT t))(d:o.data=.fields #[.ref a,.int 0 0]):IsIt t j a 0 h:=by
 cases t with
 |true=>exact(show h.IsTupleIter j a 0 from⟨o,e,c,d⟩)
 |false=>exact(show h.IsListIter j a 0 from⟨o,e,c,d⟩)
theorem y13{u:Bool}{b:Addr}{xs:Array Value}{Q:Value->Shared->Prop}(g1:IsSq t a xs s.heap)(g2:IsSq u b ys s.heap)
  (h:∀h',IsZip h' (s.heap.objs.size+4) (s.heap.objs.size+2) (s.heap.objs.size+3) .none->IsPair h' (s.heap.objs.size+2) (.ref s.heap.objs.size) (.ref (s.heap.objs.size+1)) ->
   IsPair h' (s.heap.objs.size+3) .none .none->IsIt t s.heap.objs.size a 0 h'->IsIt u (s.heap.objs.size+1) b 0 h'->(∀c o,s.heap.get? c=some o->h'.get? c=some o)->Q (.ref (s.heap.objs.size+4)) {s with heap:=h'}):
  wpAny (model prog w) A (call (.type "zip") [.ref a,.ref b]) Q E s:=by
 refine callType_new F.called_zip (by decide) (F.typeCall_zip_2 _ _) (F.newCall_zip_2 _ _) (fun obj=>F.args_object_init_3 obj _ _) F.entry_zip_new (z2i t u a b xs ys) ⟨g1,g2,?_⟩
 have n1:(zq1 t s.heap a).objs.size=s.heap.objs.size+1:=Heap.size_push ..;have n2:(zq2 t u s.heap a b).objs.size=s.heap.objs.size+2:=by rw[Heap.size_push,n1]
 have n3:(zq3 t u s.heap a b).objs.size=s.heap.objs.size+3:=by rw[Heap.size_push,n2]
 have n4:(zq4 t u s.heap a b).objs.size=s.heap.objs.size+4:=by rw[Heap.size_push,n3]
 have k5:(zq5 t u s.heap a b).get? (zq4 t u s.heap a b).objs.size=some _:=Heap.get?_push_size _ rfl;have k4:(zq5 t u s.heap a b).get? (zq3 t u s.heap a b).objs.size=some _:=Heap.get?_push_of_some _ (Heap.get?_push_size _ rfl);have k3:(zq5 t u s.heap a b).get? (zq2 t u s.heap a b).objs.size=some _:=Heap.get?_push_of_some _ (Heap.get?_push_of_some _ (Heap.get?_push_size _ rfl));have k2:(zq5 t u s.heap a b).get? (zq1 t s.heap a).objs.size=some _:=Heap.get?_push_of_some _ (Heap.get?_push_of_some _ (Heap.get?_push_of_some _ (Heap.get?_push_size _ rfl)));have k1:(zq5 t u s.heap a b).get? s.heap.objs.size=some _:=Heap.get?_push_of_some _ (Heap.get?_push_of_some _ (Heap.get?_push_of_some _ (Heap.get?_push_of_some _ (Heap.get?_push_size _ rfl))));have up:∀c o,s.heap.get? c=some o->(zq5 t u s.heap a b).get? c=some o:=fun c o e=>Heap.get?_push_of_some _ (Heap.get?_push_of_some _ (Heap.get?_push_of_some _ (Heap.get?_push_of_some _ (Heap.get?_push_of_some _ e))))
 show _/\_;rw[n2,n3,n4]at k5;rw[n1,n2]at k3;rw[n3]at k4;rw[n1]at k2;rw[n4];exact⟨⟨_,k5,rfl⟩,h _ k5 k3 k4 (x58 k1 rfl rfl) (x58 k2 rfl rfl) up⟩
end
section
variable{e1 e2:Expr}{pt:Pos}
def SqG(K:PySem.W.Frag)(t:Bool)(H:Hp)(a:Addr)(xs:List V):Prop:=if t=true then SqT K H a xs else SqL K H a xs
theorem q7m(I:Inv X pins σ H s)(h:SqG X.K t H a xs):∃its:List Value,Vals xs its/\IsSq t a its.toArray s.heap:=by
 cases t with
 |true=>
  obtain⟨its,r,p,_⟩:=I.tuple h;exact⟨its,r,(show s.heap.IsTuple a its.toArray from p)⟩
 |false=>
  obtain⟨its,r,p,_⟩:=I.list h;exact⟨its,r,p.isList⟩
theorem y14{ys:List V}(I:Inv X pins σ H s)(h:SqG X.K t H a xs)(h':SqG X.K t H a ys):xs=ys:=by
 cases t with
 |true=>exact I.tuple_inj h h'
 |false=>exact I.list_inj h h'
theorem IsSq.obj(x:IsSq t a vs h):∃o,h.get? a=some o/\o.cls=.type (if t=true then "tuple" else "list"):=by
 cases t with
 |true=>obtain⟨o,ho,c,_⟩:=(show h.IsTuple a vs from x);exact⟨o,ho,c⟩
 |false=>obtain⟨o,ho,c,_⟩:=(show h.IsList a vs from x);exact⟨o,ho,c⟩
theorem x7u{t':Nat}{fp:List Addr}(I:Inv X pins σ H s)(k:∀b o,b∉fp->s.heap.get? b=some o->h'.get? b=some o)(hf:∀b∈fp,FpOk X pins H b):Inv X pins σ H {s with heap:=h',toks:=t'}:=by
 have nfp:∀c u,H c=some u->c∉fp:=fun c u e z=>by rw[(hf c z).1]at e;cases e
 refine I.step (g':=s.gens) (d':=s.drawn) (ch:=fp) (fun c hc=>?_) (fun c o _ _ hc e _=>k c o hc e) (fun c o _ _ hc e _=>⟨o.slots,k c o hc e⟩) (fun c o _ e n=>n)
  (fun c o hc e=>⟨o,k c o hc e⟩) (fun c xs e=>e) (fun c o u e=>e) (fun c ps e=>⟨#[],by rw[e];simp⟩) (fun m hm=>?_) (fun c u e=>?_) I.bare
 ·obtain⟨f0,f1,f2,f3,f4,f5⟩:=hf c hc;exact⟨f3,f1,f4,f5⟩
 ·obtain⟨o,es,ep,ho,r⟩:=hm;exact⟨o,es,ep,k _ o (fun z=>(hf _ z).2.1 rfl) ho,r⟩
 ·refine(I.hok c u e).stay (fun d v hd q=>k d v ?_ q) (fun d q=>q) fun d xs _ q=>q
  rcases hd with z|z
  ·rw[z];exact nfp c u e
  ·exact nfp d _ z
noncomputable def Itz(K:PySem.W.Frag)(t u:Bool)(a b:Addr):It:=
  ⟨fun i H=>∃xs ys x y,SqG K t H a xs/\SqG K u H b ys/\xs[i]?=some x/\ys[i]?=some y,
   fun i H v H'=>∃c x y,v=.ref c/\H c=none/\(∀xs,SqG K t H a xs->xs[i]?=some x)/\(∀ys,SqG K u H b ys->ys[i]?=some y)/\H'=upd H c (.tup [x,y]),
   fun i H=>∃xs ys,SqG K t H a xs/\SqG K u H b ys/\(xs.length<=i\/ys.length<=i)⟩
theorem y41{w:World}(t u:Bool)(a b z I O i j:Addr)(D:Apart z I O i j a b):
  Turn P w K (.Tuple elts kt pt) (Itz K t u a b) [z,I,O,i,j] z (fun k h=>IsZip h z I O .none/\IsPair h I (.ref i) (.ref j)/\(∃p q,IsPair h O p q)/\IsIt t i a k h/\IsIt u j b k h) where
 mem:=by simp
 obj:=fun k h ⟨s1,s2,⟨p,q,s3⟩,s4,s5⟩ c hc=>by
  simp only[w0h,w1d,or_false]at hc;rcases hc with rfl|rfl|rfl|rfl|rfl
  ·exact⟨_,s1,fun v z=>by cases z⟩
  ·exact⟨_,s2,fun v z=>by cases z⟩
  ·exact⟨_,s3,fun v z=>by cases z⟩
  ·exact s4.obj
  ·exact s5.obj
 keep:=fun k h h' ⟨s1,s2,⟨p,q,s3⟩,s4,s5⟩ f=>⟨f z (by simp) _ s1,f I (by simp) _ s2,⟨p,q,f O (by simp) _ s3⟩,s4.keep fun o e=>f i (by simp) o e,s5.keep fun o e=>f j (by simp) o e⟩
 item:=by
  intro X hP hw hK hc k pins s σ H E Iv hf st hg;subst hP hw hK;obtain⟨s1,s2,⟨p,q,s3⟩,s4,s5⟩:=st;obtain⟨xs,ys,x,y,q1,q2,hx,hy⟩:=hg;obtain⟨is1,r1,p1⟩:=q7m Iv q1;obtain⟨is2,r2,p2⟩:=q7m Iv q2;obtain⟨ux,hux,rux⟩:=r1.get hx;obtain⟨uy,huy,ruy⟩:=r2.get hy;refine y8h D s1 s2 s3 s4 s5 p1 p2 (x:=ux) (y:=uy) (by simpa using hux) (by simpa using huy) fun h1 z1 o1 i1 j1 t1 n1 k1=>⟨_,rfl,?_⟩
  refine wpAny_letOwnedTupleGo_zip z1 fun h2 z2 b2=>?_
  have b2:Heap.SameBut z h1 h2:=b2;have zlt:z<s.heap.objs.size:=Heap.lt_size s1;have hfr:H s.heap.objs.size=none:=Iv.hok.fresh (w0f _);have t2:IsPair h2 s.heap.objs.size ux uy:=(b2.2 _ (w3i zlt)).trans t1;have I1:IsPair h1 I (.ref i) (.ref j):=k1 I _ D.Iz D.IO D.Ii D.Ij s2;refine⟨.ref s.heap.objs.size,upd H s.heap.objs.size (.tup [x,y]),?_,rfl,⟨_,x,y,rfl,hfr,fun xs' h'=>by rw[y14 Iv h' q1];exact hx,fun ys' h'=>by rw[y14 Iv h' q2];exact hy,rfl⟩,⟨z2,(b2.2 _ D.Iz).trans I1,⟨ux,uy,(b2.2 _ D.Oz).trans o1⟩,i1.keep fun o e=>(b2.2 _ D.iz).trans e,j1.keep fun o e=>(b2.2 _ D.jz).trans e⟩,fun c hc=>?_⟩
  ·show L2.Inv X pins σ _ {s with heap:=h2,toks:=s.toks};refine x33 (fp:=[z,I,O,i,j]) Iv (fun c o hc q=>?_) hf (w0f _) ⟨?_,[ux,uy],.cons rux (.cons ruy .nil),⟨_,t2,rfl,?_⟩,⟨_,t2,rfl⟩⟩
   ·simp only[w0h,w1d,or_false,not_or]at hc;exact(b2.2 c hc.1).trans (k1 c o hc.1 hc.2.2.1 hc.2.2.2.1 hc.2.2.2.2 q)
   ·rw[sizeLine_eq];simp
   ·exact⟨_,rfl⟩
  ·have:c≠s.heap.objs.size:=by
    obtain⟨o,q,_⟩:∃o,s.heap.get? c=some o/\True:=by
     simp only[w0h,w1d,or_false]at hc;rcases hc with rfl|rfl|rfl|rfl|rfl
     ·exact⟨_,s1,trivial⟩
     ·exact⟨_,s2,trivial⟩
     ·exact⟨_,s3,trivial⟩
     ·obtain⟨o,e,_⟩:=s4.obj;exact⟨o,e,trivial⟩
     ·obtain⟨o,e,_⟩:=s5.obj;exact⟨o,e,trivial⟩
    exact w0r (Heap.lt_size q)
   rw[q0c this];exact(hf c hc).1
 done:=by
  intro X hP hw hK hc k pins s σ H E Iv hf st hg;subst hP hw hK;obtain⟨s1,s2,⟨p,q,s3⟩,s4,s5⟩:=st;obtain⟨xs,ys,q1,q2,hlen⟩:=hg;obtain⟨is1,r1,p1⟩:=q7m Iv q1;obtain⟨is2,r2,p2⟩:=q7m Iv q2;have l1:=r1.length;have l2:=r2.length;refine y8i (Iv.ok.hd hc) D s1 s2 s3 s4 s5 p1 p2 (by rcases hlen with h|h;left;simp;omega;right;simp;omega) fun h' k1=>⟨rfl,?_⟩
  have hfp:∀c∈[z,I,O,i,j],FpOk X pins H c:=hf;refine x7u (fp:=[z,I,O,i,j]) (t':=s.toks) Iv (fun c o hc q=>?_) hfp
  simp only[w0h,w1d,or_false,not_or]at hc;exact k1 c o hc.1 hc.2.2.1 hc.2.2.2.1 hc.2.2.2.2 q
 self:=fun _ _ _ _ _ ⟨s1,_⟩ h=>wpAny_pyIter_zip s1 h
end
theorem y15(n a b:Nat)(ha:a<n)(hb:b<n):Apart (n+4) (n+2) (n+3) n (n+1) a b where
 Iz:=by show ¬(n+2:Nat)=n+4;omega
 Oz:=by show ¬(n+3:Nat)=n+4;omega
 iz:=by show ¬(n:Nat)=n+4;omega
 jz:=by show ¬(n+1:Nat)=n+4;omega
 IO:=by show ¬(n+2:Nat)=n+3;omega
 Ii:=by show ¬(n+2:Nat)=n;omega
 Ij:=by show ¬(n+2:Nat)=n+1;omega
 Oi:=by show ¬(n+3:Nat)=n;omega
 Oj:=by show ¬(n+3:Nat)=n+1;omega
 ij:=by show ¬(n:Nat)=n+1;omega
 az:=by show ¬(a:Nat)=n+4;omega
 aO:=by show ¬(a:Nat)=n+3;omega
 ai:=by show ¬(a:Nat)=n;omega
 aj:=by show ¬(a:Nat)=n+1;omega
 bz:=by show ¬(b:Nat)=n+4;omega
 bO:=by show ¬(b:Nat)=n+3;omega
 bi:=by show ¬(b:Nat)=n;omega
 bj:=by show ¬(b:Nat)=n+1;omega
section
variable{a1 a2:Expr}{pt:Pos}
def iZip(K:PySem.W.Frag)(ta:TA):TI:=fun σ H R=>ta σ H fun vs H1=>∃t u a b,vs=[.ref a,.ref b]/\(∃xs,SqG K t H1 a xs)/\(∃ys,SqG K u H1 b ys)/\R (Itz K t u a b) H1
theorem z2j{ta:TA}{p:Pos}(hg:Gl X "zip")(hm:X.mg "zip"=none)(ha:PA X [a1,a2] ta)(hs:starEach [a1,a2] X.env=[(false,eval a1 X.env),(false,eval a2 X.env)]:=by rfl)(hs2:starEach [a2] X.env=[(false,eval a2 X.env)]:=by rfl):
  PI X (.Tuple elts kt pt) (.Call (.Name "zip" p) [a1,a2] [] pos) (iZip X.K ta):=by
 intro pins s σ H R I h;refine PyProof.Rows.Call_ (q4l I hg hm PyProof.Rows.boot_zip (PyProof.Rows.callWith_type1 (thn (ha pos pins s σ H _ I h) fun us s1 ⟨vs,H1,I1,r1,q1⟩=>?_) (by rw[hs,hs2]) (by rw[hs2];rfl)))
 obtain⟨t,u,a,b,e,⟨xs,hx⟩,⟨ys,hy⟩,q⟩:=q1;subst e;cases r1 with
 |cons r rr=>
  cases rr with
  |cons r' rr=>
   cases rr;cases r;cases r';obtain⟨is1,v1,p1⟩:=q7m I1 hx;obtain⟨is2,v2,p2⟩:=q7m I1 hy;obtain⟨oa,ea,_⟩:=p1.obj;obtain⟨ob,eb,_⟩:=p2.obj;have la:=Heap.lt_size ea;have lb:=Heap.lt_size eb;refine y13 p1 p2 fun h' z1 i1 o1 k1 k2 up=>?_
   refine wpAny_pyIter_zip z1 ?_
   have D:Apart (s1.heap.objs.size+4) (s1.heap.objs.size+2) (s1.heap.objs.size+3) s1.heap.objs.size (s1.heap.objs.size+1) a b:=by
    have la':(a:Nat)<s1.heap.objs.size:=la;have lb':(b:Nat)<s1.heap.objs.size:=lb;generalize s1.heap.objs.size=n at la' lb';exact y15 n a b la' lb'
   refine⟨s1.heap.objs.size+4,[s1.heap.objs.size+4,s1.heap.objs.size+2,s1.heap.objs.size+3,s1.heap.objs.size,s1.heap.objs.size+1],_,_,H1,rfl,I1.kept (t':=s1.toks) up,y41 t u a b _ _ _ _ _ D,⟨z1,i1,⟨_,_,o1⟩,k1,k2⟩,fun c hc=>?_,q⟩
   simp only[w0h,w1d,or_false]at hc;rcases hc with rfl|rfl|rfl|rfl|rfl<;>exact I1.fpOk (by omega) (I1.hok.fresh (by omega))
noncomputable def srcZ(dA:Den (List W)):Den (List (W×W)):=fun e=>(dA e).bind fun ws e1=>match ws with
 |[x,y]=>match seqW x,seqW y with
  |some us,some vs=>.ok (us.zip vs) e1
  |_,_=>.no
 |_=>.no
theorem x8w(h:seqW w=some us)(p:Rep K G w v):∃t a xs,v=.ref a/\SqG K t G a xs/\Reps K G us xs:=by
 cases w with
 |tup l=>
  cases h;obtain⟨a,xs,rfl,hq,rp⟩:=p;exact⟨true,a,xs,rfl,hq,rp⟩
 |lst l=>
  cases h;obtain⟨a,xs,rfl,hq,rp⟩:=p;exact⟨false,a,xs,rfl,hq,rp⟩
 |_=>cases h
theorem q15(s:Same G H)(h:SqG K t G a xs):SqG K t H a xs:=by
 cases t with
 |true=>exact s.tup h
 |false=>exact s.seq h
theorem y16{u:Bool}{b:Addr}{vs:List W}{ys:List V}(r1:Reps K G1 us xs)(r2:Reps K G1 vs ys)(h1:SqG K t G1 a xs)(h2:SqG K u G1 b ys):Walk2 K G1 (Itz K t u a b) (us.zip vs):=by
 have l1:=r1.length;have l2:=r2.length;have lz:(us.zip vs).length=min us.length vs.length:=w2q ..;refine⟨fun i G H s s' h=>⟨xs,ys,xs[i]'(by omega),ys[i]'(by omega),q15 s' (q15 s h1),q15 s' (q15 s h2),by simp,by simp⟩,fun i G H x H' s s' hy p q h=>?_,fun i G H s s' h=>⟨xs,ys,q15 s' (q15 s h1),q15 s' (q15 s h2),by omega⟩⟩
 obtain⟨c,x1,y1,rfl,hn,hx1,hy1,rfl⟩:=hy;obtain⟨hu,hv⟩:=w3x.mp h;obtain⟨w1,hw1,pw1⟩:=r1.getV (hx1 xs (q15 s' (q15 s h1)));obtain⟨w2,hw2,pw2⟩:=r2.getV (hy1 ys (q15 s' (q15 s h2)));rw[hu]at hw1;rw[hv]at hw2;cases hw1;cases hw2;exact⟨Grow.hid s' hn _,fun m n σ Q hQ=>⟨c,[x1,y1],rfl,SqT.of q0l,rfl,x1,[y1],rfl,y1,[],rfl,rfl,hQ _ _ (Rep.mono s _ pw1) (Rep.mono s _ pw2)⟩⟩
theorem x59{p:Pos}(hm:X.mg "zip"=none)(ha:DA Z X EE [a1,a2] dA)(hg:Gl X "zip":=by rfl)(hs:starEach [a1,a2] X.env=[(false,eval a1 X.env),(false,eval a2 X.env)]:=by rfl)(hs2:starEach [a2] X.env=[(false,eval a2 X.env)]:=by rfl):
  DI Z X EE (.Tuple elts kt pt) (.Call (.Name "zip" p) [a1,a2] [] pos) (srcZ dA):=by
 refine PI.mono (z2j hg hm ha hs hs2) ?_;rintro σ H RR ⟨G,e,rel,h⟩;simp only[srcZ,R.holds_bind]at h;refine⟨G,e,rel,h.imp (fun ws e1 h G1 vs H1 r1 s1 p1=>?_) fun _ _ h=>h⟩
 split at h
 ·rename_i w1 w2;split at h
  ·rename_i us ws hu hw;obtain⟨y1,r,rfl,q1,y2,r',rfl,q2,q3⟩:=p1;cases(show r'=[]from q3);obtain⟨t,a,xs,rfl,hx,rx⟩:=x8w hu q1;obtain⟨u,b,ys,rfl,hy,ry⟩:=x8w hw q2;exact⟨t,u,a,b,rfl,⟨xs,q15 r1.sub hx⟩,⟨ys,q15 r1.sub hy⟩,h _ _ _ r1 s1 (y16 rx ry hx hy)⟩
  ·exact h.elim
 ·exact h.elim
end
section
variable{e:List S}{vs:List W}
noncomputable def srcZW(e:List S):List W->R (List (W×W))
 |[x,y]=>match seqW x,seqW y with
  |some us,some vs=>.ok (us.zip vs) e
  |_,_=>.no
 |_=>.no
theorem z2k:srcZ dA e=(dA e).bind fun ws e1=>srcZW e1 ws:=by
 unfold srcZ;congr 1
theorem y42:srcZW e [.tup us,.tup vs]=.ok (us.zip vs) e:=rfl
theorem y43:srcZW e [.lst us,.lst vs]=.ok (us.zip vs) e:=rfl
theorem y44:srcZW e [.tup us,.lst vs]=.ok (us.zip vs) e:=rfl
theorem y45:srcZW e [.lst us,.tup vs]=.ok (us.zip vs) e:=rfl
end
section
variable{o a b c:Expr}{dc:Den W}{p3:Pos}
noncomputable def dSet2(i j:Nat)(d:Den W):List S->SR:=fun e=>(d e).stm fun w e1=>match w with
 |.tup [u,v]=>.nx ((e1.set i (.fr u)).set j (.fr v))
 |_=>.no
theorem y8j(i j:Nat)(hN:X.N.Nodup)(hc:X.calm=true)(he:DE Z X EE e d)
  (hi:X.N[i]?=some x:=by rfl)(hx:Loc X.env.scope x:=by walk_at "3")(hf:X.fn x=true\/X.env.scope.names.lookup x=some .local:=by walk_at "2")
  (hj:X.N[j]?=some y:=by rfl)(hy:Loc X.env.scope y:=by walk_at "3")(hf':X.fn y=true\/X.env.scope.names.lookup y=some .local:=by walk_at "2")
  (hn:(assignEach [.Name x p1,.Name y p2] X.env).length=2:=by rfl)(hst:(assignEach [.Name x p1,.Name y p2] X.env).findIdx? (·.1)=none:=by rfl)
  (g1:(assignEach [.Name x p1,.Name y p2] X.env).map (·.2)=assign (.Name x p1) X.env::(assignEach [.Name y p2] X.env).map (·.2):=by rfl)(g2:(assignEach [.Name y p2] X.env).map (·.2)=assign (.Name y p2) X.env::(assignEach [] X.env).map (·.2):=by rfl)
  (hs:swapsWithSole [.Tuple [.Name x p1,.Name y p2] kt p3] e pos.line X.env=pure false:=by rfl)(hw:swappedStores [.Tuple [.Name x p1,.Name y p2] kt p3] e X.env=pure none:=by rfl)
  (h1:(assignEach [.Tuple [.Name x p1,.Name y p2] kt p3] X.env).map (·.2)=[assign (.Tuple [.Name x p1,.Name y p2] kt p3) X.env]:=by rfl):
  DS Z X EE (.Assign [.Tuple [.Name x p1,.Name y p2] kt p3] e pos) (dSet2 i j d):=by
 refine PS.mono (y92 he (x5k hc (q5c (q09 i hN hi hx hf) (q5c (q09 j hN hj hy hf') x2o g2) g1) hn hst) hs hw h1) ?_;rintro D σ H ⟨G,e,rel,h⟩;refine⟨G,e,rel,(q14 h).imp (fun w e1 h G1 v1 H1 r1 q1 p1=>?_) fun _ _ h=>h⟩
 split at h
 ·rename_i u v;obtain⟨c,ys,rfl,hq,y1,z1,rfl,p1,y2,z2,rfl,p2,rfl⟩:=p1;exact⟨c,[y1,y2],rfl,r1.sub.tup hq,rfl,y1,[y2],rfl,y2,[],rfl,rfl,h G1 _ H1 ((r1.set p1).set p2) q1⟩
 ·exact h.elim
end
section
variable{e:List S}
noncomputable def set2K(i j:Nat)(e:List S):W->SR
 |.tup [u,v]=>.nx ((e.set i (.fr u)).set j (.fr v))
 |_=>.no
theorem y8k:dSet2 i j d e=(d e).stm fun w e1=>set2K i j e1 w:=by
 unfold dSet2;congr 1
theorem z2l{u v:W}:set2K i j e (.tup [u,v])=.nx ((e.set i (.fr u)).set j (.fr v)):=rfl
end
noncomputable def insI(x:Int):List Int->List Int
 |[]=>[x]
 |y::ys=>if x<=y then x::y::ys else y::insI x ys
noncomputable def sortI:List Int->List Int
 |[]=>[]
 |x::xs=>insI x (sortI xs)
theorem q85(x:Int):∀l:List Int,(insI x l).Perm (x::l)
 |[]=>.refl _
 |y::ys=>by
  unfold insI;split
  ·exact .refl _
  ·exact((q85 x ys).cons y).trans (.swap x y ys)
theorem q3n:∀l:List Int,(sortI l).Perm l
 |[]=>.refl _
 |x::xs=>(q85 x _).trans ((q3n xs).cons x)
theorem q95{x:Int}:∀{l:List Int},l.Pairwise (·<=·)->(insI x l).Pairwise (·<=·)
 |[],_=>by simp[insI]
 |y::ys,h=>by
  unfold insI;rw[w1r]at h;split
  ·rename_i hxy;refine w1r.mpr ⟨fun z hz=>?_,w1r.mpr h⟩
   rcases w0h.mp hz with rfl|hz
   ·exact hxy
   ·exact Int.le_trans hxy (h.1 z hz)
  ·rename_i hxy;refine w1r.mpr ⟨fun z hz=>?_,q95 h.2⟩
   rcases w0h.mp ((q85 x ys).mem_iff.mp hz)with rfl|hz
   ·omega
   ·exact h.1 z hz
theorem q86:∀l:List Int,(sortI l).Pairwise (·<=·)
 |[]=>.nil
 |x::xs=>q95 (q86 xs)
theorem x4v{l l':List Int}(p:l.Perm l')(h:l.Pairwise (·<=·))(h':l'.Pairwise (·<=·)):l=l':=p.eq_of_pairwise (fun a b _ _ h1 h2=>Int.le_antisymm h1 h2) h h'
theorem x6a:∀{ys:List Int}{its:List Value},Vals (ys.map V.int) its->PyProof.Rows.IntsAre its ys
 |[],its,h=>by cases h;exact .nil
 |y::ys,its,h=>by
  cases h with
  |cons r t=>
   obtain⟨k,rfl⟩:=r;exact .cons y k (x6a t)
theorem x6b:∀{ys:List Int}{its:List Value},PyProof.Rows.IntsAre its ys->Vals (ys.map V.int) its
 |_,_,.nil=>.nil
 |_,_,.cons n t h=>.cons ⟨_,rfl⟩ (x6b h)
theorem x7v:CallR X (.builtin "sorted") (fun xs H Q=>∃p ns,xs=[.ref p]/\SqL X.K H p (ns.map V.int)/\ns.length<64/\∀b,H b=none->Q (.ref b) (upd H b (.lst ((sortI ns).map V.int)))):=by
 intro pins s σ H xs us Q I r h;obtain⟨p,ns,rfl,hq,hn,q⟩:=h;obtain⟨u,rfl,ru⟩:=vals1 r;cases ru;obtain⟨its,rv,pl,hz⟩:=I.list hq;have hlen:=rv.length;rw[w0a]at hlen;refine PyProof.Rows.sorted_ints pl.isList (x6a rv) (by omega) fun out ns' a1 a2 a3=>?_
 have e:ns'=sortI ns:=x4v (a2.trans (q3n ns).symm) a3 (q86 ns);subst e;obtain⟨n,hat⟩:=PyProof.Rows.sortedAll_at s.heap its out;have fr:H (s.heap.objs.size+1)=none:=I.hok.fresh (w3p _);refine⟨.ref (s.heap.objs.size+1),_,I.laid (t':=s.toks) (a:=s.heap.objs.size+1) (o:=.lst ((sortI ns).map V.int)) (fun b ob z=>PyProof.Rows.sortedAll_old z) (w3p _) ?_,rfl,q _ fr⟩
 refine⟨?_,out.toList,n,x6b a1,?_⟩
 ·rw[w0a,(q3n ns).length_eq,sizeLine_eq];omega
 ·rw[hat]
noncomputable def sorted1:List W->Option W
 |[.lst ws]=>match intsW ws with
  |some ns=>if ns.length<64 then some (.lst ((sortI ns).map .int))else none
  |none=>none
 |_=>none
theorem y17:OpN K (fun xs H Q=>∃p ns,xs=[.ref p]/\SqL K H p (ns.map V.int)/\ns.length<64/\∀b,H b=none->Q (.ref b) (upd H b (.lst ((sortI ns).map V.int)))) sorted1:=by
 intro G H xs ws w Q s pr hf h;unfold sorted1 at hf;split at hf
 ·rename_i us;obtain⟨y,r,rfl,py,pr⟩:=pr;cases(show r=[]from pr);split at hf
  ·rename_i ns hns;split at hf
   ·rename_i hl;cases hf;obtain⟨a,cs,rfl,hq,rp⟩:=py;have:=x00 hns rp;subst this;refine⟨a,ns,rfl,s.seq hq,hl,fun b hb=>?_⟩
    exact h _ _ _ (Grow.laid s hb _) ⟨b,_,rfl,SqL.of q0l,q82 _⟩
   ·cases hf
  ·cases hf
 ·cases hf
section
variable{p:Pos}
theorem y18(hc:X.calm=true)(hm:X.mg "sorted"=none)(ha:DA Z X EE [e] dA)(hg:Gl X "sorted":=by rfl)(he:starEach [e] X.env=(false,eval e X.env)::starEach [] X.env:=by rfl)(hpl:(backTo pos (starEach [] X.env)).any (·.1)=false:=by rfl):DE Z X EE (.Call (.Name "sorted" p) [e] [] pos) (dFn sorted1 dA):=
 x1j x7v y17 PyProof.Rows.Boot.«sorted» hm ha hg (by decide) (by decide) he hpl
end
theorem x8x:∀ns:List Int,intsW (ns.map .int)=some ns
 |[]=>rfl
 |n::ns=>by rw[w0n];show(intsW (ns.map .int)).map (n::·)=_;rw[x8x ns];rfl
theorem x6c{ns:List Int}(h:ns.length<64):sorted1 [.lst (ns.map .int)]=some (.lst ((sortI ns).map .int)):=by
 show(match intsW (ns.map .int)with|some ns=>if ns.length<64 then some (W.lst ((sortI ns).map .int))else none|none=>none)=_;rw[x8x];exact if_pos h
end D
namespace L2
open PySem PySem.Spec PyProof.Rows
structure FlyA(outer:List Env)(H H':Hp)(h h':Heap)(e:Addr)(cls:Value)(B:Heap):Prop where
 stay:B.StaysIn h'
 bare:B.get? e=none
 ff:h'.FunFrames B outer
 tr:∃a0 fl,h'.TracedAtW B e cls a0 fl
 old:∀b o,h.get? b=some o->H b=none->b∉frs outer->B.get? b=some o
 trk:∀b u o,H' b=some u->h'.get? b=some o->B.get? b=some o
 all:∀b o,h.get? b=some o->b∈frs outer\/∃o',B.get? b=some o'
 new:h.get? e=none
end L2
namespace D
open PySem L2
variable{e:List S}
noncomputable def compX(c:Den Bool)(d:Den W)(pe:List S):List W->Option (Value ⊕ List W)
 |[]=>some (.inr [])
 |w::ws=>match c (.fr w::pe)with
  |.ok true e1=>match d e1 with
   |.ok y _=>(compX c d pe ws).map (Sum.map id (y::·))
   |.ex k _=>some (.inl k)
   |.no=>none
  |.ok false _=>compX c d pe ws
  |.ex k _=>some (.inl k)
  |.no=>none
noncomputable def compXR(e:List S):Option (Value ⊕ List W)->R (List W)
 |some (.inr out)=>.ok out e
 |some (.inl k)=>.ex k e
 |none=>.no
noncomputable def compKX(js:List Nat)(c:Den Bool)(d:Den W)(ws:List W)(e1:List S):R (List W):=
 if ws.length<=16777216 then compXR (frzs js e1) (compX c d (pjS js (frzs js e1)) ws)else .no
theorem y46{js:List Nat}{cc:Den Bool}{d:Den W}{ws:List W}:compKX js cc d ws e=if ws.length<=16777216 then compXR (frzs js e) (compX cc d (pjS js (frzs js e)) ws)else .no:=rfl
theorem y19{out:List W}:compXR e (some (.inr out))=.ok out e:=rfl
theorem y2a{k:Value}:compXR e (some (.inl k))=.ex k e:=rfl
section
variable{X:Cx}{Z:Zt}{EE:L2.St->XK}{elt iter a b:Expr}{ifs:List Expr}{scope sc:Scope}{pos pt:Pos}{x:Str}{Nf N:List Str}{js:List Nat}{di:Den W}{dA:Den (List W)}{c:Den Bool}{d:Den W}
theorem z2m{ws:List W}{P:List W->List S->Prop}{Ex:Value->List S->Prop}{e1:List S}(h:(compKX js c d ws e1).holds P Ex):ws.length<=16777216/\∃out,compX c d (pjS js (frzs js e1)) ws=some out/\Sum.elim (fun k=>Ex k (frzs js e1)) (fun o=>P o (frzs js e1)) out:=by
 unfold compKX at h;split at h
 ·rename_i hl;cases ho:compX c d (pjS js (frzs js e1)) ws with
  |none=>rw[ho]at h;exact h.elim
  |some out=>rw[ho]at h;exact⟨hl,out,rfl,by cases out<;>exact h⟩
 ·exact h.elim
end
end D
namespace L2
open PySem PySem.Spec PyProof.Rows
variable{A:Around}{prog:Program}{s:Shared}{E:Value->Shared->Prop}{w:World}
def Rise(t:SetTable):Prop:=t.place.toList.Pairwise (·<·)/\t.dummies=#[]
noncomputable def valI:Value->Int
 |.int n _=>n
 |_=>0
structure SetData(prog:Program)(w:World)(es:Array (Int×Value))(t:SetTable)(S:List Int):Prop where
 el:ElemsOf (intKind prog w) es.toList
 sz:es.size<scanBound
 fit:t.fits es.size=true
 rise:Rise t
 led:t.led=!w.params.followText "set-order"
 whole:∀e∈es.toList,∃n k,e.2=Value.int n k
 perm:(es.toList.map fun e=>valI e.2).Perm S
namespace SI
theorem own:Manifest.owners.lookup (String.ofList ['r','o','t','a','r','e','t','i','_','t','e','s'].reverse)=some Manifest.sig_set_iterator:=by kernel_rfl
theorem next:Slot "set_iterator" "__next__" "set_iterator.__next__":=.of (owner:="set_iterator") (n:="__next__") (by rw[typeLookup_type,builtinLookup_eq_fast];kernel_rfl) (by decide +kernel) (by decide +kernel) (by decide +kernel) (by first|exact .inl (by decide +kernel)|exact .inr (by decide +kernel)) (by rw[isSubtype_type];kernel_rfl)
theorem iter:Slot "set_iterator" "__iter__" "set_iterator.__iter__":=.of (owner:="set_iterator") (n:="__iter__") (by rw[typeLookup_type,builtinLookup_eq_fast];kernel_rfl) (by decide +kernel) (by decide +kernel) (by decide +kernel) (by first|exact .inl (by decide +kernel)|exact .inr (by decide +kernel)) (by rw[isSubtype_type];kernel_rfl)
end SI
open PySem PySem.Spec PyProof.Rows
end L2
namespace D
open PySem L2
variable{X:Cx}{dA:Den (List W)}{a e:Expr}{EE:L2.St->XK}{p pos:Pos}{Z:Zt}
theorem y47(hc:X.calm=true):CallR X (.builtin "any") (fun xs H Q=>∃p ys,xs=[.ref p]/\SqL X.K H p ys/\(∀y∈ys,∃b,y=.bl b)/\Q (.bl (ys.any fun y=>decide (y=.bl true))) H):=by
 intro pins s σ H xs us Q I r h;obtain⟨p,ys,rfl,hq,hb,q⟩:=h;obtain⟨u,rfl,rx⟩:=vals1 r;cases rx;obtain⟨its,r',pl,hz⟩:=I.list hq;have hl:=pl.isList;have hlt:p<s.heap.objs.size:=by obtain⟨_,e,_⟩:=hl;exact Heap.lt_size e
 have hh:X.A.in1.handled=none:=I.ok.hd hc;refine call_any_walk (wpAny_pyIter_list hl ⟨s.heap.objs.size,[s.heap.objs.size,p],[s.heap.objs.size],_,_,_,fun i=>decide (ys[i]?=some (.bl true)),rfl,Walks.list hh s.heap.objs.size p (w0r hlt) its.toArray,⟨⟨_,Heap.get?_push_size _ rfl,rfl,rfl⟩,hl.push _⟩,?_,fun h' tk kp=>?_⟩)
 ·intro i v s1 Q1 E1 hv hQ;have hv':its[i]?=some v:=by simpa using hv
  have hi:i<ys.length:=by rw[r'.length];exact(w0d.mp hv').1
  obtain⟨u,hu,ru⟩:=r'.get (w0b hi);rw[hv']at hu;cases hu;obtain⟨b,eb⟩:=hb ys[i] (w2y hi);rw[eb]at ru;cases ru;refine wpAny_truthy_bool ?_
  have e:decide (ys[i]?=some (V.bl true))=b:=by
   rw[w0b hi,eb];cases b<;>simp
  rw[<- e];exact hQ
 ·have e:(List.range its.toArray.size).any (fun i=>decide (ys[i]?=some (V.bl true)))=ys.any fun y=>decide (y=.bl true):=by
   rw[w1k,w1y,w1y];constructor
   ·rintro⟨i,hi,z⟩;rw[w0u,w0c,<- r'.length]at hi;rw[w0b hi]at z;exact⟨ys[i],w2y hi,by simpa using z⟩
   ·rintro⟨y,hy,z⟩;obtain⟨i,hi,rfl⟩:=w4w hy;exact⟨i,by rw[w0u,w0c,<- r'.length];exact hi,by rw[w0b hi];simpa using z⟩
  refine⟨.bl _,H,I.kept (t':=tk) fun b o hbo=>kp b o (fun z=>?_) (Heap.get?_push_of_some _ hbo),rfl,e ▸ q⟩
  rw[w1h]at z;exact absurd (Heap.lt_size hbo) (by rw[z];exact w1z _)
noncomputable def any1:List W->Option W
 |[.lst ws]=>(boolsW ws).map fun bs=>.bl (bs.any id)
 |_=>none
theorem z2n{K:PySem.W.Frag}:OpN K (fun xs H Q=>∃p ys,xs=[.ref p]/\SqL K H p ys/\(∀y∈ys,∃b,y=.bl b)/\Q (.bl (ys.any fun y=>decide (y=.bl true))) H) any1:=by
 intro G H xs ws w Q s pr hf h;unfold any1 at hf;split at hf
 ·obtain⟨bs,hb,rfl⟩:=w0o.mp hf;have:=q7z hb;subst this;obtain⟨x,r,rfl,px,pr⟩:=pr;cases(show r=[]from pr);obtain⟨a,ys,rfl,ha,ra⟩:=px;have:=q70 ra;subst this;refine⟨a,_,rfl,s.seq ha,fun y hy=>?_,h G _ H (.refl s) ?_⟩
  ·obtain⟨b,_,rfl⟩:=w1f.mp hy;exact⟨b,rfl⟩
  ·show V.bl _=V.bl _;congr 1;rw[w5l];congr 1;funext b
   cases b<;>rfl
 ·cases hf
theorem y2b(hc:X.calm=true)(hm:X.mg "any"=none)(ha:DA Z X EE [e] dA)(hg:Gl X "any":=by rfl)(he:starEach [e] X.env=(false,eval e X.env)::starEach [] X.env:=by rfl)(hpl:(backTo pos (starEach [] X.env)).any (·.1)=false:=by rfl):DE Z X EE (.Call (.Name "any" p) [e] [] pos) (dFn any1 dA):=
 x1j (y47 hc) z2n PyProof.Rows.Boot.«any» hm ha hg (by decide) (by decide) he hpl
theorem z4v{bs:List Bool}:any1 [.lst (bs.map .bl)]=some (.bl (bs.any id)):=by
 show(boolsW (bs.map .bl)).map _=_;rw[q83];rfl
def rCat0(K:PySem.W.Frag):R2:=fun x y H Q=>∃a b ys,x=.ref a/\y=.ref b/\SqT K H a []/\SqT K H b ys/\Q (.ref b) H
open PyProof.Rows in
theorem op_cat0:OpR X (binaryOp .Add) (rCat0 X.K):=by
 intro pins s σ H x y v u Q I rx ry h;obtain⟨a,b,ys,rfl,rfl,ha,hb,q⟩:=h;cases rx;cases ry;obtain⟨its,r1,p1,_⟩:=I.tuple ha;obtain⟨its2,r2,p2,_⟩:=I.tuple hb;cases r1;obtain⟨⟨cls,dd,data,sl⟩,ho,hc,n,hd⟩:=id p1;obtain⟨⟨cls2,dd2,data2,sl2⟩,ho2,hc2,n2,hd2⟩:=id p2;simp only at hc hd hc2 hd2;subst hc hd hc2 hd2;exact concat_meets ⟨_,ho,rfl⟩ ⟨_,ho2,rfl⟩ noFill_tuple_add seq_tuple_add PySem.F.slot_tuple_add PySem.F.entry_tuple_add (PySem.F.args_tuple_add_2 _ _) (tuple_addW0 a b _ _ n n2 dd dd2 sl sl2 rfl) ⟨ho,ho2,.ref b,H,I,rfl,q⟩
noncomputable def addX:W->W->Option W
 |.tup xs,.tup ys=>if xs.length+ys.length<=16777216 then some (.tup (xs++ys))else none
 |x,y=>addW x y
theorem y8l{xs ys:List W}:addX (.tup xs) (.tup ys)=if xs.length+ys.length<=16777216 then some (.tup (xs++ys))else none:=rfl
theorem y8m{i j:Int}:addX (.int i) (.int j)=some (.int (i+j)):=rfl
theorem y8n{xs ys:List W}:addX (.lst xs) (.lst ys)=if xs.length+ys.length<=16777216 then some (.lst (xs++ys))else none:=rfl
theorem y8o{x y:Str}:addX (.str x) (.str y)=if x.length+y.length<=16777216 then some (.str (x++y))else none:=rfl
theorem y8p{K:PySem.W.Frag}:Op2 K (fun x y H Q=>rCat0 K x y H Q\/(rI0 (fun i j=>.int (i+j)) x y H Q\/((∃i j,x=.str i/\y=.str j/\i.length+j.length<=sizeLine/\Q (.str (i++j)) H)\/(rCatT K x y H Q\/rCatS K x y H Q)))) addX:=by
 intro G H x y wx wy w Q s px py hf h;unfold addX at hf;split at hf
 ·rename_i xs ys;split at hf
  ·rename_i hl
   by_cases h0:xs=[]
   ·subst h0;cases hf;obtain⟨a,vs,rfl,hq,rp⟩:=px;obtain⟨b,us,rfl,hq2,rp2⟩:=py;cases(show vs=[]from rp);exact .inl ⟨a,b,us,rfl,rfl,s.tup hq,s.tup hq2,h G _ H (.refl s) ⟨b,us,rfl,hq2,rp2⟩⟩
   ·exact .inr (y08 G H x y (.tup xs) (.tup ys) w Q s px py (by show(if xs≠[]/\xs.length+ys.length<=16777216 then some (W.tup (xs++ys))else none)=some w;rw[if_pos ⟨h0,hl⟩];exact hf) h)
  ·cases hf
 ·exact .inr (y08 G H x y _ _ w Q s px py hf h)
section
variable{b:Expr}{da db:Den W}
theorem q0v(ha:DE Z X EE a da)(hb:DE Z X EE b db):DE Z X EE (.BinOp a .Add b pos) (dOp addX da db):=q9q (op_cat0.or (op_add.or (op_add_str.or (op_catT.or y63)))) y8p ha hb
end
open PySem L2 PySem.Spec PyProof.Rows
end D
namespace L2
open PySem PySem.Spec PyProof.Rows
section
variable{X:Cx}{pins:List (Addr×Obj)}{σ:St}{H:Hp}{s:Shared}{a:Addr}{o:Obj}{kvs:List (Key×V)}
theorem Inv.swapAt{u u':HO}(I:Inv X pins σ H s)(e:H a=some u)(ht:¬TupLike u)(hb:∀ps,u≠.tbl ps)(hf:∀o v,X.H₀ a≠some (.frz o v))(hw:∀x,u≠.own x)(ok:HOk X.prog X.w H s.heap->ObjOk X.prog X.w (upd H a u') s.heap a u'):Inv X pins σ (upd H a u') s:=by
 have up:∀b,H b=none->upd H a u' b=none:=fun b n=>by
  rw[q0c (fun z=>by subst z;rw[e]at n;cases n)];exact n
 refine⟨I.ok,I.os,I.bare,⟨I.base.keep,I.base.slot,fun b ob q n hx=>up b (I.base.free b ob q n hx),I.base.there,fun b xs q=>?_,fun b ob v q=>?_,fun b ps q=>?_⟩,I.loc,I.cell,up _ I.free,fun x c q=>up c (I.freeC x c q),fun p hp=>?_,fun b v q=>?_,I.len⟩
 ·have z:=I.base.tups b xs q
  by_cases hb':b=a
  ·subst hb';rw[e]at z;exact absurd (show TupLike u by rw[Option.some.inj z];exact True.intro) ht
  ·rw[q0c hb'];exact z
 ·by_cases hb':b=a
  ·subst hb';exact absurd q (hf ob v)
  ·rw[q0c hb'];exact I.base.frzs b ob v q
 ·obtain⟨more,z⟩:=I.base.tbls b ps q
  by_cases hb':b=a
  ·subst hb';rw[e]at z;exact absurd (Option.some.inj z) (hb _)
  ·exact⟨more,by rw[q0c hb'];exact z⟩
 ·obtain⟨q1,q2,q3⟩:=I.pin p hp;exact⟨q1,up _ q2,q3⟩
 ·by_cases hb':b=a
  ·subst hb';rw[q0l]at q;cases q;exact ok I.hok
  ·rw[q0c hb']at q;refine(I.hok b v q).stay (fun _ _ _ z=>z) (fun c z=>?_) fun c xs tl z=>?_
   ·rw[q0c (fun y=>by subst y;rw[e]at z;exact hw _ (Option.some.inj z))];exact z
   ·rw[q0c (fun y=>by subst y;rw[e]at z;exact ht ((Option.some.inj z) ▸ tl))];exact z
end
section
variable{X:Cx}{pins:List (Addr×Obj)}{σ:St}{H:Hp}{s:Shared}{a:Addr}{o:Obj}{xs:List V}
theorem Inv.freezeL(I:Inv X pins σ H s)(e:H a=some (.lst xs))(q:s.heap.get? a=some o):Inv X pins σ (upd H a (.frz o (.lst xs))) s:=
 I.swapAt e (fun z=>z) (fun _ z=>nomatch z) (fun ob v z=>by have:=I.base.frzs a ob v z;rw[e]at this;cases this) (fun _ z=>nomatch z) fun ok=>⟨q,(ok a _ e).stay (fun _ _ _ z=>z) (fun c z=>by rw[q0c (q06 z e (fun y=>nomatch y))];exact z) fun c xs tl z=>by rw[q0c (q06 z e (fun y=>by subst y;exact tl))];exact z⟩
theorem Inv.meltL(I:Inv X pins σ H s)(e:H a=some (.frz o (.lst xs)))(hf:∀o v,X.H₀ a≠some (.frz o v)):Inv X pins σ (upd H a (.lst xs)) s:=
 I.swapAt e (fun z=>z) (fun _ z=>nomatch z) hf (fun _ z=>nomatch z) fun ok=>(ok a _ e).2.stay (fun _ _ _ z=>z) (fun c z=>by rw[q0c (q06 z e (fun y=>nomatch y))];exact z) fun c xs tl z=>by rw[q0c (q06 z e (fun y=>by subst y;exact tl))];exact z
end
end L2
namespace D
open PySem L2 PySem.Spec PyProof.Rows
open PyProof.Rows (envOfC)
end D
namespace L2
open PySem PySem.Spec PyProof.Rows
end L2
namespace D
open PySem L2 PySem.Spec PyProof.Rows
end D
namespace L2
open PySem PySem.Spec PyProof.Rows
end L2
namespace D
open PySem L2 PySem.Spec PyProof.Rows
open Classical
variable{a:Addr}{X:Cx}{e:Expr}{EE:L2.St->XK}{pos:Pos}{K:PySem.W.Frag}{x:Str}{Z:Zt}
mutual
noncomputable def kxW:W->Option Kx
 |.non=>some .non
 |.bl b=>some (.bl b)
 |.int i=>some (.int i)
 |.str x=>some (.str x)
 |.tup ws=>(kxWs ws).map .tup
 |_=>none
noncomputable def kxWs:List W->Option (List Kx)
 |[]=>some []
 |w::ws=>match kxW w,kxWs ws with
  |some k,some ks=>some (k::ks)
  |_,_=>none
end
noncomputable def keyT:W->Option Kx
 |.tup ws=>(kxWs ws).map .tup
 |_=>none
def fits(k:Kx)(sh:Sh):Prop:=Conf k sh/\k.depth<=7
noncomputable def lkW:List Kx->List W->Kx->Option W
 |k::ks,w::ws,x=>if k=x then some w else lkW ks ws x
 |_,_,_=>none
noncomputable def inT(w d:W):Option W:=match keyT w,d with
 |some k,.dw _ sh ks ws=>if fits k sh then some (.bl (lkW ks ws k).isSome)else none
 |_,_=>none
noncomputable def tupAt(K:PySem.W.Frag)(a:Addr):Bool:=match K.lookup a with
 |some o=>(match o.cls with
  |.type n=>n=="tuple"
  |_=>false)
 |none=>false
noncomputable def dropT(K:PySem.W.Frag):PySem.W.Frag:=K.filter fun p=>!tupAt K p.1
theorem q7c{q:Addr->Bool}:∀{K:PySem.W.Frag}{o:Obj},(K.filter fun p=>q p.1).lookup a=some o->K.lookup a=some o/\q a=true
 |[],_,h=>by cases h
 |(b,u)::K,o,h=>by
  by_cases hq:q b=true
  ·rw[w3d (p:=fun p:Addr×Obj=>q p.1) (a:=(b,u)) hq]at h
   by_cases e:a=b
   ·subst e;rw[show List.lookup a ((a,u)::(K.filter fun p=>q p.1))=some u by simp[List.lookup]]at h
    refine⟨?_,hq⟩;rw[<- h];simp[List.lookup]
   ·rw[show List.lookup a ((b,u)::(K.filter fun p=>q p.1))=List.lookup a (K.filter fun p=>q p.1) by simp only[List.lookup];rw[beq_eq_false_iff_ne.mpr e]]at h
    obtain⟨h1,h2⟩:=q7c h;refine⟨?_,h2⟩;rw[<- h1];simp only[List.lookup];rw[beq_eq_false_iff_ne.mpr e]
  ·rw[w4c (p:=fun p:Addr×Obj=>q p.1) (a:=(b,u)) hq]at h
   obtain⟨h1,h2⟩:=q7c h;have e:a≠b:=fun z=>hq (by rw[<- z];exact h2)
   refine⟨?_,h2⟩;rw[<- h1];simp only[List.lookup];rw[beq_eq_false_iff_ne.mpr e]
theorem y48{h:Heap}(X:K.In h):(dropT K).In h:=fun a o e=>X a o (q7c (q:=fun a=>!tupAt K a) e).1
theorem q0h{o:Obj}(h:K.lookup a=some o)(t:tupAt K a=false):(dropT K).lookup a=some o:=by
 have gen:∀(l:PySem.W.Frag)(q:Addr->Bool),q a=true->l.lookup a=some o->(l.filter fun p=>q p.1).lookup a=some o:=by
  intro l q hq
  induction l with
  |nil=>intro h;cases h
  |cons p l ih=>
   obtain⟨b,u⟩:=p;intro h
   by_cases e:a=b
   ·subst e;rw[w3d (p:=fun p:Addr×Obj=>q p.1) (a:=(a,u)) hq]
    rw[show List.lookup a ((a,u)::l)=some u by simp[List.lookup]]at h;rw[<- h];simp[List.lookup]
   ·rw[show List.lookup a ((b,u)::l)=List.lookup a l by simp only[List.lookup];rw[beq_eq_false_iff_ne.mpr e]]at h
    by_cases hb:q b=true
    ·rw[w3d (p:=fun p:Addr×Obj=>q p.1) (a:=(b,u)) hb,<- ih h]
     simp only[List.lookup];rw[beq_eq_false_iff_ne.mpr e]
    ·rw[w4c (p:=fun p:Addr×Obj=>q p.1) (a:=(b,u)) hb]
     exact ih h
 exact gen K (fun a=>!tupAt K a) (by rw[t];rfl) h
theorem q0g{r:Option Value}(h:PySem.W.nsIn K a x=some r)(t:tupAt K a=false):PySem.W.nsIn (dropT K) a x=some r:=by
 unfold PySem.W.nsIn at h |-
 cases q:K.lookup a with
 |none=>rw[q]at h;cases h
 |some o=>rw[q0h q t];rw[q]at h;exact h
noncomputable def tupAtV(K:PySem.W.Frag):Value->Bool
 |.ref a=>tupAt K a
 |_=>false
theorem q0k{cd:Value}(h:PySem.W.codeIn K cd x=true)(t:tupAtV K cd=false):PySem.W.codeIn (dropT K) cd x=true:=by
 cases cd with
 |ref a=>
  unfold PySem.W.codeIn at h |-
  dsimp only at h |-
  cases q:K.lookup a with
  |none=>rw[q]at h;cases h
  |some o=>rw[q0h q t];rw[q]at h;exact h
 |_=>cases h
noncomputable def funAt(K:PySem.W.Frag)(a:Addr):Bool:=!tupAt K a&&(match K.lookup a with
 |some ⟨_,_,.func _,_⟩=>true
 |_=>false)
noncomputable def lk{κ:Type} [DecidableEq κ](kvs:List (κ×Sv))(x:κ):Option Sv:=(kvs.find? fun p=>decide (p.1=x)).map (·.2)
end D
namespace L2
open PySem PySem.Spec PyProof.Rows
theorem y2c{P:Program}{w:World}{K:PySem.W.Frag}{mg mb:Str->Option Value}{CX:CXT}{k:Nat}{fa a:Addr}{fd:FuncData}{x:Str}{sp:Sp}{s₁:Shared}{vs:List Value}{ns:List Int}{tabs:List (Addr×Str)}
  (KX:K.In s₁.heap)(hns:s₁.heap.Ns mainGlobals mg)(hb:s₁.heap.Ns builtinsNs mb)(hbb:∀x:Str,x≠"__name__"->mb x=bootBuiltins x)(hlim:s₁.heap.NoLimit)(hg:s₁.gens=#[])
  (ha:s₁.heap.get? a=some {cls:=.type "list", data:=.seq vs.toArray})(hi:IntsAre vs ns)(hl:ns.length<=sizeLine)(hr:Room k callerA)
  (F:∀base:Heap,K.In base->base.Ns mainGlobals mg->BMain base mg->FnOk P w K mg base CX k fa fd [x] sp)(hbind:∀(s:Shared)(u:Value),BindsTo s fd ⟨[u],[]⟩ [(x,u)])
  (hsp:∀H:Hp,SqL K H a (ns.map V.int)->sp [.ref a] H (fun v _=>v=.bl true) fun _ _ _=>False)
  (hCX:∀H e s',CX [] H s₁ (fun _ _ _=>False) e s'->False)
  (hBM:BMain s₁.heap mg)(hM:∀a q P,(a,markO P q)∈K->tabs.lookup P=some q)(hT:∀P q,tabs.lookup P=some q->s₁.heap.get? P=some (tabObj #[])/\isCodeTable s₁.heap P)(hKT:∀P q,tabs.lookup P=some q->K.lookup P=none):
  codeAny (model P w) callerA (.call (.ref fa) ⟨[.ref a],[]⟩) (fun r s'=>r=.ok (.ret (.bool true))/\OldK s₁.heap s'.heap/\s'.os=s₁.os/\AllBare s'.gens) s₁:=by
 have rv:=q8x hi;have lenV:=hi.length
 have aT:tabs.lookup a=none:=by
  cases q:tabs.lookup a with
  |none=>rfl
  |some t=>rw[(hT a t q).1]at ha;cases ha
 have core:∀H0:Hp,(∀b,H0 b=none\/∃o xs,H0 b=some (.frz o (.lst xs)))->SqL K H0 a (ns.map V.int)->HOk P w H0 s₁.heap->(∀b,H0 b≠none->b=a)->(H0 a≠none->K.lookup a=none) ->
   codeAny (model P w) callerA (.call (.ref fa) ⟨[.ref a],[]⟩) (fun r s'=>r=.ok (.ret (.bool true))/\OldK s₁.heap s'.heap/\s'.os=s₁.os/\AllBare s'.gens) s₁:=by
  intro H0 hO hS0 hok0 hA hK;obtain⟨H,hH⟩:∃H:Hp,H=fun b=>match tabs.lookup b with|some q=>some (.tbl #[.bool true,.str q 0])|none=>H0 b:=⟨_,rfl⟩
  have inT:∀b q,tabs.lookup b=some q->H b=some (.tbl #[.bool true,.str q 0]):=fun b q z=>by rw[hH];simp only[z]
  have outT:∀b,tabs.lookup b=none->H b=H0 b:=fun b z=>by rw[hH];simp only[z]
  have up:∀b u,H0 b=some u->H b=some u:=fun b u z=>by
   have:b=a:=hA b (by rw[z];simp);subst this;rw[outT b aT];exact z
  have hS:SqL K H a (ns.map V.int):=by
   rcases hS0 with(z|⟨o,z⟩)|z
   ·exact .inl (.inl (up _ _ z))
   ·exact .inl (.inr ⟨o,up _ _ z⟩)
   ·exact .inr z
  have hok:HOk P w H s₁.heap:=fun b u z=>by
   cases q:tabs.lookup b with
   |some t=>
    rw[inT b t q]at z;cases z;exact .inl ⟨t,#[],rfl,rfl,(hT b t q).1,trivial,fun pos cv z=>by cases z⟩
   |none=>
    rw[outT b q]at z;exact(hok0 b u z).stay (fun c v _ q=>q) (fun c q=>up c _ q) fun c v _ q=>up c v q
  have base_of:∀{b:Addr}{o:Obj},s₁.heap.get? b=some o->H b=none->(hidT s₁.heap H).get? b=some o:=fun e n=>x5g e n
  have free:∀{b:Addr}{o:Obj},s₁.heap.get? b=some o->o≠{cls:=.type "list", data:=.seq vs.toArray}->o≠tabObj #[]->H b=none:=fun {b o} e d1 d2=>by
   cases q:tabs.lookup b with
   |some t=>rw[(hT b t q).1]at e;cases e;exact absurd rfl d2
   |none=>
    rw[outT b q];cases q0:H0 b with
    |none=>rfl
    |some u=>
     have e':b=a:=hA b (by rw[q0];simp);subst e';rw[ha]at e;cases e;exact absurd rfl d1
  have nsK:∀{b:Addr}{m:Str->Option Value},s₁.heap.Ns b m->(hidT s₁.heap H).Ns b m:=fun {b m} ⟨o,es,ep,e,d,r⟩=>⟨o,es,ep,base_of e (free e (fun z=>by rw[z]at d;cases d) fun z=>by rw[z]at d;cases d),d,r⟩
  have hKb:K.In (hidT s₁.heap H):=fun b o e=>base_of (KX b o e) (by
   cases q:tabs.lookup b with
   |some t=>rw[hKT b t q]at e;cases e
   |none=>
    rw[outT b q];cases q0:H0 b with
    |none=>rfl
    |some u=>
     have e':b=a:=hA b (by rw[q0];simp);subst e';rw[hK (by rw[q0];simp)]at e;cases e)
  have hBb:BMain (hidT s₁.heap H) mg:=by
   obtain⟨bm,ob,b1,b2,b3,b4,b5,b6⟩:=hBM;exact⟨bm,ob,b1,b2,base_of b3 (free b3 (fun z=>by rw[z]at b4;simp at b4) fun z=>by rw[z]at b4;cases b4),b4,b5,b6⟩
  have hMd:Mod K mg (hidT s₁.heap H):=⟨hKb,nsK hns,⟨mb,nsK hb,hbb⟩,let ⟨mc,h1,h2⟩:=hlim;⟨mc,nsK h1,h2⟩⟩;have e0:Env0 P w K mg (hidT s₁.heap H) callerA [] s₁ H:=⟨rfl,hMd,fun b o e=>x8k e,Nat.le_of_eq (x3k _ _),trivial,fun b hb=>absurd (show b∈([]:List Addr)from hb) (by simp),hok,.of_eq hg,fun a q P m=>⟨_,inT P q (hM a q P m),rfl,rfl⟩⟩
  refine codeAny_mono ((F _ hKb (nsK hns) hBb).run callerA [] s₁ H ⟨[.ref a],[]⟩ [.ref a] [.ref a] _ _ hr e0 (hbind s₁ (.ref a)) (.cons rfl .nil) (hsp H hS)) fun r s' h=>?_
  cases r with
  |error e=>exact(hCX H e s' h).elim
  |ok fl=>
   cases fl with
   |next=>exact False.elim h
   |brk=>exact False.elim h
   |cont=>exact False.elim h
   |ret u=>
    obtain⟨v,H',os,bare,un,hok',r',q⟩:=h;have q':v=.bl true:=q;subst q';obtain rfl:u=Value.bool true:=r'
    have kp:∀b o,tabs.lookup b=none->s₁.heap.get? b=some o->s'.heap.get? b=some o:=fun b o z e=>by
     cases q:H b with
     |none=>exact un.keep b o e q (by intro z;exact absurd (show b∈([]:List Addr)from z) (by simp)) (by simp)
     |some u=>
      have q0:=q;rw[outT b z]at q0;rcases hO b with z|⟨ob,xs,z⟩
      ·rw[q0]at z;cases z
      ·rw[q0]at z;cases z;have z2:=un.frzs b ob _ q;obtain⟨e1,_⟩:=(show s₁.heap.get? b=some ob/\_ from hok b _ q);obtain⟨e2,_⟩:=(show s'.heap.get? b=some ob/\_ from hok' b _ z2);rw[e]at e1;cases e1;exact e2
    have gr:∀b t,tabs.lookup b=some t->∃qs,s'.heap.get? b=some (tabObj qs):=fun b t z=>by
     obtain⟨more,e⟩:=un.tbls b _ (inT b t z);have o1:ObjOk P w H' s'.heap b (.tbl (#[.bool true,.str t 0]++more)):=hok' b _ e;rcases o1 with⟨_,qs,_,_,g,_⟩|⟨_,_,_,_,_,_,p0,_⟩
     ·exact⟨qs,g⟩
     ·rw[w1o (by simp)]at p0;cases p0
    refine⟨rfl,⟨fun b o e=>?_,fun b o e=>?_⟩,os,bare⟩
    ·cases z:tabs.lookup b with
     |none=>exact .inl (kp b o z e)
     |some t=>
      obtain⟨qs,g⟩:=gr b t z;obtain⟨g1,g2⟩:=hT b t z;rw[e]at g1;cases g1;exact .inr (.inl ⟨g2,rfl,#[],qs,rfl,by rw[Array.empty_append];exact g⟩)
    ·cases z:tabs.lookup b with
     |none=>exact⟨o,kp b o z e⟩
     |some t=>
      obtain⟨qs,g⟩:=gr b t z;exact⟨_,g⟩
 cases hk:K.lookup a with
 |some o=>
  have e:=KX a o hk;rw[ha]at e;cases e;refine core (fun _=>none) (fun _=>.inl rfl) (.inr ⟨_,vs.toArray,_,hk,rfl,rfl,rfl,by rw[w0c,lenV];exact hl,by simpa using rv⟩) (fun b u z=>by have z':(none:Option HO)=some u:=z;cases z') (fun b z=>absurd rfl z) fun z=>absurd rfl z
 |none=>
  refine core (fun b=>if b=a then some (.frz {cls:=.type "list", data:=.seq vs.toArray} (.lst (ns.map V.int)))else none) (fun b=>?_) (.inl (.inr ⟨{cls:=.type "list", data:=.seq vs.toArray},if_pos rfl⟩)) (fun b u z=>?_) (fun b z=>?_) fun _=>hk
  ·by_cases hb:b=a
   ·exact .inr ⟨_,_,if_pos hb⟩
   ·exact .inl (if_neg hb)
  ·by_cases hb:b=a
   ·have z':=(if_pos hb).symm.trans z;cases z';subst hb;exact⟨ha,by rw[w0a];exact hl,vs,_,rv,ha⟩
   ·have z':=(if_neg hb).symm.trans z;cases z'
  ·by_cases hb:b=a
   ·exact hb
   ·exact absurd (if_neg hb) z
end L2
namespace D
open PySem L2
variable{X:Cx}{dA:Den (List W)}{e:Expr}{G H:Hp}{EE:L2.St->XK}{es:List Expr}{N ps:List Str}{k:Nat}{r:Nat->List W->FR}{p pos:Pos}{K:PySem.W.Frag}{x:Str}{Z:Zt}
mutual
noncomputable def noFn:W->Bool
 |.tup ws=>noFns ws
 |.lst ws=>noFns ws
 |.dw _ _ _ ws=>noFns ws
 |.fn _ _ _=>false
 |.non=>true
 |.bl _=>true
 |.int _=>true
 |.str _=>true
 |.exc _=>true
 |.dic _=>true
noncomputable def noFns:List W->Bool
 |[]=>true
 |w::ws=>noFn w&&noFns ws
end
section
variable{cs:Cs}
theorem Rd.rm{a:Addr}{u:HO}(c:CelsIn G cs)(h:Rd G a u)(n:∀o,u≠celO o)(n2:∀φ,u≠.ext φ):Rd (rmC G cs) a u:=by
 rcases h with h|⟨o,h⟩
 ·exact .inl (c.rm_some h n)
 ·exact .inr ⟨o,c.rm_some h fun o' z=>by cases z;exact n2 _ rfl⟩
theorem KeysG.rm(c:CelsIn G cs):∀{ks:List Kx}{bs:List Addr},KeysG G ks bs->KeysG (rmC G cs) ks bs
 |[],[],_=>trivial
 |k::ks,b::bs,h=>⟨KRep.keeps (fun _ _ t z=>c.rm_some z (q92 t)) k h.1,KeysG.rm c h.2⟩
 |[],_::_,h=>h.elim
 |_::_,[],h=>h.elim
theorem KeysS.rm{sh:Sh}(c:CelsIn G cs){ks:List Kx}{bs:List Addr}(h:KeysS sh G ks bs):KeysS sh (rmC G cs) ks bs:=by
 unfold KeysS at h |-
 split at h
 ·rename_i hi;rw[if_pos hi];exact h
 ·rename_i hi;rw[if_neg hi];exact h.rm c
mutual
theorem Rep.rm(c:CelsIn G cs):∀(w:W){v:V},noFn w=true->Rep K G w v->Rep K (rmC G cs) w v
 |.non,v,_,h=>h
 |.bl b,v,_,h=>h
 |.int i,v,_,h=>h
 |.str x,v,_,h=>h
 |.tup ws,v,n,h=>by
  obtain⟨a,xs,rfl,q,r⟩:=h;refine⟨a,xs,rfl,?_,Reps.rm c ws n r⟩;rcases q with q|q
  ·exact .inl (Rd.rm c q (fun o z=>nomatch z) fun φ z=>nomatch z)
  ·exact .inr q
 |.lst ws,v,n,h=>by
  obtain⟨a,xs,rfl,q,r⟩:=h;refine⟨a,xs,rfl,?_,Reps.rm c ws n r⟩;rcases q with q|q
  ·exact .inl (Rd.rm c q (fun o z=>nomatch z) fun φ z=>nomatch z)
  ·exact .inr q
 |.exc e,v,_,h=>by
  obtain⟨a,rfl,q⟩:=h;exact⟨a,rfl,c.rm_some q fun o z=>by unfold excO at z;cases z⟩
 |.dic kvs,v,_,h=>by
  obtain⟨a,rfl,q⟩:=h;exact⟨a,rfl,c.rm_some q fun o z=>by cases kvs;cases z⟩
 |.dw fz sh ks ws,v,n,h=>by
  obtain⟨a,kvs,kas,rfl,h1,h2,h3,h4⟩:=h;refine⟨a,kvs,kas,rfl,?_,h2,KeysS.rm c h3,Reps.rm c ws n h4⟩;cases fz with
  |true=>obtain⟨o,h1⟩:=h1;exact⟨o,c.rm_some h1 fun o z=>by injection z with _ z;exact q7k rfl z⟩
  |false=>exact c.rm_some h1 fun o z=>q7k rfl z
 |.fn _ _ _,v,n,_=>by cases n
theorem Reps.rm(c:CelsIn G cs):∀(ws:List W){xs:List V},noFns ws=true->Reps K G ws xs->Reps K (rmC G cs) ws xs
 |[],xs,_,h=>h
 |w::ws,xs,n,h=>by
  obtain⟨x,r,rfl,h1,h2⟩:=h
  have n':noFn w=true/\noFns ws=true:=by
   have:(noFn w&&noFns ws)=true:=n
   rwa [w0j]at this
  exact⟨x,r,rfl,Rep.rm c w n'.1 h1,Reps.rm c ws n'.2 h2⟩
end
end
section
variable{G' H':Hp}{cs:Cs}
theorem x6d(h:∀b o,cs.lookup b=some o->H b=none):Same H (addC H cs):=fun b u e=>by
 cases q:cs.lookup b with
 |some o=>rw[h b o q]at e;cases e
 |none=>rw[q0w q];exact e
theorem q87(h:Same G H):Same (addC G cs) (addC H cs):=fun b u e=>by
 cases q:cs.lookup b with
 |some o=>rw[q4d q]at e |-;exact e
 |none=>rw[q0w q]at e |-;exact h b u e
theorem x6e(h:Same G H):Same (rmC G cs) (rmC H cs):=fun b u e=>by
 obtain⟨e1,e2⟩:=y56 e;rw[q18 e2];exact h b u e1
theorem Grow.lam(ch:CelsIn H cs)(cg:CelsIn G cs)(e1:Same (rmC H cs) H')(e2:Same (rmC G cs) G')(e3:Same G' H')(e4:∀a,rmC H cs a≠none->G' a=rmC G cs a):Grow G H (addC G' cs) (addC H' cs) where
 hh:=fun b u e=>by
  cases q:cs.lookup b with
  |some o=>rw[q4d q];rw[ch b o q]at e;exact e
  |none=>rw[q0w q];exact e1 b u (by rw[q18 q];exact e)
 gg:=fun b u e=>by
  cases q:cs.lookup b with
  |some o=>rw[q4d q];rw[cg b o q]at e;exact e
  |none=>rw[q0w q];exact e2 b u (by rw[q18 q];exact e)
 sub:=q87 e3
 new:=fun a ha=>by
  cases q:cs.lookup a with
  |some o=>rw[q4d q,cg a o q]
  |none=>
   rw[q0w q,e4 a (by rw[q18 q];exact ha),q18 q]
theorem Grow.nocells(g:Grow (addC G cs) (addC H cs) G' H')(hn:∀b o,cs.lookup b=some o->H b=none)(sg:Same G H):Grow G H (rmC G' cs) (rmC H' cs) where
 hh:=fun b u e=>by
  cases q:cs.lookup b with
  |some o=>rw[hn b o q]at e;cases e
  |none=>rw[q18 q];exact g.hh b u (by rw[q0w q];exact e)
 gg:=fun b u e=>by
  cases q:cs.lookup b with
  |some o=>have:=sg b u e;rw[hn b o q]at this;cases this
  |none=>rw[q18 q];exact g.gg b u (by rw[q0w q];exact e)
 sub:=x6e g.sub
 new:=fun a ha=>by
  cases q:cs.lookup a with
  |some o=>exact absurd (hn a o q) ha
  |none=>rw[q18 q,g.new a (by rw[q0w q];exact ha),q0w q]
end
noncomputable def exprFR:R W->FR
 |.ok w _=>.ok (.fr w)
 |.ex c _=>.ex c
 |.no=>.no
def spV(K:PySem.W.Frag)(lams:Nat->Option Lm)(r:Nat->List W->FR):V->List V->Hp->VK->XK->Prop:=fun x vs H Q _=>∃G i l caps ws w,Same G H/\Rep K G (.fn i l caps) x/\Reps K G ws vs/\noFns ws=true/\noFns caps=true/\lams i=some l /\
 r i (ws++caps)=.ok (.fr w)/\∀G' H' v,Grow G H G' H'->Rep K G' w v->Q v H'
structure LamOk(P:Program)(w:World)(K:PySem.W.Frag)(mg:Str->Option Value)(base:Heap)(n:Nat)(l:Lm)(ps:List Str)(F:List W->FR):Prop where
 sc:LamScope ps l.nf l.scope
 bind:∀(cl:List (Str×Addr))(pm:Value)(c':Addr)(ctv:Value)(us:List Value),us.length=ps.length->bindArgs (kla_fn "<lambda>" l.qual l.params l.body l.scope cl pm (.ref c') ctv) ⟨us,[]⟩=pure (ps.zip us)
 len:∀ws,F ws≠.no->ws.length=ps.length+l.nf.length
 body:∀ws,F ws≠.no->∀(Z:Zt)(f:Addr)(cd:Value)(cl:List (Str×Addr))(A:Around)(outer:List Env)(s:Shared)(H:Hp),Room n (A.deeper (lamEnv l.qual l.scope f cd cl s)) ->
  ∃d,DE Z (cxLam P w K mg base (ps++l.nf) l.qual l.scope f cd cl A outer s H) (fun _=>E0) l.body d/\exprFR (d (ws.map .fr))=F ws
theorem z2o{P:Program}{w:World}{mg:Str->Option Value}{base:Heap}{n:Nat}{lams:Nat->Option Lm}(h:∀i l,lams i=some l->∃ps,LamOk P w K mg base n l ps (r i)):
  FnV P w K mg base (CX1 P w) (n+1) (spV K lams r):=by
 rintro x vs H Q E ⟨G,i,l,caps,ws,w',sg,rf,rv,nw,nc,hl,hr,q⟩;obtain⟨ps,L⟩:=h i l hl;obtain⟨f,cl,zs,cs,rfl,⟨pm,c',ctv,ef⟩,FC,rz⟩:=rf;have hn:r i (ws++caps)≠.no:=by rw[hr];exact fun z=>nomatch z
 have hlen:=L.len _ hn;have hz:zs.length=l.nf.length:=FC.len;have hcl:caps.length=l.nf.length:=by rw[<- rz.length];exact hz
 have hwl:ws.length=ps.length:=by rw[w0q,hcl]at hlen;omega
 have hvl:vs.length=ps.length:=by rw[rv.length];exact hwl
 have cg:CelsIn G cs:=fun b o e=>(FC.cel b o e).1
 have ch:CelsIn H cs:=fun b o e=>sg _ _ (cg b o e)
 refine⟨f,_,_,_,_,_,rfl,sg _ _ ef,fun A outer s us hR e0 ru=>?_⟩
 have hul:us.length=ps.length:=by rw[<- ru.length];exact hvl
 have FC2:LamCells cl l.nf l.scope zs s.heap cs:=⟨FC.inj,FC.has,FC.all,fun c o e=>⟨(show s.heap.get? c=some o/\_ from e0.hok c _ (ch c o e)).1,(FC.cel c o e).2⟩,FC.val⟩
 obtain⟨d,hd,he⟩:=L.body _ hn ⟨rmC H cs,rmC G cs,[]⟩ f (.ref c') cl A outer s (rmC H cs) (hR.deeper _);refine y6w hR e0 (sg _ _ ef) L.sc ch FC2 (L.bind cl pm c' ctv us hul) hvl hz ru hd ?_;have sg':Same (rmC G cs) (rmC H cs):=x6e sg;have rr:Reps K (rmC G cs) (ws++caps) (vs++zs):=(Reps.rm cg ws nw rv).append (Reps.rm cg caps nc rz);have rel:=q7x (N:=ps++l.nf) sg' rr
 have e1:L2.start (ps++l.nf) (vs++zs)=vs.map some++zs.map some:=by
  unfold L2.start;rw[show(ps++l.nf).length-(vs++zs).length=0 by simp[hvl,hz],w4y,w1n,w1l]
 have e2:init (ps++l.nf).length (ws++caps)=(ws++caps).map .fr:=by
  unfold init;rw[show(ps++l.nf).length-(ws++caps).length=0 by simp[hwl,hcl],w4y,w1n]
 rw[e1,e2]at rel;refine⟨rmC G cs,_,rel,?_⟩;cases hde:d ((ws++caps).map .fr)with
 |ok w2 e'=>
  rw[hde,hr]at he;cases he;intro G' v H' r' sG rp hnone
  have hn':∀b o,cs.lookup b=some o->G' b=none:=fun b o z=>by
   cases q2:G' b with
   |none=>rfl
   |some u=>have:=r'.sub b u q2;rw[hnone b o z]at this;cases this
  exact q (addC G' cs) (addC H' cs) v (Grow.lam ch cg (fun b u e=>r'.ent b u e (fun z=>nomatch z)) sG r'.sub r'.gen) (Rep.mono (x6d hn') _ rp)
 |ex c e'=>rw[hde,hr]at he;cases he
 |no=>rw[hde,hr]at he;cases he
section
variable{lams:Nat->Option Lm}
open Classical in
noncomputable def callVK(lams:Nat->Option Lm)(r:Nat->List W->FR)(j:Nat)(l:Lm)(caps:List W)(ws:List W)(e1:List S):R W:=
 if lams j=some l/\noFns ws=true/\noFns caps=true then(match r j (ws++caps)with
  |.ok (.fr w)=>.ok w e1
  |_=>.no)else .no
noncomputable def callV0(lams:Nat->Option Lm)(r:Nat->List W->FR)(dA:Den (List W))(e:List S):Option S->R W
 |some (.fr (.fn j l caps))=>(dA e).bind fun ws e1=>callVK lams r j l caps ws e1
 |_=>.no
end
noncomputable def capsOf:List Nat->List S->Option (List W)
 |[],_=>some []
 |j::js,e=>match e[j]? with
  |some (.fr w)=>(capsOf js e).map (w::·)
  |_=>none
theorem x34{σ:L2.St}{e:List S}(r:Rel K Z G σ H e):∀{js:List Nat}{caps:List W},capsOf js e=some caps->∃zs:List V,Reps K G caps zs/\zs.length=js.length/\∀(i j:Nat) z,js[i]?=some j->zs[i]?=some z->σ[j]?=some (some z)
 |[],caps,h=>by
  cases h;exact⟨[],rfl,rfl,fun i j z h _=>by simp at h⟩
 |j::js,caps,h=>by
  unfold capsOf at h;split at h
  ·rename_i w hw;obtain⟨cs,h1,rfl⟩:=w0o.mp h;obtain⟨zs,r1,r2,r3⟩:=x34 r h1;obtain⟨v,v1,v2⟩:=r.fr hw;refine⟨v::zs,⟨v,zs,rfl,v2,r1⟩,by simp[r2],fun i j' z g1 g2=>?_⟩
   cases i with
   |zero=>
    simp only[w0m,Option.some.injEq]at g1 g2;subst g1;subst g2;exact v1
   |succ i=>exact r3 i j' z (by simpa using g1) (by simpa using g2)
  ·cases h
noncomputable def keyOf:W->Option Key
 |.int i=>some (.inl i)
 |.str x=>some (.inr x)
 |_=>none
noncomputable def noE:Expr:=.Name "" ⟨0,0,0,0⟩
noncomputable def stAt(i:Nat)(st:Stmt):Stmt:=(defBody st).getD i (.Pass ⟨0,0,0,0⟩)
noncomputable def stVal:Stmt->Expr
 |.Assign _ v _=>v
 |.Return (some v) _=>v
 |.For _ it _ _ _=>it
 |.Expr v _=>v
 |_=>noE
noncomputable def lamParams:Expr->Arguments
 |.Lambda p _ _ _=>p
 |_=>default
noncomputable def lamBody:Expr->Expr
 |.Lambda _ b _ _=>b
 |_=>noE
noncomputable def lamScope:Expr->Scope
 |.Lambda _ _ s _=>s
 |_=>default
def MakK(K:PySem.W.Frag)(x:Str)(cdv:Value):Prop:=∃c P a,cdv=.ref c/\codeHdIn K c P=true/\(a,markO P ((x++".<locals>.")++"<lambda>"))∈K
section
variable{P:Program}{w:World}{mg:Str->Option Value}{base:Heap}
theorem z4w{CX:CXT}{scope:Scope}{f:Addr}{cdv:Value}{A:Around}{outer:List Env}{s:Shared}{E:XK}(h:MakK K x cdv)(b:BMain base mg):Maker (cxOf CX P w K mg base N x scope f cdv A outer s H E):=by
 obtain⟨c,P,a,rfl,h1,h2⟩:=h;exact⟨⟨c,P,a,rfl,h1,h2⟩,b⟩
theorem conM{st:Stmt}{F:List W->FR}(A:At K mg x st ps)(hm:∀f oc od fd sl,mg x=some (.ref f)->K.lookup f=some ⟨oc,od,.func fd,sl⟩->MakK K x fd.code)(sc:FnScope N ps (defScope st))(len:∀ws,F ws≠.no->ws.length=ps.length)
  (hb:∀ws,F ws≠.no->∀(f:Addr)(cdv:Value)(A:Around)(outer:List Env)(s:Shared)(H:Hp)(E:XK)(Z:Zt),Room k (A.deeper (PyProof.Rows.envOfC x (defScope st) s.heap.objs.size f cdv))->MakK K x cdv ->
   ∃d,DSs Z (cxOf (CX1 P w) P w K mg base N x (defScope st) f cdv A outer s H E) (fun _=>E) (defBody st) d/\(d (init N.length ws)).fn=F ws):Cal P w K mg base (k+1) x ps (spF K F):=by
 obtain⟨f,fd,F0,m,b⟩:=A.ex;have kp:=F0.kp;obtain⟨oc,od,kV,doc,pm,an,cdv,ct,osl,rfl,lk,hcd⟩:=F0.ex;have hk:MakK K x cdv:=hm f _ _ _ _ m lk;refine⟨f,_,y53 lk hcd sc (fun vs H Q E h=>?_) (fun A outer s H vs Q E hr h=>?_),m,kp,b⟩
 ·obtain⟨G,ws,hn,r⟩:=x1o h;rw[r.length];exact len ws hn
 ·obtain⟨G,ws,sg,rp,h⟩:=h;have hn:F ws≠.no:=fun z=>by rw[z]at h;exact h
  obtain⟨d,hd,he⟩:=hb ws hn f cdv A outer s H E ⟨H,G,[]⟩ hr hk;exact⟨_,hd,G,init N.length ws,q7x sg rp,x2r he h⟩
theorem fnV0{lams:Nat->Option Lm}(h:∀i ws,r i ws=.no:=by intro _ _;rfl):FnV P w K mg base (CX1 P w) 0 (spV K lams r):=by
 rintro x vs H Q E ⟨G,i,l,caps,ws,w',sg,rf,rv,nw,nc,hl,hr,q⟩;rw[h]at hr;cases hr
end
noncomputable def markT(K:PySem.W.Frag)(tabs:List (Addr×Str)):PySem.W.Frag:=K++tabs.map fun p=>(mainGlobals,markO p.1 p.2)
section
variable{tabs:List (Addr×Str)}{a:Addr}{o:Obj}
theorem q0p(h:K.lookup a=some o):(markT K tabs).lookup a=some o:=by
 unfold markT;rw[w5i,h];rfl
theorem x8y(hG:(K.lookup mainGlobals).isSome=true):(markT K tabs).lookup a=K.lookup a:=by
 unfold markT;rw[w5i];cases q:K.lookup a with
 |some o=>rfl
 |none=>
  have ne:a≠mainGlobals:=fun z=>by rw[<- z,q]at hG;cases hG
  have:∀l:List (Addr×Str),(l.map fun p=>(mainGlobals,markO p.1 p.2)).lookup a=none:=fun l=>by
   induction l with
   |nil=>rfl
   |cons p l ih=>rw[w0n,w0z,beq_eq_false_iff_ne.mpr ne];exact ih
  rw[this];rfl
theorem in_m{h:Heap}(hG:(K.lookup mainGlobals).isSome=true)(X:K.In h):(markT K tabs).In h:=fun b u e=>X b u (by rw[<- x8y (tabs:=tabs) hG];exact e)
theorem ns_m{r:Option Value}(h:PySem.W.nsIn K a x=some r):PySem.W.nsIn (markT K tabs) a x=some r:=by
 unfold PySem.W.nsIn at h |-
 cases q:K.lookup a with
 |none=>rw[q]at h;cases h
 |some o=>rw[q0p q];rw[q]at h;exact h
theorem q0r{cd:Value}(h:PySem.W.codeIn K cd x=true):PySem.W.codeIn (markT K tabs) cd x=true:=by
 cases cd with
 |ref a=>
  unfold PySem.W.codeIn at h |-
  dsimp only at h |-
  cases q:K.lookup a with
  |none=>rw[q]at h;cases h
  |some o=>rw[q0p q];rw[q]at h;exact h
 |_=>cases h
theorem q0s(t:funAt K a=true):keepIn (markT (dropT K) tabs) (.ref a)=true:=by
 have h:=t;unfold funAt at t
 rw[w0j]at t;obtain⟨t1,t2⟩:=t;have t1:tupAt K a=false:=by simpa using t1
 unfold keepIn;dsimp only;split at t2
 ·rename_i q;rw[q0p (q0h q t1)]
 ·cases t2
theorem x94(h:noMark K=true)(hd:tabs.all (fun p=>tabs.lookup p.1==some p.2)=true):∀a q P,(a,markO P q)∈markT K tabs->tabs.lookup P=some q:=fun a q P m=>by
 rcases w2e.mp m with m|m
 ·have:=w0t.mp h _ m;cases this
 ·obtain⟨p,hp,e⟩:=w1f.mp m;have e1:markO p.1 p.2=markO P q:=(Prod.mk.inj e).2;have e2:p.2=q:=by injection e1 with h1;injection h1
  have e3:p.1=P:=by
   injection e1 with _ _ h3
   injection h3 with h4
   have:=congrArg (fun a:Array Value=>a[0]?) h4
   simpa using this
  have:=w0t.mp hd p hp;rw[<- e2,<- e3]
  simpa using this
theorem x7w(h:noMark K=true):noMark (dropT K)=true:=w0t.mpr fun p hp=>w0t.mp h p (w0s.mp hp).1
theorem tabs_none(hG:(K.lookup mainGlobals).isSome=true)(h:tabs.all (fun p=>(K.lookup p.1).isNone)=true):∀P q,tabs.lookup P=some q->(markT K tabs).lookup P=none:=fun P q e=>by
 rw[x8y hG];have:=w0t.mp h _ (mem_look e)
 simpa using this
where
 mem_look:∀{l:List (Addr×Str)}{P:Addr}{q:Str},l.lookup P=some q->(P,q)∈l
 |[],_,_,e=>by cases e
 |(b,t)::l,P,q,e=>by
  rw[w0z]at e
  by_cases hb:(P==b)=true
  ·rw[hb]at e;cases e;rw[eq_of_beq hb];exact .head _
  ·rw[w1i.mpr hb]at e;exact .tail _ (mem_look e)
theorem y8q{h:Heap}(X:K.In h)(hT:∀P∈tabs.map (·.1),h.get? P=some (tabObj #[]))(hc:∀p∈tabs,∃c,codeHdIn K c p.1=true):∀P q,tabs.lookup P=some q->h.get? P=some (tabObj #[])/\isCodeTable h P:=fun P q e=>by
 have m:=tabs_none.mem_look e;obtain⟨c,hc⟩:=hc _ m;have g:=hT P (w1f.mpr ⟨_,m,rfl⟩);exact⟨g,((PySem.W.codeHd_of_K X hc).tab g).isCodeTable⟩
end
section
variable{e:List S}{ws caps:List W}{lams:Nat->Option Lm}{d:Den W}{i j:Nat}{l:Lm}{w:W}{F:List W->FR}{js:List Nat}
theorem y2d:callV0 lams r dA e (some (.fr (.fn j l caps)))=(dA e).bind fun ws e1=>callVK lams r j l caps ws e1:=rfl
theorem y49:capsOf [] e=some []:=rfl
end
end D
namespace L2
open PySem PySem.Spec PyProof.Rows
end L2
namespace D
open PySem L2
end D
namespace L2
open PySem PySem.Spec PyProof.Rows
end L2
namespace D
open PySem L2
end D
namespace L2
open PySem PySem.Spec PyProof.Rows
namespace RevT
end RevT
open PySem PySem.Spec PyProof.Rows
variable{A:Around}{X:Cx}{k:Nat}{prog:Program}{s:Shared}{sp:V->List V->Hp->VK->XK->Prop}{E:Value->Shared->Prop}{w:World}
theorem q88(a v:Value):argsOk "list.sort" ⟨[a],[(Str.ofString "key", v)]⟩:=by unfold argsOk;kernel_rfl
theorem x1y(a v:Value):argsOk "sorted" ⟨[a],[(Str.ofString "key", v)]⟩:=by unfold argsOk;kernel_rfl
noncomputable def keyStep(a:Addr)(f ks x:Value)(items:Array Value):Sem (ForInStep PUnit):=do
 match <- (call f [x]).attempt with
 |.ok k=>do
  Builtin.List.listUpdate ks (·.push k)
  pure (ForInStep.yield PUnit.unit)
 |.error e=>do
  rule "list.sort.key-raised"
  let made <- Builtin.List.listItems ks
  Builtin.List.listUpdate ks fun _=>#[]
  letGo made.toList.reverse [e]
  Builtin.List.listUpdate (.ref a) fun _=>items
  throw e
theorem x4w(a f:Addr):Builtin.«list.sort» ⟨[.ref a],[(Str.ofString "key", .ref f)]⟩=(do
  let items <- Builtin.List.listItems (.ref a)
  Builtin.List.listUpdate (.ref a) fun _=>#[]
  let before <- seqEpoch a
  let held <- newTuple items.toList
  let keyStore <- newList []
  holding [held,keyStore] do
   rule "list.sort.key"
   let _ <- forIn items PUnit.unit fun x (_:PUnit)=>keyStep a (.ref f) keyStore x items
   let keys <- Builtin.List.listItems keyStore
   let kind <- if items.size<2 then pure general' else keyKind' keys
   let ((),s) <- (if items.size<2 then pure ()else sortRuns').run (SortSt.mk' kind (keys.zip items) #[] 7 none)
   let sorted:=(arrOf s).map (·.2)
   Builtin.List.listUpdate keyStore fun _=>#[]
   letGo ((arrOf s).map (·.1)).toList (failedOf s).toList
   let touched:=(<- seqEpoch a) != before
   Builtin.List.listUpdate (.ref a) fun _=>sorted
   if let some e:=failedOf s then rule "list.sort.comparison-raised";throw e
   if touched then rule "list.sort.modified";raiseError "ValueError" "list modified during sort"
   ret .none):=by
 first|rfl|(fail "not by rfl")
theorem y8r{pins:List (Addr×Obj)}{σ:St}{H:Hp}{f:Addr}{us:List Value}{vs:List V}{cs:Cs}{Q:VK}
  (F:FnV X.prog X.w X.K X.mg X.base (CX1 X.prog X.w) k sp)(hr:Room k A)(hA:A.frames=X.A.frames)(I:Inv X pins σ H s)(hc:∀b o,cs.lookup b=some o->H b=none/\s.heap.get? b=some o)
  (hv:∀b o,cs.lookup b=some o->b∉frs X.stack)(hn:∀b o,cs.lookup b=some o->X.base.get? b=none)(r:Vals vs us)
  (h:sp (.ref f) vs (addC H cs) (fun v H'=>Q v (rmC H' cs)) fun _ _ _=>False):
  wpAny (model X.prog X.w) A (call (.ref f) us) (fun u s'=>(∀b o,cs.lookup b=some o->s'.heap.get? b=some o)/\EP X pins σ (fun v H'=>(∀b o,cs.lookup b=some o->H' b=none)/\Q v H') u s') E s:=by
 have e0:=I.env0
 have out:∀b,H b=none->(∀o,cs.lookup b≠some o)->addC H cs b=none:=fun b n z=>by
  cases q:cs.lookup b with
  |some o=>exact absurd q (z o)
  |none=>rw[q0w q];exact n
 have e1:Env0 X.prog X.w X.K X.mg X.base A X.stack s (addC H cs):=by
  refine⟨hA.trans e0.frames,e0.mod,fun b o q=>⟨(e0.bs b o q).1,out b (e0.bs b o q).2 fun o' z=>?_⟩,e0.bsz,e0.funs,fun b hb=>out b (e0.frf b hb) fun o z=>?_,e0.hok.add hc,e0.bare,fun a q P m=>?_⟩
  ·rw[hn b o' z]at q;cases q
  ·exact hv b o z hb
  ·obtain⟨ps,e,p⟩:=e0.tab a q P m;refine⟨ps,?_,p⟩;cases z:cs.lookup P with
   |some o=>rw[(hc P o z).1]at e;cases e
   |none=>rw[q0w z];exact e
 obtain⟨f',oc,od,fd,sl,u,ex,ef,run⟩:=F _ _ _ _ _ h;cases ex;refine wpAny_call (codeAny_mono (run A X.stack s us hr e1 r) fun r s' hq=>?_)
 cases r with
 |error e=>
  obtain⟨_,_,_,_,_,_,_,_,_,_,hE⟩:=hq;exact hE.elim
 |ok fl=>
  cases fl with
  |ret u=>
   obtain⟨v,H',os,bare,un,hok,rv,q⟩:=hq;have CI:CelsIn H' cs:=fun b o z=>un.frzs b o _ (q4d z)
   exact⟨fun b o z=>(show s'.heap.get? b=some o/\_ from hok b _ (CI b o z)).1,I.after ⟨v,rmC H' cs,os,bare,un.nocells hok hc,hok.rm CI,rv,fun b o z=>q6g z,q⟩⟩
  |next=>exact False.elim hq
  |brk=>exact False.elim hq
  |cont=>exact False.elim hq
def CelsAt(cs:Cs)(H:Hp)(h:Heap):Prop:=∀b o,cs.lookup b=some o->H b=none/\h.get? b=some o
end L2
namespace D
open PySem L2
variable{X:Cx}{dA:Den (List W)}{EE:L2.St->XK}{pos:Pos}{K:PySem.W.Frag}{x:Str}{O:Type}{Z:Zt}
theorem Grow.write{G H G' H':Hp}{a:Addr}{o:HO}(g:Grow G H G' H')(hn:H a=none)(hg:G' a=none):Grow G H G' (upd H' a o) where
 hh:=fun b u e=>by rw[q0c (q0q e hn)];exact g.hh b u e
 gg:=g.gg
 sub:=fun b u e=>by rw[q0c (q0q e hg)];exact g.sub b u e
 new:=g.new
noncomputable def kwAt(i:Nat):Expr->Expr
 |.Call _ _ ks _=>match ks[i]? with
  |some k=>k.value
  |none=>noE
 |_=>noE
end D
namespace L2
open PySem PySem.Spec PyProof.Rows
noncomputable def bestU(o:Option (Int×Int))(i n:Int):Option (Int×Int):=match o with
 |none=>some (i,n)
 |some (b,m)=>if n<m then some (i,n)else some (b,m)
def minT(sp:V->List V->Hp->VK->XK->Prop)(f:V)(cs:Cs)(K:PySem.W.Frag)(p:Addr)(xs:List V)(Q:VK):List Int->Option (Int×Int)->Hp->Prop
 |[],o,H=>∃b m,o=some (b,m)/\Q (.int b) H
 |i::is,o,H=>sp f [.int i] (addC H cs) (fun v H'=>∃n,v=.int n/\SqL K (rmC H' cs) p xs/\minT sp f cs K p xs Q is (bestU o i n) (rmC H' cs)) fun _ _ _=>False
def BestIs(best:Array Value):Option (Int×Int)->Prop
 |none=>best=#[]
 |some (b,m)=>∃t u,best=#[.int b t,.int m u]
section
variable{X:Cx}{A:Around}{k:Nat}{sp:V->List V->Hp->VK->XK->Prop}{pins:List (Addr×Obj)}{σ:St}{f I S p:Addr}{cs:Cs}{Q:VK}{is0:List Int}
theorem x6f(F:FnV X.prog X.w X.K X.mg X.base (CX1 X.prog X.w) k sp)(hr:Room k A.in1)(hA:A.in1.frames=X.A.frames)(hh:A.in1.handled=none)(hv:∀b o,cs.lookup b=some o->b∉frs X.stack)(hn:∀b o,cs.lookup b=some o->X.base.get? b=none)
  (hIS:S≠I)(hpI:p≠I)(hcI:∀b o,cs.lookup b=some o->b≠I/\b≠S):∀(is:List Int)(j:Nat)(o:Option (Int×Int))(best:Array Value)(c:Nat)(s:Shared)(H:Hp),is0.drop j=is->j<=is0.length->Inv X pins σ H s->FpOk X pins H I->FpOk X pins H S->SqL X.K H p (is0.map V.int)->s.heap.IsListIter I p j ->
   s.heap.get? S=some (seqObj "list" best c)->BestIs best o->CelsAt cs H s.heap->minT sp (.ref f) cs X.K p (is0.map V.int) Q is o H ->
   codeAny (model X.prog X.w) A (.builtin "min.loop" ⟨[.ref I,.ref f,.ref S],[]⟩) (fun r s'=>match r with|.ok (.ret v)=>EP X pins σ Q v s'|.ok _=>False|.error e=>X.xe e s') s
 |[],j,o,best,c,s,H,hd,hj,In,fI,fS,hq,hit,hS,hb,hc,h=>by
  have hjl:j=is0.length:=by
   have:=congrArg List.length hd;rw[w2k,w2f]at this;omega
  obtain⟨its,rI,pl,hz⟩:=In.list hq;have hil:its.length=is0.length:=by rw[<- rI.length,w0a]
  obtain⟨b,m,rfl,q⟩:=h;obtain⟨t,u,rfl⟩:=hb;have W:=Walks.list (prog:=X.prog) (w:=X.w) (A:=A.in1) hh I p hpI its.toArray;refine codeAny_builtin PySem.F.entry_min_loop ?_;rw[Around.under_plainId PySem.F.plain_min_loop _];show wpAny _ A.in1 (seqItems? (.ref S) >>= _) _ _ _;refine wpAny_bind (wpAny_seqItems hS rfl ?_);show wpAny _ A.in1 (tryCatch (pyNext (.ref I)) _ >>= _) _ _ _;refine wpAny_bind (wpAny_tryCatch (W.done _ _ _ ⟨by rw[w0c,hil,<- hjl];exact hit,pl.isList⟩ fun h' tk' hk'=>?_))
  have I1:=In.turned (t':=tk') (it:=I) (h':=h') (fun b o z e=>hk' b o (by simpa using z) e) fI.1 fI.2.1 fI.2.2.2.1 fI.2.2.2.2.1 fI.2.2.2.2.2
  have hS':=hk' S _ (by simpa using hIS) hS;show wpAny _ A.in1 (updateSeq S (fun _=>#[]) >>= _) _ _ _
  refine wpAny_bind (wpAny_updateSeq hS' rfl (wpAny_bind (wpAny_letGo (wpAny_pure ?_))));have I2:=I1.turned (t':=tk') (it:=S) (h':=h'.update S (Obj.mapSeq fun _=>#[])) (fun b o z e=>(Heap.get?_update_other _ _ (Ne.symm z)).trans e) fS.1 fS.2.1 fS.2.2.2.1 fS.2.2.2.2.1 fS.2.2.2.2.2
  exact⟨.int b,H,I2,⟨t,rfl⟩,q⟩
 |i::is,j,o,best,c,s,H,hd,hj,In,fI,fS,hq,hit,hS,hb,hc,h=>by
  have hname:(toString "min"++toString ".loop":String)="min.loop":=by decide
  have hlt:j<is0.length:=by
   have:=congrArg List.length hd;rw[w2k,w0p]at this;omega
  have hij:is0[j]?=some i:=by
   have:=congrArg List.head? hd;rw[List.head?_drop]at this
   simpa using this
  have hd':is0.drop (j+1)=is:=by
   rw[<- List.drop_drop,hd];rfl
  obtain⟨its,rI,pl,hz⟩:=In.list hq;have hil:its.length=is0.length:=by rw[<- rI.length,w0a]
  have W:=Walks.list (prog:=X.prog) (w:=X.w) (A:=A.in1) hh I p hpI its.toArray;refine codeAny_builtin PySem.F.entry_min_loop ?_;rw[Around.under_plainId PySem.F.plain_min_loop _];show wpAny _ A.in1 (seqItems? (.ref S) >>= _) _ _ _;refine wpAny_bind (wpAny_seqItems hS rfl ?_);show wpAny _ A.in1 (tryCatch (pyNext (.ref I)) _ >>= _) _ _ _;refine wpAny_bind (wpAny_tryCatch (W.item j _ _ _ (by rw[w0c,hil];exact hlt) ⟨hit,pl.isList⟩ fun v h' tk' hP hst' hk'=>?_))
  have hv0:its[j]?=some v:=by simpa using hP
  obtain⟨t,rfl⟩:∃t,v=.int i t:=by
   obtain⟨u,hu,ru⟩:=rI.get (i:=j) (x:=V.int i) (by rw[w0w,hij];rfl);rw[hv0]at hu;cases hu;exact ru
  have I1:=In.turned (t':=tk') (it:=I) (h':=h') (fun b o z e=>hk' b o (by simpa using z) e) fI.1 fI.2.1 fI.2.2.2.1 fI.2.2.2.2.1 fI.2.2.2.2.2
  have hS':=hk' S _ (by simpa using hIS) hS;obtain⟨oI',hoI',hoc,hod⟩:=id hst'.1;have dI:∀v,oI'.data≠.cell v:=fun v z=>by rw[hod]at z;cases z
  have dS:∀v,(seqObj "list" best c).data≠.cell v:=fun v z=>nomatch z
  have I2:=I1.pins_of (pins':=(I,oI')::(S,seqObj "list" best c)::pins) fun q hq=>by
   rcases w0h.mp hq with rfl|hq
   ·exact⟨hoI',fI.1,fI.2.1,fI.2.2.1,dI⟩
   ·rcases w0h.mp hq with rfl|hq
    ·exact⟨hS',fS.1,fS.2.1,fS.2.2.1,dS⟩
    ·exact I1.pin q (w0i _ hq)
  have hc1:CelsAt cs H h':=fun b o z=>⟨(hc b o z).1,hk' b o (by simpa using (hcI b o z).1) (hc b o z).2⟩
  have tail:∀(u:Value)(s2:Shared)(n:Int)(H2:Hp),Inv X ((I,oI')::(S,seqObj "list" best c)::pins) σ H2 s2->(∃t2,u=.int n t2)->(∀b o,cs.lookup b=some o->s2.heap.get? b=some o)->(∀b o,cs.lookup b=some o->H2 b=none)->SqL X.K H2 p (is0.map V.int) ->
    minT sp (.ref f) cs X.K p (is0.map V.int) Q is (bestU o i n) H2->∀(best':Array Value)(c':Nat)(s3:Shared),BestIs best' (bestU o i n)->s3.os=s2.os->s3.gens=s2.gens->s3.drawn=s2.drawn->(∀b o,b≠S->s2.heap.get? b=some o->s3.heap.get? b=some o)->s3.heap.get? S=some (seqObj "list" best' c') ->
    s3={s2 with heap:=s3.heap,toks:=s3.toks} ->
    codeAny (model X.prog X.w) A (.builtin "min.loop" ⟨[.ref I,.ref f,.ref S],[]⟩) (fun r s'=>match r with|.ok (.ret v)=>EP X pins σ Q v s'|.ok _=>False|.error e=>X.xe e s') s3:=by
   intro u s2 n H2 I3 hu hcs hcn hsq hm best' c' s3 hb' _ _ _ hk3 hS3 es3;have pI:=I3.pin (I,oI') (w0i _ w0k);have pS:=I3.pin (S,seqObj "list" best c) (w0i _ (w0g _ w0k));have I4:Inv X pins σ H2 s2:=I3.pins_of fun q hq=>I3.pin q (w0i _ (w0g _ (w0g _ hq)))
   have fI2:FpOk X pins H2 I:=⟨pI.2.1,fI.2⟩;have fS2:FpOk X pins H2 S:=⟨pS.2.1,fS.2⟩;have I5:=I4.turned (t':=s3.toks) (it:=S) (h':=s3.heap) hk3 fS2.1 fS2.2.1 fS2.2.2.2.1 fS2.2.2.2.2.1 fS2.2.2.2.2.2;rw[<- es3]at I5;exact x6f F hr hA hh hv hn hIS hpI hcI is (j+1) _ best' c' s3 H2 hd' hlt I5 fI2 fS2 hsq ⟨oI',hk3 I _ (Ne.symm hIS) pI.1,hoc,hod⟩ hS3 hb' (fun b o z=>⟨hcn b o z,hk3 b o (hcI b o z).2 (hcs b o z)⟩) hm
  show wpAny _ A.in1 (tryCatch (holding [.int i t] (call (.ref f) [.int i t])) _ >>= _) _ _ _;refine wpAny_bind (wpAny_tryCatch (wpAny_holding (wpAny_mono (y8r (cs:=cs) (Q:=fun v H'=>∃n,v=.int n/\SqL X.K H' p (is0.map V.int)/\minT sp (.ref f) cs X.K p (is0.map V.int) Q is (bestU o i n) H') F hr hA I2 hc1 hv hn (vs:=[.int i]) (.cons ⟨t,rfl⟩ .nil) h) (fun w s2 hq2=>?_) (fun _ _ z=>z))))
  obtain⟨g1,v,H2,I3,rv,g2,n,rfl,e1,e2⟩:=hq2;obtain⟨t2,rfl⟩:=(show ∃t2,w=Value.int n t2 from rv);have pS:=(I3.pin (S,seqObj "list" best c) (w0i _ (w0g _ w0k))).1;cases o with
  |none=>
   cases(show best=#[]from hb);obtain⟨c2,hc2⟩:∃c2,(s2.heap.update S (Obj.mapSeq fun _=>#[.int i t,.int n t2])).get? S=some (seqObj "list" #[.int i t,.int n t2] c2):=⟨_,get?_update_seq pS fun _=>#[.int i t,.int n t2]⟩
   show wpAny _ A.in1 (updateSeq S (fun _=>#[.int i t,.int n t2]) >>= _) _ _ _
   refine wpAny_bind (wpAny_updateSeq pS rfl ?_);rw[hname];exact wpAny_pure ⟨plainId_quiet PySem.F.plain_min_loop _,tail _ s2 n H2 I3 ⟨t2,rfl⟩ g1 g2 e1 e2 _ c2 _ ⟨t,t2,rfl⟩ rfl rfl rfl (fun b o z e=>(Heap.get?_update_other _ _ (Ne.symm z)).trans e) hc2 rfl⟩
  |some bm=>
   obtain⟨b,m⟩:=bm;obtain⟨tb,tm,rfl⟩:=(show ∃t u,best=#[.int b t,.int m u]from hb);show wpAny _ A.in1 (tryCatch (holding [.int i t,.int n t2] (richCompare .Lt (.int n t2) (.int m tm) >>= _)) _ >>= _) _ _ _;refine wpAny_bind (wpAny_tryCatch (wpAny_holding (wpAny_bind (CmpOf.ints_lt (prog:=X.prog) (w:=X.w) (A:=A.in1) (P:=fun z v=>∃t,v=.int (if z=0 then n else m) t) (fun z=>if z=0 then n else m) (fun i v h=>h) 0 1 _ _ _ _ _ ⟨t2,rfl⟩ ⟨tm,rfl⟩ ?_))))
   refine wpAny_bind (wpAny_holding (wpAny_truthy_bool ?_));refine wpAny_bind (wpAny_letGo (wpAny_pure ?_))
   by_cases hb':n<m
   ·obtain⟨c2,hc2⟩:∃c2,(s2.heap.update S (Obj.mapSeq fun _=>#[.int i t,.int n t2])).get? S=some (seqObj "list" #[.int i t,.int n t2] c2):=⟨_,get?_update_seq pS fun _=>#[.int i t,.int n t2]⟩
    rw[if_pos (show decide ((if(0:Nat)=0 then n else m)<(if(1:Nat)=0 then n else m))=true by simp[hb'])];refine wpAny_bind (wpAny_updateSeq pS rfl (wpAny_bind (wpAny_letGo ?_)));rw[hname];exact wpAny_pure ⟨plainId_quiet PySem.F.plain_min_loop _,tail _ s2 n H2 I3 ⟨t2,rfl⟩ g1 g2 e1 e2 _ c2 _ (by unfold bestU;simp only[if_pos hb'];exact⟨t,t2,rfl⟩) rfl rfl rfl (fun b o z e=>(Heap.get?_update_other _ _ (Ne.symm z)).trans e) hc2 rfl⟩
   ·rw[if_neg (show ¬decide ((if(0:Nat)=0 then n else m)<(if(1:Nat)=0 then n else m))=true by simp[hb'])];refine wpAny_bind (wpAny_letGo ?_);rw[hname];exact wpAny_pure ⟨plainId_quiet PySem.F.plain_min_loop _,tail _ s2 n H2 I3 ⟨t2,rfl⟩ g1 g2 e1 e2 _ c s2 (by unfold bestU;simp only[if_neg hb'];exact⟨tb,tm,rfl⟩) rfl rfl rfl (fun b o _ e=>e) pS rfl⟩
theorem y2e{s:Shared}{H:Hp}(F:FnV X.prog X.w X.K X.mg X.base (CX1 X.prog X.w) k sp)(hr:Room (k+1) X.A)(hcalm:X.calm=true)(hv:∀b o,cs.lookup b=some o->b∉frs X.stack)(hn:∀b o,cs.lookup b=some o->X.base.get? b=none)
  (In:Inv X pins σ H s)(hc:CelsAt cs H s.heap)(hq:SqL X.K H p (is0.map V.int))(h:minT sp (.ref f) cs X.K p (is0.map V.int) Q is0 none H):
  wpAny (model X.prog X.w) X.A (call (.builtin "min") [.ref p] [(Str.ofString "key", .ref f)]) (EP X pins σ Q) X.xe s:=by
 have hname:(toString "min"++toString ".loop":String)="min.loop":=by decide
 obtain⟨its,rI,pl,hz⟩:=In.list hq;have hl:=pl.isList;have hlt:p<s.heap.objs.size:=by obtain⟨_,e,_⟩:=hl;exact Heap.lt_size e
 refine kmk_tree PySem.F.kind_min PySem.F.plain_min PySem.F.entry_min (kmk_min_key _ _) ?_;show wpAny _ X.A.in1 (Builtin.Builtins.bindParams "min" ["key", "default"] 0 ⟨[],[(Str.ofString "key", .ref f)]⟩ >>= _) _ _ s;refine wpAny_bind (wpAny_of_eq (show Builtin.Builtins.bindParams "min" ["key", "default"] 0 ⟨[],[(Str.ofString "key", .ref f)]⟩=pure [some (.ref f),none]from rfl) ?_);refine wpAny_bind (wpAny_pure ?_);refine wpAny_bind (wpAny_pyIter_list hl ?_);refine wpAny_bind (wpAny_newList ?_ (w1b _));rw[hname];have hS:(s.heap.push {cls:=.type "list_iterator", data:=.fields #[.ref p,.int 0 0]}).objs.size=s.heap.objs.size+1:=size_push' ..;have k2:∀b o,s.heap.get? b=some o->((s.heap.push {cls:=.type "list_iterator", data:=.fields #[.ref p,.int 0 0]}).push (seqObj "list" #[] 0)).get? b=some o:=fun b o e=>Heap.get?_push_of_some _ (Heap.get?_push_of_some _ e)
 have I2:Inv X pins σ H {s with heap:=(s.heap.push {cls:=.type "list_iterator", data:=.fields #[.ref p,.int 0 0]}).push (seqObj "list" #[] 0)}:=In.kept (t':=s.toks) k2;refine wpAny_pure ⟨plainId_quiet PySem.F.plain_min_loop _,x6f F hr.in1 rfl (In.ok.hd hcalm) hv hn (I:=s.heap.objs.size) (S:=(s.heap.push {cls:=.type "list_iterator", data:=.fields #[.ref p,.int 0 0]}).objs.size) (by rw[hS];exact w4f _) (w0r hlt) (fun b o z=>?_) is0 0 none #[] 0 _ H rfl (w1b _) I2 (In.fpOk (w0f _) (In.hok.fresh (w0f _))) (In.fpOk (by rw[hS];exact w3p _) (In.hok.fresh (by rw[hS];exact w3p _))) hq ⟨_,Heap.get?_push_of_some _ (Heap.get?_push_size _ rfl),rfl,rfl⟩ (Heap.get?_push_size _ rfl) rfl (fun b o z=>⟨(hc b o z).1,k2 b o (hc b o z).2⟩) h⟩
 have:=Heap.lt_size (hc b o z).2;exact⟨w0r this,by rw[hS];exact w0r (w2u this)⟩
end
def tMinK(sp:V->List V->Hp->VK->XK->Prop)(X:Cx)(params:Arguments)(body:Expr)(scope:Scope)(Nf:List Str)(js:List Nat)(ta:TE):TE:=fun σ H Q=>ta σ H fun v H1=>∃(p:Addr)(is:List Int),v=.ref p /\
 ∀f clos H2,LamAt X params body scope clos f H1 H2->∀cs,CellsOf clos Nf scope js σ H2 cs->SqL X.K H2 p (is.map V.int)/\minT sp (.ref f) cs X.K p (is.map V.int) Q is none H2
section
variable{X:Cx}{k:Nat}{sp:V->List V->Hp->VK->XK->Prop}
theorem y8s{params:Arguments}{body a:Expr}{scope:Scope}{lpos p pos kp:Pos}{Nf:List Str}{js:List Nat}{ta:TE}(F:FnV X.prog X.w X.K X.mg X.base (CX1 X.prog X.w) k sp)(hr:Room (k+1) X.A)(hc:X.calm=true)(hg:Gl X "min")(hm:X.mg "min"=none)
  (M:Maker X)(hfn:∀y,X.fn y=true)(ha:PE X a ta)(hdef:defaultsOf params X.env=([],[]))
  (hfree:∀x∈scope.names,x.2=.free->X.env.kindOf x.1=some .cell\/X.env.kindOf x.1=some .free)
  (hNf:∀(i j:Nat) y,Nf[i]?=some y->js[i]?=some j->X.N[j]?=some y/\(y,NameKind.free)∈scope.names/\Vis X.env.scope y/\X.env.kindOf y≠some .local)
  (he:starEach [a] X.env=[(false,eval a X.env)]:=by rfl):
  PE X (.Call (.Name "min" p) [a] [⟨some "key", .Lambda params body scope lpos,kp⟩] pos) (tMinK sp X params body scope Nf js ta):=by
 intro pins s σ H Q I h;refine wpAny_Call_Name_kw (q4l I hg hm PyProof.Rows.Boot.«min» ?_ (by decide) (by decide));refine callWith_kw ?_ (by rw[he];rfl) (by rw[he];rfl);rw[he];show wpAny _ _ (spliced ((false,eval a X.env)::[])) _ _ s;refine Calls.spliced_cons (thn (ha pins s σ H _ I h) fun u s1 ⟨v,H1,I1,r1,q1⟩=>?_)
 obtain⟨pa,is,rfl,q⟩:=q1;obtain rfl:u=Value.ref pa:=r1;refine Calls.spliced_nil ?_;refine kws_cons (thn (z0j M hdef hfree _ _ σ H1 (fun v H2=>∃f clos,v=.ref f/\LamAt X params body scope clos f H1 H2) I1 (fun f clos H2 z=>⟨f,clos,rfl,z⟩)) fun fv s3 ⟨v3,H2,I3,rv3,f,clos,ev,la⟩=>kws_nil ?_)
 subst ev;obtain rfl:fv=Value.ref f:=rv3;obtain⟨clos',hclos',hcl,hcf⟩:=q51 (scope:=scope) (env:=X.env) fun x hx hf=>I.ok.has x.1 (hfree x hx hf)
 obtain rfl:clos'=clos:=pure_inj (hclos'.symm.trans la.1)
 have look:∀b o,(celsAt clos' s3.heap).lookup b=some o->∃x,X.env.cells.lookup x=some b/\s3.heap.get? b=some o:=fun b o z=>by
  obtain⟨x,h1,h2⟩:=q94 z;exact⟨x,hcl x b h1,h2⟩
 have hnone:∀b o,(celsAt clos' s3.heap).lookup b=some o->H2 b=none/\s3.heap.get? b=some o:=fun b o z=>by
  obtain⟨x,h1,h2⟩:=look b o z;exact⟨I3.freeC x b h1,h2⟩
 have hab:∀b o,(celsAt clos' s3.heap).lookup b=some o->X.s₀.heap.objs.size<=b:=fun b o z=>by
  obtain⟨x,h1,h2⟩:=look b o z;exact I3.ok.cab x b (hfn x) h1
 have CO:CellsOf clos' Nf scope js σ H2 (celsAt clos' s3.heap):=by
  refine⟨fun x y c e1 e2=>I3.ok.inj x y c (hcl x c e1) (hcl y c e2),hcf,fun x c e=>?_,fun c o e=>⟨(hnone c o e).1,?_⟩,fun i y j z e1 e2 e3=>?_⟩
  ·obtain⟨v,o,g,_⟩:=I3.cell x c (hcl x c e);exact⟨o,x1g e g⟩
  ·obtain⟨x,h1,h2⟩:=look c o e;obtain⟨v,o',g,d⟩:=I3.cell x c h1;rw[h2]at g;cases g;exact⟨v,d⟩
  ·obtain⟨n1,n2,n3,n4⟩:=hNf i j y e1 e2;obtain⟨m,hm,hl⟩:=I3.loc;obtain⟨u,ru,l⟩:=hl j y z n1 e3 n3;rcases l with⟨k1,_⟩|⟨k1,c,ec,o,g,d⟩
   ·exact absurd k1 n4
   ·obtain⟨c',ec'⟩:=hcf y n2;have e4:=hcl y c' ec';rw[ec]at e4;cases e4;exact⟨c,o,u,ec',x1g ec' g,d,ru⟩
 show wpAny _ _ (call (.builtin "min") [.ref pa] [(Str.ofString "key", .ref f)]) _ _ _;obtain⟨hq,hm2⟩:=q f clos' H2 la _ CO;refine y2e F hr hc ?_ (fun b o z=>Heap.get?_none_of_le (w0l I3.ok.bsz (hab b o z))) I3 (fun b o z=>hnone b o z) hq hm2
 exact fun b o z hb=>by
  rcases w0h.mp (I3.stkSub b hb)with e|hb2
  ·obtain⟨x,h1,_⟩:=look b o z;exact I3.cne x b h1 e
  ·obtain⟨_,o',q',_⟩:=I3.ok.funs.mem hb2
   exact absurd (Heap.lt_size q') (w5j.mpr (hab b o z))
end
end L2
namespace D
open PySem L2
variable{r:Nat->List W->FR}
noncomputable def keyI1:FR->Option Int
 |.ok (.fr (.int n))=>some n
 |_=>none
noncomputable def minGo(F:Int->Option Int):List Int->Option (Int×Int)->Option Int
 |[],o=>o.map (·.1)
 |i::is,o=>match F i with
  |some n=>minGo F is (bestU o i n)
  |none=>none
noncomputable def minK(r:Nat->List W->FR)(j:Nat)(e1:List S):W->Option (List W)->R W
 |.lst ws,some caps=>match intsW ws with
  |some is=>if noFns caps=true then ofOpt ((minGo (fun i=>keyI1 (r j (.int i::caps))) is none).map .int) e1 else .no
  |none=>.no
 |_,_=>.no
noncomputable def dMinK(r:Nat->List W->FR)(j:Nat)(js:List Nat)(d:Den W):Den W:=fun e=>(d e).bind fun w e1=>minK r j e1 w (capsOf js e1)
theorem y8t{j:Nat}{js:List Nat}{d:Den W}{e:List S}:dMinK r j js d e=(d e).bind fun w e1=>minK r j e1 w (capsOf js e1):=rfl
theorem x8z{K:PySem.W.Frag}{lams:Nat->Option Lm}{j:Nat}{lm:Lm}{caps:List W}{G1 H1:Hp}{cs:Cs}{f p:Addr}{xs:List V}{Q:VK}{out:Int}(hl:lams j=some lm)(hnc:noFns caps=true)(hq:SqL K G1 p xs)
  (hQ:∀Gc Hc,Grow G1 H1 Gc Hc->Q (.int out) Hc):
  ∀(is:List Int)(o:Option (Int×Int))(Gc Hc:Hp),minGo (fun i=>keyI1 (r j (.int i::caps))) is o=some out->Grow G1 H1 Gc Hc->(∀b o,cs.lookup b=some o->Hc b=none)->Rep K (addC Gc cs) (.fn j lm caps) (.ref f) ->
   minT (spV K lams r) (.ref f) cs K p xs Q is o Hc
 |[],o,Gc,Hc,hm,g,hc,rf=>by
  cases o with
  |none=>cases hm
  |some bm=>
   obtain⟨b,m⟩:=bm;cases hm;exact⟨_,_,rfl,hQ Gc Hc g⟩
 |i::is,o,Gc,Hc,hm,g,hc,rf=>by
  obtain⟨n,hn,hm⟩:∃n,keyI1 (r j (.int i::caps))=some n/\minGo (fun i=>keyI1 (r j (.int i::caps))) is (bestU o i n)=some out:=by
   have hm:(match keyI1 (r j (.int i::caps))with
    |some n=>minGo (fun i=>keyI1 (r j (.int i::caps))) is (bestU o i n)
    |none=>none)=some out:=hm
   cases q:keyI1 (r j (.int i::caps))with
   |none=>rw[q]at hm;cases hm
   |some n=>rw[q]at hm;exact⟨n,rfl,hm⟩
  have hn:r j (.int i::caps)=.ok (.fr (.int n)):=by
   unfold keyI1 at hn;split at hn
   ·rename_i m e;cases hn;exact e
   ·cases hn
  refine⟨addC Gc cs,j,lm,caps,[.int i],.int n,q87 g.sub,rf,⟨_,_,rfl,rfl,rfl⟩,rfl,hnc,hl,hn,fun G' H' v g' rv=>?_⟩
  cases(show v=V.int n from rv);have gn:=Grow.nocells g' hc g.sub;refine⟨n,rfl,gn.sub.seq ((g.gg.trans gn.gg).seq hq),x8z hl hnc hq hQ is (bestU o i n) (rmC G' cs) _ hm (g.trans gn) (fun b o z=>q6g z) (Rep.mono (q87 gn.gg) _ rf)⟩
section
variable{X:Cx}{Z:Zt}{EE:L2.St->XK}{e body:Expr}{params:Arguments}{d:Den W}{lpos p pos kp:Pos}{k:Nat}{N nf:List Str}{js:List Nat}{sc scope:Scope}{lams:Nat->Option Lm}
theorem y8u(j:Nat)(l:Lm)(F:FnV X.prog X.w X.K X.mg X.base (CX1 X.prog X.w) k (spV X.K lams r))(hr:Room (k+1) X.A)(hc:X.calm=true)(hm:X.mg "min"=none)(M:Maker X)(hfn:∀y,X.fn y=true)(he:DE Z X EE e d)(hlm:lams j=some l)(ok:compOk sc scope N nf js=true)
  (hl:l=⟨X.env.qual++"<lambda>", params,body,scope,nf⟩:=by rfl)(hdef:defaultsOf params X.env=([],[]):=by rfl)(hsc:X.env.scope=sc:=by rfl)(hN:X.N=N:=by rfl)(hg:Gl X "min":=by rfl)
  (hst:starEach [e] X.env=[(false,eval e X.env)]:=by rfl):
  DE Z X EE (.Call (.Name "min" p) [e] [⟨some "key", .Lambda params body scope lpos,kp⟩] pos) (dMinK r j js d):=by
 unfold compOk at ok;simp only[w0j,w0t,beq_iff_eq,bne_iff_ne,w4l,w0u]at ok;obtain⟨⟨⟨⟨⟨⟨k1,k2⟩,k3⟩,k4⟩,k5⟩,k6⟩,k7⟩:=ok;have kind:∀x,X.env.kindOf x=sc.names.lookup x:=fun x=>by rw[<- hsc];rfl
 refine PE.mono (y8s (Nf:=nf) (js:=js) F hr hc hg hm M hfn he hdef (fun x hx hf=>?_) (fun i j y e1 e2=>?_) hst) ?_
 ·rw[kind];rcases k4 x hx with(z|z)|z
  ·exact absurd hf z
  ·exact .inl z
  ·exact .inr z
 ·have hlt:i<js.length:=(w0d.mp e2).1;have z:=k6 i hlt;rw[e1,e2]at z;obtain⟨z1,z2⟩:=k7 y (w1g e1);refine⟨by rw[hN];simpa using z,PySem.mem_of_lookup z1,?_,?_⟩
  ·rw[hsc];rcases z2 with z|z
   ·exact .inr (.inl z)
   ·exact .inr (.inr z)
  ·rw[kind];rcases z2 with z|z<;>(rw[z];decide)
 ·rintro σ H Q ⟨G,en,rel,h⟩;simp only[dMinK,R.holds_bind]at h;refine⟨G,en,rel,h.imp (fun w e1 h G1 v1 H1 r1 s1 p1=>?_) fun _ _ h=>h⟩
  cases w with
  |lst ws=>
   cases hcap:capsOf js e1 with
   |none=>rw[hcap]at h;exact h.elim
   |some caps=>
   rw[hcap]at h;simp only[minK]at h;cases hi:intsW ws with
   |none=>rw[hi]at h;exact h.elim
   |some is=>
   rw[hi]at h;simp only[]at h;split at h
   ·rename_i hnc;cases ho:minGo (fun i=>keyI1 (r j (.int i::caps))) is none with
    |none=>rw[ho]at h;exact h.elim
    |some out=>
    rw[ho]at h;obtain⟨pa,xs,rfl,q,rr⟩:=p1;cases x00 hi rr;refine⟨pa,is,rfl,fun f clos H2 la cs co=>?_⟩
    obtain⟨hclos,Hm,pm,ctv,c',hH,hf,rfl⟩:=la
    have rm:Rel X.K Z G1 σ Hm e1:=by
     rcases hH with rfl|⟨c,oc,hc,rfl⟩
     ·exact r1
     ·exact r1.grow (Grow.hid r1.sub hc _)
    have gl:=Grow.laid rm.sub hf (fnO (kla_obj "<lambda>" (X.env.qual++"<lambda>") params body scope clos pm c' ctv) (X.env.qual++"<lambda>") c');have r2:=rm.grow gl;obtain⟨zs,rz,zl,zv⟩:=x34 r1 hcap;have hn2:∀b o,cs.lookup b=some o->upd Hm f (fnO (kla_obj "<lambda>" (X.env.qual++"<lambda>") params body scope clos pm c' ctv) (X.env.qual++"<lambda>") c') b=none:=fun b o z=>(co.cel b o z).1
    have gn2:∀b o,cs.lookup b=some o->upd G1 f (fnO (kla_obj "<lambda>" (X.env.qual++"<lambda>") params body scope clos pm c' ctv) (X.env.qual++"<lambda>") c') b=none:=fun b o z=>by
     cases q:upd G1 f (fnO (kla_obj "<lambda>" (X.env.qual++"<lambda>") params body scope clos pm c' ctv) (X.env.qual++"<lambda>") c') b with
     |none=>rfl
     |some u=>have:=r2.sub b u q;rw[hn2 b o z]at this;cases this
    have sA:=gl.gg.trans (x6d gn2)
    have fout:cs.lookup f=none:=by
     cases q:cs.lookup f with
     |none=>rfl
     |some o=>have:=gn2 f o q;rw[q0l]at this;cases this
    have fc:FnCells (addC (upd G1 f (fnO (kla_obj "<lambda>" (X.env.qual++"<lambda>") params body scope clos pm c' ctv) (X.env.qual++"<lambda>") c')) cs) clos l zs cs:=by
     subst hl;refine⟨co.inj,co.has,co.all,fun c o z=>⟨q4d z,(co.cel c o z).2⟩,fun i y z g1 g2=>?_,by rw[zl];exact k5⟩
     have hi:i<js.length:=by rw[<- zl];exact(w0d.mp g2).1
     have g3:js[i]?=some js[i]:=w0b hi;exact co.val i y js[i] z g1 g3 (zv i _ z g3 g2)
    have rfn:Rep X.K (addC (upd G1 f (fnO (kla_obj "<lambda>" (X.env.qual++"<lambda>") params body scope clos pm c' ctv) (X.env.qual++"<lambda>") c')) cs) (.fn j l caps) (.ref f):=by
     refine⟨f,clos,zs,cs,rfl,⟨pm,c',ctv,?_⟩,fc,Reps.mono sA caps rz⟩;rw[q0w fout,q0l,hl]
    have q2:SqL X.K (upd G1 f (fnO (kla_obj "<lambda>" (X.env.qual++"<lambda>") params body scope clos pm c' ctv) (X.env.qual++"<lambda>") c')) pa (is.map V.int):=gl.gg.seq q;refine⟨r2.sub.seq q2,x8z hlm hnc q2 (fun Gc Hc g=>?_) is none _ _ ho (Grow.refl r2.sub) hn2 rfn⟩
    exact h Gc _ Hc (r2.grow g) (s1.trans (gl.gg.trans g.gg)) rfl
   ·exact h.elim
  |_=>exact h.elim
end
end D
namespace L2
open PySem PySem.Spec PyProof.Rows
variable{f:Addr}{X:Cx}{fd:FuncData}{ps:List Str}{k:Nat}{sp:Sp}{α β:Type}
def RelL(R:α->β->Prop):List α->List β->Prop
 |[],[]=>True
 |a::as,b::bs=>R a b/\RelL R as bs
 |_,_=>False
theorem RelL.perm{R:α->β->Prop}{bs' bs:List β}(h:bs'.Perm bs):∀{as:List α},RelL R as bs->∃as',as'.Perm as/\RelL R as' bs':=by
 induction h with
 |nil=>exact fun {as} r=>⟨as,.refl _,r⟩
 |cons x _ ih=>
  intro as r;cases as with
  |nil=>exact r.elim
  |cons a as=>
   obtain⟨as',p,q⟩:=ih r.2;exact⟨a::as',p.cons a,r.1,q⟩
 |swap x y l=>
  intro as r;cases as with
  |nil=>exact r.elim
  |cons a as=>
   cases as with
   |nil=>exact r.2.elim
   |cons b as=>exact⟨b::a::as,.swap ..,r.2.1,r.1,r.2.2⟩
 |trans _ _ ih1 ih2=>
  intro as r;obtain⟨a2,p2,q2⟩:=ih2 r;obtain⟨a1,p1,q1⟩:=ih1 q2;exact⟨a1,p1.trans p2,q1⟩
theorem RelL.get{R:α->β->Prop}:∀{as:List α}{bs:List β},RelL R as bs->∀(i:Nat) a,as[i]?=some a->∃b,bs[i]?=some b/\R a b
 |a::as,b::bs,r,0,_,e=>by cases e;exact⟨b,rfl,r.1⟩
 |a::as,b::bs,r,i+1,x,e=>RelL.get r.2 i x e
 |[],[],_,i,_,e=>by simp at e
theorem RelL.length{R:α->β->Prop}:∀{as:List α}{bs:List β},RelL R as bs->as.length=bs.length
 |[],[],_=>rfl
 |_::_,_::_,r=>congrArg (·+1) (RelL.length r.2)
theorem RelL.map{γ δ:Type}{R:α->β->Prop}{R':γ->δ->Prop}{f:α->γ}{g:β->δ}(h:∀a b,R a b->R' (f a) (g b)):∀{as:List α}{bs:List β},RelL R as bs->RelL R' (as.map f) (bs.map g)
 |[],[],_=>trivial
 |_::_,_::_,r=>⟨h _ _ r.1,RelL.map h r.2⟩
def SKV(a:Str×V)(b:Keyed):Prop:=(∃t,b.1=.str a.1 t)/\RelV a.2 b.2
theorem y2f:∀{ns:List Str}{xs:List V}{ws us:List Value},Vals (ns.map V.str) ws->Vals xs us->RelL SKV (ns.zip xs) (ws.zip us)
 |[],_,_,us,h1,_=>by cases h1;exact trivial
 |_::_,[],_,_,h1,h2=>by cases h1;cases h2;exact trivial
 |n::ns,x::xs,_,_,h1,h2=>by
  cases h1 with
  |cons r1 h1=>
  cases h2 with
  |cons r2 h2=>exact⟨⟨r1,r2⟩,y2f h1 h2⟩
theorem x6g:∀{xs:List V}{us:List Value},RelL RelV xs us->Vals xs us
 |[],[],_=>.nil
 |_::_,_::_,r=>.cons r.1 (x6g r.2)
theorem x35:∀{ns:List Str}{ws:List Value},Vals (ns.map V.str) ws->StrsAre ws ns
 |[],_,h=>by cases h;exact .nil
 |n::ns,_,h=>by
  cases h with
  |cons r h=>
   obtain⟨t,rfl⟩:=r;exact .cons n t (x35 h)
theorem y2g:∀{ws:List Value}{ns:List Str},StrsAre ws ns->2<=ws.length->keyKind' ws.toArray=pure oneType'
 |[],_,_,h=>absurd h (by simp)
 |[_],_,_,h=>absurd h (by simp)
 |_::_::_,_,hJ,_=>keyKind_strs hJ
abbrev UpTo(zs:List (Str×V)):Prop:=zs.Pairwise fun a b=>¬b.1.cps.toList<a.1.cps.toList
theorem y2h{zs:List (Str×V)}{arr:Array Keyed}(r:RelL SKV zs arr.toList)(h:SortedToK strKind arr arr.size):UpTo zs:=by
 have key:∀i (hi:i<zs.length),KK strKind arr i=zs[i].1.cps.toList:=fun i hi=>by
  obtain⟨b,e,⟨t,hb⟩,_⟩:=r.get i zs[i] (w0b hi);have e2:arr[i]?=some b:=by simpa using e
  unfold KK;rw[e2];show((strKind.keyOf b.1).getD _)=_;rw[hb];rfl
 refine w2x.mpr fun i j hi hj hij=>?_
 have hl:zs.length=arr.size:=by rw[r.length];simp
 have:=h i j (w4k hij) (by omega);rw[key i hi,key j hj]at this;exact of_decide_eq_false this
theorem y8v{A:Around}{pins:List (Addr×Obj)}{σ:St}{H:Hp}{s:Shared}{Q:VK}{us:List Value}{vs:List V}{E:Value->Shared->Prop}(F:FnOk X.prog X.w X.K X.mg X.base (CX1 X.prog X.w) k f fd ps sp)(hr:Room k A)(hA:A.frames=X.A.frames)(hb:Binds X.K fd ps [])
  (I:Inv X pins σ H s)(r:Vals vs us)(h:sp vs H Q fun _ _ _=>False):wpAny (model X.prog X.w) A (call (.ref f) us) (EP X pins σ Q) E s:=by
 have hl:(us++[]).length=ps.length:=by rw[w1n,<- r.length];exact F.len _ _ _ _ h
 have e0:=I.env0;have bd:=hb s us I.kIn hl;rw[w1n]at bd;refine wpAny_call (codeAny_mono (F.run A X.stack s H ⟨us,[]⟩ us vs Q _ hr ⟨hA.trans e0.frames,e0.mod,e0.bs,e0.bsz,e0.funs,e0.frf,e0.hok,e0.bare,e0.tab⟩ bd r h) fun r s' hq=>?_)
 cases r with
 |error e=>
  obtain⟨_,_,_,_,_,_,_,_,_,_,hE⟩:=hq;exact hE.elim
 |ok fl=>
  cases fl with
  |ret u=>exact I.after hq
  |next=>exact False.elim hq
  |brk=>exact False.elim hq
  |cont=>exact False.elim hq
def keysS(sp:Sp)(l:Addr)(o:Obj)(ks:Addr)(K:List Str->Hp->Prop):List V->List Str->Hp->Prop
 |[],ns,H=>K ns H
 |x::xs,ns,H=>sp [x] H (fun v H'=>∃n,v=.str n/\H' l=some (.frz o (.lst []))/\H' ks=some (.lst (ns.map V.str))/\keysS sp l o ks K xs (ns++[n]) (upd H' ks (.lst ((ns++[n]).map V.str)))) fun _ _ _=>False
section
variable{A:Around}{pins:List (Addr×Obj)}{σ:St}{l ks:Addr}{E:Value->Shared->Prop}{o:Obj}{K:List Str->Hp->Prop}
theorem x1z(F:FnOk X.prog X.w X.K X.mg X.base (CX1 X.prog X.w) k f fd ps sp)(hr:Room k A)(hA:A.frames=X.A.frames)(hb:Binds X.K fd ps [])
  (hlk:l≠ks)(items:Array Value):∀(xs:List V)(us:List Value)(ns:List Str)(s:Shared)(H:Hp),Vals xs us->Inv X pins σ H s->H l=some (.frz o (.lst []))->H ks=some (.lst (ns.map V.str))->ns.length+xs.length<=1000->keysS sp l o ks K xs ns H ->
  wpAny (model X.prog X.w) A (forIn us PUnit.unit fun x (_:PUnit)=>keyStep l (.ref f) (.ref ks) x items) (fun _ s'=>∃(H':Hp)(ns':List Str),Inv X pins σ H' s'/\H' l=some (.frz o (.lst []))/\H' ks=some (.lst (ns'.map V.str))/\ns'.length=ns.length+xs.length/\K ns' H') E s
 |[],us,ns,s,H,r,I,hl,hk,hz,h=>by
  cases r;rw[w4u];exact wpAny_pure ⟨H,ns,I,hl,hk,rfl,h⟩
 |x::xs,us,ns,s,H,r,I,hl,hk,hz,h=>by
  cases r with
  | @cons _ u _ us r rr=>
   rw[w2o];refine wpAny_bind ?_;unfold keyStep;refine wpAny_bind (wpAny_attempt ?_);refine wpAny_mono (y8v (Q:=fun v H'=>∃n,v=.str n/\H' l=some (.frz o (.lst []))/\H' ks=some (.lst (ns.map V.str))/\keysS sp l o ks K xs (ns++[n]) (upd H' ks (.lst ((ns++[n]).map V.str)))) F hr hA hb I (.cons r .nil) h) (fun w s1 hq=>?_) (fun _ _ z=>z)
   obtain⟨v,H1,I1,rv,n,rfl,e1,e2,h2⟩:=hq;obtain⟨hz1,its,m,rI,eo⟩:=(show ObjOk X.prog X.w H1 s1.heap ks (.lst (ns.map V.str))from I1.hok ks _ e2);have hil:its.length=ns.length:=by rw[<- rI.length,w0a]
   refine wpAny_bind (listUpdate_at eo rfl ?_ (hsz:=by rw[w0c,sizeLine_eq];omega) (hsz2:=by rw[Array.size_push,w0c,sizeLine_eq];omega))
   obtain⟨m2,eo2⟩:∃m2,(s1.heap.update ks (Obj.mapSeq (·.push w))).get? ks=some {cls:=.type "list", data:=.seq (its++[w]).toArray m2}:=by
    have z:=get?_update_seq eo (·.push w);rw[show its.toArray.push w=(its++[w]).toArray by simp]at z;exact⟨_,z⟩
   have I2:Inv X pins σ (upd H1 ks (.lst ((ns++[n]).map V.str))) {s1 with heap:=s1.heap.update ks (Obj.mapSeq (·.push w))}:=by
    refine I1.write (t':=s1.toks) (by rw[e2];exact True.intro) (.inl rfl) (fun b u hb q=>(Heap.get?_update_other _ _ (Ne.symm hb)).trans q) ⟨_,eo2⟩ (show ObjOk X.prog X.w _ _ _ (.lst _)from⟨by rw[w0a,w0q,sizeLine_eq];simp;omega,its++[w],m2,?_,eo2⟩)
    rw[w1l];exact rI.append (.cons rv .nil)
   refine wpAny_pure ?_;show wpAny _ _ (forIn us PUnit.unit _) _ _ _;refine wpAny_mono (x1z F hr hA hb hlk items xs us (ns++[n]) _ _ rr I2 (by rw[q0c hlk];exact e1) q0l (by rw[w0q];simp at hz |-;omega) h2) (fun _ s' hq=>?_) (fun _ _ z=>z)
   obtain⟨H',ns',a1,a2,a3,a4,a5⟩:=hq;exact⟨H',ns',a1,a2,a3,by rw[a4,w0q];simp;omega,a5⟩
def tKeyedS(sp:Sp)(l:Addr)(xs:List V)(H:Hp)(Q:VK):Prop:=
 ∀o ks,upd H l (.frz o (.lst [])) ks=none->keysS sp l o ks (fun ns H'=>∀zs:List (Str×V),zs.Perm (ns.zip xs)->UpTo zs->Q (.ref l) (upd (upd H' ks (.lst [])) l (.lst (zs.map (·.2))))) xs [] (upd (upd H l (.frz o (.lst []))) ks (.lst []))
theorem y2i{Q:VK}{xs:List V}{H:Hp}{s:Shared}(F:FnOk X.prog X.w X.K X.mg X.base (CX1 X.prog X.w) k f fd ps sp)(hr:Room k A)(hA:A.frames=X.A.frames)(hb:Binds X.K fd ps [])
  (I:Inv X pins σ H s)(el:H l=some (.lst xs))(hf:∀o v,X.H₀ l≠some (.frz o v))(h64:xs.length<64)(h:tKeyedS sp l xs H Q):
  wpAny (model X.prog X.w) A (Builtin.«list.sort» ⟨[.ref l],[(Str.ofString "key", .ref f)]⟩) (fun fin s'=>fin=.done (.ret .none)/\EP X pins σ Q (.ref l) s') E s:=by
 rw[x4w];obtain⟨_,us,m,rU,eo⟩:=(show ObjOk X.prog X.w H s.heap l (.lst xs)from I.hok l _ el);have hul:us.length=xs.length:=by rw[<- rU.length]
 refine wpAny_bind (listItems_at eo rfl ?_);refine wpAny_bind (listUpdate_at eo rfl ?_ (hsz:=by rw[w0c,sizeLine_eq];omega));obtain⟨e1,eo1⟩:∃e1,(s.heap.update l (Obj.mapSeq fun _=>#[])).get? l=some (seqObj "list" #[] e1):=⟨_,get?_update_seq eo (fun _=>#[])⟩
 have I1:Inv X pins σ (upd H l (.lst [])) {s with heap:=s.heap.update l (Obj.mapSeq fun _=>#[])}:=
  I.write (t':=s.toks) (by rw[el];exact True.intro) (.inl rfl) (fun b u hb q=>(Heap.get?_update_other _ _ (Ne.symm hb)).trans q) ⟨_,eo1⟩ (show ObjOk X.prog X.w _ _ _ (.lst [])from⟨w1b _,[],e1,.nil,eo1⟩)
 have I2:=I1.freezeL (a:=l) (xs:=[]) (o:=seqObj "list" #[] e1) q0l eo1;rw[x2m]at I2;refine wpAny_bind (seqEpoch_at eo1 rfl ?_);refine wpAny_bind (wpAny_newTuple ?_ (hsz:=by rw[sizeLine_eq];simp;omega));have I3:=I2.kept (t':=s.toks) (h':=(s.heap.update l (Obj.mapSeq fun _=>#[])).push (seqObj "tuple" us.toArray.toList.toArray 0)) fun b u q=>Heap.get?_push_of_some _ q
 refine wpAny_bind (wpAny_newList ?_);have fr:=I3.hok.fresh (w0f _)
 have I4:=I3.laid (t':=s.toks) (o:=.lst []) (h':=((s.heap.update l (Obj.mapSeq fun _=>#[])).push (seqObj "tuple" us.toArray.toList.toArray 0)).push (seqObj "list" #[] 0)) (fun b u q=>Heap.get?_push_of_some _ q) (w0f _)
  (show ObjOk X.prog X.w _ _ _ (.lst [])from⟨w1b _,[],0,.nil,Heap.get?_push_size _ rfl⟩)
 refine wpAny_holding ?_;refine wpAny_bind (wpAny_rule ?_);rw[List.forIn_toArray]
 have hlk:l≠((s.heap.update l (Obj.mapSeq fun _=>#[])).push (seqObj "tuple" us.toArray.toList.toArray 0)).objs.size:=fun z=>by
  rw[<- z,q0l]at fr;cases fr
 refine wpAny_bind (wpAny_mono (x1z F hr hA hb hlk us.toArray xs us [] _ _ rU I4 (by rw[q0c hlk];exact q0l) q0l (by simp;omega) (h _ _ fr)) (fun _ s5 hq=>?_) (fun _ _ z=>z))
 obtain⟨H5,ns,I5,el5,ek5,hns,q⟩:=hq
 clear I1 I2 I3 I4
 generalize ((s.heap.update l (Obj.mapSeq fun _=>#[])).push (seqObj "tuple" us.toArray.toList.toArray 0)).objs.size=ks at *
 obtain⟨_,ws,mk,rW,ew⟩:=(show ObjOk X.prog X.w H5 s5.heap _ (.lst (ns.map V.str))from I5.hok _ _ ek5);have hwl:ws.length=us.length:=by rw[<- rW.length,w0a,hns,hul];simp
 have hJ:=x35 rW;have eo5:s5.heap.get? l=some (seqObj "list" #[] e1):=(show _/\_ from I5.hok _ _ el5).1;refine wpAny_bind (listItems_at ew rfl ?_)
 have fin:∀arr:Array Keyed,arr.Perm (ws.toArray.zip us.toArray)->SortedToK strKind arr arr.size->wpAny (model X.prog X.w) A (do
   Builtin.List.listUpdate (.ref ks) fun _=>#[]
   letGo (arr.map (·.1)).toList ([]:List Value)
   let touched:=(<- seqEpoch l) != e1
   Builtin.List.listUpdate (.ref l) fun _=>arr.map (·.2)
   if touched then rule "list.sort.modified";raiseError "ValueError" "list modified during sort"
   ret .none) (fun fin s'=>fin=.done (.ret .none)/\EP X pins σ Q (.ref l) s') E s5:=fun arr hp hs=>by
  have hp':arr.toList.Perm (ws.zip us):=by
   have:=Array.perm_iff_toList_perm.mp hp
   simpa using this
  obtain⟨zs,pz,rz⟩:=RelL.perm hp' (y2f rW rU);have up:=y2h rz hs
  have hy:Vals (zs.map (·.2)) (arr.map (·.2)).toList:=by
   rw[Array.toList_map];exact x6g (RelL.map (fun _ _ h=>h.2) rz)
  have hxs:arr.size=us.length:=by rw[hp.size_eq];simp[hwl]
  have hzl:zs.length=us.length:=by rw[rz.length];simp[hxs]
  refine wpAny_bind (listUpdate_at ew rfl ?_ (hsz:=by rw[w0c,sizeLine_eq];omega));obtain⟨e6,ew6⟩:∃e6,(s5.heap.update ks (Obj.mapSeq fun _=>#[])).get? ks=some (seqObj "list" #[] e6):=⟨_,get?_update_seq ew (fun _=>#[])⟩
  have I6:Inv X pins σ (upd H5 ks (.lst [])) {s5 with heap:=s5.heap.update ks (Obj.mapSeq fun _=>#[])}:=
   I5.write (t':=s5.toks) (by rw[ek5];exact True.intro) (.inl rfl) (fun b u hb q=>(Heap.get?_update_other _ _ (Ne.symm hb)).trans q) ⟨_,ew6⟩ (show ObjOk X.prog X.w _ _ _ (.lst [])from⟨w1b _,[],e6,.nil,ew6⟩)
  have el6:upd H5 ks (.lst []) l=some (.frz (seqObj "list" #[] e1) (.lst [])):=by rw[q0c hlk];exact el5
  have eo6:(s5.heap.update ks (Obj.mapSeq fun _=>#[])).get? l=some (seqObj "list" #[] e1):=(Heap.get?_update_other _ _ (Ne.symm hlk)).trans eo5
  have I7:=I6.meltL el6 hf;refine wpAny_bind (wpAny_letGo ?_);refine wpAny_bind (seqEpoch_at eo6 rfl ?_);refine wpAny_bind (listUpdate_at eo6 rfl ?_ (hsz2:=by rw[Array.size_map,hxs,sizeLine_eq];omega));obtain⟨e8,eo8⟩:∃e8,((s5.heap.update ks (Obj.mapSeq fun _=>#[])).update l (Obj.mapSeq fun _=>arr.map (·.2))).get? l=some (seqObj "list" (arr.map (·.2)) e8):=⟨_,get?_update_seq eo6 (fun _=>arr.map (·.2))⟩
  have I8:=I7.write (x:=l) (e:=l) (o:=.lst (zs.map (·.2))) (t':=s5.toks) (h':=(s5.heap.update ks (Obj.mapSeq fun _=>#[])).update l (Obj.mapSeq fun _=>arr.map (·.2))) (by rw[q0l];exact True.intro) (.inl rfl) (fun b u hb q=>(Heap.get?_update_other _ _ (Ne.symm hb)).trans q) ⟨_,eo8⟩
   (show ObjOk X.prog X.w _ _ _ (.lst (zs.map (·.2)))from⟨by rw[w0a,hzl,sizeLine_eq];omega,(arr.map (·.2)).toList,e8,hy,by rw[w4r];exact eo8⟩)
  rw[x2m]at I8;simp only[bne_self_eq_false,w2m,if_false];exact wpAny_pure ⟨rfl,.ref l,_,I8,rfl,q zs pz up⟩
 have hza:(ws.toArray.zip us.toArray).size=us.length:=by simp[hwl]
 by_cases h2:us.toArray.size<2
 ·rw[if_pos h2,if_pos h2];refine wpAny_bind (wpAny_pure ?_);dsimp only;rw[StateT.run_pure];refine wpAny_bind (wpAny_pure ?_);refine fin (ws.toArray.zip us.toArray) (Array.Perm.refl _) fun i j hij hj=>?_
  have hsz:us.toArray.size=us.length:=by simp
  have:i=j:=by omega
  subst this;exact KeyOrd.kle_refl _
 ·rw[if_neg h2,if_neg h2];have hsz:us.toArray.size=us.length:=by simp
  rw[y2g hJ (by omega)];refine wpAny_bind (wpAny_pure ?_)
  refine wpAny_bind (wpAny_mono (wpS_sortRunsK (a₀:=ws.toArray.zip us.toArray) (st:=SortSt.mk' oneType' (ws.toArray.zip us.toArray) #[] 7 none)
   (Q:=fun _ st'=>(arrOf st').Perm (ws.toArray.zip us.toArray)/\failedOf st'=none/\SortedToK strKind (arrOf st') (ws.toArray.zip us.toArray).size)
   strKind_oneLt (fun p hp=>?_) ⟨Array.Perm.refl _,rfl,rfl,rfl⟩ (by rw[hza];omega) (by rw[hza];omega) fun st' a1 a2 a3=>⟨a1,a2,a3⟩) ?_ fun _ _ e=>e)
  ·have hm:p∈ws.zip us:=by simpa using hp
   have hw:=(w3a hm).1;obtain⟨i,hi,e⟩:=w2d.mp hw;have hin:i<ns.length:=by rw[<- w0a (f:=V.str),rW.length];exact hi
   obtain⟨u,hu,t,ru⟩:=rW.get (i:=i) (x:=V.str ns[i]) (by rw[w0w,w0b hin];rfl);rw[w0b hi,e]at hu;cases hu;exact⟨_,by rw[ru]⟩
  rintro⟨⟨⟩,st'⟩ s' ⟨rfl,hp,hf5,hs5⟩;have z:=fin _ hp (by rw[hp.size_eq];exact hs5);rw[<- show(failedOf st').toList=([]:List Value) by rw[hf5];rfl]at z;dsimp only at z |-
  rw[hf5]at z |-
  exact z
end
def tSortS(sp:Sp)(K:PySem.W.Frag)(ta:TE):TE:=fun σ H Q=>ta σ H fun v H1=>∃(p:Addr)(xs:List V),v=.ref p/\SqL K H1 p xs/\xs.length<64/\∀l,H1 l=none->tKeyedS sp l xs (upd H1 l (.lst xs)) Q
theorem y5a{a:Expr}{x:Str}{np p pos kp:Pos}{ta:TE}(F:FnOk X.prog X.w X.K X.mg X.base (CX1 X.prog X.w) k f fd ps sp)(hr:Room (k+2) X.A)(hb:Binds X.K fd ps [])(hfm:X.mg x=some (.ref f))(hgx:Gl X x)(hg:Gl X "sorted")(hm:X.mg "sorted"=none)
  (ha:PE X a ta)(he:starEach [a] X.env=[(false,eval a X.env)]:=by rfl)(hdx:(x==("__debug__":Str))=false:=by decide):
  PE X (.Call (.Name "sorted" p) [a] [⟨some "key", .Name x np,kp⟩] pos) (tSortS sp X.K ta):=by
 intro pins s σ H Q I h;refine wpAny_Call_Name_kw (q4l I hg hm PyProof.Rows.Boot.«sorted» ?_ (by decide) (by decide));refine callWith_kw ?_ (by rw[he];rfl) (by rw[he];rfl);rw[he];show wpAny _ _ (spliced ((false,eval a X.env)::[])) _ _ s;refine Calls.spliced_cons (thn (ha pins s σ H _ I h) fun u s1 ⟨v,H1,I1,r1,q1⟩=>?_)
 obtain⟨pa,xs,rfl,hq,h64,q⟩:=q1;obtain rfl:u=Value.ref pa:=r1;refine Calls.spliced_nil ?_;refine kws_cons (q9o I1 hgx hfm (kws_nil ?_) hdx);show wpAny _ _ (call (.builtin "sorted") [.ref pa] [(Str.ofString "key", .ref f)]) _ _ _;obtain⟨its,rI,pl,hz⟩:=I1.list hq;have hil:its.length=xs.length:=rI.length.symm;refine call_function_entry_kw kind_sorted plain_sorted entry_sorted (x1y _ _) ?_
 unfold Builtin.«sorted»;refine wpAny_bind (m:=checkCount "sorted" 1 1 _) (wpAny_pure ?_);refine wpAny_bind (collect_list pl.isList ?_);have k5:∀b o,s1.heap.get? b=some o->((s1.heap.push (seqObj "list" #[] 0)).update s1.heap.objs.size (Obj.mapSeq (·++its.toArray))).get? b=some o:=fun b o e=>(Heap.get?_update_other _ _ (w3i (Heap.lt_size e))).trans (Heap.get?_push_of_some _ e)
 have I5:Inv X pins σ H1 {s1 with heap:=(s1.heap.push (seqObj "list" #[] 0)).update s1.heap.objs.size (Obj.mapSeq (·++its.toArray))}:=I1.kept (t':=s1.toks) k5;refine wpAny_bind (wpAny_newList ?_ (hsz:=by rw[sizeLine_eq];omega));have fr5:=I5.hok.fresh (w0f _)
 have I6:=I5.laid (t':=s1.toks) (o:=.lst xs) (h':=((s1.heap.push (seqObj "list" #[] 0)).update s1.heap.objs.size (Obj.mapSeq (·++its.toArray))).push {cls:=.type "list", data:=.seq its.toArray}) (fun b o q=>Heap.get?_push_of_some _ q) (w0f _)
  (show ObjOk X.prog X.w _ _ _ (.lst _)from⟨hz,its,0,rI,Heap.get?_push_size _ rfl⟩)
 refine wpAny_bind (wpAny_holding (wpAny_call_entry_kw slot_list_sort ⟨_,Heap.get?_push_size _ rfl,rfl⟩ entry_list_sort (wpAny_mono (y2i (Q:=Q) (xs:=xs) F ((hr.in1).in1) rfl hb I6 q0l ?_ h64 (q _ fr5)) (fun fin s' hq=>⟨_,hq.1,?_⟩) fun _ _ z=>z) (q88 _ _)))
 ·intro o v z;have:=I5.base.frzs _ o v z;rw[fr5]at this;cases this
 ·exact wpAny_pure ⟨_,rfl,hq.2⟩
end L2
namespace Att
open PySem PySem.W PySem.Calls PyProof.Rows
theorem x80:∀{ns:List Int}{m:Nat},WData.weightAll (ns.map WData.int)<=m->∀i∈ns,Builtin.Int.intBits i<=m
 |[],_,_,_,h=>nomatch h
 |n::ns,m,hw,i,h=>by
  have e:WData.weightAll ((n::ns).map WData.int)=Builtin.Int.intBits n+1+WData.weightAll (ns.map WData.int):=rfl;rw[e]at hw;cases h with
  |head=>omega
  |tail _ h=>exact x80 (by omega) i h
theorem y5b{ns:List Int}(h:WData.layableAll [WData.list (ns.map WData.int)]=true):∀i∈ns,Builtin.Int.intBits i<=1048576:=by
 have h1:(WData.layable (WData.list (ns.map WData.int))&&true)=true:=h;rw[w5h]at h1;unfold WData.layable at h1;rw[w0j]at h1;have h2:=of_decide_eq_true h1.2;have e:WData.weight (WData.list (ns.map WData.int))=WData.weightAll (ns.map WData.int):=rfl;rw[e]at h2;exact x80 h2
theorem attach_callB{l:OpenLaw}{n:Nat}{q:Program}{loose:List Str}{XP:(Str->Option Value)->Heap->Prop}{YP:World->Heap->Prop}{d:DefRec}
  (hn:l.most=some n)(hdf:d.params.defaults=[])
  (call:∀(w:World)(s₀ s₁:Shared)(mg mb:Str->Option Value)(fa:Addr)(o:Obj)(pm cd doc:Value)(a:Addr)(vs:List Value)(ns:List Int),
   Ground q loose [] XP w s₀ mg mb s₁.heap->YP w s₁.heap ->
   s₁.heap.get? fa=some o->o.data=.func (docDef d.name d.params d.body d.scope pm cd doc)->s₁.heap.CodeRec cd d.name->mg d.name=some (.ref fa) ->
   s₁.heap.get? a=some {cls:=.type "list", data:=.seq vs.toArray}->IntsAre vs ns->ns.length<=n->(∀i∈ns,Builtin.Int.intBits i<=1048576)->s₁.gens=#[] ->
   codeAny (model l.prog w) callerA (.call (.ref fa) ⟨[.ref a],[]⟩) (fun r s'=>r=.ok (.ret (.bool true))/\OldK s₁.heap s'.heap/\s'.os=s₁.os/\AllBare s'.gens) s₁):
  WalkO q loose XP YP l.row.toRowW d [] (fun f vs=>PySem.call f vs):=by
 intro w s₀ s₁ mg mb G Y fa o pm cd doc dV kV ho hd hcd hD hmg hg args vals as hpre hlay hrd hwl hlo;obtain rfl:dV=.none:=Dflts.none hD hdf;obtain rfl:kV=.none:=Dflts.noKw hD;obtain⟨a,vs,ns,rfl,rfl,hobj,hints,hlen⟩:=x3q hn hpre hwl;refine enter_call (codeAny_mono (call w s₀ s₁ mg mb fa o pm cd doc a vs ns G Y ho (fd_plain hd) hcd hmg hobj hints hlen (y5b hlay) hg) fun r s' hq=>?_)
 obtain⟨rfl,h2,h3,h4⟩:=hq;exact⟨.inl ⟨.bool true,.bool true,[],rfl,fun _=>rfl,.bool true,x3r l _,fun _=>⟨List.Pairwise.nil,fun _ hm=>(nomatch hm)⟩⟩,h2,h3,h4⟩
end Att
namespace L2
open PySem PySem.Spec PyProof.Rows
theorem y8w{X:Cx}:OpR X (binaryOp .Mult) (rI IntMulOk fun i j=>.int (i*j)):=opI fun _ _ _ _ _ _ _ hc q=>mul_int q hc
end L2
namespace D
open PySem L2
open Classical in
noncomputable def mulB:W->W->Option W
 |.int i,.int j=>if IntMulOk i j then some (.int (i*j))else none
 |_,_=>none
theorem y8x{K:PySem.W.Frag}:Op2 K (rI IntMulOk fun i j=>.int (i*j)) mulB:=by
 intro G H x y wx wy w Q s px py hf h;unfold mulB at hf;split at hf
 ·split at hf
  ·rename_i hc;cases hf;cases px;cases py;exact⟨_,_,rfl,rfl,hc,h G _ H (.refl s) rfl⟩
  ·cases hf
 ·cases hf
theorem y8y{X:Cx}{Z:Zt}{EE:L2.St->XK}{a b:Expr}{da db:Den W}{pos:Pos}(ha:DE Z X EE a da)(hb:DE Z X EE b db):DE Z X EE (.BinOp a .Mult b pos) (dOp mulB da db):=q9q y8w y8x ha hb
theorem y8z{i j:Int}{m n:Nat}(hi:Builtin.Int.intBits i<=m)(hj:Builtin.Int.intBits j<=n)(h:m+n<=134217728):mulB (.int i) (.int j)=some (.int (i*j)):=if_pos (PyProof.Rows.mulOk_of_bits hi hj h)
def Fit(ns:List Int):Prop:=ns.length<=63/\∀i∈ns,Builtin.Int.intBits i<=1048576
noncomputable def spLawB(K:PySem.W.Frag):Sp:=fun vs H Q _=>∃(a:Addr)(ns:List Int),vs=[.ref a]/\SqL K H a (ns.map V.int)/\Fit ns/\∀H',Q (.bl true) H'
theorem y2j{K:PySem.W.Frag}{F:List W->FR}(hF:∀ns:List Int,Fit ns->F [.lst (ns.map .int)]=.ok (.fr (.bl true))){vs:List V}{H:Hp}{Q:VK}{E:XK}(h:spLawB K vs H Q E):spF K F vs H Q E:=by
 obtain⟨a,ns,rfl,hS,hl,q⟩:=h;refine⟨fun b=>if b=a then H a else none,[.lst (ns.map .int)],fun b o z=>?_,⟨.ref a,[],rfl,⟨a,ns.map V.int,rfl,?_,q82 ns⟩,rfl⟩,?_⟩
 ·by_cases hb:b=a
  ·subst hb;simpa using z
  ·simp[hb]at z
 ·rcases hS with(h|⟨o,h⟩)|h
  ·exact .inl (.inl (by simpa using h))
  ·exact .inl (.inr ⟨o,by simpa using h⟩)
  ·exact .inr h
 ·rw[hF ns hl];intro G' H' v g sl;obtain⟨u,h1,h2⟩:=sl;cases h1;cases(show v=V.bl true from h2);exact q H'
end D
namespace L2
open PySem PySem.Spec PyProof.Rows
end L2
namespace D
open PySem L2 PySem.Spec PyProof.Rows
open PyProof.Rows (envOfC)
open PySem L2
end D
namespace L2
open PySem PySem.Spec PyProof.Rows
end L2
namespace D
open PySem L2
open Classical in
noncomputable instance fitsD (k:Kx) (sh:Sh):Decidable (fits k sh):=Classical.propDecidable _
end D
namespace L2
open PySem PySem.Spec PyProof.Rows
structure LamScopeC(x:Str)(Nf:List Str)(sc:Scope):Prop where
 kind:sc.kind=.function
 co:sc.isCoroutine=false
 gen:sc.isGenerator=false
 par:sc.names.lookup x=some .cell
 one:∀n cl,cellsFrom n sc.names cl=(x,n)::cl
 onep:∀h:Heap,pushCells h sc.names=h.push {cls:=.type "cell", data:=.cell none}
 only:∀y∈sc.names,y.2=.cell->y.1=x
 fr:∀y∈Nf,sc.names.lookup y=some .free
end L2
namespace D
open PySem L2
structure LamOkC(P:Program)(w:World)(K:PySem.W.Frag)(mg:Str->Option Value)(base:Heap)(n:Nat)(l:Lm)(x:Str)(F:List W->FR):Prop where
 sc:LamScopeC x l.nf l.scope
 bind:∀(cl:List (Str×Addr))(pm:Value)(c':Addr)(ctv u:Value),bindArgs (kla_fn "<lambda>" l.qual l.params l.body l.scope cl pm (.ref c') ctv) ⟨[u],[]⟩=pure [(x,u)]
 len:∀ws,F ws≠.no->ws.length=1+l.nf.length
 body:∀ws,F ws≠.no->∀(Z:Zt)(f:Addr)(cd:Value)(cl:List (Str×Addr))(A:Around)(outer:List Env)(s:Shared)(H:Hp),Room n (A.deeper (lamEnv l.qual l.scope f cd cl s)) ->
  ∃d,DE Z (cxLam P w K mg base ([x]++l.nf) l.qual l.scope f cd cl A outer s H) (fun _=>E0) l.body d/\exprFR (d (ws.map .fr))=F ws
end D
namespace L2
open PySem PySem.Spec PyProof.Rows
noncomputable def cxLamX(P:Program)(w:World)(K:PySem.W.Frag)(mg:Str->Option Value)(base:Heap)(N:List Str)(qual:Str)(scope:Scope)(f:Addr)(cd:Value)(cl:List (Str×Addr))(A:Around)(outer:List Env)(s:Shared)(H:Hp)(E:XK):Cx:=
 {cxLam P w K mg base N qual scope f cd cl A outer s H with xe:=fun e s'=>wpAny (model P w) (A.deeper (lamEnv qual scope f cd cl s)) (leaving (lamEnv qual scope f cd cl s) e) (fun _ s''=>CX1 P w outer H s E e s'') (fun e' s''=>CX1 P w outer H s E e' s'') s'}
end L2
namespace D
open PySem L2
variable{X:Cx}{d:Den W}{e:Expr}{G:Hp}{EE:L2.St->XK}{k:Nat}{p pos:Pos}{K:PySem.W.Frag}{x:Str}{v:Value}{w:World}{Z:Zt}
structure LamOkCX(P:Program)(w:World)(K:PySem.W.Frag)(mg:Str->Option Value)(base:Heap)(n:Nat)(l:Lm)(x:Str)(F:List W->FR):Prop where
 sc:LamScopeC x l.nf l.scope
 bind:∀(cl:List (Str×Addr))(pm:Value)(c':Addr)(ctv u:Value),bindArgs (kla_fn "<lambda>" l.qual l.params l.body l.scope cl pm (.ref c') ctv) ⟨[u],[]⟩=pure [(x,u)]
 len:∀ws,F ws≠.no->ws.length=1+l.nf.length
 body:∀ws,F ws≠.no->∀(Z:Zt)(f:Addr)(cd:Value)(cl:List (Str×Addr))(A:Around)(outer:List Env)(s:Shared)(H:Hp)(E:XK),Room n (A.deeper (lamEnv l.qual l.scope f cd cl s)) ->
  ∃d,DE Z (cxLamX P w K mg base ([x]++l.nf) l.qual l.scope f cd cl A outer s H E) (fun _=>E) l.body d/\exprFR (d (ws.map .fr))=F ws
open PySem L2 PySem.Spec PyProof.Rows
noncomputable def isOb:Option Bool->Value->Bool
 |none,.none=>true
 |some b,.bool c=>b==c
 |_,_=>false
noncomputable def obV:Option Bool->Value
 |none=>.none
 |some b=>.bool b
theorem q25{k:Option Bool}(h:isOb k v=true):v=obV k:=by
 cases k with
 |none=>cases v<;>first|rfl|cases h
 |some b=>
  cases v with
  |bool c=>
   have:b=c:=beq_iff_eq.mp h;subst this;rfl
  |_=>cases h
noncomputable def obHash(w:World):Option Bool->Int
 |none=>kHash w .non
 |some b=>kHash w (.bl b)
theorem y2k{prog:Program}{A:Around}{E:Value->Shared->Prop}{s:Shared}{Q:Int->Shared->Prop}(k:Option Bool)(hv:isOb k v=true)(h:Q (obHash w k) {s with toks:=s.toks+1}):wpAny (model prog w) A (pyHash v) Q E s:=by
 have:=q25 hv;subst this;cases k with
 |none=>exact pyHash_slot (T:="NoneType") rfl F.slot_NoneType_hash F.entry_NoneType_hash (F.args_NoneType_hash_1 _) (beq_builtin_none _) (.inl rfl) (wpAny_bind (wpAny_pure (wpAny_bind (wpAny_mkInt (wpAny_pure ⟨_,_,rfl,h⟩)))))
 |some b=>
  refine pyHash_slot (T:="bool") rfl F.slot_bool_hash entry_int_hash (args_int_hash _) (beq_builtin_none _) (.inl rfl) ?_;cases b
  ·exact(show wpAny _ _ (do ret (<- mkInt 0)) _ _ s from wpAny_bind (wpAny_mkInt (wpAny_pure ⟨_,_,rfl,h⟩)))
  ·exact(show wpAny _ _ (do ret (<- mkInt 1)) _ _ s from wpAny_bind (wpAny_mkInt (wpAny_pure ⟨_,_,rfl,h⟩)))
theorem z4x{prog:Program}{A:Around}{E:Value->Shared->Prop}{s:Shared}{Q:Bool->Shared->Prop}{a b:Option Bool}{u:Value}(hu:isOb a u=true)(hv:isOb b v=true)(h:Q (decide (a=b)) s):wpAny (model prog w) A (eqBool u v) Q E s:=by
 have h1:=q25 hu;have h2:=q25 hv;subst h1;subst h2;cases a with
 |none=>
  cases b with
  |none=>exact SeqAt.EqAt.same _ prog w E Q (by simpa using h)
  |some c=>exact SeqAt.EqAt.none_bool c prog w E Q (by simpa using h)
 |some a=>
  cases b with
  |none=>exact SeqAt.EqAt.bool_none a prog w E Q (by simpa using h)
  |some c=>
   have e:decide (some a=some c)=(a==c):=by cases a<;>cases c<;>rfl
   rw[e]at h;exact SeqAt.EqAt.bool_bool a c prog w E Q h
noncomputable def obKind(prog:Program)(w:World):KeyKind prog w (Option Bool) where
 is:=isOb
 hash:=obHash w
 inj:=fun v a b ha hb=>by
  have h1:=q25 ha;subst h1;cases a with
  |none=>cases b with
   |none=>rfl
   |some c=>cases hb
  |some a=>cases b with
   |none=>cases hb
   |some c=>have:c=a:=beq_iff_eq.mp hb;rw[this]
 byValue:=fun k v h=>by
  have:=q25 h;subst this;cases k<;>rfl
 pyHash:=fun {A E s k v Q} hv h=>y2k k hv h
 eqBool:=fun {A E s a b u v Q} hu hv h=>z4x hu hv h
 «strs»:=fun k x t v h=>(by cases k<;>cases h)
noncomputable def sgn:Option Bool->Str
 |none=>"-"
 |some true=>"1"
 |some false=>"0"
noncomputable def valIs(v:Value)(x:Str):Bool:=match v with
 |.str y _=>y==x
 |_=>false
noncomputable def isSigns(w:World)(o:Obj):Bool:=match o.cls,o.dict,o.slots.toList,o.data with
 |.type c,none,[],.dict es _=>c=="dict"&&(match es.toList with
  |[e1,e2,e3]=>(isOb (some true) e1.key&&e1.hash==obHash w (some true)&&valIs e1.val "1")&&(isOb (some false) e2.key&&e2.hash==obHash w (some false)&&valIs e2.val "0")&&(isOb none e3.key&&e3.hash==obHash w none&&valIs e3.val "-")
  |_=>false)
 |_,_,_,_=>false
structure SignK(w:World)(K:PySem.W.Frag)(d:Addr):Prop where
 obj:∃o,K.lookup d=some o/\isSigns w o=true
theorem q7d(h:valIs v x=true):∃t,v=.str x t:=by
 cases v with
 |str y t=>exact⟨t,by rw[show y=x from beq_iff_eq.mp h]⟩
 |_=>cases h
theorem y2l{prog:Program}{d:Addr}(T:SignK w K d){h:Heap}(x:K.In h):∃f:Option Bool->Option Value,h.MapOf (obKind prog w) d f/\∀k,∃t,f k=some (.str (sgn k) t):=by
 obtain⟨o,h1,h2⟩:=T.obj;unfold isSigns at h2;split at h2
 ·rename_i c es ep hc hd hs hdt;rw[w0j]at h2;obtain⟨hcd,h2⟩:=h2;split at h2
  ·rename_i e1 e2 e3 hes;simp only[w0j,beq_iff_eq]at h2;obtain⟨⟨⟨⟨a1,a2⟩,a3⟩,⟨b1,b2⟩,b3⟩,⟨c1,c2⟩,c3⟩:=h2;obtain⟨t1,v1⟩:=q7d a3;obtain⟨t2,v2⟩:=q7d b3;obtain⟨t3,v3⟩:=q7d c3;have k1:=q25 a1;have k2:=q25 b1;have k3:=q25 c1;have he:es=#[e1,e2,e3]:=by apply w4g.mp;rw[hes]
   refine⟨findBy isOb es,⟨o,es,ep,x d o h1,⟨?_,hd,?_⟩,hdt,fun e hm=>?_,fun _=>rfl⟩,fun k=>?_⟩
   ·rw[hc,beq_iff_eq.mp hcd]
   ·apply w4g.mp;rw[hs]
   ·rw[he]at hm;simp only[List.mem_toArray,w0h,w1d,or_false]at hm;rcases hm with rfl|rfl|rfl
    ·exact⟨some true,a1,a2⟩
    ·exact⟨some false,b1,b2⟩
    ·exact⟨none,c1,c2⟩
   ·rw[he];unfold findBy;rw[List.find?_toArray];cases k with
    |none=>exact⟨t3,by simp only[w4o,k1,k2,k3];exact congrArg some v3⟩
    |some b=>
     cases b with
     |true=>exact⟨t1,by simp only[w4o,k1,k2,k3];exact congrArg some v1⟩
     |false=>exact⟨t2,by simp only[w4o,k1,k2,k3];exact congrArg some v2⟩
  ·cases h2
 ·cases h2
noncomputable def sgnW:W->Option W
 |.non=>some (.str (sgn none))
 |.bl b=>some (.str (sgn (some b)))
 |_=>none
section
variable{k:Expr}{dk:Den W}{d:Addr}
def rSgn(d:Addr):R2:=fun x y H Q=>x=.ref d/\((y=.non/\Q (.str (sgn none)) H)\/∃b,y=.bl b/\Q (.str (sgn (some b))) H)
theorem z2p(T:SignK X.w X.K d):IxR X (rSgn d):=by
 intro value slice pins s σ H x y v u Q I rx ry h hs;obtain⟨rfl,h⟩:=h;cases rx;obtain⟨f,hm,hf⟩:=y2l (prog:=X.prog) T I.kIn
 have key:∃k:Option Bool,u=obV k/\Q (.str (sgn k)) H:=by
  rcases h with⟨rfl,q⟩|⟨b,rfl,q⟩
  ·exact⟨none,ry,q⟩
  ·exact⟨some b,ry,q⟩
 obtain⟨k,rfl,q⟩:=key;obtain⟨t,ht⟩:=hf k
 have hk:isOb k (obV k)=true:=by
  cases k with
  |none=>rfl
  |some b=>exact beq_self_eq_true b
 exact PyProof.Rows.tail_any hm.typeIs F.slot_dict_getitem.lookup (wpAny_getItem_of (knd:=obKind X.prog X.w) hk hm ht ⟨.str (sgn k),H,I.tok _,⟨t,rfl⟩,q⟩) hs
theorem z2q(T:∃d,X.mg x=some (.ref d)/\SignK X.w X.K d)(hk:DE Z X EE k dk)(hg:Gl X x:=by rfl)(hd:(x==("__debug__":Str))=false:=by decide)(hs:PlainIx k:=by intro _ _;rfl):
  DE Z X EE (.Subscript (.Name x p) k pos) (dUn sgnW dk):=by
 obtain⟨d,hm,T⟩:=T;refine PE.mono (y54 (z2p T) (x8l (v:=.ref d) hg hm rfl hd) hk hs) ?_;rintro σ H Q ⟨G,e,rel,h⟩;simp only[dUn,R.holds_bind,ofOpt_holds]at h;refine⟨G,e,rel,h.imp (fun w e1 h G1 v1 H1 r1 s1 p1=>?_) fun _ _ h=>h⟩
 obtain⟨w',hw,h⟩:=h;unfold sgnW at hw;split at hw
 ·cases hw;cases p1;exact⟨rfl,.inl ⟨rfl,h G1 _ H1 r1 s1 rfl⟩⟩
 ·rename_i b;cases hw;cases p1;exact⟨rfl,.inr ⟨b,rfl,h G1 _ H1 r1 s1 rfl⟩⟩
 ·cases hw
end
noncomputable def str1R:FR->Option Str
 |.ok (.fr (.str n))=>some n
 |_=>none
noncomputable def keysW(F:List W->FR):List W->Option (List Str)
 |[]=>some []
 |w::ws=>match str1R (F [w]),keysW F ws with
  |some n,some ns=>some (n::ns)
  |_,_=>none
abbrev UpW(zs:List (Str×W)):Prop:=zs.Pairwise fun a b=>a.1.cps.toList<b.1.cps.toList
open Classical in
noncomputable def srtW(ns:List Str)(ws:List W):Option (List W):=if h:ns.length=ws.length/\∃zs:List (Str×W),zs.Perm (ns.zip ws)/\UpW zs then some (h.2.choose.map (·.2))else none
theorem x20:∀{l m:List (Str×W)},UpW l->UpW m->l.Perm m->l=m
 |[],m,_,_,p=>p.nil_eq
 |x::l,[],_,_,p=>(List.cons_ne_nil _ _ p.eq_nil).elim
 |x::l,y::m,hl,hm,p=>by
  have h1:=w1r.mp hl;have h2:=w1r.mp hm
  have e:x=y:=by
   have hx:x∈y::m:=p.mem_iff.mp w0k;have hy:y∈x::l:=p.mem_iff.mpr w0k;rcases w0h.mp hx with e|hx
   ·exact e
   ·rcases w0h.mp hy with e|hy
    ·exact e.symm
    ·exact(w4v _ (List.lt_trans (h1.1 y hy) (h2.1 x hx))).elim
  subst e;rw[x20 h1.2 h2.2 (List.Perm.cons_inv p)]
theorem y80{ns:List Str}{ws:List W}{zs:List (Str×W)}(hl:ns.length=ws.length)(hp:zs.Perm (ns.zip ws))(hu:UpW zs):srtW ns ws=some (zs.map (·.2)):=by
 unfold srtW;have h:ns.length=ws.length/\∃zs:List (Str×W),zs.Perm (ns.zip ws)/\UpW zs:=⟨hl,zs,hp,hu⟩;rw[dif_pos h];obtain⟨c1,c2⟩:=h.2.choose_spec;rw[x20 c2 hu (c1.trans hp.symm)]
theorem y5c{ns:List Str}{ws us:List W}(h:srtW ns ws=some us):ns.length=ws.length/\∃zs:List (Str×W),zs.Perm (ns.zip ws)/\UpW zs/\us=zs.map (·.2):=by
 unfold srtW at h;split at h
 ·rename_i hh;cases h;exact⟨hh.1,_,hh.2.choose_spec.1,hh.2.choose_spec.2,rfl⟩
 ·cases h
theorem y81{y:Str}(h:x.cps.toList=y.cps.toList):x=y:=by
 cases x;cases y;simp only at h;congr 1;exact w4g.mp h
theorem z4y{zs ys:List (Str×W)}(h:zs.Pairwise fun a b=>¬b.1.cps.toList<a.1.cps.toList)(hp:zs.Perm ys)(hy:UpW ys):UpW zs:=by
 have ny:(ys.map (·.1)).Nodup:=by
  refine w4a.mpr (hy.imp fun {a b} h e=>?_)
  rw[e]at h;exact w4v _ h
 have nz:(zs.map (·.1)).Nodup:=(hp.map _).nodup_iff.mpr ny;have nz:=w4a.mp nz;refine(h.and nz).imp fun {a b} h=>?_
 by_cases l:a.1.cps.toList<b.1.cps.toList
 ·exact l
 ·exact(h.2 (y81 (List.le_antisymm (List.not_lt.mp h.1) (List.not_lt.mp l)))).elim
noncomputable def srtK(F:List W->FR):W->Option (List W)
 |.lst ws=>if ws.length<64 then(keysW F ws).bind fun ns=>srtW ns ws else none
 |_=>none
noncomputable def dSrtK(F:List W->FR)(d:Den W):Den (List W):=fun e=>(d e).bind fun w e1=>ofOpt (srtK F w) e1
theorem y82{F:List W->FR}{e:List S}:dSrtK F d e=(d e).bind fun w e1=>ofOpt (srtK F w) e1:=rfl
def RW2(K:PySem.W.Frag)(G:Hp)(a:Str×W)(b:Str×V):Prop:=a.1=b.1/\Rep K G a.2 b.2
theorem rw_zip{K:PySem.W.Frag}:∀{ns:List Str}{ws:List W}{xs:List V},Reps K G ws xs->RelL (RW2 K G) (ns.zip ws) (ns.zip xs)
 |[],_,_,_=>trivial
 |n::ns,[],xs,h=>by cases(show xs=[]from h);exact trivial
 |n::ns,w::ws,_,h=>by
  obtain⟨x,xs,rfl,h1,h2⟩:=h;exact⟨⟨rfl,h1⟩,rw_zip h2⟩
theorem rw_reps:∀{ws:List W}{xs:List V},RelL (Rep K G) ws xs->Reps K G ws xs
 |[],[],_=>rfl
 |w::ws,x::xs,h=>⟨x,xs,rfl,h.1,rw_reps h.2⟩
theorem rw_up{zw:List (Str×W)}{zs:List (Str×V)}(r:RelL (RW2 K G) zw zs)(h:UpTo zs):zw.Pairwise fun a b=>¬b.1.cps.toList<a.1.cps.toList:=by
 refine w2x.mpr fun i j hi hj hij=>?_
 obtain⟨b1,e1,r1,_⟩:=r.get i zw[i] (w0b hi);obtain⟨b2,e2,r2,_⟩:=r.get j zw[j] (w0b hj);obtain⟨hi',rfl⟩:=w0d.mp e1;obtain⟨hj',rfl⟩:=w0d.mp e2;rw[r1,r2];exact w2x.mp h i j hi' hj' hij
theorem x36{F:List W->FR}{G1 H1:Hp}{l ks:Addr}{o:Obj}{Kk:List Str->Hp->Prop}(hlk:l≠ks)(n2:H1 ks=none)(all:List Str)
  (hK:∀Gc Hc,Grow G1 H1 Gc Hc->Gc l=none->Gc ks=none->Hc l=some (.frz o (.lst []))->Hc ks=some (.lst (all.map V.str))->Kk all Hc):
  ∀(ws:List W)(xs:List V)(ns0 ns:List Str)(Gc Hc:Hp),Reps K Gc ws xs->keysW F ws=some ns->ns0++ns=all->Grow G1 H1 Gc Hc->Gc l=none->Gc ks=none->Hc l=some (.frz o (.lst []))->Hc ks=some (.lst (ns0.map V.str)) ->
   keysS (spF K F) l o ks Kk xs ns0 Hc
 |[],xs,ns0,ns,Gc,Hc,r,hk,ha,g,g1,g2,h1,h2=>by
  cases(show xs=[]from r);cases hk;rw[w1n]at ha;subst ha;exact hK Gc Hc g g1 g2 h1 h2
 |w::ws,xs,ns0,ns,Gc,Hc,r,hk,ha,g,g1,g2,h1,h2=>by
  obtain⟨x,xs,rfl,r1,r2⟩:=r
  obtain⟨n,ns',hn,hk',rfl⟩:∃n ns',str1R (F [w])=some n/\keysW F ws=some ns'/\ns=n::ns':=by
   have hk:(match str1R (F [w]),keysW F ws with
    |some n,some ns=>some (n::ns)
    |_,_=>none)=some ns:=hk
   split at hk
   ·rename_i n ns' e1 e2;cases hk;exact⟨n,ns',e1,e2,rfl⟩
   ·cases hk
  have hn:F [w]=.ok (.fr (.str n)):=by
   unfold str1R at hn;split at hn
   ·rename_i m e;cases hn;exact e
   ·cases hn
  refine⟨Gc,[w],g.sub,⟨x,[],rfl,r1,rfl⟩,?_⟩;rw[hn];intro G' H' v g' sl;obtain⟨v',e',rp⟩:=sl;cases e';cases(show v=V.str n from rp);have e1:=g'.hh _ _ h1;have e2:=g'.hh _ _ h2;have k1:G' l=none:=by rw[g'.new l (by rw[h1];exact fun z=>nomatch z)];exact g1
  have k2:G' ks=none:=by rw[g'.new ks (by rw[h2];exact fun z=>nomatch z)];exact g2
  refine⟨n,rfl,e1,e2,x36 hlk n2 all hK ws xs (ns0++[n]) ns' G' _ (Reps.mono g'.gg ws r2) hk' (by rw[w2v];exact ha) ((g.trans g').write n2 k2) k1 k2 (by rw[q0c hlk];exact e1) q0l⟩
section
variable{np kp:Pos}{ps:List Str}{F:List W->FR}
theorem y83(C:Cal X.prog X.w X.K X.mg X.base k x ps (spF X.K F))(hr:Room (k+2) X.A)(hm:X.mg "sorted"=none)(he:DE Z X EE e d)(hgx:Gl X x:=by rfl)(hg:Gl X "sorted":=by rfl)
  (hst:starEach [e] X.env=[(false,eval e X.env)]:=by rfl)(hdx:(x==("__debug__":Str))=false:=by decide):
  DF Z X EE (.Call (.Name "sorted" p) [e] [⟨some "key", .Name x np,kp⟩] pos) (dSrtK F d):=by
 obtain⟨fa,fd,FF,m,kpp,bd⟩:=C.ex;refine PE.mono (y5a FF hr bd m hgx hg hm he hst hdx) ?_;rintro σ H Q ⟨G,en,rel,h⟩;simp only[dSrtK,R.holds_bind,ofOpt_holds]at h;refine⟨G,en,rel,h.imp (fun w e1 h G1 v1 H1 r1 s1 p1=>?_) fun _ _ h=>h⟩
 obtain⟨out,hf,h⟩:=h;cases w with
 |lst ws=>
  simp only[srtK]at hf;split at hf
  ·rename_i h64;obtain⟨ns,hns,hf⟩:=w4b.mp hf;obtain⟨hl,ys,py,uy,rfl⟩:=y5c hf;obtain⟨pa,xs,rfl,q,rr⟩:=p1;have hxl:xs.length=ws.length:=rr.length;refine⟨pa,xs,rfl,r1.sub.seq q,by omega,fun lA hlA o ks hks=>?_⟩
   rw[x2m]at hks |-
   have hlk:lA≠ks:=fun z=>by subst z;rw[q0l]at hks;cases hks
   have hk0:H1 ks=none:=by rw[q0c (Ne.symm hlk)]at hks;exact hks
   have gl:G1 lA=none:=r1.sub.free hlA;have gk:G1 ks=none:=r1.sub.free hk0;refine x36 (G1:=G1) (H1:=H1) hlk hk0 ns (fun Gc Hc g c1 c2 c3 c4 zs pz uz=>?_) ws xs [] ns G1 _ rr hns rfl (((Grow.refl r1.sub).write hlA gl).write hk0 gk) gl gk (by rw[q0c hlk];exact q0l) q0l
   obtain⟨zw,pw,rz⟩:=RelL.perm pz (rw_zip (K:=X.K) (G:=Gc) (ns:=ns) (Reps.mono g.gg ws rr));have uw:=z4y (rw_up rz uz) (pw.trans py.symm) uy;cases x20 uw uy (pw.trans py.symm);have gw:=(g.write (o:=.lst []) hk0 c2).write (o:=.lst (zs.map (·.2))) hlA c1;exact h Gc lA _ _ (r1.grow gw) (s1.trans g.gg) q0l c1 (q6j r1 hlA) (q6i r1 hlA) (rw_reps (RelL.map (fun _ _ h=>h.2) rz))
  ·cases hf
 |_=>cases hf
end
theorem con0K{P:Program}{mg:Str->Option Value}{base:Heap}{st:Stmt}{ps:List Str}{F:List W->FR}(A:At K mg x st ps)(hF:∀ws,F ws=.no:=by intro _;rfl):Cal P w K mg base k x ps (spF K F):=by
 obtain⟨f,fd,F0,m,b⟩:=A.ex;exact⟨f,fd,⟨fun vs H Q E h=>(x1u hF h).elim,fun A outer s H args us vs Q E _ _ _ _ h=>(x1u hF h).elim⟩,m,F0.kp,b⟩
end D
namespace L2
open PySem PySem.Spec PyProof.Rows
theorem y2m{l:PySem.W.OpenLaw}{n k:Nat}{q:Program}{loose:List Str}{XP:(Str->Option Value)->Heap->Prop}{YP:World->Heap->Prop}{d:DefRec}{K:Params->PySem.W.Frag}{CX:World->CXT}{sp:World->Sp}{x:Str}{tabs:List (Addr×Str)}
  (hn:l.most=some n)(hn2:n<=sizeLine)(hdf:d.params.defaults=[])(hr:Room k callerA)
  (hY:∀(w:World)(h:Heap),YP w h->(K w.params).In h)
  (F:∀(w:World)(mg:Str->Option Value)(fa:Addr)(h:Heap),(K w.params).In h->h.Ns mainGlobals mg->mg d.name=some (.ref fa) ->
   ∃fd:FuncData,(∀(s:Shared)(u:Value),BindsTo s fd ⟨[u],[]⟩ [(x,u)]) /\
    ∀base:Heap,(K w.params).In base->base.Ns mainGlobals mg->BMain base mg->FnOk l.prog w (K w.params) mg base (CX w) k fa fd [x] (sp w))
  (hsp:∀(w:World)(H:Hp)(a:Addr)(ns:List Int),ns.length<=n->(∀i∈ns,Builtin.Int.intBits i<=1048576)->SqL (K w.params) H a (ns.map V.int)->sp w [.ref a] H (fun v _=>v=.bl true) fun _ _ _=>False)
  (hCX:∀(w:World)(H:Hp)(s:Shared)(e:Value)(s':Shared),CX w [] H s (fun _ _ _=>False) e s'->False)
  (hM:∀(w:World) a q P,(a,markO P q)∈K w.params->tabs.lookup P=some q)(hT:∀(w:World)(h:Heap),YP w h->∀P q,tabs.lookup P=some q->h.get? P=some (tabObj #[])/\isCodeTable h P)(hKT:∀(w:World) P q,tabs.lookup P=some q->(K w.params).lookup P=none):
  PySem.W.WalkO q loose XP YP l.row.toRowW d [] (fun f vs=>PySem.call f vs):=by
 refine Att.attach_callB hn hdf fun w s₀ s₁ mg mb fa o pm cd doc a vs ns G Y ho hd hcd hmg hobj hints hlen hbits hg=>?_
 have KX:=hY w _ Y;obtain⟨fd,hb,hF⟩:=F w mg fa _ KX G.T.g hmg;exact y2c KX G.T.g G.T.b G.T.builtins G.T.nolimit hg hobj hints (w0l hlen hn2) hr hF hb (fun H hS=>hsp w H a ns hlen hbits hS) (fun H e s'=>hCX w H s₁ e s') G.T.bmain (hM w) (hT w _ Y) (hKT w)
end L2
namespace M10
noncomputable def numG(a:Int)(row:List Bool):Int:=row.foldl (fun acc b=>2*acc+(if b=true then 1 else 0)) a
noncomputable def num(row:List Bool):Int:=numG 0 row
noncomputable def b2(b:Bool):Int:=if b=true then 1 else 0
theorem y2n(a:Int)(row:List Bool)(b:Bool):numG a (row++[b])=2*numG a row+b2 b:=by
 unfold numG;rw[List.foldl_append];rfl
theorem x81:num []=0:=rfl
theorem x01(row:List Bool)(b:Bool):num (row++[b])=2*num row+b2 b:=y2n 0 row b
theorem x6h(b:Bool):b2 b=0\/b2 b=1:=by cases b<;>simp[b2]
theorem x6i{P:List Bool->Prop}(h0:P [])(h1:∀l b,P l->P (l++[b])):∀l,P l:=by
 intro l
 have:∀r:List Bool,P r.reverse:=by
  intro r
  induction r with
  |nil=>simpa using h0
  |cons b r ih=>rw[w1u];exact h1 _ _ ih
 have:=this l.reverse
 rwa [List.reverse_reverse]at this
theorem x10(row:List Bool):0<=num row/\num row<2^row.length:=by
 induction row using x6i with
 |h0=>simp[x81]
 |h1 l b ih=>
  rw[x01,w0q,w2p,w3t];rcases x6h b with h|h<;>omega
noncomputable def bits:Nat->Int->List Bool
 |0,_=>[]
 |m+1,n=>decide (n%2=1)::bits m (n / 2)
noncomputable def rest:Nat->Int->Int
 |0,n=>n
 |m+1,n=>rest m (n / 2)
theorem q5e:∀m n,(bits m n).length=m
 |0,_=>rfl
 |m+1,n=>by rw[bits,w0p,q5e m]
theorem x37:∀m n,bits (m+1) n=bits m n++[decide (rest m n%2=1)]
 |0,n=>rfl
 |m+1,n=>by rw[bits,x37 m (n / 2),bits,rest];rfl
theorem x38:∀m n,rest (m+1) n=rest m n / 2
 |0,n=>rfl
 |m+1,n=>by rw[rest,x38 m (n / 2)];rfl
theorem x6j(m:Nat):∀n:Int,n=num (bits m n).reverse+2^m*rest m n:=by
 induction m with
 |zero=>intro n;simp[bits,rest,x81]
 |succ m ih=>
  intro n;rw[bits,rest,w1u,x01,w3t];have h:=ih (n / 2)
  have hb:b2 (decide (n%2=1))=n%2:=by
   unfold b2
   by_cases h1:n%2=1
   ·simp[h1]
   ·simp[h1];omega
  rw[hb]
  have e:(2:Int)^m*2*rest m (n / 2)=2*(2^m*rest m (n / 2)):=by
   rw[w5m (2^m) 2,Int.mul_assoc]
  rw[e];generalize (2:Int)^m*rest m (n / 2)=z at *;generalize num (bits m (n / 2)).reverse=y at *;omega
theorem y5d(m:Nat):(0:Int)<2^m:=by
 induction m with
 |zero=>decide
 |succ m ih=>rw[w3t];omega
theorem x39{m:Nat}{n:Int}(h0:0<=n)(h1:n<2^m):rest m n=0:=by
 have h:=x6j m n;have hb:=x10 (bits m n).reverse;rw[w3q,q5e]at hb;have hp:=y5d m
 by_cases hr:rest m n=0
 ·exact hr
 ·exfalso;rcases Int.lt_or_gt_of_ne hr with h2|h2
  ·have:2^m*rest m n<=2^m*(-1):=w3m (by omega) (by omega);omega
  ·have:2^m*1<=2^m*rest m n:=w3m (by omega) (by omega);omega
theorem x02{m:Nat}{n:Int}(h0:0<=n)(h1:n<2^m):num (bits m n).reverse=n:=by
 have h:=x6j m n;rw[x39 h0 h1,Int.mul_zero]at h;omega
theorem y5e(row:List Bool):(bits row.length (num row)).reverse=row:=by
 induction row using x6i with
 |h0=>rfl
 |h1 l b ih=>
  rw[w0q,w2p,x01,bits,w1u];have hb:=x6h b;have e1:(2*num l+b2 b) / 2=num l:=by rcases hb with h|h<;>omega
  have e2:decide ((2*num l+b2 b)%2=1)=b:=by
   cases b
   ·have:b2 false=0:=rfl;rw[this];simp
   ·have:b2 true=1:=rfl;rw[this,decide_eq_true_eq];omega
  rw[e1,e2,ih]
noncomputable def part(row:List Bool)(i:Nat):Int:=num (row.take i)*2^(row.length-i)
end M10
namespace Q
open PySem L2 D
variable{f:Addr}{A:Around}{H:Hp}{c w:List (Option Bool)}{ns:List Int}{l:List Nat}{ws:List W}{N cnt k m n q:Nat}{K:PySem.W.Frag}{s:Shared}{mg:Str->Option Value}{α:Type}{cdv:Value}{E:XK}{Z:Zt}
seal DE DF DT DW DA DS DSs DTs DO DFm PE PT PW PA PS PSs PG PGs PI PF PTs PC OpR UnR IxR CallR TruR MtR MtM SlR PO
theorem us1{P:List α->Prop}(h:∀x0,P [x0]):∀us:List α,us.length=1->P us
 |[x0],_=>h x0
theorem us2{P:List α->Prop}(h:∀x0 x1,P [x0,x1]):∀us:List α,us.length=2->P us
 |[x0,x1],_=>h x0 x1
theorem us3{P:List α->Prop}(h:∀x0 x1 x2,P [x0,x1,x2]):∀us:List α,us.length=3->P us
 |[x0,x1,x2],_=>h x0 x1 x2
theorem us4{P:List α->Prop}(h:∀x0 x1 x2 x3,P [x0,x1,x2,x3]):∀us:List α,us.length=4->P us
 |[x0,x1,x2,x3],_=>h x0 x1 x2 x3
theorem us5{P:List α->Prop}(h:∀x0 x1 x2 x3 x4,P [x0,x1,x2,x3,x4]):∀us:List α,us.length=5->P us
 |[x0,x1,x2,x3,x4],_=>h x0 x1 x2 x3 x4
noncomputable def top(i:Nat):Stmt:=PySem.Challenge.pw_circuits_k25_whole_none_fewer.main.body.getD i (.Pass ⟨0,0,0,0⟩)
structure Blt(P:Program)(w:World)(K:PySem.W.Frag)(mg:Str->Option Value):Prop where
 b_all:mg "all"=none
 b_any:mg "any"=none
 b_bool:mg "bool"=none
 b_enumerate:mg "enumerate"=none
 b_int:mg "int"=none
 b_isinstance:mg "isinstance"=none
 b_len:mg "len"=none
 b_list:mg "list"=none
 b_min:mg "min"=none
 b_range:mg "range"=none
 b_reversed:mg "reversed"=none
 b_sorted:mg "sorted"=none
 b_tuple:mg "tuple"=none
 b_zip:mg "zip"=none
 t_SIGNS:∃d,mg "SIGNS"=some (.ref d)/\SignK w K d
structure Adr where
 CircuitError:Addr
 NoRow:Addr
 NoTable:Addr
 MOST_PLACES_tables:Value
 MOST_PLACES_covers:Value
variable{a:Adr}
structure Exs(K:PySem.W.Frag)(mg:Str->Option Value)(a:Adr):Prop where
 z:True
 m_CircuitError:mg "CircuitError"=some (.ref a.CircuitError)
 m_NoRow:mg "NoRow"=some (.ref a.NoRow)
 m_NoTable:mg "NoTable"=some (.ref a.NoTable)
 m_MOST_PLACES_tables:mg "MOST_PLACES_tables"=some a.MOST_PLACES_tables
 m_MOST_PLACES_covers:mg "MOST_PLACES_covers"=some a.MOST_PLACES_covers
 g_MOST_PLACES_tables:conIn K (.int 10) a.MOST_PLACES_tables=true
 g_MOST_PLACES_covers:conIn K (.int 4) a.MOST_PLACES_covers=true
 e_NoRow:excIn K a.NoRow a.CircuitError=true
 e_NoTable:excIn K a.NoTable a.CircuitError=true
 c_NoRow:excClsIn K a.NoRow=true
 c_NoTable:excClsIn K a.NoTable=true
 t_NoneType_int:kitOne K (.type "NoneType") (.type "int")=some false
 t_bool_int:kitOne K (.type "bool") (.type "int")=some true
 t_int_int:kitOne K (.type "int") (.type "int")=some true
 t_str_int:kitOne K (.type "str") (.type "int")=some false
 t_tuple_int:kitOne K (.type "tuple") (.type "int")=some false
 t_list_int:kitOne K (.type "list") (.type "int")=some false
 t_NoneType_bool:kitOne K (.type "NoneType") (.type "bool")=some false
 t_bool_bool:kitOne K (.type "bool") (.type "bool")=some true
 t_int_bool:kitOne K (.type "int") (.type "bool")=some false
 t_str_bool:kitOne K (.type "str") (.type "bool")=some false
 t_tuple_bool:kitOne K (.type "tuple") (.type "bool")=some false
 t_list_bool:kitOne K (.type "list") (.type "bool")=some false
 t_NoneType_tuple:kitOne K (.type "NoneType") (.type "tuple")=some false
 t_bool_tuple:kitOne K (.type "bool") (.type "tuple")=some false
 t_int_tuple:kitOne K (.type "int") (.type "tuple")=some false
 t_str_tuple:kitOne K (.type "str") (.type "tuple")=some false
 t_tuple_tuple:kitOne K (.type "tuple") (.type "tuple")=some true
 t_list_tuple:kitOne K (.type "list") (.type "tuple")=some false
noncomputable abbrev q34:Nat:=0
noncomputable abbrev q2q:Nat:=1
noncomputable abbrev q3o:Nat:=2
noncomputable abbrev q35:Nat:=3
noncomputable abbrev q2r:Nat:=4
noncomputable abbrev q2c:Nat:=5
noncomputable abbrev q28:Nat:=6
noncomputable abbrev q1s:Nat:=7
noncomputable abbrev q44:Nat:=8
noncomputable abbrev q4y:Nat:=9
noncomputable abbrev q29:Nat:=10
noncomputable abbrev q3p:Nat:=11
noncomputable abbrev q2n:Nat:=12
noncomputable abbrev q3a:Nat:=13
noncomputable abbrev q1f:Nat:=14
noncomputable abbrev q1g:Nat:=15
noncomputable abbrev q26:Nat:=16
noncomputable abbrev q01:Nat:=17
noncomputable abbrev q2t:Nat:=18
noncomputable abbrev q1t:Nat:=19
noncomputable abbrev q16:Nat:=20
noncomputable abbrev q2a:Nat:=21
noncomputable abbrev q4z:Nat:=22
noncomputable abbrev q2u:Nat:=23
noncomputable abbrev q1u:Nat:=24
noncomputable abbrev q2s:Nat:=25
noncomputable abbrev q1x:Nat:=26
noncomputable abbrev q36:Nat:=27
noncomputable abbrev q1m:Nat:=28
noncomputable abbrev q0x:Nat:=29
noncomputable abbrev q0y:Nat:=30
noncomputable abbrev q2d:Nat:=31
noncomputable abbrev q1n:Nat:=32
noncomputable abbrev q2e:Nat:=33
noncomputable abbrev q2v:Nat:=34
noncomputable abbrev q2f:Nat:=35
noncomputable abbrev q1o:Nat:=36
noncomputable abbrev q55:Nat:=37
noncomputable abbrev q3b:Stmt:=top 5
theorem sc_row_of:FnScope ["number", "many", "truths", "rest", "step"] ["number", "many"] (defScope q3b):=⟨rfl,rfl,rfl,by decide +kernel,rfl,by decide +kernel,by decide +kernel⟩
noncomputable abbrev q1y:Stmt:=top 6
theorem sc_rows_many:FnScope ["many", "count", "place"] ["many"] (defScope q1y):=⟨rfl,rfl,rfl,by decide +kernel,rfl,by decide +kernel,by decide +kernel⟩
noncomputable abbrev q17:Stmt:=top 7
theorem x7x:FnScope ["many"] ["many"] (defScope q17):=⟨rfl,rfl,rfl,by decide +kernel,rfl,by decide +kernel,by decide +kernel⟩
noncomputable abbrev q2j:Stmt:=top 10
theorem x95:FnScope ["cube", "row"] ["cube", "row"] (defScope q2j):=⟨rfl,rfl,rfl,by decide +kernel,rfl,by decide +kernel,by decide +kernel⟩
noncomputable abbrev q2k:Stmt:=top 11
theorem x96:FnScope ["cube"] ["cube"] (defScope q2k):=⟨rfl,rfl,rfl,by decide +kernel,rfl,by decide +kernel,by decide +kernel⟩
noncomputable abbrev q1p:Stmt:=top 12
theorem x6k:FnScope ["cube"] ["cube"] (defScope q1p):=⟨rfl,rfl,rfl,by decide +kernel,rfl,by decide +kernel,by decide +kernel⟩
noncomputable abbrev q1z:Stmt:=top 15
theorem sc_places_of:FnScope ["table", "many"] ["table"] (defScope q1z):=⟨rfl,rfl,rfl,by decide +kernel,rfl,by decide +kernel,by decide +kernel⟩
noncomputable abbrev q1h:Stmt:=top 18
theorem sc_wish_places:FnScope ["wish", "many"] ["wish"] (defScope q1h):=⟨rfl,rfl,rfl,by decide +kernel,rfl,by decide +kernel,by decide +kernel⟩
noncomputable abbrev q37:Stmt:=top 19
theorem y84:FnScope ["cube", "wish"] ["cube", "wish"] (defScope q37):=⟨rfl,rfl,rfl,by decide +kernel,rfl,by decide +kernel,by decide +kernel⟩
noncomputable abbrev q2w:Stmt:=top 20
theorem y2o:FnScope ["wish"] ["wish"] (defScope q2w):=⟨rfl,rfl,rfl,by decide +kernel,rfl,by decide +kernel,by decide +kernel⟩
noncomputable abbrev q10:Stmt:=top 21
theorem sc_all_cubes:FnScope ["many", "cubes", "place", "longer", "cube"] ["many"] (defScope q10):=⟨rfl,rfl,rfl,by decide +kernel,rfl,by decide +kernel,by decide +kernel⟩
noncomputable abbrev q1v:Stmt:=top 22
theorem x7y:FnScope ["cube", "wish"] ["cube", "wish"] (defScope q1v):=⟨rfl,rfl,rfl,by decide +kernel,rfl,by decide +kernel,by decide +kernel⟩
noncomputable abbrev q04:Stmt:=top 23
theorem x21:FnScope ["cube"] ["cube"] (defScope q04):=⟨rfl,rfl,rfl,by decide +kernel,rfl,by decide +kernel,by decide +kernel⟩
noncomputable abbrev q3c:Stmt:=top 24
theorem sc_covers:FnScope ["cover", "wish", "left", "cube"] ["cover", "wish"] (defScope q3c):=⟨rfl,rfl,rfl,by decide +kernel,rfl,by decide +kernel,by decide +kernel⟩
noncomputable abbrev q05:Stmt:=top 25
theorem x22:FnScope ["wish"] ["wish"] (defScope q05):=⟨rfl,rfl,rfl,by decide +kernel,rfl,by decide +kernel,by decide +kernel⟩
noncomputable abbrev q1q:Stmt:=top 26
theorem x6l:FnScope ["numbers", "taken"] ["numbers", "taken"] (defScope q1q):=⟨rfl,rfl,rfl,by decide +kernel,rfl,by decide +kernel,by decide +kernel⟩
noncomputable abbrev q2g:Stmt:=top 28
theorem x7z:FnScope ["thing"] ["thing"] (defScope q2g):=⟨rfl,rfl,rfl,by decide +kernel,rfl,by decide +kernel,by decide +kernel⟩
noncomputable abbrev q1i:Stmt:=top 29
theorem x23:FnScope ["thing", "length"] ["thing", "length"] (defScope q1i):=⟨rfl,rfl,rfl,by decide +kernel,rfl,by decide +kernel,by decide +kernel⟩
noncomputable abbrev q1r:Stmt:=top 30
theorem x4x:FnScope ["thing", "truth"] ["thing", "truth"] (defScope q1r):=⟨rfl,rfl,rfl,by decide +kernel,rfl,by decide +kernel,by decide +kernel⟩
noncomputable abbrev q1j:Stmt:=top 32
theorem sc_least_cover:FnScope ["wish", "reaches", "wished", "count", "tree", "found"] ["wish"] (defScope q1j):=⟨rfl,rfl,rfl,by decide +kernel,rfl,by decide +kernel,by decide +kernel⟩
noncomputable abbrev q1d:Stmt:=top 33
theorem x4y:FnScope ["wish"] ["wish"] (defScope q1d):=⟨rfl,rfl,rfl,by decide +kernel,rfl,by decide +kernel,by decide +kernel⟩
noncomputable abbrev q3z:Stmt:=top 34
theorem sc_tried:FnScope ["reaches", "left", "count", "number", "branches", "prime", "rows", "found"] ["reaches", "left", "count"] (defScope q3z):=⟨rfl,rfl,rfl,by decide +kernel,rfl,by decide +kernel,by decide +kernel⟩
noncomputable abbrev q2o:Stmt:=top 35
theorem y2p:FnScope ["reaches", "left"] ["reaches", "left"] (defScope q2o):=⟨rfl,rfl,rfl,by decide +kernel,rfl,by decide +kernel,by decide +kernel⟩
noncomputable abbrev q2x:Stmt:=top 36
theorem y2q:FnScope ["reaches", "number"] ["reaches", "number"] (defScope q2x):=⟨rfl,rfl,rfl,by decide +kernel,rfl,by decide +kernel,by decide +kernel⟩
noncomputable abbrev q1k:Stmt:=top 37
theorem sc_shows_cover:FnScope ["wish", "count", "tree", "reaches"] ["wish", "count", "tree"] (defScope q1k):=⟨rfl,rfl,rfl,by decide +kernel,rfl,by decide +kernel,by decide +kernel⟩
noncomputable abbrev q2l:Stmt:=top 38
theorem sc_is_tree:FnScope ["thing", "reaches", "left", "count", "number", "branches", "wanted"] ["thing", "reaches", "left", "count"] (defScope q2l):=⟨rfl,rfl,rfl,by decide +kernel,rfl,by decide +kernel,by decide +kernel⟩
noncomputable abbrev q11:Stmt:=top 39
theorem x6m:FnScope ["thing", "reach", "reaches", "left", "count"] ["thing", "reach", "reaches", "left", "count"] (defScope q11):=⟨rfl,rfl,rfl,by decide +kernel,rfl,by decide +kernel,by decide +kernel⟩
noncomputable abbrev q2m:Stmt:=top 40
theorem x97:FnScope ["thing", "cube"] ["thing", "cube"] (defScope q2m):=⟨rfl,rfl,rfl,by decide +kernel,rfl,by decide +kernel,by decide +kernel⟩
noncomputable abbrev q07:Stmt:=top 42
theorem x11:FnScope ["_law_script", "_law_k"] ["_law_script", "_law_k"] (defScope q07):=⟨rfl,rfl,rfl,by decide +kernel,rfl,by decide +kernel,by decide +kernel⟩
noncomputable abbrev q2h:Stmt:=top 43
theorem sc__law_way:FnScope ["_law_script", "_law_k", "_law_many", "_law_mark_here"] ["_law_script", "_law_k", "_law_many"] (defScope q2h):=⟨rfl,rfl,rfl,by decide +kernel,rfl,by decide +kernel,by decide +kernel⟩
noncomputable abbrev q12:Stmt:=top 44
theorem sc__law_mark:FnScope ["_law_script", "_law_k", "_law_mark_here"] ["_law_script", "_law_k"] (defScope q12):=⟨rfl,rfl,rfl,by decide +kernel,rfl,by decide +kernel,by decide +kernel⟩
noncomputable abbrev q08:Stmt:=top 45
theorem sc__law_rows:FnScope ["_law_cube", "_law_found", "_law_wished"] ["_law_cube"] (defScope q08):=⟨rfl,rfl,rfl,by decide +kernel,rfl,by decide +kernel,by decide +kernel⟩
noncomputable abbrev q02:Stmt:=top 46
theorem sc__law_wish_by:FnScope ["_law_script", "_law_many", "_law_menus", "_law_menu", "_law_some_here"] ["_law_script", "_law_many"] (defScope q02):=⟨rfl,rfl,rfl,by decide +kernel,rfl,by decide +kernel,by decide +kernel⟩
noncomputable abbrev q13:Stmt:=top 47
theorem sc__law_fits:FnScope ["_law_cube", "_law_wish", "_law_number"] ["_law_cube", "_law_wish"] (defScope q13):=⟨rfl,rfl,rfl,by decide +kernel,rfl,by decide +kernel,by decide +kernel⟩
noncomputable abbrev q1e:Stmt:=top 48
theorem sc__law_grown:FnScope ["_law_wish", "_law_number", "_law_many", "_law_mark_here", "_law_cube", "_law_k", "_law_at", "_law_wider"] ["_law_wish", "_law_number", "_law_many", "_law_mark_here"] (defScope q1e):=⟨rfl,rfl,rfl,by decide +kernel,rfl,by decide +kernel,by decide +kernel⟩
noncomputable abbrev q1l:Stmt:=top 49
theorem sc__law_some:FnScope ["_law_wish", "_law_many", "_law_count", "_law_script", "_law_wished", "_law_some_here", "_law_k", "_law_number"] ["_law_wish", "_law_many", "_law_count", "_law_script"] (defScope q1l):=⟨rfl,rfl,rfl,by decide +kernel,rfl,by decide +kernel,by decide +kernel⟩
noncomputable abbrev q03:Stmt:=top 50
theorem sc__law_covered:FnScope ["_law_cover", "_law_wish", "_law_inside", "_law_cube"] ["_law_cover", "_law_wish"] (defScope q03):=⟨rfl,rfl,rfl,by decide +kernel,rfl,by decide +kernel,by decide +kernel⟩
noncomputable abbrev q4g:Stmt:=top 51
theorem sc_law:FnScope ["_law_script", "_law_many", "_law_wish", "_law_cover", "_law_tree", "_law_count"] ["_law_script"] (defScope q4g):=⟨rfl,rfl,rfl,by decide +kernel,rfl,by decide +kernel,by decide +kernel⟩
noncomputable abbrev q71:Expr:=(kwAt 0 (stVal (stAt 0 q2o)))
noncomputable abbrev q56:Lm:=⟨("rarest"++".<locals>.")++"<lambda>", lamParams q71,lamBody q71,lamScope q71,["reaches"]⟩
noncomputable abbrev q1w:Nat:=38
noncomputable def lams:Nat->Option Lm
 |38=>some q56
 |_=>none
theorem x4z:lams 38=some q56:=rfl
noncomputable def q4h(K:PySem.W.Frag)(a:Adr)(r:Nat->List W->FR):Den W:=
 (dFn len1 (dCons (dCall (r q2u) (dCons (dVar 1) (dCons (dVar 0) dNil))) dNil))
noncomputable def q72(K:PySem.W.Frag)(a:Adr)(r:Nat->List W->FR):List S->SR:=
 (dSeq (dApp 2 (dCons (dOp eq2 (dOp modW (dVar 3) (dC (.int 2))) (dC (.int 1))) dNil))
  (dSet 3 (dOp fdivW (dVar 3) (dC (.int 2)))))
noncomputable def q6n(K:PySem.W.Frag)(a:Adr)(r:Nat->List W->FR):List S->SR:=
 (dSeq (dSetO 2 (dLst dNil))
  (dSeq (dSet 3 (dVar 0))
  (dSeq (dForR 4 rng1 (dCons (dVar 1) dNil)
  (q72 K a r))
  (dSeq (dIfS (dTest (dOp ne2 (dVar 3) (dC (.int 0))))
  (dRaise a.NoRow (dCons (dC (.str "no row of so many places has that number")) dNil))
  dNx)
  (dRet (dUn tuprevW (dVar 2)))))))
noncomputable def q5s(K:PySem.W.Frag)(a:Adr)(r:Nat->List W->FR):List S->SR:=
 (dSet 1 (dOp mulW (dC (.int 2)) (dVar 1)))
noncomputable def q4o(K:PySem.W.Frag)(a:Adr)(r:Nat->List W->FR):List S->SR:=
 (dSeq (dSet 1 (dC (.int 1)))
  (dSeq (dForR 2 rng1 (dCons (dVar 0) dNil)
  (q5s K a r))
  (dRet (dVar 1))))
noncomputable def q89(K:PySem.W.Frag)(a:Adr)(r:Nat->List W->FR):Den W:=
 (dCall (r q34) (dCons (dVar 0) (dCons (dVar 1) dNil)))
noncomputable def q45(K:PySem.W.Frag)(a:Adr)(r:Nat->List W->FR):List S->SR:=
 (dRetF (dCompR rng1 [0] (dCons (dCall (r q2q) (dCons (dVar 0) dNil)) dNil) dYes (q89 K a r)))
noncomputable def q7e(K:PySem.W.Frag)(a:Adr)(r:Nat->List W->FR):Den W:=
 (dOrV (dOp isW (dVar 0) (dC .non)) (dOp eq2 (dVar 0) (dVar 1)))
noncomputable def q5n(K:PySem.W.Frag)(a:Adr)(r:Nat->List W->FR):List S->SR:=
 (dSeq (dIfS (dTest (dOp ne2 (dFn len1 (dCons (dVar 0) dNil)) (dFn len1 (dCons (dVar 1) dNil))))
  (dRet (dC (.bl false)))
  dNx)
  (dRet (dFn all1 (dCons (dFz (dCompP [] (srcZ (dCons (dVar 0) (dCons (dVar 1) dNil))) dYes (q7e K a r))) dNil))))
noncomputable def q96(K:PySem.W.Frag)(a:Adr)(r:Nat->List W->FR):Den W:=
 (dVar 0)
noncomputable def q97(K:PySem.W.Frag)(a:Adr)(r:Nat->List W->FR):Den Bool:=
 (dTru (dCall (r q35) (dCons (dVar 2) (dCons (dVar 1) dNil))))
noncomputable def q5o(K:PySem.W.Frag)(a:Adr)(r:Nat->List W->FR):List S->SR:=
 (dRetF (dCompP [0] (srcE (dCons (dCall (r q3o) (dCons (dFn len1 (dCons (dVar 0) dNil)) dNil)) dNil)) (q97 K a r) (q96 K a r)))
noncomputable def q76(K:PySem.W.Frag)(a:Adr)(r:Nat->List W->FR):Den W:=
 (dUn sgnW (dVar 0))
noncomputable def q4p(K:PySem.W.Frag)(a:Adr)(r:Nat->List W->FR):List S->SR:=
 (dRet (dMeth "str" joinW (dC (.str "")) (dCons (dFz (dComp [] (dVar 0) dYes (q76 K a r))) dNil)))
noncomputable def q5t(K:PySem.W.Frag)(a:Adr)(r:Nat->List W->FR):List S->SR:=
 (dIfS (dTest (dOp eq2 (dFn len1 (dCons (dVar 0) dNil)) (dCall (r q2q) (dCons (dVar 1) dNil))))
  (dRet (dVar 1))
  dNx)
noncomputable def q4q(K:PySem.W.Frag)(a:Adr)(r:Nat->List W->FR):List S->SR:=
 (dSeq (dForR 1 rng1 (dCons (dOp addX (dC (.int 10)) (dC (.int 1))) dNil)
  (q5t K a r))
  (dRaise a.NoTable (dCons (dC (.str "no table has that length")) dNil)))
noncomputable def q3q(K:PySem.W.Frag)(a:Adr)(r:Nat->List W->FR):List S->SR:=
 (dSeq (dSet 1 (dCall (r q28) (dCons (dVar 0) dNil)))
  (dSeq (dIfS (dTest (dOp gtW (dVar 1) (dC (.int 4))))
  (dRaise a.NoTable (dCons (dC (.str "no wish has that length")) dNil))
  dNx)
  (dRet (dVar 1))))
noncomputable def x6n(K:PySem.W.Frag)(a:Adr)(r:Nat->List W->FR):Den W:=
 (dOp nisW (dOp ixW (dVar 1) (dVar 0)) (dC (.bl false)))
noncomputable def q9a(K:PySem.W.Frag)(a:Adr)(r:Nat->List W->FR):List S->SR:=
 (dSeq (dIfS (dTest (dOp ne2 (dCall (r q1s) (dCons (dVar 1) dNil)) (dFn len1 (dCons (dVar 0) dNil))))
  (dRet (dC (.bl false)))
  dNx)
  (dRet (dFn all1 (dCons (dFz (dComp [1] (dCall (r q2r) (dCons (dVar 0) dNil)) dYes (x6n K a r))) dNil))))
noncomputable def x12(K:PySem.W.Frag)(a:Adr)(r:Nat->List W->FR):Den W:=
 (dVar 0)
noncomputable def x13(K:PySem.W.Frag)(a:Adr)(r:Nat->List W->FR):Den Bool:=
 (dTru (dCall (r q3p) (dCons (dVar 0) (dCons (dVar 1) dNil))))
noncomputable def q6o(K:PySem.W.Frag)(a:Adr)(r:Nat->List W->FR):List S->SR:=
 (dRetF (dComp [0] (dCall (r q29) (dCons (dCall (r q1s) (dCons (dVar 0) dNil)) dNil)) (x13 K a r) (x12 K a r)))
noncomputable def q4v(K:PySem.W.Frag)(a:Adr)(r:Nat->List W->FR):List S->SR:=
 (dExt 3 (dCons (dFz (dLst (dCons (dOp addX (dVar 4) (dTup (dCons (dC .non) dNil))) (dCons (dOp addX (dVar 4) (dTup (dCons (dC (.bl false)) dNil))) (dCons (dOp addX (dVar 4) (dTup (dCons (dC (.bl true)) dNil))) dNil))))) dNil))
noncomputable def q5u(K:PySem.W.Frag)(a:Adr)(r:Nat->List W->FR):List S->SR:=
 (dSeq (dSetO 3 (dLst dNil))
  (dSeq (dFor 4 (dVar 1)
  (q4v K a r))
  (dSet 1 (dVar 3))))
noncomputable def q4r(K:PySem.W.Frag)(a:Adr)(r:Nat->List W->FR):List S->SR:=
 (dSeq (dSet 1 (dFz (dLst (dCons (dTup dNil) dNil))))
  (dSeq (dForR 2 rng1 (dCons (dVar 0) dNil)
  (q5u K a r))
  (dRet (dVar 1))))
noncomputable def q9b(K:PySem.W.Frag)(a:Adr)(r:Nat->List W->FR):Den W:=
 (dCall (r q44) (dCons (dVar 0) (dCons (dVar 1) dNil)))
noncomputable def q9c(K:PySem.W.Frag)(a:Adr)(r:Nat->List W->FR):Den W:=
 (dOp isW (dOp ixW (dVar 1) (dVar 0)) (dC (.bl true)))
noncomputable def q46(K:PySem.W.Frag)(a:Adr)(r:Nat->List W->FR):List S->SR:=
 (dSeq (dIfS (dNot (dTru (dCall (r q44) (dCons (dVar 0) (dCons (dVar 1) dNil)))))
  (dRet (dC (.bl false)))
  dNx)
  (dSeq (dIfS (dNot (dTru (dFn any1 (dCons (dFz (dComp [1] (dCall (r q2r) (dCons (dVar 0) dNil)) dYes (q9c K a r))) dNil))))
  (dRet (dC (.bl false)))
  dNx)
  (dRet (dNotV (dFn any1 (dCons (dFz (dComp [1] (dCall (r q2n) (dCons (dVar 0) dNil)) dYes (q9b K a r))) dNil))))))
noncomputable def q6y(K:PySem.W.Frag)(a:Adr)(r:Nat->List W->FR):Den W:=
 (dOp addX (dOp addX (dSl (dVar 1) dNoPart (dPart (dVar 0))) (dTup (dCons (dC .non) dNil))) (dSl (dVar 1) (dPart (dOp addX (dVar 0) (dC (.int 1)))) dNoPart))
noncomputable def q6z(K:PySem.W.Frag)(a:Adr)(r:Nat->List W->FR):Den Bool:=
 (dTest (dOp nisW (dOp ixW (dVar 1) (dVar 0)) (dC .non)))
noncomputable def q3r(K:PySem.W.Frag)(a:Adr)(r:Nat->List W->FR):List S->SR:=
 (dRetF (dCompR rng1 [0] (dCons (dFn len1 (dCons (dVar 0) dNil)) dNil) (q6z K a r) (q6y K a r)))
noncomputable def q47(K:PySem.W.Frag)(a:Adr)(r:Nat->List W->FR):List S->SR:=
 (dSeq (dIfS (dNot (dTru (dCall (r q44) (dCons (dVar 3) (dCons (dVar 1) dNil)))))
  (dRet (dC (.bl false)))
  dNx)
  (dSet 2 (dCall (r q1g) (dCons (dVar 2) (dCons (dCall (r q2r) (dCons (dVar 3) dNil)) dNil)))))
noncomputable def q6p(K:PySem.W.Frag)(a:Adr)(r:Nat->List W->FR):List S->SR:=
 (dSeq (dSet 2 (dCall (r q1f) (dCons (dVar 1) dNil)))
  (dSeq (dFor 3 (dVar 0)
  (q47 K a r))
  (dRet (dOp eq2 (dFn len1 (dCons (dVar 2) dNil)) (dC (.int 0))))))
noncomputable def q60(K:PySem.W.Frag)(a:Adr)(r:Nat->List W->FR):Den W:=
 (dVar 0)
noncomputable def q61(K:PySem.W.Frag)(a:Adr)(r:Nat->List W->FR):Den Bool:=
 (dTest (dOp isW (dVar 1) (dC (.bl true))))
noncomputable def q3s(K:PySem.W.Frag)(a:Adr)(r:Nat->List W->FR):List S->SR:=
 (dSeq (dDrop (dCall (r q1s) (dCons (dVar 0) dNil)))
  (dRetF (dCompP [] (srcE (dCons (dVar 0) dNil)) (q61 K a r) (q60 K a r))))
noncomputable def q77(K:PySem.W.Frag)(a:Adr)(r:Nat->List W->FR):Den W:=
 (dVar 0)
noncomputable def q78(K:PySem.W.Frag)(a:Adr)(r:Nat->List W->FR):Den Bool:=
 (dTest (dOp ninW (dVar 0) (dVar 1)))
noncomputable def q4s(K:PySem.W.Frag)(a:Adr)(r:Nat->List W->FR):List S->SR:=
 (dRetF (dComp [1] (dVar 0) (q78 K a r) (q77 K a r)))
noncomputable def q48(K:PySem.W.Frag)(a:Adr)(r:Nat->List W->FR):List S->SR:=
 (dRet (dAndV (dIsi K (.type "int") (dVar 0)) (dNotV (dIsi K (.type "bool") (dVar 0)))))
noncomputable def q3t(K:PySem.W.Frag)(a:Adr)(r:Nat->List W->FR):List S->SR:=
 (dRet (dAndV (dIsi K (.type "tuple") (dVar 0)) (dOp eq2 (dFn len1 (dCons (dVar 0) dNil)) (dVar 1))))
noncomputable def q38(K:PySem.W.Frag)(a:Adr)(r:Nat->List W->FR):List S->SR:=
 (dRet (dAndV (dOp eq2 (dVar 0) (dVar 1)) (dOp eq2 (dIsi K (.type "bool") (dVar 0)) (dIsi K (.type "bool") (dVar 1)))))
noncomputable def q27(K:PySem.W.Frag)(a:Adr)(r:Nat->List W->FR):Den Bool:=
 (dTest (dOp eq2 (dOp ixW (dVar 5) (dC (.int 0))) (dC (.str "tree"))))
noncomputable def q33(K:PySem.W.Frag)(a:Adr)(r:Nat->List W->FR):List S->SR:=
 (dSeq (dSet 4 (dOp ixW (dVar 5) (dC (.int 1))))
  (dSeq (dSet 3 (dOp addX (dVar 3) (dC (.int 1))))
  (dSet 5 (dCall (r q2a) (dCons (dVar 1) (dCons (dVar 2) (dCons (dVar 3) dNil)))))))
noncomputable def q3u(K:PySem.W.Frag)(a:Adr)(r:Nat->List W->FR):List S->SR:=
 (dSeq (dSet 1 (dCall (r q16) (dCons (dVar 0) dNil)))
  (dSeq (dSet 2 (dCall (r q1f) (dCons (dVar 0) dNil)))
  (dSeq (dSet 3 (dC (.int 0)))
  (dSeq (dSet 4 (dC .non))
  (dSeq (dSet 5 (dCall (r q2a) (dCons (dVar 1) (dCons (dVar 2) (dCons (dVar 3) dNil)))))
  (dSeq (whileD (q27 K a r)
  (q33 K a r) 1000000)
  (dRet (dTup (dCons (dFz (dSrtK (r q2c) (dOp ixW (dVar 5) (dC (.int 1))))) (dCons (dVar 4) dNil))))))))))
noncomputable def q7n(K:PySem.W.Frag)(a:Adr)(r:Nat->List W->FR):Den W:=
 (dTup (dCons (dVar 0) (dCons (dCall (r q2r) (dCons (dVar 0) dNil)) dNil)))
noncomputable def q39(K:PySem.W.Frag)(a:Adr)(r:Nat->List W->FR):List S->SR:=
 (dRetF (dComp [] (dCall (r q4y) (dCons (dVar 0) dNil)) dYes (q7n K a r)))
noncomputable def q3i(K:PySem.W.Frag)(a:Adr)(r:Nat->List W->FR):List S->SR:=
 (dSeq (dSet 7 (dCall (r q2a) (dCons (dVar 0) (dCons (dCall (r q1g) (dCons (dVar 1) (dCons (dVar 6) dNil))) (dCons (dOp subW (dVar 2) (dC (.int 1))) dNil)))))
  (dSeq (dIfS (dTest (dOp eq2 (dOp ixW (dVar 7) (dC (.int 0))) (dC (.str "cover"))))
  (dRet (dTup (dCons (dC (.str "cover")) (dCons (dOp addX (dFz (dLst (dCons (dVar 5) dNil))) (dOp ixW (dVar 7) (dC (.int 1)))) dNil))))
  dNx)
  (dApp 4 (dCons (dTup (dCons (dVar 5) (dCons (dOp ixW (dVar 7) (dC (.int 1))) dNil))) dNil))))
noncomputable def q5f(K:PySem.W.Frag)(a:Adr)(r:Nat->List W->FR):List S->SR:=
 (dSeq (dIfS (dTest (dOp eq2 (dFn len1 (dCons (dVar 1) dNil)) (dC (.int 0))))
  (dRet (dTup (dCons (dC (.str "cover")) (dCons (dFz (dLst dNil)) dNil))))
  dNx)
  (dSeq (dSet 3 (dCall (r q4z) (dCons (dVar 0) (dCons (dVar 1) dNil))))
  (dSeq (dIfS (dTest (dOp eq2 (dVar 2) (dC (.int 0))))
  (dRet (dTup (dCons (dC (.str "tree")) (dCons (dTup (dCons (dVar 3) (dCons (dTup dNil) dNil))) dNil))))
  dNx)
  (dSeq (dSetO 4 (dLst dNil))
  (dSeq (dForP 5 6 (srcP (dCall (r q2u) (dCons (dVar 0) (dCons (dVar 3) dNil))))
  (q3i K a r))
  (dRet (dTup (dCons (dC (.str "tree")) (dCons (dTup (dCons (dVar 3) (dCons (dFn tup1 (dCons (dVar 4) dNil)) dNil))) dNil)))))))))
noncomputable def q6q(K:PySem.W.Frag)(a:Adr)(r:Nat->List W->FR):List S->SR:=
 (dRet (dMinK r 38 [0] (dVar 1)))
noncomputable def x14(K:PySem.W.Frag)(a:Adr)(r:Nat->List W->FR):Den W:=
 (dVar 0)
noncomputable def x15(K:PySem.W.Frag)(a:Adr)(r:Nat->List W->FR):Den Bool:=
 (dTest (dOp inW (dVar 1) (dOp ixW (dVar 0) (dC (.int 1)))))
noncomputable def q6r(K:PySem.W.Frag)(a:Adr)(r:Nat->List W->FR):List S->SR:=
 (dRetF (dComp [1] (dVar 0) (x15 K a r) (x14 K a r)))
noncomputable def q3v(K:PySem.W.Frag)(a:Adr)(r:Nat->List W->FR):List S->SR:=
 (dSeq (dSet 3 (dCall (r q16) (dCons (dVar 0) dNil)))
  (dSeq (dIfS (dTest (dOp ltW (dVar 1) (dC (.int 0))))
  (dRet (dOp isW (dVar 2) (dC .non)))
  dNx)
  (dRet (dCall (r q2s) (dCons (dVar 2) (dCons (dVar 3) (dCons (dCall (r q1f) (dCons (dVar 0) dNil)) (dCons (dVar 1) dNil))))))))
noncomputable def q7f(K:PySem.W.Frag)(a:Adr)(r:Nat->List W->FR):Den W:=
 (dCall (r q1x) (dCons (dVar 0) (dCons (dVar 1) (dCons (dVar 2) (dCons (dVar 3) (dCons (dVar 4) dNil))))))
noncomputable def q3j(K:PySem.W.Frag)(a:Adr)(r:Nat->List W->FR):List S->SR:=
 (dSeq (dIfS (dNot (dTru (dCall (r q01) (dCons (dVar 0) (dCons (dC (.int 2)) dNil)))))
  (dRet (dC (.bl false)))
  dNx)
  (dSeq (dSet 4 (dOp ixW (dVar 0) (dC (.int 0))))
  (dSeq (dSet 5 (dOp ixW (dVar 0) (dC (.int 1))))
  (dSeq (dIfS (dOr (dNot (dTru (dCall (r q26) (dCons (dVar 4) dNil)))) (dOr (dTest (dOp ninW (dVar 4) (dVar 2))) (dNot (dTru (dIsi K (.type "tuple") (dVar 5))))))
  (dRet (dC (.bl false)))
  dNx)
  (dSeq (dIfS (dTest (dOp eq2 (dVar 3) (dC (.int 0))))
  (dRet (dOp eq2 (dFn len1 (dCons (dVar 5) dNil)) (dC (.int 0))))
  dNx)
  (dSeq (dSet 6 (dCall (r q2u) (dCons (dVar 1) (dCons (dVar 4) dNil))))
  (dSeq (dIfS (dTest (dOp ne2 (dFn len1 (dCons (dVar 5) dNil)) (dFn len1 (dCons (dVar 6) dNil))))
  (dRet (dC (.bl false)))
  dNx)
  (dRet (dFn all1 (dCons (dFz (dCompP [1,2,3] (srcZ (dCons (dVar 5) (dCons (dVar 6) dNil))) dYes (q7f K a r))) dNil))))))))))
noncomputable def q30(K:PySem.W.Frag)(a:Adr)(r:Nat->List W->FR):List S->SR:=
 (dSeq (dIfS (dOr (dNot (dTru (dCall (r q01) (dCons (dVar 0) (dCons (dC (.int 2)) dNil))))) (dNot (dTru (dCall (r q36) (dCons (dOp ixW (dVar 0) (dC (.int 0))) (dCons (dOp ixW (dVar 1) (dC (.int 0))) dNil))))))
  (dRet (dC (.bl false)))
  dNx)
  (dRet (dCall (r q2s) (dCons (dOp ixW (dVar 0) (dC (.int 1))) (dCons (dVar 2) (dCons (dCall (r q1g) (dCons (dVar 3) (dCons (dOp ixW (dVar 1) (dC (.int 1))) dNil))) (dCons (dOp subW (dVar 4) (dC (.int 1))) dNil)))))))
noncomputable def q7g(K:PySem.W.Frag)(a:Adr)(r:Nat->List W->FR):Den W:=
 (dCall (r q2t) (dCons (dVar 0) (dCons (dVar 1) dNil)))
noncomputable def q5p(K:PySem.W.Frag)(a:Adr)(r:Nat->List W->FR):List S->SR:=
 (dSeq (dIfS (dNot (dTru (dCall (r q01) (dCons (dVar 0) (dCons (dFn len1 (dCons (dVar 1) dNil)) dNil)))))
  (dRet (dC (.bl false)))
  dNx)
  (dRet (dFn all1 (dCons (dFz (dCompP [] (srcZ (dCons (dVar 0) (dCons (dVar 1) dNil))) dYes (q7g K a r))) dNil))))
noncomputable def q3f(K:PySem.W.Frag)(a:Adr)(r:Nat->List W->FR):List S->SR:=
 (dSeq (dIfS (dTest (dOp ltW (dVar 1) (dFn len1 (dCons (dVar 0) dNil))))
  (dRet (dOp ixW (dVar 0) (dVar 1)))
  dNx)
  (dRet (dC (.int 0))))
noncomputable def q49(K:PySem.W.Frag)(a:Adr)(r:Nat->List W->FR):List S->SR:=
 (dSeq (dSet 3 (dOp modW (dOp addX (dOp addX (dOp mulW (dCall (r q1m) (dCons (dVar 0) (dCons (dVar 1) dNil))) (dC (.int 48271))) (dOp mulW (dC (.int 7919)) (dFn len1 (dCons (dVar 0) dNil)))) (dOp mulW (dC (.int 104729)) (dVar 1))) (dC (.int 2147483647))))
  (dRet (dOp modW (dOp modW (dOp mulW (dVar 3) (dVar 3)) (dC (.int 2147483647))) (dVar 2))))
noncomputable def q4t(K:PySem.W.Frag)(a:Adr)(r:Nat->List W->FR):List S->SR:=
 (dSeq (dSet 2 (dOp addX (dOp addX (dOp mulW (dCall (r q1m) (dCons (dVar 0) (dCons (dOp addX (dC (.int 4)) (dVar 1)) dNil))) (dC (.int 40692))) (dOp mulW (dOp mulW (dCall (r q1m) (dCons (dVar 0) (dCons (dC (.int 3)) dNil))) (dC (.int 48271))) (dOp addX (dVar 1) (dC (.int 1))))) (dOp mulW (dC (.int 7919)) (dVar 1))))
  (dRet (dOp modW (dOp mulB (dVar 2) (dVar 2)) (dC (.int 2147483399)))))
noncomputable def q79(K:PySem.W.Frag)(a:Adr)(r:Nat->List W->FR):Den W:=
 (dOp mulW (dC (.int 2)) (dVar 0))
noncomputable def q8a(K:PySem.W.Frag)(a:Adr)(r:Nat->List W->FR):Den W:=
 (dOp addX (dOp mulW (dC (.int 2)) (dVar 0)) (dC (.int 1)))
noncomputable def q8b(K:PySem.W.Frag)(a:Adr)(r:Nat->List W->FR):Den W:=
 (dOp addX (dOp mulW (dC (.int 2)) (dVar 0)) (dFn int1 (dCons (dVar 1) dNil)))
noncomputable def q20(K:PySem.W.Frag)(a:Adr)(r:Nat->List W->FR):List S->SR:=
 (dIfS (dTest (dOp isW (dVar 2) (dC .non)))
  (dSet 1 (dOp addX (dFz (dComp [] (dVar 1) dYes (q79 K a r))) (dFz (dComp [] (dVar 1) dYes (q8a K a r)))))
  (dSet 1 (dFz (dComp [2] (dVar 1) dYes (q8b K a r)))))
noncomputable def q31(K:PySem.W.Frag)(a:Adr)(r:Nat->List W->FR):List S->SR:=
 (dSeq (dSet 1 (dFz (dLst (dCons (dC (.int 0)) dNil))))
  (dSeq (dFor 2 (dVar 0)
  (q20 K a r))
  (dRet (dFn sorted1 (dCons (dVar 1) dNil)))))
noncomputable def q2y(K:PySem.W.Frag)(a:Adr)(r:Nat->List W->FR):Den W:=
 (dOp ixW (dVar 2) (dOp modW (dCall (r q0y) (dCons (dVar 1) (dCons (dVar 0) dNil))) (dFn len1 (dCons (dVar 2) dNil))))
noncomputable def q3g(K:PySem.W.Frag)(a:Adr)(r:Nat->List W->FR):List S->SR:=
 (dSeq (dSet 2 (dFz (dLst (dCons (dFz (dLst (dCons (dC (.bl false)) (dCons (dC (.bl true)) (dCons (dC .non) dNil))))) (dCons (dFz (dLst (dCons (dC (.bl false)) (dCons (dC (.bl true)) (dCons (dC (.bl true)) dNil))))) (dCons (dFz (dLst (dCons (dC (.bl false)) (dCons (dC (.bl false)) (dCons (dC (.bl true)) (dCons (dC .non) dNil)))))) (dCons (dFz (dLst (dCons (dC (.bl true)) (dCons (dC (.bl true)) (dCons (dC .non) (dCons (dC (.bl false)) (dCons (dC (.bl true)) dNil))))))) dNil)))))))
  (dSeq (dSet 2 (dOp addX (dVar 2) (dFz (dLst (dCons (dFz (dLst (dCons (dC (.bl false)) (dCons (dC (.bl true)) dNil)))) (dCons (dFz (dLst (dCons (dC (.bl false)) (dCons (dC (.bl true)) dNil)))) (dCons (dFz (dLst (dCons (dC (.bl false)) (dCons (dC .non) (dCons (dC (.bl true)) dNil))))) (dCons (dFz (dLst (dCons (dC (.bl true)) (dCons (dC (.bl false)) (dCons (dC (.bl false)) (dCons (dC (.bl false)) dNil)))))) dNil))))))))
  (dSeq (dSet 3 (dOp ixW (dVar 2) (dCall (r q0x) (dCons (dVar 0) (dCons (dC (.int 1)) (dCons (dC (.int 8)) dNil))))))
  (dSeq (dSet 4 (dCall (r q0x) (dCons (dVar 0) (dCons (dC (.int 2)) (dCons (dC (.int 20)) dNil)))))
  (dSeq (dIfS (dTest (dOp ltW (dVar 4) (dC (.int 3))))
  (dSet 3 (dOp ixW (dFz (dLst (dCons (dFz (dLst (dCons (dC (.bl true)) dNil))) (dCons (dFz (dLst (dCons (dC (.bl false)) dNil))) (dCons (dFz (dLst (dCons (dC .non) dNil))) dNil))))) (dVar 4)))
  dNx)
  (dRetF (dCompR rng1 [0,3] (dCons (dOp ixW (dFz (dLst (dCons (dC (.int 1)) (dCons (dC (.int 2)) (dCons (dC (.int 4)) (dCons (dC (.int 8)) (dCons (dC (.int 16)) dNil))))))) (dVar 1)) dNil) dYes (q2y K a r))))))))
noncomputable def q3w(K:PySem.W.Frag)(a:Adr)(r:Nat->List W->FR):List S->SR:=
 (dIfS (dTest (dOp isW (dOp ixW (dVar 1) (dVar 2)) (dC (.bl false))))
  (dRet (dC (.bl false)))
  dNx)
noncomputable def q32(K:PySem.W.Frag)(a:Adr)(r:Nat->List W->FR):List S->SR:=
 (dSeq (dFor 2 (dCall (r q2d) (dCons (dVar 0) dNil))
  (q3w K a r))
  (dRet (dC (.bl true))))
noncomputable def q4i(K:PySem.W.Frag)(a:Adr)(r:Nat->List W->FR):List S->SR:=
 (dSeq (dSet 6 (dOp modW (dOp addX (dVar 3) (dOp mulW (dVar 5) (dOp ixW (dFz (dLst (dCons (dC (.int 1)) (dCons (dOp subW (dVar 2) (dC (.int 1))) dNil)))) (dOp modW (dOp fdivW (dVar 3) (dC (.int 4))) (dC (.int 2)))))) (dVar 2)))
  (dSeq (dSet 7 (dOp addX (dOp addX (dSl (dVar 4) dNoPart (dPart (dVar 6))) (dFz (dLst (dCons (dC .non) dNil)))) (dSl (dVar 4) (dPart (dOp addX (dVar 6) (dC (.int 1)))) dNoPart)))
  (dIfS (dTru (dCall (r q2e) (dCons (dVar 7) (dCons (dVar 0) dNil))))
  (dSet 4 (dVar 7))
  dNx)))
noncomputable def q4j(K:PySem.W.Frag)(a:Adr)(r:Nat->List W->FR):Den W:=
 (dOp eq2 (dOp modW (dOp fdivW (dVar 1) (dOp ixW (dFz (dLst (dCons (dC (.int 1)) (dCons (dC (.int 2)) (dCons (dC (.int 4)) (dCons (dC (.int 8)) (dCons (dC (.int 16)) dNil))))))) (dOp subW (dOp subW (dVar 2) (dC (.int 1))) (dVar 0)))) (dC (.int 2))) (dC (.int 1)))
noncomputable def q4a(K:PySem.W.Frag)(a:Adr)(r:Nat->List W->FR):List S->SR:=
 (dSeq (dSet 4 (dFz (dCompR rng1 [1,2] (dCons (dVar 2) dNil) dYes (q4j K a r))))
  (dSeq (dForR 5 rng1 (dCons (dVar 2) dNil)
  (q4i K a r))
  (dRet (dFn tup1 (dCons (dVar 4) dNil)))))
noncomputable def q3x(K:PySem.W.Frag)(a:Adr)(r:Nat->List W->FR):Den W:=
 (dOp ixW (dFz (dLst (dCons (dC .non) (dCons (dC (.bl false)) (dCons (dC (.bl true)) dNil))))) (dOp modW (dCall (r q0y) (dCons (dVar 1) (dCons (dOp addX (dOp addX (dC (.int 20)) (dOp mulW (dC (.int 4)) (dVar 2))) (dVar 0)) dNil))) (dC (.int 3))))
noncomputable def q4w(K:PySem.W.Frag)(a:Adr)(r:Nat->List W->FR):List S->SR:=
 (dIfS (dTest (dOp eq2 (dOp modW (dCall (r q0y) (dCons (dVar 3) (dCons (dC (.int 60)) dNil))) (dC (.int 4))) (dC (.int 0))))
  (dApp 5 (dCons (dFn tup1 (dCons (dFz (dCompR rng1 [3,6] (dCons (dVar 1) dNil) dYes (q3x K a r))) dNil)) dNil))
  (dSeq (dSet 7 (dOp ixW (dVar 4) (dOp modW (dCall (r q0y) (dCons (dVar 3) (dCons (dOp addX (dC (.int 20)) (dVar 6)) dNil))) (dFn len1 (dCons (dVar 4) dNil)))))
  (dApp 5 (dCons (dCall (r q2v) (dCons (dVar 0) (dCons (dVar 7) (dCons (dVar 1) (dCons (dCall (r q0y) (dCons (dVar 3) (dCons (dOp addX (dC (.int 40)) (dVar 6)) dNil))) dNil))))) dNil))))
noncomputable def q5v(K:PySem.W.Frag)(a:Adr)(r:Nat->List W->FR):Den W:=
 (dVar 0)
noncomputable def q5w(K:PySem.W.Frag)(a:Adr)(r:Nat->List W->FR):Den Bool:=
 (dTest (dOp isW (dOp ixW (dVar 1) (dVar 0)) (dC (.bl true))))
noncomputable def q4u(K:PySem.W.Frag)(a:Adr)(r:Nat->List W->FR):List S->SR:=
 (dSeq (dSet 4 (dFz (dCompR rng1 [0] (dCons (dFn len1 (dCons (dVar 0) dNil)) dNil) (q5w K a r) (q5v K a r))))
  (dSeq (dSetO 5 (dLst dNil))
  (dSeq (dForR 6 rng1 (dCons (dVar 2) dNil)
  (q4w K a r))
  (dRetO 5))))
noncomputable def q6s(K:PySem.W.Frag)(a:Adr)(r:Nat->List W->FR):Den W:=
 (dVar 0)
noncomputable def q6t(K:PySem.W.Frag)(a:Adr)(r:Nat->List W->FR):Den Bool:=
 (dAnd (dTest (dOp isW (dOp ixW (dVar 1) (dVar 0)) (dC (.bl true)))) (dTest (dOp ninW (dVar 0) (dVar 2))))
noncomputable def q2z(K:PySem.W.Frag)(a:Adr)(r:Nat->List W->FR):List S->SR:=
 (dSeq (dIfS (dNot (dTru (dCall (r q2e) (dCons (dVar 3) (dCons (dVar 1) dNil)))))
  (dRet (dC (.bl false)))
  dNx)
  (dSet 2 (dOp addX (dVar 2) (dCall (r q2d) (dCons (dVar 3) dNil)))))
noncomputable def q3h(K:PySem.W.Frag)(a:Adr)(r:Nat->List W->FR):List S->SR:=
 (dSeq (dSet 2 (dFz (dLst dNil)))
  (dSeq (dFor 3 (dVar 0)
  (q2z K a r))
  (dRet (dOp eq2 (dFz (dCompR rng1 [1,2] (dCons (dFn len1 (dCons (dVar 1) dNil)) dNil) (q6t K a r) (q6s K a r))) (dFz (dLst dNil))))))
noncomputable def q6a(K:PySem.W.Frag)(a:Adr)(r:Nat->List W->FR):Den W:=
 (dOp ninW (dVar 0) (dTup (dCons (dCall (r q0x) (dCons (dVar 1) (dCons (dC (.int 2)) (dCons (dC (.int 8)) dNil)))) (dCons (dOp subW (dC (.int 7)) (dCall (r q0x) (dCons (dVar 1) (dCons (dC (.int 2)) (dCons (dC (.int 8)) dNil))))) dNil))))
noncomputable def x16(K:PySem.W.Frag)(a:Adr)(r:Nat->List W->FR):List S->SR:=
 (dSeq (dSet 1 (dCall (r q0x) (dCons (dVar 0) (dCons (dC (.int 0)) (dCons (dC (.int 5)) dNil)))))
  (dSeq (dSet 2 (dCall (r q1n) (dCons (dVar 0) (dCons (dVar 1) dNil))))
  (dSeq (dIfS (dTest (dOp eq2 (dCall (r q0x) (dCons (dVar 0) (dCons (dC (.int 3)) (dCons (dC (.int 6)) dNil)))) (dC (.int 1))))
  (dSeq (dSet 1 (dC (.int 3)))
  (dSet 2 (dFz (dCompR rng1 [0] (dCons (dC (.int 8)) dNil) dYes (q6a K a r)))))
  dNx)
  (dSeq (dSet2 3 4 (dCall (r q1t) (dCons (dFz (dList (dCons (dVar 2) dNil))) dNil)))
  (dSeq (dIfS (dOr (dTest (dOp nisW (dCall (r q1u) (dCons (dFz (dList (dCons (dVar 2) dNil))) (dCons (dOp subW (dFn len1 (dCons (dVar 3) dNil)) (dC (.int 1))) (dCons (dVar 4) dNil)))) (dC (.bl true)))) (dTest (dOp nisW (dCall (r q3a) (dCons (dFz (dList (dCons (dVar 3) dNil))) (dCons (dFz (dList (dCons (dVar 2) dNil))) dNil))) (dC (.bl true)))))
  (dRet (dC (.bl false)))
  dNx)
  (dSeq (dIfS (dTest (dOp eq2 (dVar 3) (dFz (dLst dNil))))
  (dRet (dOp ninW (dC (.bl true)) (dVar 2)))
  dNx)
  (dSeq (dSet 5 (dOp subW (dFn len1 (dCons (dVar 3) dNil)) (dC (.int 1))))
  (dSeq (dIfS (dTest (dOp eq2 (dCall (r q0x) (dCons (dVar 0) (dCons (dC (.int 3)) (dCons (dC (.int 3)) dNil)))) (dC (.int 1))))
  (dSet 5 (dOp modW (dCall (r q0y) (dCons (dVar 0) (dCons (dC (.int 61)) dNil))) (dFn len1 (dCons (dVar 3) dNil))))
  dNx)
  (dRet (dNotV (dCall (r q1o) (dCons (dCall (r q2f) (dCons (dVar 2) (dCons (dVar 1) (dCons (dVar 5) (dCons (dVar 0) dNil))))) (dCons (dVar 2) dNil)))))))))))))
noncomputable def body(K:PySem.W.Frag)(a:Adr)(r:Nat->List W->FR)(ws:List W):Nat->FR
 |0=>if ws.length=2 then(q6n K a r (init 5 ws)).fn else .no
 |1=>if ws.length=1 then(q4o K a r (init 3 ws)).fn else .no
 |2=>if ws.length=1 then(q45 K a r (init 1 ws)).fn else .no
 |3=>if ws.length=2 then(q5n K a r (init 2 ws)).fn else .no
 |4=>if ws.length=1 then(q5o K a r (init 1 ws)).fn else .no
 |5=>if ws.length=1 then(q4p K a r (init 1 ws)).fn else .no
 |6=>if ws.length=1 then(q4q K a r (init 2 ws)).fn else .no
 |7=>if ws.length=1 then(q3q K a r (init 2 ws)).fn else .no
 |8=>if ws.length=2 then(q9a K a r (init 2 ws)).fn else .no
 |9=>if ws.length=1 then(q6o K a r (init 1 ws)).fn else .no
 |10=>if ws.length=1 then(q4r K a r (init 5 ws)).fn else .no
 |11=>if ws.length=2 then(q46 K a r (init 2 ws)).fn else .no
 |12=>if ws.length=1 then(q3r K a r (init 1 ws)).fn else .no
 |13=>if ws.length=2 then(q6p K a r (init 4 ws)).fn else .no
 |14=>if ws.length=1 then(q3s K a r (init 1 ws)).fn else .no
 |15=>if ws.length=2 then(q4s K a r (init 2 ws)).fn else .no
 |16=>if ws.length=1 then(q48 K a r (init 1 ws)).fn else .no
 |17=>if ws.length=2 then(q3t K a r (init 2 ws)).fn else .no
 |18=>if ws.length=2 then(q38 K a r (init 2 ws)).fn else .no
 |19=>if ws.length=1 then(q3u K a r (init 6 ws)).fn else .no
 |20=>if ws.length=1 then(q39 K a r (init 1 ws)).fn else .no
 |21=>if ws.length=3 then(q5f K a r (init 8 ws)).fn else .no
 |22=>if ws.length=2 then(q6q K a r (init 2 ws)).fn else .no
 |23=>if ws.length=2 then(q6r K a r (init 2 ws)).fn else .no
 |24=>if ws.length=3 then(q3v K a r (init 4 ws)).fn else .no
 |25=>if ws.length=4 then(q3j K a r (init 7 ws)).fn else .no
 |26=>if ws.length=5 then(q30 K a r (init 5 ws)).fn else .no
 |27=>if ws.length=2 then(q5p K a r (init 2 ws)).fn else .no
 |28=>if ws.length=2 then(q3f K a r (init 2 ws)).fn else .no
 |29=>if ws.length=3 then(q49 K a r (init 4 ws)).fn else .no
 |30=>if ws.length=2 then(q4t K a r (init 3 ws)).fn else .no
 |31=>if ws.length=1 then(q31 K a r (init 3 ws)).fn else .no
 |32=>if ws.length=2 then(q3g K a r (init 5 ws)).fn else .no
 |33=>if ws.length=2 then(q32 K a r (init 3 ws)).fn else .no
 |34=>if ws.length=4 then(q4a K a r (init 8 ws)).fn else .no
 |35=>if ws.length=4 then(q4u K a r (init 8 ws)).fn else .no
 |36=>if ws.length=2 then(q3h K a r (init 4 ws)).fn else .no
 |37=>if ws.length=1 then(x16 K a r (init 6 ws)).fn else .no
 |38=>if ws.length=2 then exprFR (q4h K a r (ws.map .fr))else .no
 |_=>.no
noncomputable def run(K:PySem.W.Frag)(a:Adr):Nat->Nat->List W->FR
 |0,_,_=>.no
 |n+1,i,ws=>body K a (run K a n) ws i
theorem x17:run K a (n+1) q34 ws=if ws.length=2 then(q6n K a (run K a n) (init 5 ws)).fn else .no:=rfl
theorem q8c:run K a (n+1) q2q ws=if ws.length=1 then(q4o K a (run K a n) (init 3 ws)).fn else .no:=rfl
theorem q9d:run K a (n+1) q3o ws=if ws.length=1 then(q45 K a (run K a n) (init 1 ws)).fn else .no:=rfl
theorem q98:run K a (n+1) q35 ws=if ws.length=2 then(q5n K a (run K a n) (init 2 ws)).fn else .no:=rfl
theorem q99:run K a (n+1) q2r ws=if ws.length=1 then(q5o K a (run K a n) (init 1 ws)).fn else .no:=rfl
theorem q8d:run K a (n+1) q2c ws=if ws.length=1 then(q4p K a (run K a n) (init 1 ws)).fn else .no:=rfl
theorem q8e:run K a (n+1) q28 ws=if ws.length=1 then(q4q K a (run K a n) (init 2 ws)).fn else .no:=rfl
theorem q62:run K a (n+1) q1s ws=if ws.length=1 then(q3q K a (run K a n) (init 2 ws)).fn else .no:=rfl
theorem x6o:run K a (n+1) q44 ws=if ws.length=2 then(q9a K a (run K a n) (init 2 ws)).fn else .no:=rfl
theorem x18:run K a (n+1) q4y ws=if ws.length=1 then(q6o K a (run K a n) (init 1 ws)).fn else .no:=rfl
theorem q8f:run K a (n+1) q29 ws=if ws.length=1 then(q4r K a (run K a n) (init 5 ws)).fn else .no:=rfl
theorem q9e:run K a (n+1) q3p ws=if ws.length=2 then(q46 K a (run K a n) (init 2 ws)).fn else .no:=rfl
theorem q63:run K a (n+1) q2n ws=if ws.length=1 then(q3r K a (run K a n) (init 1 ws)).fn else .no:=rfl
theorem x19:run K a (n+1) q3a ws=if ws.length=2 then(q6p K a (run K a n) (init 4 ws)).fn else .no:=rfl
theorem q64:run K a (n+1) q1f ws=if ws.length=1 then(q3s K a (run K a n) (init 1 ws)).fn else .no:=rfl
theorem q8g:run K a (n+1) q1g ws=if ws.length=2 then(q4s K a (run K a n) (init 2 ws)).fn else .no:=rfl
theorem q9f:run K a (n+1) q26 ws=if ws.length=1 then(q48 K a (run K a n) (init 1 ws)).fn else .no:=rfl
theorem q65:run K a (n+1) q01 ws=if ws.length=2 then(q3t K a (run K a n) (init 2 ws)).fn else .no:=rfl
theorem q7o:run K a (n+1) q2t ws=if ws.length=2 then(q38 K a (run K a n) (init 2 ws)).fn else .no:=rfl
theorem q66:run K a (n+1) q1t ws=if ws.length=1 then(q3u K a (run K a n) (init 6 ws)).fn else .no:=rfl
theorem q7p:run K a (n+1) q16 ws=if ws.length=1 then(q39 K a (run K a n) (init 1 ws)).fn else .no:=rfl
theorem q67:run K a (n+1) q2a ws=if ws.length=3 then(q5f K a (run K a n) (init 8 ws)).fn else .no:=rfl
theorem x2a:run K a (n+1) q4z ws=if ws.length=2 then(q6q K a (run K a n) (init 2 ws)).fn else .no:=rfl
theorem x2b:run K a (n+1) q2u ws=if ws.length=2 then(q6r K a (run K a n) (init 2 ws)).fn else .no:=rfl
theorem q68:run K a (n+1) q1u ws=if ws.length=3 then(q3v K a (run K a n) (init 4 ws)).fn else .no:=rfl
theorem q7h:run K a (n+1) q2s ws=if ws.length=4 then(q3j K a (run K a n) (init 7 ws)).fn else .no:=rfl
theorem q5x:run K a (n+1) q1x ws=if ws.length=5 then(q30 K a (run K a n) (init 5 ws)).fn else .no:=rfl
theorem x0a:run K a (n+1) q36 ws=if ws.length=2 then(q5p K a (run K a n) (init 2 ws)).fn else .no:=rfl
theorem q6u:run K a (n+1) q1m ws=if ws.length=2 then(q3f K a (run K a n) (init 2 ws)).fn else .no:=rfl
theorem q9g:run K a (n+1) q0x ws=if ws.length=3 then(q49 K a (run K a n) (init 4 ws)).fn else .no:=rfl
theorem q8h:run K a (n+1) q0y ws=if ws.length=2 then(q4t K a (run K a n) (init 3 ws)).fn else .no:=rfl
theorem q5y:run K a (n+1) q2d ws=if ws.length=1 then(q31 K a (run K a n) (init 3 ws)).fn else .no:=rfl
theorem q6v:run K a (n+1) q1n ws=if ws.length=2 then(q3g K a (run K a n) (init 5 ws)).fn else .no:=rfl
theorem q5z:run K a (n+1) q2e ws=if ws.length=2 then(q32 K a (run K a n) (init 3 ws)).fn else .no:=rfl
theorem q7q:run K a (n+1) q2v ws=if ws.length=4 then(q4a K a (run K a n) (init 8 ws)).fn else .no:=rfl
theorem q8i:run K a (n+1) q2f ws=if ws.length=4 then(q4u K a (run K a n) (init 8 ws)).fn else .no:=rfl
theorem q6w:run K a (n+1) q1o ws=if ws.length=2 then(q3h K a (run K a n) (init 4 ws)).fn else .no:=rfl
theorem x82:run K a (n+1) q55 ws=if ws.length=1 then(x16 K a (run K a n) (init 6 ws)).fn else .no:=rfl
theorem q40:run K a (n+1) q1w ws=if ws.length=2 then exprFR (q4h K a (run K a n) (ws.map .fr))else .no:=rfl
section
variable{P:Program}{w:World}{base:Heap}
structure Mks(K:PySem.W.Frag)(mg:Str->Option Value):Prop where
 rarest:∀f oc od fd sl,mg "rarest"=some (.ref f)->K.lookup f=some ⟨oc,od,.func fd,sl⟩->MakK K "rarest" fd.code
structure Ats(K:PySem.W.Frag)(mg:Str->Option Value):Prop where
 row_of:At K mg "row_of" q3b ["number", "many"]
 rows_many:At K mg "rows_many" q1y ["many"]
 all_rows:At K mg "all_rows" q17 ["many"]
 in_cube:At K mg "in_cube" q2j ["cube", "row"]
 rows_in:At K mg "rows_in" q2k ["cube"]
 cube_text:At K mg "cube_text" q1p ["cube"]
 places_of:At K mg "places_of" q1z ["table"]
 wish_places:At K mg "wish_places" q1h ["wish"]
 fits:At K mg "fits" q37 ["cube", "wish"]
 primes:At K mg "primes" q2w ["wish"]
 all_cubes:At K mg "all_cubes" q10 ["many"]
 is_prime:At K mg "is_prime" q1v ["cube", "wish"]
 wider_cubes:At K mg "wider_cubes" q04 ["cube"]
 covers:At K mg "covers" q3c ["cover", "wish"]
 wished_rows:At K mg "wished_rows" q05 ["wish"]
 rows_left:At K mg "rows_left" q1q ["numbers", "taken"]
 is_whole:At K mg "is_whole" q2g ["thing"]
 is_tuple_of:At K mg "is_tuple_of" q1i ["thing", "length"]
 same_truth:At K mg "same_truth" q1r ["thing", "truth"]
 least_cover:At K mg "least_cover" q1j ["wish"]
 reaches_of:At K mg "reaches_of" q1d ["wish"]
 tried:At K mg "tried" q3z ["reaches", "left", "count"]
 rarest:At K mg "rarest" q2o ["reaches", "left"]
 having:At K mg "having" q2x ["reaches", "number"]
 shows_cover:At K mg "shows_cover" q1k ["wish", "count", "tree"]
 is_tree:At K mg "is_tree" q2l ["thing", "reaches", "left", "count"]
 is_branch:At K mg "is_branch" q11 ["thing", "reach", "reaches", "left", "count"]
 is_cube:At K mg "is_cube" q2m ["thing", "cube"]
 _law_cell_at:At K mg "_law_cell_at" q07 ["_law_script", "_law_k"]
 _law_way:At K mg "_law_way" q2h ["_law_script", "_law_k", "_law_many"]
 _law_mark:At K mg "_law_mark" q12 ["_law_script", "_law_k"]
 _law_rows:At K mg "_law_rows" q08 ["_law_cube"]
 _law_wish_by:At K mg "_law_wish_by" q02 ["_law_script", "_law_many"]
 _law_fits:At K mg "_law_fits" q13 ["_law_cube", "_law_wish"]
 _law_grown:At K mg "_law_grown" q1e ["_law_wish", "_law_number", "_law_many", "_law_mark_here"]
 _law_some:At K mg "_law_some" q1l ["_law_wish", "_law_many", "_law_count", "_law_script"]
 _law_covered:At K mg "_law_covered" q03 ["_law_cover", "_law_wish"]
 law:At K mg "law" q4g ["_law_script"]
structure Cals(P:Program)(w:World)(K:PySem.W.Frag)(mg:Str->Option Value)(base:Heap)(a:Adr)(n:Nat):Prop where
 row_of:Cal P w K mg base n "row_of" ["number", "many"] (spF K (run K a n q34))
 rows_many:Cal P w K mg base n "rows_many" ["many"] (spF K (run K a n q2q))
 all_rows:Cal P w K mg base n "all_rows" ["many"] (spF K (run K a n q3o))
 in_cube:Cal P w K mg base n "in_cube" ["cube", "row"] (spF K (run K a n q35))
 rows_in:Cal P w K mg base n "rows_in" ["cube"] (spF K (run K a n q2r))
 cube_text:Cal P w K mg base n "cube_text" ["cube"] (spF K (run K a n q2c))
 places_of:Cal P w K mg base n "places_of" ["table"] (spF K (run K a n q28))
 wish_places:Cal P w K mg base n "wish_places" ["wish"] (spF K (run K a n q1s))
 fits:Cal P w K mg base n "fits" ["cube", "wish"] (spF K (run K a n q44))
 primes:Cal P w K mg base n "primes" ["wish"] (spF K (run K a n q4y))
 all_cubes:Cal P w K mg base n "all_cubes" ["many"] (spF K (run K a n q29))
 is_prime:Cal P w K mg base n "is_prime" ["cube", "wish"] (spF K (run K a n q3p))
 wider_cubes:Cal P w K mg base n "wider_cubes" ["cube"] (spF K (run K a n q2n))
 covers:Cal P w K mg base n "covers" ["cover", "wish"] (spF K (run K a n q3a))
 wished_rows:Cal P w K mg base n "wished_rows" ["wish"] (spF K (run K a n q1f))
 rows_left:Cal P w K mg base n "rows_left" ["numbers", "taken"] (spF K (run K a n q1g))
 is_whole:Cal P w K mg base n "is_whole" ["thing"] (spF K (run K a n q26))
 is_tuple_of:Cal P w K mg base n "is_tuple_of" ["thing", "length"] (spF K (run K a n q01))
 same_truth:Cal P w K mg base n "same_truth" ["thing", "truth"] (spF K (run K a n q2t))
 least_cover:Cal P w K mg base (n+2) "least_cover" ["wish"] (spF K (run K a n q1t))
 reaches_of:Cal P w K mg base n "reaches_of" ["wish"] (spF K (run K a n q16))
 tried:Cal P w K mg base (n+1) "tried" ["reaches", "left", "count"] (spF K (run K a n q2a))
 rarest:Cal P w K mg base (n+1) "rarest" ["reaches", "left"] (spF K (run K a n q4z))
 having:Cal P w K mg base n "having" ["reaches", "number"] (spF K (run K a n q2u))
 shows_cover:Cal P w K mg base n "shows_cover" ["wish", "count", "tree"] (spF K (run K a n q1u))
 is_tree:Cal P w K mg base n "is_tree" ["thing", "reaches", "left", "count"] (spF K (run K a n q2s))
 is_branch:Cal P w K mg base n "is_branch" ["thing", "reach", "reaches", "left", "count"] (spF K (run K a n q1x))
 is_cube:Cal P w K mg base n "is_cube" ["thing", "cube"] (spF K (run K a n q36))
 _law_cell_at:Cal P w K mg base n "_law_cell_at" ["_law_script", "_law_k"] (spF K (run K a n q1m))
 _law_way:Cal P w K mg base n "_law_way" ["_law_script", "_law_k", "_law_many"] (spF K (run K a n q0x))
 _law_mark:Cal P w K mg base n "_law_mark" ["_law_script", "_law_k"] (spF K (run K a n q0y))
 _law_rows:Cal P w K mg base n "_law_rows" ["_law_cube"] (spF K (run K a n q2d))
 _law_wish_by:Cal P w K mg base n "_law_wish_by" ["_law_script", "_law_many"] (spF K (run K a n q1n))
 _law_fits:Cal P w K mg base n "_law_fits" ["_law_cube", "_law_wish"] (spF K (run K a n q2e))
 _law_grown:Cal P w K mg base n "_law_grown" ["_law_wish", "_law_number", "_law_many", "_law_mark_here"] (spF K (run K a n q2v))
 _law_some:Cal P w K mg base n "_law_some" ["_law_wish", "_law_many", "_law_count", "_law_script"] (spF K (run K a n q2f))
 _law_covered:Cal P w K mg base n "_law_covered" ["_law_cover", "_law_wish"] (spF K (run K a n q1o))
 law:Cal P w K mg base (n+2) "law" ["_law_script"] (spF K (run K a n q55))
 lam:FnV P w K mg base (CX1 P w) n (spV K lams (run K a n))
structure CalsH(P:Program)(w:World)(K:PySem.W.Frag)(mg:Str->Option Value)(base:Heap)(a:Adr)(n:Nat):Prop where
 z:True
theorem y5f(B:Blt P w K mg)(M:Exs K mg a)(C:Cals P w K mg base a n)(CH:CalsH P w K mg base a n)(BM:BMain base mg)(MK:Mks K mg){outer:List Env}(hr:Room n (A.deeper (PyProof.Rows.envOfC "row_of" (defScope q3b) s.heap.objs.size f cdv))):
  DSs Z (cxOf (CX1 P w) P w K mg base ["number", "many", "truths", "rest", "step"] "row_of" (defScope q3b) f cdv A outer s H E) (fun _=>E) (defBody q3b) (q6n K a (run K a n)):=
 (q0d (x1l 2 sc_row_of.nd (q00 q0b))
  (q0d (q0n 3 sc_row_of.nd (dv 0))
  (q0d (q58 4 sc_row_of.nd PassesOwn.leaving rfl B.b_range (q0a (dv 1) q0b)
  (q0d (x1p 2 (q0a (q53 (q0u hr) (q3e (dv 3) q0e) q0e) q0b))
  (q0f (q0n 3 sc_row_of.nd (x2u (dv 3) q0e)))))
  (q0d (q1a (x5c (q0u hr) (dv 3) q0e)
  (q0f (x0u rais1 M.e_NoRow M.m_NoRow rfl (q0a q4m q0b)))
  q0z)
  (q0f (q0m (y1r rfl B.b_tuple B.b_reversed (dv 2))))))))
theorem x6p(h:run K a (n+1) q34 ws≠.no):ws.length=2/\(q6n K a (run K a n) (init 5 ws)).fn=run K a (n+1) q34 ws:=by
 rw[x17]at h |-;split at h
 ·rename_i hl;rw[if_pos hl];exact⟨hl,rfl⟩
 ·exact absurd rfl h
theorem y2r(B:Blt P w K mg)(M:Exs K mg a)(C:Cals P w K mg base a n)(CH:CalsH P w K mg base a n)(BM:BMain base mg)(MK:Mks K mg)(A:Ats K mg):Cal P w K mg base (n+1) "row_of" ["number", "many"] (spF K (run K a (n+1) q34)):=
 con A.row_of sc_row_of (fun ws hw=>(x6p hw).1) fun ws hw f cdv A outer s H E Z hr=>⟨_,y5f B M C CH BM MK hr,(x6p hw).2⟩
theorem x70(B:Blt P w K mg)(M:Exs K mg a)(C:Cals P w K mg base a n)(CH:CalsH P w K mg base a n)(BM:BMain base mg)(MK:Mks K mg){outer:List Env}(hr:Room n (A.deeper (PyProof.Rows.envOfC "rows_many" (defScope q1y) s.heap.objs.size f cdv))):
  DSs Z (cxOf (CX1 P w) P w K mg base ["many", "count", "place"] "rows_many" (defScope q1y) f cdv A outer s H E) (fun _=>E) (defBody q1y) (q4o K a (run K a n)):=
 (q0d (q0n 1 sc_rows_many.nd q0e)
  (q0d (q58 2 sc_rows_many.nd PassesOwn.leaving rfl B.b_range (q0a (dv 0) q0b)
  (q0f (q0n 1 sc_rows_many.nd (q23 q0e (dv 1)))))
  (q0f (q0m (dv 1)))))
theorem x0b(h:run K a (n+1) q2q ws≠.no):ws.length=1/\(q4o K a (run K a n) (init 3 ws)).fn=run K a (n+1) q2q ws:=by
 rw[q8c]at h |-;split at h
 ·rename_i hl;rw[if_pos hl];exact⟨hl,rfl⟩
 ·exact absurd rfl h
theorem x6q(B:Blt P w K mg)(M:Exs K mg a)(C:Cals P w K mg base a n)(CH:CalsH P w K mg base a n)(BM:BMain base mg)(MK:Mks K mg)(A:Ats K mg):Cal P w K mg base (n+1) "rows_many" ["many"] (spF K (run K a (n+1) q2q)):=
 con A.rows_many sc_rows_many (fun ws hw=>(x0b hw).1) fun ws hw f cdv A outer s H E Z hr=>⟨_,x70 B M C CH BM MK hr,(x0b hw).2⟩
theorem x98(B:Blt P w K mg)(M:Exs K mg a)(C:Cals P w K mg base a n)(CH:CalsH P w K mg base a n)(BM:BMain base mg)(MK:Mks K mg){outer:List Env}(hr:Room n (A.deeper (PyProof.Rows.envOfC "all_rows" (defScope q17) s.heap.objs.size f cdv))):
  DSs Z (cxOf (CX1 P w) P w K mg base ["many"] "all_rows" (defScope q17) f cdv A outer s H E) (fun _=>E) (defBody q17) (q45 K a (run K a n)):=
 (q0f (q4e (q6k (x:="number") (Nf:=["many"]) (js:=[0]) (sc:=defScope q17) (N:=["many"]) rfl B.b_range (q0a (q0j C.rows_many hr pass1 (q0a (dv 0) q0b)) q0b) (by decide +kernel)
   (fun _ _ _ _ _ _=>q19)
   (fun _ _ _ _ _ _=>(q0j C.row_of hr passE (q0a (dv 0) (q0a (dv 1) q0b))))
   (fun _ _ _ _ _=>q09 0 (show(["number", "many"]:List Str).Nodup by decide +kernel)))))
theorem x2c(h:run K a (n+1) q3o ws≠.no):ws.length=1/\(q45 K a (run K a n) (init 1 ws)).fn=run K a (n+1) q3o ws:=by
 rw[q9d]at h |-;split at h
 ·rename_i hl;rw[if_pos hl];exact⟨hl,rfl⟩
 ·exact absurd rfl h
theorem x71(B:Blt P w K mg)(M:Exs K mg a)(C:Cals P w K mg base a n)(CH:CalsH P w K mg base a n)(BM:BMain base mg)(MK:Mks K mg)(A:Ats K mg):Cal P w K mg base (n+1) "all_rows" ["many"] (spF K (run K a (n+1) q3o)):=
 con A.all_rows x7x (fun ws hw=>(x2c hw).1) fun ws hw f cdv A outer s H E Z hr=>⟨_,x98 B M C CH BM MK hr,(x2c hw).2⟩
theorem y2s(B:Blt P w K mg)(M:Exs K mg a)(C:Cals P w K mg base a n)(CH:CalsH P w K mg base a n)(BM:BMain base mg)(MK:Mks K mg){outer:List Env}(hr:Room n (A.deeper (PyProof.Rows.envOfC "in_cube" (defScope q2j) s.heap.objs.size f cdv))):
  DSs Z (cxOf (CX1 P w) P w K mg base ["cube", "row"] "in_cube" (defScope q2j) f cdv A outer s H E) (fun _=>E) (defBody q2j) (q5n K a (run K a n)):=
 (q0d (q1a (x5c (q0u hr) (q1c B.b_len (q0a (dv 0) q0b)) (q1c B.b_len (q0a (dv 1) q0b)))
  (q0f (q0m q0o))
  q0z)
  (q0f (q0m (x1v rfl B.b_all (q0a (q0t (q6m (x:="wanted") (y:="truth") (Nf:=[]) (js:=[]) (sc:=defScope q2j) (N:=["cube", "row"]) rfl (x59 B.b_zip (q0a (dv 0) (q0a (dv 1) q0b))) (by decide +kernel)
   (fun _ _ _ _ _ _=>q19)
   (fun _ _ _ _ _ _=>(z3c (x9v (dv 0) q21) (x1i (q53 (q0u hr) (dv 0) (dv 1)))))
   (fun _ _ _ _ _=>q84 (show(["wanted", "truth"]:List Str).Nodup by decide +kernel) rfl))) q0b)))))
theorem x4a(h:run K a (n+1) q35 ws≠.no):ws.length=2/\(q5n K a (run K a n) (init 2 ws)).fn=run K a (n+1) q35 ws:=by
 rw[q98]at h |-;split at h
 ·rename_i hl;rw[if_pos hl];exact⟨hl,rfl⟩
 ·exact absurd rfl h
theorem x99(B:Blt P w K mg)(M:Exs K mg a)(C:Cals P w K mg base a n)(CH:CalsH P w K mg base a n)(BM:BMain base mg)(MK:Mks K mg)(A:Ats K mg):Cal P w K mg base (n+1) "in_cube" ["cube", "row"] (spF K (run K a (n+1) q35)):=
 con A.in_cube x95 (fun ws hw=>(x4a hw).1) fun ws hw f cdv A outer s H E Z hr=>⟨_,y2s B M C CH BM MK hr,(x4a hw).2⟩
theorem y2t(B:Blt P w K mg)(M:Exs K mg a)(C:Cals P w K mg base a n)(CH:CalsH P w K mg base a n)(BM:BMain base mg)(MK:Mks K mg){outer:List Env}(hr:Room n (A.deeper (PyProof.Rows.envOfC "rows_in" (defScope q2k) s.heap.objs.size f cdv))):
  DSs Z (cxOf (CX1 P w) P w K mg base ["cube"] "rows_in" (defScope q2k) f cdv A outer s H E) (fun _=>E) (defBody q2k) (q5o K a (run K a n)):=
 (q0f (q4e (q6m (x:="number") (y:="row") (Nf:=["cube"]) (js:=[0]) (sc:=defScope q2k) (N:=["cube"]) rfl (x8v B.b_enumerate (q0a (q0j C.all_rows hr pass1 (q0a (q1c B.b_len (q0a (dv 0) q0b)) q0b)) q0b)) (by decide +kernel)
   (fun _ _ _ _ _ _=>(q41 (q3d (q0j C.in_cube hr passE (q0a (dv 2) (q0a (dv 1) q0b))))))
   (fun _ _ _ _ _ _=>(dv 0))
   (fun _ _ _ _ _=>q84 (show(["number", "row", "cube"]:List Str).Nodup by decide +kernel) rfl))))
theorem x4b(h:run K a (n+1) q2r ws≠.no):ws.length=1/\(q5o K a (run K a n) (init 1 ws)).fn=run K a (n+1) q2r ws:=by
 rw[q99]at h |-;split at h
 ·rename_i hl;rw[if_pos hl];exact⟨hl,rfl⟩
 ·exact absurd rfl h
theorem y0a(B:Blt P w K mg)(M:Exs K mg a)(C:Cals P w K mg base a n)(CH:CalsH P w K mg base a n)(BM:BMain base mg)(MK:Mks K mg)(A:Ats K mg):Cal P w K mg base (n+1) "rows_in" ["cube"] (spF K (run K a (n+1) q2r)):=
 con A.rows_in x96 (fun ws hw=>(x4b hw).1) fun ws hw f cdv A outer s H E Z hr=>⟨_,y2t B M C CH BM MK hr,(x4b hw).2⟩
theorem x72(B:Blt P w K mg)(M:Exs K mg a)(C:Cals P w K mg base a n)(CH:CalsH P w K mg base a n)(BM:BMain base mg)(MK:Mks K mg){outer:List Env}(hr:Room n (A.deeper (PyProof.Rows.envOfC "cube_text" (defScope q1p) s.heap.objs.size f cdv))):
  DSs Z (cxOf (CX1 P w) P w K mg base ["cube"] "cube_text" (defScope q1p) f cdv A outer s H E) (fun _=>E) (defBody q1p) (q4p K a (run K a n)):=
 (q0f (q0m (y79 q4m (q0a (q0t (q3y (x:="truth") (Nf:=[]) (js:=[]) (sc:=defScope q1p) (N:=["cube"]) rfl (dv 0) (by decide +kernel)
   (fun _ _ _ _ _ _=>q19)
   (fun _ _ _ _ _ _=>(z2q B.t_SIGNS (dv 0)))
   (fun _ _ _ _ _=>q09 0 (show(["truth"]:List Str).Nodup by decide +kernel)))) q0b))))
theorem x0c(h:run K a (n+1) q2c ws≠.no):ws.length=1/\(q4p K a (run K a n) (init 1 ws)).fn=run K a (n+1) q2c ws:=by
 rw[q8d]at h |-;split at h
 ·rename_i hl;rw[if_pos hl];exact⟨hl,rfl⟩
 ·exact absurd rfl h
theorem x6r(B:Blt P w K mg)(M:Exs K mg a)(C:Cals P w K mg base a n)(CH:CalsH P w K mg base a n)(BM:BMain base mg)(MK:Mks K mg)(A:Ats K mg):Cal P w K mg base (n+1) "cube_text" ["cube"] (spF K (run K a (n+1) q2c)):=
 con A.cube_text x6k (fun ws hw=>(x0c hw).1) fun ws hw f cdv A outer s H E Z hr=>⟨_,x72 B M C CH BM MK hr,(x0c hw).2⟩
theorem x73(B:Blt P w K mg)(M:Exs K mg a)(C:Cals P w K mg base a n)(CH:CalsH P w K mg base a n)(BM:BMain base mg)(MK:Mks K mg){outer:List Env}(hr:Room n (A.deeper (PyProof.Rows.envOfC "places_of" (defScope q1z) s.heap.objs.size f cdv))):
  DSs Z (cxOf (CX1 P w) P w K mg base ["table", "many"] "places_of" (defScope q1z) f cdv A outer s H E) (fun _=>E) (defBody q1z) (q4q K a (run K a n)):=
 (q0d (q58 1 sc_places_of.nd PassesOwn.leaving rfl B.b_range (q0a (q0v (y1u M.m_MOST_PLACES_tables M.g_MOST_PLACES_tables) q0e) q0b)
  (q0f (q1a (q5i (q0u hr) (q1c B.b_len (q0a (dv 0) q0b)) (q0j C.rows_many hr pass1 (q0a (dv 1) q0b)))
  (q0f (q0m (dv 1)))
  q0z)))
  (q0f (x0u rais1 M.e_NoTable M.m_NoTable rfl (q0a q4m q0b))))
theorem x0d(h:run K a (n+1) q28 ws≠.no):ws.length=1/\(q4q K a (run K a n) (init 2 ws)).fn=run K a (n+1) q28 ws:=by
 rw[q8e]at h |-;split at h
 ·rename_i hl;rw[if_pos hl];exact⟨hl,rfl⟩
 ·exact absurd rfl h
theorem x6s(B:Blt P w K mg)(M:Exs K mg a)(C:Cals P w K mg base a n)(CH:CalsH P w K mg base a n)(BM:BMain base mg)(MK:Mks K mg)(A:Ats K mg):Cal P w K mg base (n+1) "places_of" ["table"] (spF K (run K a (n+1) q28)):=
 con A.places_of sc_places_of (fun ws hw=>(x0d hw).1) fun ws hw f cdv A outer s H E Z hr=>⟨_,x73 B M C CH BM MK hr,(x0d hw).2⟩
theorem x40(B:Blt P w K mg)(M:Exs K mg a)(C:Cals P w K mg base a n)(CH:CalsH P w K mg base a n)(BM:BMain base mg)(MK:Mks K mg){outer:List Env}(hr:Room n (A.deeper (PyProof.Rows.envOfC "wish_places" (defScope q1h) s.heap.objs.size f cdv))):
  DSs Z (cxOf (CX1 P w) P w K mg base ["wish", "many"] "wish_places" (defScope q1h) f cdv A outer s H E) (fun _=>E) (defBody q1h) (q3q K a (run K a n)):=
 (q0d (q0n 1 sc_wish_places.nd (q0j C.places_of hr pass1 (q0a (dv 0) q0b)))
  (q0d (q1a (z3j (dv 1) (y1u M.m_MOST_PLACES_covers M.g_MOST_PLACES_covers))
  (q0f (x0u rais1 M.e_NoTable M.m_NoTable rfl (q0a q4m q0b)))
  q0z)
  (q0f (q0m (dv 1)))))
theorem q8j(h:run K a (n+1) q1s ws≠.no):ws.length=1/\(q3q K a (run K a n) (init 2 ws)).fn=run K a (n+1) q1s ws:=by
 rw[q62]at h |-;split at h
 ·rename_i hl;rw[if_pos hl];exact⟨hl,rfl⟩
 ·exact absurd rfl h
theorem x24(B:Blt P w K mg)(M:Exs K mg a)(C:Cals P w K mg base a n)(CH:CalsH P w K mg base a n)(BM:BMain base mg)(MK:Mks K mg)(A:Ats K mg):Cal P w K mg base (n+1) "wish_places" ["wish"] (spF K (run K a (n+1) q1s)):=
 con A.wish_places sc_wish_places (fun ws hw=>(q8j hw).1) fun ws hw f cdv A outer s H E Z hr=>⟨_,x40 B M C CH BM MK hr,(q8j hw).2⟩
theorem z2r(B:Blt P w K mg)(M:Exs K mg a)(C:Cals P w K mg base a n)(CH:CalsH P w K mg base a n)(BM:BMain base mg)(MK:Mks K mg){outer:List Env}(hr:Room n (A.deeper (PyProof.Rows.envOfC "fits" (defScope q37) s.heap.objs.size f cdv))):
  DSs Z (cxOf (CX1 P w) P w K mg base ["cube", "wish"] "fits" (defScope q37) f cdv A outer s H E) (fun _=>E) (defBody q37) (q9a K a (run K a n)):=
 (q0d (q1a (x5c (q0u hr) (q0j C.wish_places hr pass1 (q0a (dv 1) q0b)) (q1c B.b_len (q0a (dv 0) q0b)))
  (q0f (q0m q0o))
  q0z)
  (q0f (q0m (x1v rfl B.b_all (q0a (q0t (q3y (x:="number") (Nf:=["wish"]) (js:=[1]) (sc:=defScope q37) (N:=["cube", "wish"]) rfl (q0j C.rows_in hr pass1 (q0a (dv 0) q0b)) (by decide +kernel)
   (fun _ _ _ _ _ _=>q19)
   (fun _ _ _ _ _ _=>(z0t (q1b (dv 1) (dv 0)) q0o))
   (fun _ _ _ _ _=>q09 0 (show(["number", "wish"]:List Str).Nodup by decide +kernel)))) q0b)))))
theorem y2u(h:run K a (n+1) q44 ws≠.no):ws.length=2/\(q9a K a (run K a n) (init 2 ws)).fn=run K a (n+1) q44 ws:=by
 rw[x6o]at h |-;split at h
 ·rename_i hl;rw[if_pos hl];exact⟨hl,rfl⟩
 ·exact absurd rfl h
theorem y85(B:Blt P w K mg)(M:Exs K mg a)(C:Cals P w K mg base a n)(CH:CalsH P w K mg base a n)(BM:BMain base mg)(MK:Mks K mg)(A:Ats K mg):Cal P w K mg base (n+1) "fits" ["cube", "wish"] (spF K (run K a (n+1) q44)):=
 con A.fits y84 (fun ws hw=>(y2u hw).1) fun ws hw f cdv A outer s H E Z hr=>⟨_,z2r B M C CH BM MK hr,(y2u hw).2⟩
theorem y5g(B:Blt P w K mg)(M:Exs K mg a)(C:Cals P w K mg base a n)(CH:CalsH P w K mg base a n)(BM:BMain base mg)(MK:Mks K mg){outer:List Env}(hr:Room n (A.deeper (PyProof.Rows.envOfC "primes" (defScope q2w) s.heap.objs.size f cdv))):
  DSs Z (cxOf (CX1 P w) P w K mg base ["wish"] "primes" (defScope q2w) f cdv A outer s H E) (fun _=>E) (defBody q2w) (q6o K a (run K a n)):=
 (q0f (q4e (q3y (x:="cube") (Nf:=["wish"]) (js:=[0]) (sc:=defScope q2w) (N:=["wish"]) rfl (q0j C.all_cubes hr pass1 (q0a (q0j C.wish_places hr pass1 (q0a (dv 0) q0b)) q0b)) (by decide +kernel)
   (fun _ _ _ _ _ _=>(q41 (q3d (q0j C.is_prime hr passE (q0a (dv 0) (q0a (dv 1) q0b))))))
   (fun _ _ _ _ _ _=>(dv 0))
   (fun _ _ _ _ _=>q09 0 (show(["cube", "wish"]:List Str).Nodup by decide +kernel)))))
theorem x6t(h:run K a (n+1) q4y ws≠.no):ws.length=1/\(q6o K a (run K a n) (init 1 ws)).fn=run K a (n+1) q4y ws:=by
 rw[x18]at h |-;split at h
 ·rename_i hl;rw[if_pos hl];exact⟨hl,rfl⟩
 ·exact absurd rfl h
theorem y2v(B:Blt P w K mg)(M:Exs K mg a)(C:Cals P w K mg base a n)(CH:CalsH P w K mg base a n)(BM:BMain base mg)(MK:Mks K mg)(A:Ats K mg):Cal P w K mg base (n+1) "primes" ["wish"] (spF K (run K a (n+1) q4y)):=
 con A.primes y2o (fun ws hw=>(x6t hw).1) fun ws hw f cdv A outer s H E Z hr=>⟨_,y5g B M C CH BM MK hr,(x6t hw).2⟩
theorem x74(B:Blt P w K mg)(M:Exs K mg a)(C:Cals P w K mg base a n)(CH:CalsH P w K mg base a n)(BM:BMain base mg)(MK:Mks K mg){outer:List Env}(hr:Room n (A.deeper (PyProof.Rows.envOfC "all_cubes" (defScope q10) s.heap.objs.size f cdv))):
  DSs Z (cxOf (CX1 P w) P w K mg base ["many", "cubes", "place", "longer", "cube"] "all_cubes" (defScope q10) f cdv A outer s H E) (fun _=>E) (defBody q10) (q4r K a (run K a n)):=
 (q0d (q0n 1 sc_all_cubes.nd (q0t (q00 (q0a (q2p q0b) q0b))))
  (q0d (q58 2 sc_all_cubes.nd PassesOwn.leaving rfl B.b_range (q0a (dv 0) q0b)
  (q0d (x1l 3 sc_all_cubes.nd (q00 q0b))
  (q0d (q80 4 sc_all_cubes.nd PassesOwn.leaving rfl (dv 1)
  (q0f (z2a 3 (q0a (q0t (q00 (q0a (q0v (dv 4) (q2p (q0a q21 q0b))) (q0a (q0v (dv 4) (q2p (q0a q0o q0b))) (q0a (q0v (dv 4) (q2p (q0a q0o q0b))) q0b))))) q0b))))
  (q0f (q0n 1 sc_all_cubes.nd (dv 3))))))
  (q0f (q0m (dv 1)))))
theorem x0e(h:run K a (n+1) q29 ws≠.no):ws.length=1/\(q4r K a (run K a n) (init 5 ws)).fn=run K a (n+1) q29 ws:=by
 rw[q8f]at h |-;split at h
 ·rename_i hl;rw[if_pos hl];exact⟨hl,rfl⟩
 ·exact absurd rfl h
theorem x6u(B:Blt P w K mg)(M:Exs K mg a)(C:Cals P w K mg base a n)(CH:CalsH P w K mg base a n)(BM:BMain base mg)(MK:Mks K mg)(A:Ats K mg):Cal P w K mg base (n+1) "all_cubes" ["many"] (spF K (run K a (n+1) q29)):=
 con A.all_cubes sc_all_cubes (fun ws hw=>(x0e hw).1) fun ws hw f cdv A outer s H E Z hr=>⟨_,x74 B M C CH BM MK hr,(x0e hw).2⟩
theorem y0b(B:Blt P w K mg)(M:Exs K mg a)(C:Cals P w K mg base a n)(CH:CalsH P w K mg base a n)(BM:BMain base mg)(MK:Mks K mg){outer:List Env}(hr:Room n (A.deeper (PyProof.Rows.envOfC "is_prime" (defScope q1v) s.heap.objs.size f cdv))):
  DSs Z (cxOf (CX1 P w) P w K mg base ["cube", "wish"] "is_prime" (defScope q1v) f cdv A outer s H E) (fun _=>E) (defBody q1v) (q46 K a (run K a n)):=
 (q0d (q1a (q4n (q3d (q0j C.fits hr pass1 (q0a (dv 0) (q0a (dv 1) q0b)))))
  (q0f (q0m q0o))
  q0z)
  (q0d (q1a (q4n (q3d (y2b rfl B.b_any (q0a (q0t (q3y (x:="number") (Nf:=["wish"]) (js:=[1]) (sc:=defScope q1v) (N:=["cube", "wish"]) rfl (q0j C.rows_in hr pass1 (q0a (dv 0) q0b)) (by decide +kernel)
   (fun _ _ _ _ _ _=>q19)
   (fun _ _ _ _ _ _=>(x9v (q1b (dv 1) (dv 0)) q0o))
   (fun _ _ _ _ _=>q09 0 (show(["number", "wish"]:List Str).Nodup by decide +kernel)))) q0b))))
  (q0f (q0m q0o))
  q0z)
  (q0f (q0m (x5t (y2b rfl B.b_any (q0a (q0t (q3y (x:="wider") (Nf:=["wish"]) (js:=[1]) (sc:=defScope q1v) (N:=["cube", "wish"]) rfl (q0j C.wider_cubes hr pass1 (q0a (dv 0) q0b)) (by decide +kernel)
   (fun _ _ _ _ _ _=>q19)
   (fun _ _ _ _ _ _=>(q0j C.fits hr passE (q0a (dv 0) (q0a (dv 1) q0b))))
   (fun _ _ _ _ _=>q09 0 (show(["wider", "wish"]:List Str).Nodup by decide +kernel)))) q0b)))))))
theorem x2d(h:run K a (n+1) q3p ws≠.no):ws.length=2/\(q46 K a (run K a n) (init 2 ws)).fn=run K a (n+1) q3p ws:=by
 rw[q9e]at h |-;split at h
 ·rename_i hl;rw[if_pos hl];exact⟨hl,rfl⟩
 ·exact absurd rfl h
theorem x75(B:Blt P w K mg)(M:Exs K mg a)(C:Cals P w K mg base a n)(CH:CalsH P w K mg base a n)(BM:BMain base mg)(MK:Mks K mg)(A:Ats K mg):Cal P w K mg base (n+1) "is_prime" ["cube", "wish"] (spF K (run K a (n+1) q3p)):=
 con A.is_prime x7y (fun ws hw=>(x2d hw).1) fun ws hw f cdv A outer s H E Z hr=>⟨_,y0b B M C CH BM MK hr,(x2d hw).2⟩
theorem x41(B:Blt P w K mg)(M:Exs K mg a)(C:Cals P w K mg base a n)(CH:CalsH P w K mg base a n)(BM:BMain base mg)(MK:Mks K mg){outer:List Env}(hr:Room n (A.deeper (PyProof.Rows.envOfC "wider_cubes" (defScope q04) s.heap.objs.size f cdv))):
  DSs Z (cxOf (CX1 P w) P w K mg base ["cube"] "wider_cubes" (defScope q04) f cdv A outer s H E) (fun _=>E) (defBody q04) (q3r K a (run K a n)):=
 (q0f (q4e (q6k (x:="place") (Nf:=["cube"]) (js:=[0]) (sc:=defScope q04) (N:=["cube"]) rfl B.b_range (q0a (q1c B.b_len (q0a (dv 0) q0b)) q0b) (by decide +kernel)
   (fun _ _ _ _ _ _=>(q41 (x50 (q1b (dv 1) (dv 0)) q21)))
   (fun _ _ _ _ _ _=>(q0v (q0v (q7y (dv 1) q9s (q9t (dv 0))) (q2p (q0a q21 q0b))) (q7y (dv 1) (q9t (q0v (dv 0) q0e)) q9s)))
   (fun _ _ _ _ _=>q09 0 (show(["place", "cube"]:List Str).Nodup by decide +kernel)))))
theorem q8k(h:run K a (n+1) q2n ws≠.no):ws.length=1/\(q3r K a (run K a n) (init 1 ws)).fn=run K a (n+1) q2n ws:=by
 rw[q63]at h |-;split at h
 ·rename_i hl;rw[if_pos hl];exact⟨hl,rfl⟩
 ·exact absurd rfl h
theorem x25(B:Blt P w K mg)(M:Exs K mg a)(C:Cals P w K mg base a n)(CH:CalsH P w K mg base a n)(BM:BMain base mg)(MK:Mks K mg)(A:Ats K mg):Cal P w K mg base (n+1) "wider_cubes" ["cube"] (spF K (run K a (n+1) q2n)):=
 con A.wider_cubes x21 (fun ws hw=>(q8k hw).1) fun ws hw f cdv A outer s H E Z hr=>⟨_,x41 B M C CH BM MK hr,(q8k hw).2⟩
theorem y5h(B:Blt P w K mg)(M:Exs K mg a)(C:Cals P w K mg base a n)(CH:CalsH P w K mg base a n)(BM:BMain base mg)(MK:Mks K mg){outer:List Env}(hr:Room n (A.deeper (PyProof.Rows.envOfC "covers" (defScope q3c) s.heap.objs.size f cdv))):
  DSs Z (cxOf (CX1 P w) P w K mg base ["cover", "wish", "left", "cube"] "covers" (defScope q3c) f cdv A outer s H E) (fun _=>E) (defBody q3c) (q6p K a (run K a n)):=
 (q0d (q0n 2 sc_covers.nd (q0j C.wished_rows hr pass1 (q0a (dv 1) q0b)))
  (q0d (q80 3 sc_covers.nd PassesOwn.leaving rfl (dv 0)
  (q0d (q1a (q4n (q3d (q0j C.fits hr pass1 (q0a (dv 3) (q0a (dv 1) q0b)))))
  (q0f (q0m q0o))
  q0z)
  (q0f (q0n 2 sc_covers.nd (q0j C.rows_left hr pass1 (q0a (dv 2) (q0a (q0j C.rows_in hr pass1 (q0a (dv 3) q0b)) q0b)))))))
  (q0f (q0m (q53 (q0u hr) (q1c B.b_len (q0a (dv 2) q0b)) q0e)))))
theorem x6v(h:run K a (n+1) q3a ws≠.no):ws.length=2/\(q6p K a (run K a n) (init 4 ws)).fn=run K a (n+1) q3a ws:=by
 rw[x19]at h |-;split at h
 ·rename_i hl;rw[if_pos hl];exact⟨hl,rfl⟩
 ·exact absurd rfl h
theorem y2w(B:Blt P w K mg)(M:Exs K mg a)(C:Cals P w K mg base a n)(CH:CalsH P w K mg base a n)(BM:BMain base mg)(MK:Mks K mg)(A:Ats K mg):Cal P w K mg base (n+1) "covers" ["cover", "wish"] (spF K (run K a (n+1) q3a)):=
 con A.covers sc_covers (fun ws hw=>(x6v hw).1) fun ws hw f cdv A outer s H E Z hr=>⟨_,y5h B M C CH BM MK hr,(x6v hw).2⟩
theorem x42(B:Blt P w K mg)(M:Exs K mg a)(C:Cals P w K mg base a n)(CH:CalsH P w K mg base a n)(BM:BMain base mg)(MK:Mks K mg){outer:List Env}(hr:Room n (A.deeper (PyProof.Rows.envOfC "wished_rows" (defScope q05) s.heap.objs.size f cdv))):
  DSs Z (cxOf (CX1 P w) P w K mg base ["wish"] "wished_rows" (defScope q05) f cdv A outer s H E) (fun _=>E) (defBody q05) (q3s K a (run K a n)):=
 (q0d (y60 (q0j C.wish_places hr pass1 (q0a (dv 0) q0b)))
  (q0f (q4e (q6m (x:="number") (y:="wanted") (Nf:=[]) (js:=[]) (sc:=defScope q05) (N:=["wish"]) rfl (x8v B.b_enumerate (q0a (dv 0) q0b)) (by decide +kernel)
   (fun _ _ _ _ _ _=>(q41 (x1t (dv 1) q0o)))
   (fun _ _ _ _ _ _=>(dv 0))
   (fun _ _ _ _ _=>q84 (show(["number", "wanted"]:List Str).Nodup by decide +kernel) rfl)))))
theorem q8l(h:run K a (n+1) q1f ws≠.no):ws.length=1/\(q3s K a (run K a n) (init 1 ws)).fn=run K a (n+1) q1f ws:=by
 rw[q64]at h |-;split at h
 ·rename_i hl;rw[if_pos hl];exact⟨hl,rfl⟩
 ·exact absurd rfl h
theorem x26(B:Blt P w K mg)(M:Exs K mg a)(C:Cals P w K mg base a n)(CH:CalsH P w K mg base a n)(BM:BMain base mg)(MK:Mks K mg)(A:Ats K mg):Cal P w K mg base (n+1) "wished_rows" ["wish"] (spF K (run K a (n+1) q1f)):=
 con A.wished_rows x22 (fun ws hw=>(q8l hw).1) fun ws hw f cdv A outer s H E Z hr=>⟨_,x42 B M C CH BM MK hr,(q8l hw).2⟩
theorem x76(B:Blt P w K mg)(M:Exs K mg a)(C:Cals P w K mg base a n)(CH:CalsH P w K mg base a n)(BM:BMain base mg)(MK:Mks K mg){outer:List Env}(hr:Room n (A.deeper (PyProof.Rows.envOfC "rows_left" (defScope q1q) s.heap.objs.size f cdv))):
  DSs Z (cxOf (CX1 P w) P w K mg base ["numbers", "taken"] "rows_left" (defScope q1q) f cdv A outer s H E) (fun _=>E) (defBody q1q) (q4s K a (run K a n)):=
 (q0f (q4e (q3y (x:="number") (Nf:=["taken"]) (js:=[1]) (sc:=defScope q1q) (N:=["numbers", "taken"]) rfl (dv 0) (by decide +kernel)
   (fun _ _ _ _ _ _=>(q41 (x54 (q0u hr) (dv 0) (dv 1))))
   (fun _ _ _ _ _ _=>(dv 0))
   (fun _ _ _ _ _=>q09 0 (show(["number", "taken"]:List Str).Nodup by decide +kernel)))))
theorem x0f(h:run K a (n+1) q1g ws≠.no):ws.length=2/\(q4s K a (run K a n) (init 2 ws)).fn=run K a (n+1) q1g ws:=by
 rw[q8g]at h |-;split at h
 ·rename_i hl;rw[if_pos hl];exact⟨hl,rfl⟩
 ·exact absurd rfl h
theorem x6w(B:Blt P w K mg)(M:Exs K mg a)(C:Cals P w K mg base a n)(CH:CalsH P w K mg base a n)(BM:BMain base mg)(MK:Mks K mg)(A:Ats K mg):Cal P w K mg base (n+1) "rows_left" ["numbers", "taken"] (spF K (run K a (n+1) q1g)):=
 con A.rows_left x6l (fun ws hw=>(x0f hw).1) fun ws hw f cdv A outer s H E Z hr=>⟨_,x76 B M C CH BM MK hr,(x0f hw).2⟩
theorem y0c(B:Blt P w K mg)(M:Exs K mg a)(C:Cals P w K mg base a n)(CH:CalsH P w K mg base a n)(BM:BMain base mg)(MK:Mks K mg){outer:List Env}(hr:Room n (A.deeper (PyProof.Rows.envOfC "is_whole" (defScope q2g) s.heap.objs.size f cdv))):
  DSs Z (cxOf (CX1 P w) P w K mg base ["thing"] "is_whole" (defScope q2g) f cdv A outer s H E) (fun _=>E) (defBody q2g) (q48 K a (run K a n)):=
 (q0f (q0m (x5s (q7l (c0:=.ty _) rfl (q59 PyProof.Rows.Boot.«int» B.b_int) B.b_isinstance (dv 0)) (x1i (x5t (q7l (c0:=.ty _) rfl (q59 PyProof.Rows.Boot.«bool» B.b_bool) B.b_isinstance (dv 0)))))))
theorem x2e(h:run K a (n+1) q26 ws≠.no):ws.length=1/\(q48 K a (run K a n) (init 1 ws)).fn=run K a (n+1) q26 ws:=by
 rw[q9f]at h |-;split at h
 ·rename_i hl;rw[if_pos hl];exact⟨hl,rfl⟩
 ·exact absurd rfl h
theorem x77(B:Blt P w K mg)(M:Exs K mg a)(C:Cals P w K mg base a n)(CH:CalsH P w K mg base a n)(BM:BMain base mg)(MK:Mks K mg)(A:Ats K mg):Cal P w K mg base (n+1) "is_whole" ["thing"] (spF K (run K a (n+1) q26)):=
 con A.is_whole x7z (fun ws hw=>(x2e hw).1) fun ws hw f cdv A outer s H E Z hr=>⟨_,y0c B M C CH BM MK hr,(x2e hw).2⟩
theorem x43(B:Blt P w K mg)(M:Exs K mg a)(C:Cals P w K mg base a n)(CH:CalsH P w K mg base a n)(BM:BMain base mg)(MK:Mks K mg){outer:List Env}(hr:Room n (A.deeper (PyProof.Rows.envOfC "is_tuple_of" (defScope q1i) s.heap.objs.size f cdv))):
  DSs Z (cxOf (CX1 P w) P w K mg base ["thing", "length"] "is_tuple_of" (defScope q1i) f cdv A outer s H E) (fun _=>E) (defBody q1i) (q3t K a (run K a n)):=
 (q0f (q0m (x5s (q7l (c0:=.ty _) rfl (q59 PyProof.Rows.Boot.«tuple» B.b_tuple) B.b_isinstance (dv 0)) (x1i (q53 (q0u hr) (q1c B.b_len (q0a (dv 0) q0b)) (dv 1))))))
theorem q8m(h:run K a (n+1) q01 ws≠.no):ws.length=2/\(q3t K a (run K a n) (init 2 ws)).fn=run K a (n+1) q01 ws:=by
 rw[q65]at h |-;split at h
 ·rename_i hl;rw[if_pos hl];exact⟨hl,rfl⟩
 ·exact absurd rfl h
theorem x27(B:Blt P w K mg)(M:Exs K mg a)(C:Cals P w K mg base a n)(CH:CalsH P w K mg base a n)(BM:BMain base mg)(MK:Mks K mg)(A:Ats K mg):Cal P w K mg base (n+1) "is_tuple_of" ["thing", "length"] (spF K (run K a (n+1) q01)):=
 con A.is_tuple_of x23 (fun ws hw=>(q8m hw).1) fun ws hw f cdv A outer s H E Z hr=>⟨_,x43 B M C CH BM MK hr,(q8m hw).2⟩
theorem x6x(B:Blt P w K mg)(M:Exs K mg a)(C:Cals P w K mg base a n)(CH:CalsH P w K mg base a n)(BM:BMain base mg)(MK:Mks K mg){outer:List Env}(hr:Room n (A.deeper (PyProof.Rows.envOfC "same_truth" (defScope q1r) s.heap.objs.size f cdv))):
  DSs Z (cxOf (CX1 P w) P w K mg base ["thing", "truth"] "same_truth" (defScope q1r) f cdv A outer s H E) (fun _=>E) (defBody q1r) (q38 K a (run K a n)):=
 (q0f (q0m (x5s (q53 (q0u hr) (dv 0) (dv 1)) (x1i (q53 (q0u hr) (q7l (c0:=.ty _) rfl (q59 PyProof.Rows.Boot.«bool» B.b_bool) B.b_isinstance (dv 0)) (q7l (c0:=.ty _) rfl (q59 PyProof.Rows.Boot.«bool» B.b_bool) B.b_isinstance (dv 1)))))))
theorem q9h(h:run K a (n+1) q2t ws≠.no):ws.length=2/\(q38 K a (run K a n) (init 2 ws)).fn=run K a (n+1) q2t ws:=by
 rw[q7o]at h |-;split at h
 ·rename_i hl;rw[if_pos hl];exact⟨hl,rfl⟩
 ·exact absurd rfl h
theorem x44(B:Blt P w K mg)(M:Exs K mg a)(C:Cals P w K mg base a n)(CH:CalsH P w K mg base a n)(BM:BMain base mg)(MK:Mks K mg)(A:Ats K mg):Cal P w K mg base (n+1) "same_truth" ["thing", "truth"] (spF K (run K a (n+1) q2t)):=
 con A.same_truth x4x (fun ws hw=>(q9h hw).1) fun ws hw f cdv A outer s H E Z hr=>⟨_,x6x B M C CH BM MK hr,(q9h hw).2⟩
theorem x45(B:Blt P w K mg)(M:Exs K mg a)(C:Cals P w K mg base a n)(CH:CalsH P w K mg base a n)(BM:BMain base mg)(MK:Mks K mg){outer:List Env}(hr:Room (n+2) (A.deeper (PyProof.Rows.envOfC "least_cover" (defScope q1j) s.heap.objs.size f cdv))):
  DSs Z (cxOf (CX1 P w) P w K mg base ["wish", "reaches", "wished", "count", "tree", "found"] "least_cover" (defScope q1j) f cdv A outer s H E) (fun _=>E) (defBody q1j) (q3u K a (run K a n)):=
 (q0d (q0n 1 sc_least_cover.nd (q0j C.reaches_of (hr.mono (by omega)) pass1 (q0a (dv 0) q0b)))
  (q0d (q0n 2 sc_least_cover.nd (q0j C.wished_rows (hr.mono (by omega)) pass1 (q0a (dv 0) q0b)))
  (q0d (q0n 3 sc_least_cover.nd q0e)
  (q0d (q0n 4 sc_least_cover.nd q21)
  (q0d (q0n 5 sc_least_cover.nd (q0j C.tried (hr.mono (by omega)) pass1 (q0a (dv 1) (q0a (dv 2) (q0a (dv 3) q0b)))))
  (q0d (y34 1000000 PassesOwn.leaving (q5i (q0u hr) (q1b (dv 5) q0e) q4m)
  (q0d (q0n 4 sc_least_cover.nd (q1b (dv 5) q0e))
  (q0d (q0n 3 sc_least_cover.nd (q0v (dv 3) q0e))
  (q0f (q0n 5 sc_least_cover.nd (q0j C.tried (hr.mono (by omega)) pass1 (q0a (dv 1) (q0a (dv 2) (q0a (dv 3) q0b)))))))))
  (q0f (q0m (q2p (q0a (q0t (y83 C.cube_text hr B.b_sorted (q1b (dv 5) q0e))) (q0a (dv 4) q0b)))))))))))
theorem q8n(h:run K a (n+1) q1t ws≠.no):ws.length=1/\(q3u K a (run K a n) (init 6 ws)).fn=run K a (n+1) q1t ws:=by
 rw[q66]at h |-;split at h
 ·rename_i hl;rw[if_pos hl];exact⟨hl,rfl⟩
 ·exact absurd rfl h
theorem x28(B:Blt P w K mg)(M:Exs K mg a)(C:Cals P w K mg base a n)(CH:CalsH P w K mg base a n)(BM:BMain base mg)(MK:Mks K mg)(A:Ats K mg):Cal P w K mg base (n+3) "least_cover" ["wish"] (spF K (run K a (n+1) q1t)):=
 con A.least_cover sc_least_cover (fun ws hw=>(q8n hw).1) fun ws hw f cdv A outer s H E Z hr=>⟨_,x45 B M C CH BM MK hr,(q8n hw).2⟩
theorem x6y(B:Blt P w K mg)(M:Exs K mg a)(C:Cals P w K mg base a n)(CH:CalsH P w K mg base a n)(BM:BMain base mg)(MK:Mks K mg){outer:List Env}(hr:Room n (A.deeper (PyProof.Rows.envOfC "reaches_of" (defScope q1d) s.heap.objs.size f cdv))):
  DSs Z (cxOf (CX1 P w) P w K mg base ["wish"] "reaches_of" (defScope q1d) f cdv A outer s H E) (fun _=>E) (defBody q1d) (q39 K a (run K a n)):=
 (q0f (q4e (q3y (x:="prime") (Nf:=[]) (js:=[]) (sc:=defScope q1d) (N:=["wish"]) rfl (q0j C.primes hr pass1 (q0a (dv 0) q0b)) (by decide +kernel)
   (fun _ _ _ _ _ _=>q19)
   (fun _ _ _ _ _ _=>(q2p (q0a (dv 0) (q0a (q0j C.rows_in hr passE (q0a (dv 0) q0b)) q0b))))
   (fun _ _ _ _ _=>q09 0 (show(["prime"]:List Str).Nodup by decide +kernel)))))
theorem q9i(h:run K a (n+1) q16 ws≠.no):ws.length=1/\(q39 K a (run K a n) (init 1 ws)).fn=run K a (n+1) q16 ws:=by
 rw[q7p]at h |-;split at h
 ·rename_i hl;rw[if_pos hl];exact⟨hl,rfl⟩
 ·exact absurd rfl h
theorem x46(B:Blt P w K mg)(M:Exs K mg a)(C:Cals P w K mg base a n)(CH:CalsH P w K mg base a n)(BM:BMain base mg)(MK:Mks K mg)(A:Ats K mg):Cal P w K mg base (n+1) "reaches_of" ["wish"] (spF K (run K a (n+1) q16)):=
 con A.reaches_of x4y (fun ws hw=>(q9i hw).1) fun ws hw f cdv A outer s H E Z hr=>⟨_,x6y B M C CH BM MK hr,(q9i hw).2⟩
theorem y86(B:Blt P w K mg)(M:Exs K mg a)(C:Cals P w K mg base a n)(CH:CalsH P w K mg base a n)(BM:BMain base mg)(MK:Mks K mg){outer:List Env}(hr:Room (n+1) (A.deeper (PyProof.Rows.envOfC "tried" (defScope q3z) s.heap.objs.size f cdv))):
  DSs Z (cxOf (CX1 P w) P w K mg base ["reaches", "left", "count", "number", "branches", "prime", "rows", "found"] "tried" (defScope q3z) f cdv A outer s H E) (fun _=>E) (defBody q3z) (q5f K a (run K a n)):=
 (q0d (q1a (q5i (q0u hr) (q1c B.b_len (q0a (dv 1) q0b)) q0e)
  (q0f (q0m (q2p (q0a q4m (q0a (q0t (q00 q0b)) q0b)))))
  q0z)
  (q0d (q0n 3 sc_tried.nd (q0j C.rarest hr pass1 (q0a (dv 0) (q0a (dv 1) q0b))))
  (q0d (q1a (q5i (q0u hr) (dv 2) q0e)
  (q0f (q0m (q2p (q0a q4m (q0a (q2p (q0a (dv 3) (q0a (q2p q0b) q0b))) q0b)))))
  q0z)
  (q0d (x1l 4 sc_tried.nd (q00 q0b))
  (q0d (y8c 5 6 sc_tried.nd PassesOwn.leaving rfl (y4s (q0j C.having (hr.mono (by omega)) pass1 (q0a (dv 0) (q0a (dv 3) q0b))))
  (q0d (q0n 7 sc_tried.nd (q0j C.tried hr pass1 (q0a (dv 0) (q0a (q0j C.rows_left (hr.mono (by omega)) pass1 (q0a (dv 1) (q0a (dv 6) q0b))) (q0a (q5l (dv 2) q0e) q0b)))))
  (q0d (q1a (q5i (q0u hr) (q1b (dv 7) q0e) q4m)
  (q0f (q0m (q2p (q0a q4m (q0a (q0v (q0t (q00 (q0a (dv 5) q0b))) (q1b (dv 7) q0e)) q0b)))))
  q0z)
  (q0f (x1p 4 (q0a (q2p (q0a (dv 5) (q0a (q1b (dv 7) q0e) q0b))) q0b))))))
  (q0f (q0m (q2p (q0a q4m (q0a (q2p (q0a (dv 3) (q0a (x0x B.b_tuple (q0a (dv 4) q0b)) q0b))) q0b))))))))))
theorem x83(h:run K a (n+1) q2a ws≠.no):ws.length=3/\(q5f K a (run K a n) (init 8 ws)).fn=run K a (n+1) q2a ws:=by
 rw[q67]at h |-;split at h
 ·rename_i hl;rw[if_pos hl];exact⟨hl,rfl⟩
 ·exact absurd rfl h
theorem y5i(B:Blt P w K mg)(M:Exs K mg a)(C:Cals P w K mg base a n)(CH:CalsH P w K mg base a n)(BM:BMain base mg)(MK:Mks K mg)(A:Ats K mg):Cal P w K mg base (n+2) "tried" ["reaches", "left", "count"] (spF K (run K a (n+1) q2a)):=
 con A.tried sc_tried (fun ws hw=>(x83 hw).1) fun ws hw f cdv A outer s H E Z hr=>⟨_,y86 B M C CH BM MK hr,(x83 hw).2⟩
theorem y5j(B:Blt P w K mg)(M:Exs K mg a)(C:Cals P w K mg base a n)(CH:CalsH P w K mg base a n)(BM:BMain base mg)(MK:Mks K mg){outer:List Env}(hr:Room (n+1) (A.deeper (PyProof.Rows.envOfC "rarest" (defScope q2o) s.heap.objs.size f cdv)))(hmk:MakK K "rarest" cdv):
  DSs Z (cxOf (CX1 P w) P w K mg base ["reaches", "left"] "rarest" (defScope q2o) f cdv A outer s H E) (fun _=>E) (defBody q2o) (q6q K a (run K a n)):=
 (q0f (q0m (y8u 38 q56 C.lam hr rfl B.b_min (z4w hmk BM) (fun _=>rfl) (dv 1) x4z (sc:=defScope q2o) (N:=["reaches", "left"]) (nf:=["reaches"]) (by decide +kernel))))
theorem x6z(h:run K a (n+1) q4z ws≠.no):ws.length=2/\(q6q K a (run K a n) (init 2 ws)).fn=run K a (n+1) q4z ws:=by
 rw[x2a]at h |-;split at h
 ·rename_i hl;rw[if_pos hl];exact⟨hl,rfl⟩
 ·exact absurd rfl h
theorem y2x(B:Blt P w K mg)(M:Exs K mg a)(C:Cals P w K mg base a n)(CH:CalsH P w K mg base a n)(BM:BMain base mg)(MK:Mks K mg)(A:Ats K mg):Cal P w K mg base (n+2) "rarest" ["reaches", "left"] (spF K (run K a (n+1) q4z)):=
 conM A.rarest MK.rarest y2p (fun ws hw=>(x6z hw).1) fun ws hw f cdv A outer s H E Z hr hmk=>⟨_,y5j B M C CH BM MK hr hmk,(x6z hw).2⟩
theorem y5k(B:Blt P w K mg)(M:Exs K mg a)(C:Cals P w K mg base a n)(CH:CalsH P w K mg base a n)(BM:BMain base mg)(MK:Mks K mg){outer:List Env}(hr:Room n (A.deeper (PyProof.Rows.envOfC "having" (defScope q2x) s.heap.objs.size f cdv))):
  DSs Z (cxOf (CX1 P w) P w K mg base ["reaches", "number"] "having" (defScope q2x) f cdv A outer s H E) (fun _=>E) (defBody q2x) (q6r K a (run K a n)):=
 (q0f (q4e (q3y (x:="reach") (Nf:=["number"]) (js:=[1]) (sc:=defScope q2x) (N:=["reaches", "number"]) rfl (dv 0) (by decide +kernel)
   (fun _ _ _ _ _ _=>(q41 (z4s (q0u hr) (dv 1) (q1b (dv 0) q0e))))
   (fun _ _ _ _ _ _=>(dv 0))
   (fun _ _ _ _ _=>q09 0 (show(["reach", "number"]:List Str).Nodup by decide +kernel)))))
theorem x60(h:run K a (n+1) q2u ws≠.no):ws.length=2/\(q6r K a (run K a n) (init 2 ws)).fn=run K a (n+1) q2u ws:=by
 rw[x2b]at h |-;split at h
 ·rename_i hl;rw[if_pos hl];exact⟨hl,rfl⟩
 ·exact absurd rfl h
theorem y2y(B:Blt P w K mg)(M:Exs K mg a)(C:Cals P w K mg base a n)(CH:CalsH P w K mg base a n)(BM:BMain base mg)(MK:Mks K mg)(A:Ats K mg):Cal P w K mg base (n+1) "having" ["reaches", "number"] (spF K (run K a (n+1) q2u)):=
 con A.having y2q (fun ws hw=>(x60 hw).1) fun ws hw f cdv A outer s H E Z hr=>⟨_,y5k B M C CH BM MK hr,(x60 hw).2⟩
theorem x47(B:Blt P w K mg)(M:Exs K mg a)(C:Cals P w K mg base a n)(CH:CalsH P w K mg base a n)(BM:BMain base mg)(MK:Mks K mg){outer:List Env}(hr:Room n (A.deeper (PyProof.Rows.envOfC "shows_cover" (defScope q1k) s.heap.objs.size f cdv))):
  DSs Z (cxOf (CX1 P w) P w K mg base ["wish", "count", "tree", "reaches"] "shows_cover" (defScope q1k) f cdv A outer s H E) (fun _=>E) (defBody q1k) (q3v K a (run K a n)):=
 (q0d (q0n 3 sc_shows_cover.nd (q0j C.reaches_of hr pass1 (q0a (dv 0) q0b)))
  (q0d (q1a (x9w (dv 1) q0e)
  (q0f (q0m (x9v (dv 2) q21)))
  q0z)
  (q0f (q0m (q0j C.is_tree hr pass1 (q0a (dv 2) (q0a (dv 3) (q0a (q0j C.wished_rows hr pass1 (q0a (dv 0) q0b)) (q0a (dv 1) q0b)))))))))
theorem q8o(h:run K a (n+1) q1u ws≠.no):ws.length=3/\(q3v K a (run K a n) (init 4 ws)).fn=run K a (n+1) q1u ws:=by
 rw[q68]at h |-;split at h
 ·rename_i hl;rw[if_pos hl];exact⟨hl,rfl⟩
 ·exact absurd rfl h
theorem x29(B:Blt P w K mg)(M:Exs K mg a)(C:Cals P w K mg base a n)(CH:CalsH P w K mg base a n)(BM:BMain base mg)(MK:Mks K mg)(A:Ats K mg):Cal P w K mg base (n+1) "shows_cover" ["wish", "count", "tree"] (spF K (run K a (n+1) q1u)):=
 con A.shows_cover sc_shows_cover (fun ws hw=>(q8o hw).1) fun ws hw f cdv A outer s H E Z hr=>⟨_,x47 B M C CH BM MK hr,(q8o hw).2⟩
theorem y2z(B:Blt P w K mg)(M:Exs K mg a)(C:Cals P w K mg base a n)(CH:CalsH P w K mg base a n)(BM:BMain base mg)(MK:Mks K mg){outer:List Env}(hr:Room n (A.deeper (PyProof.Rows.envOfC "is_tree" (defScope q2l) s.heap.objs.size f cdv))):
  DSs Z (cxOf (CX1 P w) P w K mg base ["thing", "reaches", "left", "count", "number", "branches", "wanted"] "is_tree" (defScope q2l) f cdv A outer s H E) (fun _=>E) (defBody q2l) (q3j K a (run K a n)):=
 (q0d (q1a (q4n (q3d (q0j C.is_tuple_of hr pass1 (q0a (dv 0) (q0a q0e q0b)))))
  (q0f (q0m q0o))
  q0z)
  (q0d (q0n 4 sc_is_tree.nd (q1b (dv 0) q0e))
  (q0d (q0n 5 sc_is_tree.nd (q1b (dv 0) q0e))
  (q0d (q1a (dt_w (x5b (q4n (q3d (q0j C.is_whole hr pass1 (q0a (dv 4) q0b)))) (x5b (x54 (q0u hr) (dv 4) (dv 2)) (x5r (q4n (q3d (q7l (c0:=.ty _) rfl (q59 PyProof.Rows.Boot.«tuple» B.b_tuple) B.b_isinstance (dv 5))))))))
  (q0f (q0m q0o))
  q0z)
  (q0d (q1a (q5i (q0u hr) (dv 3) q0e)
  (q0f (q0m (q53 (q0u hr) (q1c B.b_len (q0a (dv 5) q0b)) q0e)))
  q0z)
  (q0d (q0n 6 sc_is_tree.nd (q0j C.having hr pass1 (q0a (dv 1) (q0a (dv 4) q0b))))
  (q0d (q1a (x5c (q0u hr) (q1c B.b_len (q0a (dv 5) q0b)) (q1c B.b_len (q0a (dv 6) q0b)))
  (q0f (q0m q0o))
  q0z)
  (q0f (q0m (x1v rfl B.b_all (q0a (q0t (q6m (x:="branch") (y:="reach") (Nf:=["reaches", "left", "count"]) (js:=[1,2,3]) (sc:=defScope q2l) (N:=["thing", "reaches", "left", "count", "number", "branches", "wanted"]) rfl (x59 B.b_zip (q0a (dv 5) (q0a (dv 6) q0b))) (by decide +kernel)
   (fun _ _ _ _ _ _=>q19)
   (fun _ _ _ _ _ _=>(q0j C.is_branch hr passE (q0a (dv 0) (q0a (dv 1) (q0a (dv 2) (q0a (dv 3) (q0a (dv 4) q0b)))))))
   (fun _ _ _ _ _=>q84 (show(["branch", "reach", "reaches", "left", "count"]:List Str).Nodup by decide +kernel) rfl))) q0b)))))))))))
theorem x4c(h:run K a (n+1) q2s ws≠.no):ws.length=4/\(q3j K a (run K a n) (init 7 ws)).fn=run K a (n+1) q2s ws:=by
 rw[q7h]at h |-;split at h
 ·rename_i hl;rw[if_pos hl];exact⟨hl,rfl⟩
 ·exact absurd rfl h
theorem y0d(B:Blt P w K mg)(M:Exs K mg a)(C:Cals P w K mg base a n)(CH:CalsH P w K mg base a n)(BM:BMain base mg)(MK:Mks K mg)(A:Ats K mg):Cal P w K mg base (n+1) "is_tree" ["thing", "reaches", "left", "count"] (spF K (run K a (n+1) q2s)):=
 con A.is_tree sc_is_tree (fun ws hw=>(x4c hw).1) fun ws hw f cdv A outer s H E Z hr=>⟨_,y2z B M C CH BM MK hr,(x4c hw).2⟩
theorem x78(B:Blt P w K mg)(M:Exs K mg a)(C:Cals P w K mg base a n)(CH:CalsH P w K mg base a n)(BM:BMain base mg)(MK:Mks K mg){outer:List Env}(hr:Room n (A.deeper (PyProof.Rows.envOfC "is_branch" (defScope q11) s.heap.objs.size f cdv))):
  DSs Z (cxOf (CX1 P w) P w K mg base ["thing", "reach", "reaches", "left", "count"] "is_branch" (defScope q11) f cdv A outer s H E) (fun _=>E) (defBody q11) (q30 K a (run K a n)):=
 (q0d (q1a (dt_w (x5b (q4n (q3d (q0j C.is_tuple_of hr pass1 (q0a (dv 0) (q0a q0e q0b))))) (x5r (q4n (q3d (q0j C.is_cube hr pass1 (q0a (q1b (dv 0) q0e) (q0a (q1b (dv 1) q0e) q0b))))))))
  (q0f (q0m q0o))
  q0z)
  (q0f (q0m (q0j C.is_tree hr pass1 (q0a (q1b (dv 0) q0e) (q0a (dv 2) (q0a (q0j C.rows_left hr pass1 (q0a (dv 3) (q0a (q1b (dv 1) q0e) q0b))) (q0a (q5l (dv 4) q0e) q0b))))))))
theorem x0g(h:run K a (n+1) q1x ws≠.no):ws.length=5/\(q30 K a (run K a n) (init 5 ws)).fn=run K a (n+1) q1x ws:=by
 rw[q5x]at h |-;split at h
 ·rename_i hl;rw[if_pos hl];exact⟨hl,rfl⟩
 ·exact absurd rfl h
theorem x61(B:Blt P w K mg)(M:Exs K mg a)(C:Cals P w K mg base a n)(CH:CalsH P w K mg base a n)(BM:BMain base mg)(MK:Mks K mg)(A:Ats K mg):Cal P w K mg base (n+1) "is_branch" ["thing", "reach", "reaches", "left", "count"] (spF K (run K a (n+1) q1x)):=
 con A.is_branch x6m (fun ws hw=>(x0g hw).1) fun ws hw f cdv A outer s H E Z hr=>⟨_,x78 B M C CH BM MK hr,(x0g hw).2⟩
theorem y20(B:Blt P w K mg)(M:Exs K mg a)(C:Cals P w K mg base a n)(CH:CalsH P w K mg base a n)(BM:BMain base mg)(MK:Mks K mg){outer:List Env}(hr:Room n (A.deeper (PyProof.Rows.envOfC "is_cube" (defScope q2m) s.heap.objs.size f cdv))):
  DSs Z (cxOf (CX1 P w) P w K mg base ["thing", "cube"] "is_cube" (defScope q2m) f cdv A outer s H E) (fun _=>E) (defBody q2m) (q5p K a (run K a n)):=
 (q0d (q1a (q4n (q3d (q0j C.is_tuple_of hr pass1 (q0a (dv 0) (q0a (q1c B.b_len (q0a (dv 1) q0b)) q0b)))))
  (q0f (q0m q0o))
  q0z)
  (q0f (q0m (x1v rfl B.b_all (q0a (q0t (q6m (x:="part") (y:="truth") (Nf:=[]) (js:=[]) (sc:=defScope q2m) (N:=["thing", "cube"]) rfl (x59 B.b_zip (q0a (dv 0) (q0a (dv 1) q0b))) (by decide +kernel)
   (fun _ _ _ _ _ _=>q19)
   (fun _ _ _ _ _ _=>(q0j C.same_truth hr passE (q0a (dv 0) (q0a (dv 1) q0b))))
   (fun _ _ _ _ _=>q84 (show(["part", "truth"]:List Str).Nodup by decide +kernel) rfl))) q0b)))))
theorem x4d(h:run K a (n+1) q36 ws≠.no):ws.length=2/\(q5p K a (run K a n) (init 2 ws)).fn=run K a (n+1) q36 ws:=by
 rw[x0a]at h |-;split at h
 ·rename_i hl;rw[if_pos hl];exact⟨hl,rfl⟩
 ·exact absurd rfl h
theorem y0e(B:Blt P w K mg)(M:Exs K mg a)(C:Cals P w K mg base a n)(CH:CalsH P w K mg base a n)(BM:BMain base mg)(MK:Mks K mg)(A:Ats K mg):Cal P w K mg base (n+1) "is_cube" ["thing", "cube"] (spF K (run K a (n+1) q36)):=
 con A.is_cube x97 (fun ws hw=>(x4d hw).1) fun ws hw f cdv A outer s H E Z hr=>⟨_,y20 B M C CH BM MK hr,(x4d hw).2⟩
theorem x3a(B:Blt P w K mg)(M:Exs K mg a)(C:Cals P w K mg base a n)(CH:CalsH P w K mg base a n)(BM:BMain base mg)(MK:Mks K mg){outer:List Env}(hr:Room n (A.deeper (PyProof.Rows.envOfC "_law_cell_at" (defScope q07) s.heap.objs.size f cdv))):
  DSs Z (cxOf (CX1 P w) P w K mg base ["_law_script", "_law_k"] "_law_cell_at" (defScope q07) f cdv A outer s H E) (fun _=>E) (defBody q07) (q3f K a (run K a n)):=
 (q0d (q1a (x9w (dv 1) (q1c B.b_len (q0a (dv 0) q0b)))
  (q0f (q0m (q1b (dv 0) (dv 1))))
  q0z)
  (q0f (q0m q0e)))
theorem q7r(h:run K a (n+1) q1m ws≠.no):ws.length=2/\(q3f K a (run K a n) (init 2 ws)).fn=run K a (n+1) q1m ws:=by
 rw[q6u]at h |-;split at h
 ·rename_i hl;rw[if_pos hl];exact⟨hl,rfl⟩
 ·exact absurd rfl h
theorem x2f(B:Blt P w K mg)(M:Exs K mg a)(C:Cals P w K mg base a n)(CH:CalsH P w K mg base a n)(BM:BMain base mg)(MK:Mks K mg)(A:Ats K mg):Cal P w K mg base (n+1) "_law_cell_at" ["_law_script", "_law_k"] (spF K (run K a (n+1) q1m)):=
 con A._law_cell_at x11 (fun ws hw=>(q7r hw).1) fun ws hw f cdv A outer s H E Z hr=>⟨_,x3a B M C CH BM MK hr,(q7r hw).2⟩
theorem y0f(B:Blt P w K mg)(M:Exs K mg a)(C:Cals P w K mg base a n)(CH:CalsH P w K mg base a n)(BM:BMain base mg)(MK:Mks K mg){outer:List Env}(hr:Room n (A.deeper (PyProof.Rows.envOfC "_law_way" (defScope q2h) s.heap.objs.size f cdv))):
  DSs Z (cxOf (CX1 P w) P w K mg base ["_law_script", "_law_k", "_law_many", "_law_mark_here"] "_law_way" (defScope q2h) f cdv A outer s H E) (fun _=>E) (defBody q2h) (q49 K a (run K a n)):=
 (q0d (q0n 3 sc__law_way.nd (q3e (q0v (q0v (q23 (q0j C._law_cell_at hr pass1 (q0a (dv 0) (q0a (dv 1) q0b))) q0e) (q23 q0e (q1c B.b_len (q0a (dv 0) q0b)))) (q23 q0e (dv 1))) q0e))
  (q0f (q0m (q3e (q3e (q23 (dv 3) (dv 3)) q0e) (dv 2)))))
theorem x2g(h:run K a (n+1) q0x ws≠.no):ws.length=3/\(q49 K a (run K a n) (init 4 ws)).fn=run K a (n+1) q0x ws:=by
 rw[q9g]at h |-;split at h
 ·rename_i hl;rw[if_pos hl];exact⟨hl,rfl⟩
 ·exact absurd rfl h
theorem x79(B:Blt P w K mg)(M:Exs K mg a)(C:Cals P w K mg base a n)(CH:CalsH P w K mg base a n)(BM:BMain base mg)(MK:Mks K mg)(A:Ats K mg):Cal P w K mg base (n+1) "_law_way" ["_law_script", "_law_k", "_law_many"] (spF K (run K a (n+1) q0x)):=
 con A._law_way sc__law_way (fun ws hw=>(x2g hw).1) fun ws hw f cdv A outer s H E Z hr=>⟨_,y0f B M C CH BM MK hr,(x2g hw).2⟩
theorem x8a(B:Blt P w K mg)(M:Exs K mg a)(C:Cals P w K mg base a n)(CH:CalsH P w K mg base a n)(BM:BMain base mg)(MK:Mks K mg){outer:List Env}(hr:Room n (A.deeper (PyProof.Rows.envOfC "_law_mark" (defScope q12) s.heap.objs.size f cdv))):
  DSs Z (cxOf (CX1 P w) P w K mg base ["_law_script", "_law_k", "_law_mark_here"] "_law_mark" (defScope q12) f cdv A outer s H E) (fun _=>E) (defBody q12) (q4t K a (run K a n)):=
 (q0d (q0n 2 sc__law_mark.nd (q0v (q0v (q23 (q0j C._law_cell_at hr pass1 (q0a (dv 0) (q0a (q0v q0e (dv 1)) q0b))) q0e) (q23 (q23 (q0j C._law_cell_at hr pass1 (q0a (dv 0) (q0a q0e q0b))) q0e) (q0v (dv 1) q0e))) (q23 q0e (dv 1))))
  (q0f (q0m (q3e (y8y (dv 2) (dv 2)) q0e))))
theorem x0h(h:run K a (n+1) q0y ws≠.no):ws.length=2/\(q4t K a (run K a n) (init 3 ws)).fn=run K a (n+1) q0y ws:=by
 rw[q8h]at h |-;split at h
 ·rename_i hl;rw[if_pos hl];exact⟨hl,rfl⟩
 ·exact absurd rfl h
theorem x62(B:Blt P w K mg)(M:Exs K mg a)(C:Cals P w K mg base a n)(CH:CalsH P w K mg base a n)(BM:BMain base mg)(MK:Mks K mg)(A:Ats K mg):Cal P w K mg base (n+1) "_law_mark" ["_law_script", "_law_k"] (spF K (run K a (n+1) q0y)):=
 con A._law_mark sc__law_mark (fun ws hw=>(x0h hw).1) fun ws hw f cdv A outer s H E Z hr=>⟨_,x8a B M C CH BM MK hr,(x0h hw).2⟩
theorem x8b(B:Blt P w K mg)(M:Exs K mg a)(C:Cals P w K mg base a n)(CH:CalsH P w K mg base a n)(BM:BMain base mg)(MK:Mks K mg){outer:List Env}(hr:Room n (A.deeper (PyProof.Rows.envOfC "_law_rows" (defScope q08) s.heap.objs.size f cdv))):
  DSs Z (cxOf (CX1 P w) P w K mg base ["_law_cube", "_law_found", "_law_wished"] "_law_rows" (defScope q08) f cdv A outer s H E) (fun _=>E) (defBody q08) (q31 K a (run K a n)):=
 (q0d (q0n 1 sc__law_rows.nd (q0t (q00 (q0a q0e q0b))))
  (q0d (q80 2 sc__law_rows.nd PassesOwn.leaving rfl (dv 0)
  (q0f (q1a (x1t (dv 2) q21)
  (q0f (q0n 1 sc__law_rows.nd (q0v (q0t (q3y (x:="_law_k") (Nf:=[]) (js:=[]) (sc:=defScope q08) (N:=["_law_cube", "_law_found", "_law_wished"]) rfl (dv 1) (by decide +kernel)
   (fun _ _ _ _ _ _=>q19)
   (fun _ _ _ _ _ _=>(q23 q0e (dv 0)))
   (fun _ _ _ _ _=>q09 0 (show(["_law_k"]:List Str).Nodup by decide +kernel)))) (q0t (q3y (x:="_law_k") (Nf:=[]) (js:=[]) (sc:=defScope q08) (N:=["_law_cube", "_law_found", "_law_wished"]) rfl (dv 1) (by decide +kernel)
   (fun _ _ _ _ _ _=>q19)
   (fun _ _ _ _ _ _=>(q0v (q23 q0e (dv 0)) q0e))
   (fun _ _ _ _ _=>q09 0 (show(["_law_k"]:List Str).Nodup by decide +kernel)))))))
  (q0f (x9u 1 sc__law_rows.nd (x:="_law_k") (Nf:=["_law_wished"]) (js:=[2]) (sc:=defScope q08) (N:=["_law_cube", "_law_found", "_law_wished"]) rfl (dv 1) (by decide +kernel)
   (fun _ _ _ _ _ _=>q19)
   (fun _ _ _ _ _ _=>(q0v (q23 q0e (dv 0)) (y75 B.b_int (q0a (dv 1) q0b))))
   (fun _ _ _ _ _=>q09 0 (show(["_law_k", "_law_wished"]:List Str).Nodup by decide +kernel)))))))
  (q0f (q0m (y18 rfl B.b_sorted (q0a (dv 1) q0b))))))
theorem x0i(h:run K a (n+1) q2d ws≠.no):ws.length=1/\(q31 K a (run K a n) (init 3 ws)).fn=run K a (n+1) q2d ws:=by
 rw[q5y]at h |-;split at h
 ·rename_i hl;rw[if_pos hl];exact⟨hl,rfl⟩
 ·exact absurd rfl h
theorem x63(B:Blt P w K mg)(M:Exs K mg a)(C:Cals P w K mg base a n)(CH:CalsH P w K mg base a n)(BM:BMain base mg)(MK:Mks K mg)(A:Ats K mg):Cal P w K mg base (n+1) "_law_rows" ["_law_cube"] (spF K (run K a (n+1) q2d)):=
 con A._law_rows sc__law_rows (fun ws hw=>(x0i hw).1) fun ws hw f cdv A outer s H E Z hr=>⟨_,x8b B M C CH BM MK hr,(x0i hw).2⟩
theorem x3b(B:Blt P w K mg)(M:Exs K mg a)(C:Cals P w K mg base a n)(CH:CalsH P w K mg base a n)(BM:BMain base mg)(MK:Mks K mg){outer:List Env}(hr:Room n (A.deeper (PyProof.Rows.envOfC "_law_wish_by" (defScope q02) s.heap.objs.size f cdv))):
  DSs Z (cxOf (CX1 P w) P w K mg base ["_law_script", "_law_many", "_law_menus", "_law_menu", "_law_some_here"] "_law_wish_by" (defScope q02) f cdv A outer s H E) (fun _=>E) (defBody q02) (q3g K a (run K a n)):=
 (q0d (q0n 2 sc__law_wish_by.nd (q0t (q00 (q0a (q0t (q00 (q0a q0o (q0a q0o (q0a q21 q0b))))) (q0a (q0t (q00 (q0a q0o (q0a q0o (q0a q0o q0b))))) (q0a (q0t (q00 (q0a q0o (q0a q0o (q0a q0o (q0a q21 q0b)))))) (q0a (q0t (q00 (q0a q0o (q0a q0o (q0a q21 (q0a q0o (q0a q0o q0b))))))) q0b)))))))
  (q0d (q0n 2 sc__law_wish_by.nd (q0v (dv 2) (q0t (q00 (q0a (q0t (q00 (q0a q0o (q0a q0o q0b)))) (q0a (q0t (q00 (q0a q0o (q0a q0o q0b)))) (q0a (q0t (q00 (q0a q0o (q0a q21 (q0a q0o q0b))))) (q0a (q0t (q00 (q0a q0o (q0a q0o (q0a q0o (q0a q0o q0b)))))) q0b))))))))
  (q0d (q0n 3 sc__law_wish_by.nd (q1b (dv 2) (q0j C._law_way hr pass1 (q0a (dv 0) (q0a q0e (q0a q0e q0b))))))
  (q0d (q0n 4 sc__law_wish_by.nd (q0j C._law_way hr pass1 (q0a (dv 0) (q0a q0e (q0a q0e q0b)))))
  (q0d (q1a (x9w (dv 4) q0e)
  (q0f (q0n 3 sc__law_wish_by.nd (q1b (q0t (q00 (q0a (q0t (q00 (q0a q0o q0b))) (q0a (q0t (q00 (q0a q0o q0b))) (q0a (q0t (q00 (q0a q21 q0b))) q0b))))) (dv 4))))
  q0z)
  (q0f (q4e (q6k (x:="_law_k") (Nf:=["_law_script", "_law_menu"]) (js:=[0,3]) (sc:=defScope q02) (N:=["_law_script", "_law_many", "_law_menus", "_law_menu", "_law_some_here"]) rfl B.b_range (q0a (q1b (q0t (q00 (q0a q0e (q0a q0e (q0a q0e (q0a q0e (q0a q0e q0b))))))) (dv 1)) q0b) (by decide +kernel)
   (fun _ _ _ _ _ _=>q19)
   (fun _ _ _ _ _ _=>(q1b (dv 2) (q3e (q0j C._law_mark hr passE (q0a (dv 1) (q0a (dv 0) q0b))) (q1c B.b_len (q0a (dv 2) q0b)))))
   (fun _ _ _ _ _=>q09 0 (show(["_law_k", "_law_script", "_law_menu"]:List Str).Nodup by decide +kernel))))))))))
theorem q7s(h:run K a (n+1) q1n ws≠.no):ws.length=2/\(q3g K a (run K a n) (init 5 ws)).fn=run K a (n+1) q1n ws:=by
 rw[q6v]at h |-;split at h
 ·rename_i hl;rw[if_pos hl];exact⟨hl,rfl⟩
 ·exact absurd rfl h
theorem x2h(B:Blt P w K mg)(M:Exs K mg a)(C:Cals P w K mg base a n)(CH:CalsH P w K mg base a n)(BM:BMain base mg)(MK:Mks K mg)(A:Ats K mg):Cal P w K mg base (n+1) "_law_wish_by" ["_law_script", "_law_many"] (spF K (run K a (n+1) q1n)):=
 con A._law_wish_by sc__law_wish_by (fun ws hw=>(q7s hw).1) fun ws hw f cdv A outer s H E Z hr=>⟨_,x3b B M C CH BM MK hr,(q7s hw).2⟩
theorem x8c(B:Blt P w K mg)(M:Exs K mg a)(C:Cals P w K mg base a n)(CH:CalsH P w K mg base a n)(BM:BMain base mg)(MK:Mks K mg){outer:List Env}(hr:Room n (A.deeper (PyProof.Rows.envOfC "_law_fits" (defScope q13) s.heap.objs.size f cdv))):
  DSs Z (cxOf (CX1 P w) P w K mg base ["_law_cube", "_law_wish", "_law_number"] "_law_fits" (defScope q13) f cdv A outer s H E) (fun _=>E) (defBody q13) (q32 K a (run K a n)):=
 (q0d (q80 2 sc__law_fits.nd PassesOwn.leaving rfl (q0j C._law_rows hr pass1 (q0a (dv 0) q0b))
  (q0f (q1a (x1t (q1b (dv 1) (dv 2)) q0o)
  (q0f (q0m q0o))
  q0z)))
  (q0f (q0m q0o)))
theorem x0j(h:run K a (n+1) q2e ws≠.no):ws.length=2/\(q32 K a (run K a n) (init 3 ws)).fn=run K a (n+1) q2e ws:=by
 rw[q5z]at h |-;split at h
 ·rename_i hl;rw[if_pos hl];exact⟨hl,rfl⟩
 ·exact absurd rfl h
theorem x64(B:Blt P w K mg)(M:Exs K mg a)(C:Cals P w K mg base a n)(CH:CalsH P w K mg base a n)(BM:BMain base mg)(MK:Mks K mg)(A:Ats K mg):Cal P w K mg base (n+1) "_law_fits" ["_law_cube", "_law_wish"] (spF K (run K a (n+1) q2e)):=
 con A._law_fits sc__law_fits (fun ws hw=>(x0j hw).1) fun ws hw f cdv A outer s H E Z hr=>⟨_,x8c B M C CH BM MK hr,(x0j hw).2⟩
theorem x65(B:Blt P w K mg)(M:Exs K mg a)(C:Cals P w K mg base a n)(CH:CalsH P w K mg base a n)(BM:BMain base mg)(MK:Mks K mg){outer:List Env}(hr:Room n (A.deeper (PyProof.Rows.envOfC "_law_grown" (defScope q1e) s.heap.objs.size f cdv))):
  DSs Z (cxOf (CX1 P w) P w K mg base ["_law_wish", "_law_number", "_law_many", "_law_mark_here", "_law_cube", "_law_k", "_law_at", "_law_wider"] "_law_grown" (defScope q1e) f cdv A outer s H E) (fun _=>E) (defBody q1e) (q4a K a (run K a n)):=
 (q0d (q7b 4 sc__law_grown.nd (x:="_law_k") (Nf:=["_law_number", "_law_many"]) (js:=[1,2]) (sc:=defScope q1e) (N:=["_law_wish", "_law_number", "_law_many", "_law_mark_here", "_law_cube", "_law_k", "_law_at", "_law_wider"]) rfl B.b_range (q0a (dv 2) q0b) (by decide +kernel)
   (fun _ _ _ _ _ _=>q19)
   (fun _ _ _ _ _ _=>(q53 (q0u hr) (q3e (x2u (dv 1) (q1b (q0t (q00 (q0a q0e (q0a q0e (q0a q0e (q0a q0e (q0a q0e q0b))))))) (q5l (q5l (dv 2) q0e) (dv 0)))) q0e) q0e))
   (fun _ _ _ _ _=>q09 0 (show(["_law_k", "_law_number", "_law_many"]:List Str).Nodup by decide +kernel)))
  (q0d (q58 5 sc__law_grown.nd PassesOwn.leaving rfl B.b_range (q0a (dv 2) q0b)
  (q0d (q0n 6 sc__law_grown.nd (q3e (q0v (dv 3) (q23 (dv 5) (q1b (q0t (q00 (q0a q0e (q0a (q5l (dv 2) q0e) q0b)))) (q3e (x2u (dv 3) q0e) q0e)))) (dv 2)))
  (q0d (q0n 7 sc__law_grown.nd (q0v (q0v (q7y (dv 4) q9s (q9t (dv 6))) (q0t (q00 (q0a q21 q0b)))) (q7y (dv 4) (q9t (q0v (dv 6) q0e)) q9s)))
  (q0f (q1a (q3d (q0j C._law_fits hr pass1 (q0a (dv 7) (q0a (dv 0) q0b))))
  (q0f (q0n 4 sc__law_grown.nd (dv 7)))
  q0z)))))
  (q0f (q0m (x0x B.b_tuple (q0a (dv 4) q0b))))))
theorem q9j(h:run K a (n+1) q2v ws≠.no):ws.length=4/\(q4a K a (run K a n) (init 8 ws)).fn=run K a (n+1) q2v ws:=by
 rw[q7q]at h |-;split at h
 ·rename_i hl;rw[if_pos hl];exact⟨hl,rfl⟩
 ·exact absurd rfl h
theorem x48(B:Blt P w K mg)(M:Exs K mg a)(C:Cals P w K mg base a n)(CH:CalsH P w K mg base a n)(BM:BMain base mg)(MK:Mks K mg)(A:Ats K mg):Cal P w K mg base (n+1) "_law_grown" ["_law_wish", "_law_number", "_law_many", "_law_mark_here"] (spF K (run K a (n+1) q2v)):=
 con A._law_grown sc__law_grown (fun ws hw=>(q9j hw).1) fun ws hw f cdv A outer s H E Z hr=>⟨_,x65 B M C CH BM MK hr,(q9j hw).2⟩
theorem x8d(B:Blt P w K mg)(M:Exs K mg a)(C:Cals P w K mg base a n)(CH:CalsH P w K mg base a n)(BM:BMain base mg)(MK:Mks K mg){outer:List Env}(hr:Room n (A.deeper (PyProof.Rows.envOfC "_law_some" (defScope q1l) s.heap.objs.size f cdv))):
  DSs Z (cxOf (CX1 P w) P w K mg base ["_law_wish", "_law_many", "_law_count", "_law_script", "_law_wished", "_law_some_here", "_law_k", "_law_number"] "_law_some" (defScope q1l) f cdv A outer s H E) (fun _=>E) (defBody q1l) (q4u K a (run K a n)):=
 (q0d (q7b 4 sc__law_some.nd (x:="_law_number") (Nf:=["_law_wish"]) (js:=[0]) (sc:=defScope q1l) (N:=["_law_wish", "_law_many", "_law_count", "_law_script", "_law_wished", "_law_some_here", "_law_k", "_law_number"]) rfl B.b_range (q0a (q1c B.b_len (q0a (dv 0) q0b)) q0b) (by decide +kernel)
   (fun _ _ _ _ _ _=>(q41 (x1t (q1b (dv 1) (dv 0)) q0o)))
   (fun _ _ _ _ _ _=>(dv 0))
   (fun _ _ _ _ _=>q09 0 (show(["_law_number", "_law_wish"]:List Str).Nodup by decide +kernel)))
  (q0d (x1l 5 sc__law_some.nd (q00 q0b))
  (q0d (q58 6 sc__law_some.nd PassesOwn.leaving rfl B.b_range (q0a (dv 2) q0b)
  (q0f (q1a (q5i (q0u hr) (q3e (q0j C._law_mark hr pass1 (q0a (dv 3) (q0a q0e q0b))) q0e) q0e)
  (q0f (x1p 5 (q0a (x0x B.b_tuple (q0a (q0t (q6k (x:="_law_j") (Nf:=["_law_script", "_law_k"]) (js:=[3,6]) (sc:=defScope q1l) (N:=["_law_wish", "_law_many", "_law_count", "_law_script", "_law_wished", "_law_some_here", "_law_k", "_law_number"]) rfl B.b_range (q0a (dv 1) q0b) (by decide +kernel)
   (fun _ _ _ _ _ _=>q19)
   (fun _ _ _ _ _ _=>(q1b (q0t (q00 (q0a q21 (q0a q0o (q0a q0o q0b))))) (q3e (q0j C._law_mark hr passE (q0a (dv 1) (q0a (q0v (q0v q0e (q23 q0e (dv 2))) (dv 0)) q0b))) q0e)))
   (fun _ _ _ _ _=>q09 0 (show(["_law_j", "_law_script", "_law_k"]:List Str).Nodup by decide +kernel)))) q0b)) q0b)))
  (q0d (q0n 7 sc__law_some.nd (q1b (dv 4) (q3e (q0j C._law_mark hr pass1 (q0a (dv 3) (q0a (q0v q0e (dv 6)) q0b))) (q1c B.b_len (q0a (dv 4) q0b)))))
  (q0f (x1p 5 (q0a (q0j C._law_grown hr pass1 (q0a (dv 0) (q0a (dv 7) (q0a (dv 1) (q0a (q0j C._law_mark hr pass1 (q0a (dv 3) (q0a (q0v q0e (dv 6)) q0b))) q0b))))) q0b)))))))
  (q0f (y61 5)))))
theorem x0k(h:run K a (n+1) q2f ws≠.no):ws.length=4/\(q4u K a (run K a n) (init 8 ws)).fn=run K a (n+1) q2f ws:=by
 rw[q8i]at h |-;split at h
 ·rename_i hl;rw[if_pos hl];exact⟨hl,rfl⟩
 ·exact absurd rfl h
theorem x66(B:Blt P w K mg)(M:Exs K mg a)(C:Cals P w K mg base a n)(CH:CalsH P w K mg base a n)(BM:BMain base mg)(MK:Mks K mg)(A:Ats K mg):Cal P w K mg base (n+1) "_law_some" ["_law_wish", "_law_many", "_law_count", "_law_script"] (spF K (run K a (n+1) q2f)):=
 con A._law_some sc__law_some (fun ws hw=>(x0k hw).1) fun ws hw f cdv A outer s H E Z hr=>⟨_,x8d B M C CH BM MK hr,(x0k hw).2⟩
theorem x3c(B:Blt P w K mg)(M:Exs K mg a)(C:Cals P w K mg base a n)(CH:CalsH P w K mg base a n)(BM:BMain base mg)(MK:Mks K mg){outer:List Env}(hr:Room n (A.deeper (PyProof.Rows.envOfC "_law_covered" (defScope q03) s.heap.objs.size f cdv))):
  DSs Z (cxOf (CX1 P w) P w K mg base ["_law_cover", "_law_wish", "_law_inside", "_law_cube"] "_law_covered" (defScope q03) f cdv A outer s H E) (fun _=>E) (defBody q03) (q3h K a (run K a n)):=
 (q0d (q0n 2 sc__law_covered.nd (q0t (q00 q0b)))
  (q0d (q80 3 sc__law_covered.nd PassesOwn.leaving rfl (dv 0)
  (q0d (q1a (q4n (q3d (q0j C._law_fits hr pass1 (q0a (dv 3) (q0a (dv 1) q0b)))))
  (q0f (q0m q0o))
  q0z)
  (q0f (q0n 2 sc__law_covered.nd (q0v (dv 2) (q0j C._law_rows hr pass1 (q0a (dv 3) q0b)))))))
  (q0f (q0m (q53 (q0u hr) (q0t (q6k (x:="_law_number") (Nf:=["_law_wish", "_law_inside"]) (js:=[1,2]) (sc:=defScope q03) (N:=["_law_cover", "_law_wish", "_law_inside", "_law_cube"]) rfl B.b_range (q0a (q1c B.b_len (q0a (dv 1) q0b)) q0b) (by decide +kernel)
   (fun _ _ _ _ _ _=>(q41 (dt_w (z0l (x1t (q1b (dv 1) (dv 0)) q0o) (y6z (x54 (q0u hr) (dv 0) (dv 2)))))))
   (fun _ _ _ _ _ _=>(dv 0))
   (fun _ _ _ _ _=>q09 0 (show(["_law_number", "_law_wish", "_law_inside"]:List Str).Nodup by decide +kernel)))) (q0t (q00 q0b)))))))
theorem q7t(h:run K a (n+1) q1o ws≠.no):ws.length=2/\(q3h K a (run K a n) (init 4 ws)).fn=run K a (n+1) q1o ws:=by
 rw[q6w]at h |-;split at h
 ·rename_i hl;rw[if_pos hl];exact⟨hl,rfl⟩
 ·exact absurd rfl h
theorem x2i(B:Blt P w K mg)(M:Exs K mg a)(C:Cals P w K mg base a n)(CH:CalsH P w K mg base a n)(BM:BMain base mg)(MK:Mks K mg)(A:Ats K mg):Cal P w K mg base (n+1) "_law_covered" ["_law_cover", "_law_wish"] (spF K (run K a (n+1) q1o)):=
 con A._law_covered sc__law_covered (fun ws hw=>(q7t hw).1) fun ws hw f cdv A outer s H E Z hr=>⟨_,x3c B M C CH BM MK hr,(q7t hw).2⟩
theorem y6a(B:Blt P w K mg)(M:Exs K mg a)(C:Cals P w K mg base a n)(CH:CalsH P w K mg base a n)(BM:BMain base mg)(MK:Mks K mg){outer:List Env}(hr:Room (n+2) (A.deeper (PyProof.Rows.envOfC "law" (defScope q4g) s.heap.objs.size f cdv))):
  DSs Z (cxOf (CX1 P w) P w K mg base ["_law_script", "_law_many", "_law_wish", "_law_cover", "_law_tree", "_law_count"] "law" (defScope q4g) f cdv A outer s H E) (fun _=>E) (defBody q4g) (x16 K a (run K a n)):=
 (q0d (q0n 1 sc_law.nd (q0j C._law_way (hr.mono (by omega)) pass1 (q0a (dv 0) (q0a q0e (q0a q0e q0b)))))
  (q0d (q0n 2 sc_law.nd (q0j C._law_wish_by (hr.mono (by omega)) pass1 (q0a (dv 0) (q0a (dv 1) q0b))))
  (q0d (q1a (q5i (q0u hr) (q0j C._law_way (hr.mono (by omega)) pass1 (q0a (dv 0) (q0a q0e (q0a q0e q0b)))) q0e)
  (q0d (q0n 1 sc_law.nd q0e)
  (q0f (q7b 2 sc_law.nd (x:="_law_k") (Nf:=["_law_script"]) (js:=[0]) (sc:=defScope q4g) (N:=["_law_script", "_law_many", "_law_wish", "_law_cover", "_law_tree", "_law_count"]) rfl B.b_range (q0a q0e q0b) (by decide +kernel)
   (fun _ _ _ _ _ _=>q19)
   (fun _ _ _ _ _ _=>(y1q (q0u hr) (dv 0) (q2p (q0a (q0j C._law_way (hr.mono (by omega)) passE (q0a (dv 1) (q0a q0e (q0a q0e q0b)))) (q0a (q5l q0e (q0j C._law_way (hr.mono (by omega)) passE (q0a (dv 1) (q0a q0e (q0a q0e q0b))))) q0b)))))
   (fun _ _ _ _ _=>q09 0 (show(["_law_k", "_law_script"]:List Str).Nodup by decide +kernel)))))
  q0z)
  (q0d (y8j 3 4 sc_law.nd rfl (q0j C.least_cover hr pass1 (q0a (q0t (q9u B.b_list (q0a (dv 2) q0b))) q0b)))
  (q0d (q1a (dt_w (x5b (x50 (q0j C.shows_cover (hr.mono (by omega)) pass1 (q0a (q0t (q9u B.b_list (q0a (dv 2) q0b))) (q0a (q5l (q1c B.b_len (q0a (dv 3) q0b)) q0e) (q0a (dv 4) q0b)))) q0o) (x5r (x50 (q0j C.covers (hr.mono (by omega)) pass1 (q0a (q0t (q9u B.b_list (q0a (dv 3) q0b))) (q0a (q0t (q9u B.b_list (q0a (dv 2) q0b))) q0b))) q0o))))
  (q0f (q0m q0o))
  q0z)
  (q0d (q1a (q5i (q0u hr) (dv 3) (q0t (q00 q0b)))
  (q0f (q0m (y1q (q0u hr) q0o (dv 2))))
  q0z)
  (q0d (q0n 5 sc_law.nd (q5l (q1c B.b_len (q0a (dv 3) q0b)) q0e))
  (q0d (q1a (q5i (q0u hr) (q0j C._law_way (hr.mono (by omega)) pass1 (q0a (dv 0) (q0a q0e (q0a q0e q0b)))) q0e)
  (q0f (q0n 5 sc_law.nd (q3e (q0j C._law_mark (hr.mono (by omega)) pass1 (q0a (dv 0) (q0a q0e q0b))) (q1c B.b_len (q0a (dv 3) q0b)))))
  q0z)
  (q0f (q0m (x5t (q0j C._law_covered (hr.mono (by omega)) pass1 (q0a (q0j C._law_some (hr.mono (by omega)) pass1 (q0a (dv 2) (q0a (dv 1) (q0a (dv 5) (q0a (dv 0) q0b))))) (q0a (dv 2) q0b))))))))))))))
theorem x5e(h:run K a (n+1) q55 ws≠.no):ws.length=1/\(x16 K a (run K a n) (init 6 ws)).fn=run K a (n+1) q55 ws:=by
 rw[x82]at h |-;split at h
 ·rename_i hl;rw[if_pos hl];exact⟨hl,rfl⟩
 ·exact absurd rfl h
theorem z2s(B:Blt P w K mg)(M:Exs K mg a)(C:Cals P w K mg base a n)(CH:CalsH P w K mg base a n)(BM:BMain base mg)(MK:Mks K mg)(A:Ats K mg):Cal P w K mg base (n+3) "law" ["_law_script"] (spF K (run K a (n+1) q55)):=
 con A.law sc_law (fun ws hw=>(x5e hw).1) fun ws hw f cdv A outer s H E Z hr=>⟨_,y6a B M C CH BM MK hr,(x5e hw).2⟩
theorem allH(A:Ats K mg)(B:Blt P w K mg)(M:Exs K mg a):∀n,CalsH P w K mg base a n
 |0=>⟨trivial⟩
 |n+1=>⟨trivial⟩
theorem x67(B:Blt P w K mg)(M:Exs K mg a)(C:Cals P w K mg base a n)(CH:CalsH P w K mg base a n):LamOk P w K mg base n q56 ["number"] (run K a (n+1) q1w) where
 sc:=⟨rfl,rfl,rfl,by decide +kernel,by decide +kernel,by decide +kernel,by decide +kernel⟩
 bind:=fun cl pm c' ctv=>us1 fun _=>rfl
 len:=fun ws h=>by
  rw[q40]at h;split at h
  ·assumption
  ·exact absurd rfl h
 body:=fun ws h Z f cd cl A outer s H hr=>⟨q4h K a (run K a n),(q1c B.b_len (q0a (q0j C.having hr passE (q0a (dv 1) (q0a (dv 0) q0b))) q0b)),by
  rw[q40]at h |-;split at h
  ·rename_i hl;rw[if_pos hl]
  ·exact absurd rfl h⟩
theorem okl(B:Blt P w K mg)(M:Exs K mg a)(C:Cals P w K mg base a n)(CH:CalsH P w K mg base a n):FnV P w K mg base (CX1 P w) (n+1) (spV K lams (run K a (n+1))):=z2o fun i l h=>by
 unfold lams at h;split at h
 ·cases h;exact⟨_,x67 B M C CH⟩
 ·cases h
theorem all(A:Ats K mg)(B:Blt P w K mg)(M:Exs K mg a)(BM:BMain base mg)(MK:Mks K mg):∀n,Cals P w K mg base a n
 |0=>⟨con0 A.row_of,con0 A.rows_many,con0 A.all_rows,con0 A.in_cube,con0 A.rows_in,con0 A.cube_text,con0 A.places_of,con0 A.wish_places,con0 A.fits,con0 A.primes,con0 A.all_cubes,con0 A.is_prime,con0 A.wider_cubes,con0 A.covers,con0 A.wished_rows,con0 A.rows_left,con0 A.is_whole,con0 A.is_tuple_of,con0 A.same_truth,con0K A.least_cover,con0 A.reaches_of,con0K A.tried,con0K A.rarest,con0 A.having,con0 A.shows_cover,con0 A.is_tree,con0 A.is_branch,con0 A.is_cube,con0 A._law_cell_at,con0 A._law_way,con0 A._law_mark,con0 A._law_rows,con0 A._law_wish_by,con0 A._law_fits,con0 A._law_grown,con0 A._law_some,con0 A._law_covered,con0K A.law,fnV0⟩
 |n+1=>⟨y2r B M (all A B M BM MK n) (allH A B M n) BM MK A,x6q B M (all A B M BM MK n) (allH A B M n) BM MK A,x71 B M (all A B M BM MK n) (allH A B M n) BM MK A,x99 B M (all A B M BM MK n) (allH A B M n) BM MK A,y0a B M (all A B M BM MK n) (allH A B M n) BM MK A,x6r B M (all A B M BM MK n) (allH A B M n) BM MK A,x6s B M (all A B M BM MK n) (allH A B M n) BM MK A,x24 B M (all A B M BM MK n) (allH A B M n) BM MK A,y85 B M (all A B M BM MK n) (allH A B M n) BM MK A,y2v B M (all A B M BM MK n) (allH A B M n) BM MK A,x6u B M (all A B M BM MK n) (allH A B M n) BM MK A,x75 B M (all A B M BM MK n) (allH A B M n) BM MK A,x25 B M (all A B M BM MK n) (allH A B M n) BM MK A,y2w B M (all A B M BM MK n) (allH A B M n) BM MK A,x26 B M (all A B M BM MK n) (allH A B M n) BM MK A,x6w B M (all A B M BM MK n) (allH A B M n) BM MK A,x77 B M (all A B M BM MK n) (allH A B M n) BM MK A,x27 B M (all A B M BM MK n) (allH A B M n) BM MK A,x44 B M (all A B M BM MK n) (allH A B M n) BM MK A,x28 B M (all A B M BM MK n) (allH A B M n) BM MK A,x46 B M (all A B M BM MK n) (allH A B M n) BM MK A,y5i B M (all A B M BM MK n) (allH A B M n) BM MK A,y2x B M (all A B M BM MK n) (allH A B M n) BM MK A,y2y B M (all A B M BM MK n) (allH A B M n) BM MK A,x29 B M (all A B M BM MK n) (allH A B M n) BM MK A,y0d B M (all A B M BM MK n) (allH A B M n) BM MK A,x61 B M (all A B M BM MK n) (allH A B M n) BM MK A,y0e B M (all A B M BM MK n) (allH A B M n) BM MK A,x2f B M (all A B M BM MK n) (allH A B M n) BM MK A,x79 B M (all A B M BM MK n) (allH A B M n) BM MK A,x62 B M (all A B M BM MK n) (allH A B M n) BM MK A,x63 B M (all A B M BM MK n) (allH A B M n) BM MK A,x2h B M (all A B M BM MK n) (allH A B M n) BM MK A,x64 B M (all A B M BM MK n) (allH A B M n) BM MK A,x48 B M (all A B M BM MK n) (allH A B M n) BM MK A,x66 B M (all A B M BM MK n) (allH A B M n) BM MK A,x2i B M (all A B M BM MK n) (allH A B M n) BM MK A,z2s B M (all A B M BM MK n) (allH A B M n) BM MK A,okl B M (all A B M BM MK n) (allH A B M n)⟩
theorem law_fn{fd:FuncData}(A:Ats K mg)(B:Blt P w K mg)(M:Exs K mg a)(BM:BMain base mg)(MK:Mks K mg)(F:Fun K "law" "law" q4g f fd)(n:Nat):FnOk P w K mg base (CX1 P w) (n+3) f fd ["_law_script"] (spF K (run K a (n+1) q55)):=
 conF F sc_law (fun ws hw=>(x5e hw).1) fun ws hw cdv A' outer s H E Z hr=>⟨_,y6a B M (all A B M BM MK n) (allH A B M n) BM MK hr,(x5e hw).2⟩
end
theorem mk{l:PySem.W.OpenLaw}{w:World}{h:Heap}{fa:Addr}(X:K.In h)(G:h.Ns mainGlobals mg)(hfa:mg "law"=some (.ref fa))
  {f0:Addr}{od0 an0:Option Addr}{sl0:Array (Option Value)}{oc0 kV0 dc0 pm0 cd0 ct0:Value}
  {f1:Addr}{od1 an1:Option Addr}{sl1:Array (Option Value)}{oc1 kV1 dc1 pm1 cd1 ct1:Value}
  {f2:Addr}{od2 an2:Option Addr}{sl2:Array (Option Value)}{oc2 kV2 dc2 pm2 cd2 ct2:Value}
  {f3:Addr}{od3 an3:Option Addr}{sl3:Array (Option Value)}{oc3 kV3 dc3 pm3 cd3 ct3:Value}
  {f4:Addr}{od4 an4:Option Addr}{sl4:Array (Option Value)}{oc4 kV4 dc4 pm4 cd4 ct4:Value}
  {f5:Addr}{od5 an5:Option Addr}{sl5:Array (Option Value)}{oc5 kV5 dc5 pm5 cd5 ct5:Value}
  {f6:Addr}{od6 an6:Option Addr}{sl6:Array (Option Value)}{oc6 kV6 dc6 pm6 cd6 ct6:Value}
  {f7:Addr}{od7 an7:Option Addr}{sl7:Array (Option Value)}{oc7 kV7 dc7 pm7 cd7 ct7:Value}
  {f8:Addr}{od8 an8:Option Addr}{sl8:Array (Option Value)}{oc8 kV8 dc8 pm8 cd8 ct8:Value}
  {f9:Addr}{od9 an9:Option Addr}{sl9:Array (Option Value)}{oc9 kV9 dc9 pm9 cd9 ct9:Value}
  {f10:Addr}{od10 an10:Option Addr}{sl10:Array (Option Value)}{oc10 kV10 dc10 pm10 cd10 ct10:Value}
  {f11:Addr}{od11 an11:Option Addr}{sl11:Array (Option Value)}{oc11 kV11 dc11 pm11 cd11 ct11:Value}
  {f12:Addr}{od12 an12:Option Addr}{sl12:Array (Option Value)}{oc12 kV12 dc12 pm12 cd12 ct12:Value}
  {f13:Addr}{od13 an13:Option Addr}{sl13:Array (Option Value)}{oc13 kV13 dc13 pm13 cd13 ct13:Value}
  {f14:Addr}{od14 an14:Option Addr}{sl14:Array (Option Value)}{oc14 kV14 dc14 pm14 cd14 ct14:Value}
  {f15:Addr}{od15 an15:Option Addr}{sl15:Array (Option Value)}{oc15 kV15 dc15 pm15 cd15 ct15:Value}
  {f16:Addr}{od16 an16:Option Addr}{sl16:Array (Option Value)}{oc16 kV16 dc16 pm16 cd16 ct16:Value}
  {f17:Addr}{od17 an17:Option Addr}{sl17:Array (Option Value)}{oc17 kV17 dc17 pm17 cd17 ct17:Value}
  {f18:Addr}{od18 an18:Option Addr}{sl18:Array (Option Value)}{oc18 kV18 dc18 pm18 cd18 ct18:Value}
  {f19:Addr}{od19 an19:Option Addr}{sl19:Array (Option Value)}{oc19 kV19 dc19 pm19 cd19 ct19:Value}
  {f20:Addr}{od20 an20:Option Addr}{sl20:Array (Option Value)}{oc20 kV20 dc20 pm20 cd20 ct20:Value}
  {f21:Addr}{od21 an21:Option Addr}{sl21:Array (Option Value)}{oc21 kV21 dc21 pm21 cd21 ct21:Value}
  {f22:Addr}{od22 an22:Option Addr}{sl22:Array (Option Value)}{oc22 kV22 dc22 pm22 cd22 ct22:Value}
  {f23:Addr}{od23 an23:Option Addr}{sl23:Array (Option Value)}{oc23 kV23 dc23 pm23 cd23 ct23:Value}
  {f24:Addr}{od24 an24:Option Addr}{sl24:Array (Option Value)}{oc24 kV24 dc24 pm24 cd24 ct24:Value}
  {f25:Addr}{od25 an25:Option Addr}{sl25:Array (Option Value)}{oc25 kV25 dc25 pm25 cd25 ct25:Value}
  {f26:Addr}{od26 an26:Option Addr}{sl26:Array (Option Value)}{oc26 kV26 dc26 pm26 cd26 ct26:Value}
  {f27:Addr}{od27 an27:Option Addr}{sl27:Array (Option Value)}{oc27 kV27 dc27 pm27 cd27 ct27:Value}
  {f28:Addr}{od28 an28:Option Addr}{sl28:Array (Option Value)}{oc28 kV28 dc28 pm28 cd28 ct28:Value}
  {f29:Addr}{od29 an29:Option Addr}{sl29:Array (Option Value)}{oc29 kV29 dc29 pm29 cd29 ct29:Value}
  {f30:Addr}{od30 an30:Option Addr}{sl30:Array (Option Value)}{oc30 kV30 dc30 pm30 cd30 ct30:Value}
  {f31:Addr}{od31 an31:Option Addr}{sl31:Array (Option Value)}{oc31 kV31 dc31 pm31 cd31 ct31:Value}
  {f32:Addr}{od32 an32:Option Addr}{sl32:Array (Option Value)}{oc32 kV32 dc32 pm32 cd32 ct32:Value}
  {f33:Addr}{od33 an33:Option Addr}{sl33:Array (Option Value)}{oc33 kV33 dc33 pm33 cd33 ct33:Value}
  {f34:Addr}{od34 an34:Option Addr}{sl34:Array (Option Value)}{oc34 kV34 dc34 pm34 cd34 ct34:Value}
  {f35:Addr}{od35 an35:Option Addr}{sl35:Array (Option Value)}{oc35 kV35 dc35 pm35 cd35 ct35:Value}
  {f36:Addr}{od36 an36:Option Addr}{sl36:Array (Option Value)}{oc36 kV36 dc36 pm36 cd36 ct36:Value}
  {f37:Addr}{od37 an37:Option Addr}{sl37:Array (Option Value)}{oc37 kV37 dc37 pm37 cd37 ct37:Value}
  {A_CircuitError:Addr}
  {A_NoRow:Addr}
  {A_NoTable:Addr}
  {A_MOST_PLACES_tables:Value}
  {A_MOST_PLACES_covers:Value}
  {cc22 PP22:Addr}
  {A_SIGNS:Addr}
  (a0:PySem.W.nsIn K mainGlobals "row_of"=some (some (.ref f0)))
  (l0:K.lookup f0=some ⟨oc0,od0,.func (PySem.W.fnOf "row_of" "row_of" (defArgs q3b) (defBody q3b) (defScope q3b) .none kV0 dc0 pm0 an0 cd0 ct0),sl0⟩)
  (c0:PySem.W.codeIn K cd0 "row_of"=true)
  (k0:keepIn K (.ref f0)=true)
  (a1:PySem.W.nsIn K mainGlobals "rows_many"=some (some (.ref f1)))
  (l1:K.lookup f1=some ⟨oc1,od1,.func (PySem.W.fnOf "rows_many" "rows_many" (defArgs q1y) (defBody q1y) (defScope q1y) .none kV1 dc1 pm1 an1 cd1 ct1),sl1⟩)
  (c1:PySem.W.codeIn K cd1 "rows_many"=true)
  (k1:keepIn K (.ref f1)=true)
  (a2:PySem.W.nsIn K mainGlobals "all_rows"=some (some (.ref f2)))
  (l2:K.lookup f2=some ⟨oc2,od2,.func (PySem.W.fnOf "all_rows" "all_rows" (defArgs q17) (defBody q17) (defScope q17) .none kV2 dc2 pm2 an2 cd2 ct2),sl2⟩)
  (c2:PySem.W.codeIn K cd2 "all_rows"=true)
  (k2:keepIn K (.ref f2)=true)
  (a3:PySem.W.nsIn K mainGlobals "in_cube"=some (some (.ref f3)))
  (l3:K.lookup f3=some ⟨oc3,od3,.func (PySem.W.fnOf "in_cube" "in_cube" (defArgs q2j) (defBody q2j) (defScope q2j) .none kV3 dc3 pm3 an3 cd3 ct3),sl3⟩)
  (c3:PySem.W.codeIn K cd3 "in_cube"=true)
  (k3:keepIn K (.ref f3)=true)
  (a4:PySem.W.nsIn K mainGlobals "rows_in"=some (some (.ref f4)))
  (l4:K.lookup f4=some ⟨oc4,od4,.func (PySem.W.fnOf "rows_in" "rows_in" (defArgs q2k) (defBody q2k) (defScope q2k) .none kV4 dc4 pm4 an4 cd4 ct4),sl4⟩)
  (c4:PySem.W.codeIn K cd4 "rows_in"=true)
  (k4:keepIn K (.ref f4)=true)
  (a5:PySem.W.nsIn K mainGlobals "cube_text"=some (some (.ref f5)))
  (l5:K.lookup f5=some ⟨oc5,od5,.func (PySem.W.fnOf "cube_text" "cube_text" (defArgs q1p) (defBody q1p) (defScope q1p) .none kV5 dc5 pm5 an5 cd5 ct5),sl5⟩)
  (c5:PySem.W.codeIn K cd5 "cube_text"=true)
  (k5:keepIn K (.ref f5)=true)
  (a6:PySem.W.nsIn K mainGlobals "places_of"=some (some (.ref f6)))
  (l6:K.lookup f6=some ⟨oc6,od6,.func (PySem.W.fnOf "places_of" "places_of" (defArgs q1z) (defBody q1z) (defScope q1z) .none kV6 dc6 pm6 an6 cd6 ct6),sl6⟩)
  (c6:PySem.W.codeIn K cd6 "places_of"=true)
  (k6:keepIn K (.ref f6)=true)
  (a7:PySem.W.nsIn K mainGlobals "wish_places"=some (some (.ref f7)))
  (l7:K.lookup f7=some ⟨oc7,od7,.func (PySem.W.fnOf "wish_places" "wish_places" (defArgs q1h) (defBody q1h) (defScope q1h) .none kV7 dc7 pm7 an7 cd7 ct7),sl7⟩)
  (c7:PySem.W.codeIn K cd7 "wish_places"=true)
  (k7:keepIn K (.ref f7)=true)
  (a8:PySem.W.nsIn K mainGlobals "fits"=some (some (.ref f8)))
  (l8:K.lookup f8=some ⟨oc8,od8,.func (PySem.W.fnOf "fits" "fits" (defArgs q37) (defBody q37) (defScope q37) .none kV8 dc8 pm8 an8 cd8 ct8),sl8⟩)
  (c8:PySem.W.codeIn K cd8 "fits"=true)
  (k8:keepIn K (.ref f8)=true)
  (a9:PySem.W.nsIn K mainGlobals "primes"=some (some (.ref f9)))
  (l9:K.lookup f9=some ⟨oc9,od9,.func (PySem.W.fnOf "primes" "primes" (defArgs q2w) (defBody q2w) (defScope q2w) .none kV9 dc9 pm9 an9 cd9 ct9),sl9⟩)
  (c9:PySem.W.codeIn K cd9 "primes"=true)
  (k9:keepIn K (.ref f9)=true)
  (a10:PySem.W.nsIn K mainGlobals "all_cubes"=some (some (.ref f10)))
  (l10:K.lookup f10=some ⟨oc10,od10,.func (PySem.W.fnOf "all_cubes" "all_cubes" (defArgs q10) (defBody q10) (defScope q10) .none kV10 dc10 pm10 an10 cd10 ct10),sl10⟩)
  (c10:PySem.W.codeIn K cd10 "all_cubes"=true)
  (k10:keepIn K (.ref f10)=true)
  (a11:PySem.W.nsIn K mainGlobals "is_prime"=some (some (.ref f11)))
  (l11:K.lookup f11=some ⟨oc11,od11,.func (PySem.W.fnOf "is_prime" "is_prime" (defArgs q1v) (defBody q1v) (defScope q1v) .none kV11 dc11 pm11 an11 cd11 ct11),sl11⟩)
  (c11:PySem.W.codeIn K cd11 "is_prime"=true)
  (k11:keepIn K (.ref f11)=true)
  (a12:PySem.W.nsIn K mainGlobals "wider_cubes"=some (some (.ref f12)))
  (l12:K.lookup f12=some ⟨oc12,od12,.func (PySem.W.fnOf "wider_cubes" "wider_cubes" (defArgs q04) (defBody q04) (defScope q04) .none kV12 dc12 pm12 an12 cd12 ct12),sl12⟩)
  (c12:PySem.W.codeIn K cd12 "wider_cubes"=true)
  (k12:keepIn K (.ref f12)=true)
  (a13:PySem.W.nsIn K mainGlobals "covers"=some (some (.ref f13)))
  (l13:K.lookup f13=some ⟨oc13,od13,.func (PySem.W.fnOf "covers" "covers" (defArgs q3c) (defBody q3c) (defScope q3c) .none kV13 dc13 pm13 an13 cd13 ct13),sl13⟩)
  (c13:PySem.W.codeIn K cd13 "covers"=true)
  (k13:keepIn K (.ref f13)=true)
  (a14:PySem.W.nsIn K mainGlobals "wished_rows"=some (some (.ref f14)))
  (l14:K.lookup f14=some ⟨oc14,od14,.func (PySem.W.fnOf "wished_rows" "wished_rows" (defArgs q05) (defBody q05) (defScope q05) .none kV14 dc14 pm14 an14 cd14 ct14),sl14⟩)
  (c14:PySem.W.codeIn K cd14 "wished_rows"=true)
  (k14:keepIn K (.ref f14)=true)
  (a15:PySem.W.nsIn K mainGlobals "rows_left"=some (some (.ref f15)))
  (l15:K.lookup f15=some ⟨oc15,od15,.func (PySem.W.fnOf "rows_left" "rows_left" (defArgs q1q) (defBody q1q) (defScope q1q) .none kV15 dc15 pm15 an15 cd15 ct15),sl15⟩)
  (c15:PySem.W.codeIn K cd15 "rows_left"=true)
  (k15:keepIn K (.ref f15)=true)
  (a16:PySem.W.nsIn K mainGlobals "is_whole"=some (some (.ref f16)))
  (l16:K.lookup f16=some ⟨oc16,od16,.func (PySem.W.fnOf "is_whole" "is_whole" (defArgs q2g) (defBody q2g) (defScope q2g) .none kV16 dc16 pm16 an16 cd16 ct16),sl16⟩)
  (c16:PySem.W.codeIn K cd16 "is_whole"=true)
  (k16:keepIn K (.ref f16)=true)
  (a17:PySem.W.nsIn K mainGlobals "is_tuple_of"=some (some (.ref f17)))
  (l17:K.lookup f17=some ⟨oc17,od17,.func (PySem.W.fnOf "is_tuple_of" "is_tuple_of" (defArgs q1i) (defBody q1i) (defScope q1i) .none kV17 dc17 pm17 an17 cd17 ct17),sl17⟩)
  (c17:PySem.W.codeIn K cd17 "is_tuple_of"=true)
  (k17:keepIn K (.ref f17)=true)
  (a18:PySem.W.nsIn K mainGlobals "same_truth"=some (some (.ref f18)))
  (l18:K.lookup f18=some ⟨oc18,od18,.func (PySem.W.fnOf "same_truth" "same_truth" (defArgs q1r) (defBody q1r) (defScope q1r) .none kV18 dc18 pm18 an18 cd18 ct18),sl18⟩)
  (c18:PySem.W.codeIn K cd18 "same_truth"=true)
  (k18:keepIn K (.ref f18)=true)
  (a19:PySem.W.nsIn K mainGlobals "least_cover"=some (some (.ref f19)))
  (l19:K.lookup f19=some ⟨oc19,od19,.func (PySem.W.fnOf "least_cover" "least_cover" (defArgs q1j) (defBody q1j) (defScope q1j) .none kV19 dc19 pm19 an19 cd19 ct19),sl19⟩)
  (c19:PySem.W.codeIn K cd19 "least_cover"=true)
  (k19:keepIn K (.ref f19)=true)
  (a20:PySem.W.nsIn K mainGlobals "reaches_of"=some (some (.ref f20)))
  (l20:K.lookup f20=some ⟨oc20,od20,.func (PySem.W.fnOf "reaches_of" "reaches_of" (defArgs q1d) (defBody q1d) (defScope q1d) .none kV20 dc20 pm20 an20 cd20 ct20),sl20⟩)
  (c20:PySem.W.codeIn K cd20 "reaches_of"=true)
  (k20:keepIn K (.ref f20)=true)
  (a21:PySem.W.nsIn K mainGlobals "tried"=some (some (.ref f21)))
  (l21:K.lookup f21=some ⟨oc21,od21,.func (PySem.W.fnOf "tried" "tried" (defArgs q3z) (defBody q3z) (defScope q3z) .none kV21 dc21 pm21 an21 cd21 ct21),sl21⟩)
  (c21:PySem.W.codeIn K cd21 "tried"=true)
  (k21:keepIn K (.ref f21)=true)
  (a22:PySem.W.nsIn K mainGlobals "rarest"=some (some (.ref f22)))
  (l22:K.lookup f22=some ⟨oc22,od22,.func (PySem.W.fnOf "rarest" "rarest" (defArgs q2o) (defBody q2o) (defScope q2o) .none kV22 dc22 pm22 an22 cd22 ct22),sl22⟩)
  (c22:PySem.W.codeIn K cd22 "rarest"=true)
  (k22:keepIn K (.ref f22)=true)
  (a23:PySem.W.nsIn K mainGlobals "having"=some (some (.ref f23)))
  (l23:K.lookup f23=some ⟨oc23,od23,.func (PySem.W.fnOf "having" "having" (defArgs q2x) (defBody q2x) (defScope q2x) .none kV23 dc23 pm23 an23 cd23 ct23),sl23⟩)
  (c23:PySem.W.codeIn K cd23 "having"=true)
  (k23:keepIn K (.ref f23)=true)
  (a24:PySem.W.nsIn K mainGlobals "shows_cover"=some (some (.ref f24)))
  (l24:K.lookup f24=some ⟨oc24,od24,.func (PySem.W.fnOf "shows_cover" "shows_cover" (defArgs q1k) (defBody q1k) (defScope q1k) .none kV24 dc24 pm24 an24 cd24 ct24),sl24⟩)
  (c24:PySem.W.codeIn K cd24 "shows_cover"=true)
  (k24:keepIn K (.ref f24)=true)
  (a25:PySem.W.nsIn K mainGlobals "is_tree"=some (some (.ref f25)))
  (l25:K.lookup f25=some ⟨oc25,od25,.func (PySem.W.fnOf "is_tree" "is_tree" (defArgs q2l) (defBody q2l) (defScope q2l) .none kV25 dc25 pm25 an25 cd25 ct25),sl25⟩)
  (c25:PySem.W.codeIn K cd25 "is_tree"=true)
  (k25:keepIn K (.ref f25)=true)
  (a26:PySem.W.nsIn K mainGlobals "is_branch"=some (some (.ref f26)))
  (l26:K.lookup f26=some ⟨oc26,od26,.func (PySem.W.fnOf "is_branch" "is_branch" (defArgs q11) (defBody q11) (defScope q11) .none kV26 dc26 pm26 an26 cd26 ct26),sl26⟩)
  (c26:PySem.W.codeIn K cd26 "is_branch"=true)
  (k26:keepIn K (.ref f26)=true)
  (a27:PySem.W.nsIn K mainGlobals "is_cube"=some (some (.ref f27)))
  (l27:K.lookup f27=some ⟨oc27,od27,.func (PySem.W.fnOf "is_cube" "is_cube" (defArgs q2m) (defBody q2m) (defScope q2m) .none kV27 dc27 pm27 an27 cd27 ct27),sl27⟩)
  (c27:PySem.W.codeIn K cd27 "is_cube"=true)
  (k27:keepIn K (.ref f27)=true)
  (a28:PySem.W.nsIn K mainGlobals "_law_cell_at"=some (some (.ref f28)))
  (l28:K.lookup f28=some ⟨oc28,od28,.func (PySem.W.fnOf "_law_cell_at" "_law_cell_at" (defArgs q07) (defBody q07) (defScope q07) .none kV28 dc28 pm28 an28 cd28 ct28),sl28⟩)
  (c28:PySem.W.codeIn K cd28 "_law_cell_at"=true)
  (k28:keepIn K (.ref f28)=true)
  (a29:PySem.W.nsIn K mainGlobals "_law_way"=some (some (.ref f29)))
  (l29:K.lookup f29=some ⟨oc29,od29,.func (PySem.W.fnOf "_law_way" "_law_way" (defArgs q2h) (defBody q2h) (defScope q2h) .none kV29 dc29 pm29 an29 cd29 ct29),sl29⟩)
  (c29:PySem.W.codeIn K cd29 "_law_way"=true)
  (k29:keepIn K (.ref f29)=true)
  (a30:PySem.W.nsIn K mainGlobals "_law_mark"=some (some (.ref f30)))
  (l30:K.lookup f30=some ⟨oc30,od30,.func (PySem.W.fnOf "_law_mark" "_law_mark" (defArgs q12) (defBody q12) (defScope q12) .none kV30 dc30 pm30 an30 cd30 ct30),sl30⟩)
  (c30:PySem.W.codeIn K cd30 "_law_mark"=true)
  (k30:keepIn K (.ref f30)=true)
  (a31:PySem.W.nsIn K mainGlobals "_law_rows"=some (some (.ref f31)))
  (l31:K.lookup f31=some ⟨oc31,od31,.func (PySem.W.fnOf "_law_rows" "_law_rows" (defArgs q08) (defBody q08) (defScope q08) .none kV31 dc31 pm31 an31 cd31 ct31),sl31⟩)
  (c31:PySem.W.codeIn K cd31 "_law_rows"=true)
  (k31:keepIn K (.ref f31)=true)
  (a32:PySem.W.nsIn K mainGlobals "_law_wish_by"=some (some (.ref f32)))
  (l32:K.lookup f32=some ⟨oc32,od32,.func (PySem.W.fnOf "_law_wish_by" "_law_wish_by" (defArgs q02) (defBody q02) (defScope q02) .none kV32 dc32 pm32 an32 cd32 ct32),sl32⟩)
  (c32:PySem.W.codeIn K cd32 "_law_wish_by"=true)
  (k32:keepIn K (.ref f32)=true)
  (a33:PySem.W.nsIn K mainGlobals "_law_fits"=some (some (.ref f33)))
  (l33:K.lookup f33=some ⟨oc33,od33,.func (PySem.W.fnOf "_law_fits" "_law_fits" (defArgs q13) (defBody q13) (defScope q13) .none kV33 dc33 pm33 an33 cd33 ct33),sl33⟩)
  (c33:PySem.W.codeIn K cd33 "_law_fits"=true)
  (k33:keepIn K (.ref f33)=true)
  (a34:PySem.W.nsIn K mainGlobals "_law_grown"=some (some (.ref f34)))
  (l34:K.lookup f34=some ⟨oc34,od34,.func (PySem.W.fnOf "_law_grown" "_law_grown" (defArgs q1e) (defBody q1e) (defScope q1e) .none kV34 dc34 pm34 an34 cd34 ct34),sl34⟩)
  (c34:PySem.W.codeIn K cd34 "_law_grown"=true)
  (k34:keepIn K (.ref f34)=true)
  (a35:PySem.W.nsIn K mainGlobals "_law_some"=some (some (.ref f35)))
  (l35:K.lookup f35=some ⟨oc35,od35,.func (PySem.W.fnOf "_law_some" "_law_some" (defArgs q1l) (defBody q1l) (defScope q1l) .none kV35 dc35 pm35 an35 cd35 ct35),sl35⟩)
  (c35:PySem.W.codeIn K cd35 "_law_some"=true)
  (k35:keepIn K (.ref f35)=true)
  (a36:PySem.W.nsIn K mainGlobals "_law_covered"=some (some (.ref f36)))
  (l36:K.lookup f36=some ⟨oc36,od36,.func (PySem.W.fnOf "_law_covered" "_law_covered" (defArgs q03) (defBody q03) (defScope q03) .none kV36 dc36 pm36 an36 cd36 ct36),sl36⟩)
  (c36:PySem.W.codeIn K cd36 "_law_covered"=true)
  (k36:keepIn K (.ref f36)=true)
  (a37:PySem.W.nsIn K mainGlobals "law"=some (some (.ref f37)))
  (l37:K.lookup f37=some ⟨oc37,od37,.func (PySem.W.fnOf "law" "law" (defArgs q4g) (defBody q4g) (defScope q4g) .none kV37 dc37 pm37 an37 cd37 ct37),sl37⟩)
  (c37:PySem.W.codeIn K cd37 "law"=true)
  (k37:keepIn K (.ref f37)=true)
  (v22:cd22=.ref cc22)
  (h22:codeHdIn K cc22 PP22=true)
  (m22:(mainGlobals,markO PP22 (("rarest"++".<locals>.")++"<lambda>"))∈K)
  (n_CircuitError:PySem.W.nsIn K mainGlobals "CircuitError"=some (some (.ref A_CircuitError)))
  (n_NoRow:PySem.W.nsIn K mainGlobals "NoRow"=some (some (.ref A_NoRow)))
  (n_NoTable:PySem.W.nsIn K mainGlobals "NoTable"=some (some (.ref A_NoTable)))
  (n_MOST_PLACES_tables:PySem.W.nsIn K mainGlobals "MOST_PLACES_tables"=some (some A_MOST_PLACES_tables))
  (n_MOST_PLACES_covers:PySem.W.nsIn K mainGlobals "MOST_PLACES_covers"=some (some A_MOST_PLACES_covers))
  (n_SIGNS:PySem.W.nsIn K mainGlobals "SIGNS"=some (some (.ref A_SIGNS)))
  (tab_SIGNS:SignK w K A_SIGNS)
  (z_all:PySem.W.nsIn K mainGlobals "all"=some none)
  (z_any:PySem.W.nsIn K mainGlobals "any"=some none)
  (z_bool:PySem.W.nsIn K mainGlobals "bool"=some none)
  (z_enumerate:PySem.W.nsIn K mainGlobals "enumerate"=some none)
  (z_int:PySem.W.nsIn K mainGlobals "int"=some none)
  (z_isinstance:PySem.W.nsIn K mainGlobals "isinstance"=some none)
  (z_len:PySem.W.nsIn K mainGlobals "len"=some none)
  (z_list:PySem.W.nsIn K mainGlobals "list"=some none)
  (z_min:PySem.W.nsIn K mainGlobals "min"=some none)
  (z_range:PySem.W.nsIn K mainGlobals "range"=some none)
  (z_reversed:PySem.W.nsIn K mainGlobals "reversed"=some none)
  (z_sorted:PySem.W.nsIn K mainGlobals "sorted"=some none)
  (z_tuple:PySem.W.nsIn K mainGlobals "tuple"=some none)
  (z_zip:PySem.W.nsIn K mainGlobals "zip"=some none)
  (g_MOST_PLACES_tables:conIn K (.int 10) A_MOST_PLACES_tables=true)
  (g_MOST_PLACES_covers:conIn K (.int 4) A_MOST_PLACES_covers=true)
  (e_NoRow:excIn K A_NoRow A_CircuitError=true)
  (e_NoTable:excIn K A_NoTable A_CircuitError=true)
  (c_NoRow:excClsIn K A_NoRow=true)
  (c_NoTable:excClsIn K A_NoTable=true)
  (t_NoneType_int:kitOne K (.type "NoneType") (.type "int")=some false)
  (t_bool_int:kitOne K (.type "bool") (.type "int")=some true)
  (t_int_int:kitOne K (.type "int") (.type "int")=some true)
  (t_str_int:kitOne K (.type "str") (.type "int")=some false)
  (t_tuple_int:kitOne K (.type "tuple") (.type "int")=some false)
  (t_list_int:kitOne K (.type "list") (.type "int")=some false)
  (t_NoneType_bool:kitOne K (.type "NoneType") (.type "bool")=some false)
  (t_bool_bool:kitOne K (.type "bool") (.type "bool")=some true)
  (t_int_bool:kitOne K (.type "int") (.type "bool")=some false)
  (t_str_bool:kitOne K (.type "str") (.type "bool")=some false)
  (t_tuple_bool:kitOne K (.type "tuple") (.type "bool")=some false)
  (t_list_bool:kitOne K (.type "list") (.type "bool")=some false)
  (t_NoneType_tuple:kitOne K (.type "NoneType") (.type "tuple")=some false)
  (t_bool_tuple:kitOne K (.type "bool") (.type "tuple")=some false)
  (t_int_tuple:kitOne K (.type "int") (.type "tuple")=some false)
  (t_str_tuple:kitOne K (.type "str") (.type "tuple")=some false)
  (t_tuple_tuple:kitOne K (.type "tuple") (.type "tuple")=some true)
  (t_list_tuple:kitOne K (.type "list") (.type "tuple")=some false)
  (n:Nat)(hL:∀a:Adr,Exs K mg a->∀ns:List Int,Fit ns->run K a (n+1) q55 [.lst (ns.map .int)]=.ok (.fr (.bl true))):
  ∃fd:FuncData,(∀(s:Shared)(v:Value),BindsTo s fd ⟨[v],[]⟩ [("_law_script", v)])/\∀base:Heap,K.In base->base.Ns mainGlobals mg->BMain base mg->FnOk l.prog w K mg base (CX1 l.prog w) (n+3) fa fd ["_law_script"] (spLawB K):=by
 have e:=hfa.symm.trans (mg_of X G a37);cases e
 have A:Ats K mg:=⟨⟨⟨_,_,q0i (st:=q3b) l0 c0 k0,mg_of X G a0,(q0i (st:=q3b) l0 c0 k0).binds (ps:=["number", "many"]) fun _ _ _ _ _ _=>us2 fun _ _=>rfl⟩⟩,
  ⟨⟨_,_,q0i (st:=q1y) l1 c1 k1,mg_of X G a1,(q0i (st:=q1y) l1 c1 k1).binds (ps:=["many"]) fun _ _ _ _ _ _=>us1 fun _=>rfl⟩⟩,
  ⟨⟨_,_,q0i (st:=q17) l2 c2 k2,mg_of X G a2,(q0i (st:=q17) l2 c2 k2).binds (ps:=["many"]) fun _ _ _ _ _ _=>us1 fun _=>rfl⟩⟩,
  ⟨⟨_,_,q0i (st:=q2j) l3 c3 k3,mg_of X G a3,(q0i (st:=q2j) l3 c3 k3).binds (ps:=["cube", "row"]) fun _ _ _ _ _ _=>us2 fun _ _=>rfl⟩⟩,
  ⟨⟨_,_,q0i (st:=q2k) l4 c4 k4,mg_of X G a4,(q0i (st:=q2k) l4 c4 k4).binds (ps:=["cube"]) fun _ _ _ _ _ _=>us1 fun _=>rfl⟩⟩,
  ⟨⟨_,_,q0i (st:=q1p) l5 c5 k5,mg_of X G a5,(q0i (st:=q1p) l5 c5 k5).binds (ps:=["cube"]) fun _ _ _ _ _ _=>us1 fun _=>rfl⟩⟩,
  ⟨⟨_,_,q0i (st:=q1z) l6 c6 k6,mg_of X G a6,(q0i (st:=q1z) l6 c6 k6).binds (ps:=["table"]) fun _ _ _ _ _ _=>us1 fun _=>rfl⟩⟩,
  ⟨⟨_,_,q0i (st:=q1h) l7 c7 k7,mg_of X G a7,(q0i (st:=q1h) l7 c7 k7).binds (ps:=["wish"]) fun _ _ _ _ _ _=>us1 fun _=>rfl⟩⟩,
  ⟨⟨_,_,q0i (st:=q37) l8 c8 k8,mg_of X G a8,(q0i (st:=q37) l8 c8 k8).binds (ps:=["cube", "wish"]) fun _ _ _ _ _ _=>us2 fun _ _=>rfl⟩⟩,
  ⟨⟨_,_,q0i (st:=q2w) l9 c9 k9,mg_of X G a9,(q0i (st:=q2w) l9 c9 k9).binds (ps:=["wish"]) fun _ _ _ _ _ _=>us1 fun _=>rfl⟩⟩,
  ⟨⟨_,_,q0i (st:=q10) l10 c10 k10,mg_of X G a10,(q0i (st:=q10) l10 c10 k10).binds (ps:=["many"]) fun _ _ _ _ _ _=>us1 fun _=>rfl⟩⟩,
  ⟨⟨_,_,q0i (st:=q1v) l11 c11 k11,mg_of X G a11,(q0i (st:=q1v) l11 c11 k11).binds (ps:=["cube", "wish"]) fun _ _ _ _ _ _=>us2 fun _ _=>rfl⟩⟩,
  ⟨⟨_,_,q0i (st:=q04) l12 c12 k12,mg_of X G a12,(q0i (st:=q04) l12 c12 k12).binds (ps:=["cube"]) fun _ _ _ _ _ _=>us1 fun _=>rfl⟩⟩,
  ⟨⟨_,_,q0i (st:=q3c) l13 c13 k13,mg_of X G a13,(q0i (st:=q3c) l13 c13 k13).binds (ps:=["cover", "wish"]) fun _ _ _ _ _ _=>us2 fun _ _=>rfl⟩⟩,
  ⟨⟨_,_,q0i (st:=q05) l14 c14 k14,mg_of X G a14,(q0i (st:=q05) l14 c14 k14).binds (ps:=["wish"]) fun _ _ _ _ _ _=>us1 fun _=>rfl⟩⟩,
  ⟨⟨_,_,q0i (st:=q1q) l15 c15 k15,mg_of X G a15,(q0i (st:=q1q) l15 c15 k15).binds (ps:=["numbers", "taken"]) fun _ _ _ _ _ _=>us2 fun _ _=>rfl⟩⟩,
  ⟨⟨_,_,q0i (st:=q2g) l16 c16 k16,mg_of X G a16,(q0i (st:=q2g) l16 c16 k16).binds (ps:=["thing"]) fun _ _ _ _ _ _=>us1 fun _=>rfl⟩⟩,
  ⟨⟨_,_,q0i (st:=q1i) l17 c17 k17,mg_of X G a17,(q0i (st:=q1i) l17 c17 k17).binds (ps:=["thing", "length"]) fun _ _ _ _ _ _=>us2 fun _ _=>rfl⟩⟩,
  ⟨⟨_,_,q0i (st:=q1r) l18 c18 k18,mg_of X G a18,(q0i (st:=q1r) l18 c18 k18).binds (ps:=["thing", "truth"]) fun _ _ _ _ _ _=>us2 fun _ _=>rfl⟩⟩,
  ⟨⟨_,_,q0i (st:=q1j) l19 c19 k19,mg_of X G a19,(q0i (st:=q1j) l19 c19 k19).binds (ps:=["wish"]) fun _ _ _ _ _ _=>us1 fun _=>rfl⟩⟩,
  ⟨⟨_,_,q0i (st:=q1d) l20 c20 k20,mg_of X G a20,(q0i (st:=q1d) l20 c20 k20).binds (ps:=["wish"]) fun _ _ _ _ _ _=>us1 fun _=>rfl⟩⟩,
  ⟨⟨_,_,q0i (st:=q3z) l21 c21 k21,mg_of X G a21,(q0i (st:=q3z) l21 c21 k21).binds (ps:=["reaches", "left", "count"]) fun _ _ _ _ _ _=>us3 fun _ _ _=>rfl⟩⟩,
  ⟨⟨_,_,q0i (st:=q2o) l22 c22 k22,mg_of X G a22,(q0i (st:=q2o) l22 c22 k22).binds (ps:=["reaches", "left"]) fun _ _ _ _ _ _=>us2 fun _ _=>rfl⟩⟩,
  ⟨⟨_,_,q0i (st:=q2x) l23 c23 k23,mg_of X G a23,(q0i (st:=q2x) l23 c23 k23).binds (ps:=["reaches", "number"]) fun _ _ _ _ _ _=>us2 fun _ _=>rfl⟩⟩,
  ⟨⟨_,_,q0i (st:=q1k) l24 c24 k24,mg_of X G a24,(q0i (st:=q1k) l24 c24 k24).binds (ps:=["wish", "count", "tree"]) fun _ _ _ _ _ _=>us3 fun _ _ _=>rfl⟩⟩,
  ⟨⟨_,_,q0i (st:=q2l) l25 c25 k25,mg_of X G a25,(q0i (st:=q2l) l25 c25 k25).binds (ps:=["thing", "reaches", "left", "count"]) fun _ _ _ _ _ _=>us4 fun _ _ _ _=>rfl⟩⟩,
  ⟨⟨_,_,q0i (st:=q11) l26 c26 k26,mg_of X G a26,(q0i (st:=q11) l26 c26 k26).binds (ps:=["thing", "reach", "reaches", "left", "count"]) fun _ _ _ _ _ _=>us5 fun _ _ _ _ _=>rfl⟩⟩,
  ⟨⟨_,_,q0i (st:=q2m) l27 c27 k27,mg_of X G a27,(q0i (st:=q2m) l27 c27 k27).binds (ps:=["thing", "cube"]) fun _ _ _ _ _ _=>us2 fun _ _=>rfl⟩⟩,
  ⟨⟨_,_,q0i (st:=q07) l28 c28 k28,mg_of X G a28,(q0i (st:=q07) l28 c28 k28).binds (ps:=["_law_script", "_law_k"]) fun _ _ _ _ _ _=>us2 fun _ _=>rfl⟩⟩,
  ⟨⟨_,_,q0i (st:=q2h) l29 c29 k29,mg_of X G a29,(q0i (st:=q2h) l29 c29 k29).binds (ps:=["_law_script", "_law_k", "_law_many"]) fun _ _ _ _ _ _=>us3 fun _ _ _=>rfl⟩⟩,
  ⟨⟨_,_,q0i (st:=q12) l30 c30 k30,mg_of X G a30,(q0i (st:=q12) l30 c30 k30).binds (ps:=["_law_script", "_law_k"]) fun _ _ _ _ _ _=>us2 fun _ _=>rfl⟩⟩,
  ⟨⟨_,_,q0i (st:=q08) l31 c31 k31,mg_of X G a31,(q0i (st:=q08) l31 c31 k31).binds (ps:=["_law_cube"]) fun _ _ _ _ _ _=>us1 fun _=>rfl⟩⟩,
  ⟨⟨_,_,q0i (st:=q02) l32 c32 k32,mg_of X G a32,(q0i (st:=q02) l32 c32 k32).binds (ps:=["_law_script", "_law_many"]) fun _ _ _ _ _ _=>us2 fun _ _=>rfl⟩⟩,
  ⟨⟨_,_,q0i (st:=q13) l33 c33 k33,mg_of X G a33,(q0i (st:=q13) l33 c33 k33).binds (ps:=["_law_cube", "_law_wish"]) fun _ _ _ _ _ _=>us2 fun _ _=>rfl⟩⟩,
  ⟨⟨_,_,q0i (st:=q1e) l34 c34 k34,mg_of X G a34,(q0i (st:=q1e) l34 c34 k34).binds (ps:=["_law_wish", "_law_number", "_law_many", "_law_mark_here"]) fun _ _ _ _ _ _=>us4 fun _ _ _ _=>rfl⟩⟩,
  ⟨⟨_,_,q0i (st:=q1l) l35 c35 k35,mg_of X G a35,(q0i (st:=q1l) l35 c35 k35).binds (ps:=["_law_wish", "_law_many", "_law_count", "_law_script"]) fun _ _ _ _ _ _=>us4 fun _ _ _ _=>rfl⟩⟩,
  ⟨⟨_,_,q0i (st:=q03) l36 c36 k36,mg_of X G a36,(q0i (st:=q03) l36 c36 k36).binds (ps:=["_law_cover", "_law_wish"]) fun _ _ _ _ _ _=>us2 fun _ _=>rfl⟩⟩,
  ⟨⟨_,_,q0i (st:=q4g) l37 c37 k37,mg_of X G a37,(q0i (st:=q4g) l37 c37 k37).binds (ps:=["_law_script"]) fun _ _ _ _ _ _=>us1 fun _=>rfl⟩⟩⟩
 have B:Blt l.prog w K mg:=⟨mg_none_of X G z_all,mg_none_of X G z_any,mg_none_of X G z_bool,mg_none_of X G z_enumerate,mg_none_of X G z_int,mg_none_of X G z_isinstance,mg_none_of X G z_len,mg_none_of X G z_list,mg_none_of X G z_min,mg_none_of X G z_range,mg_none_of X G z_reversed,mg_none_of X G z_sorted,mg_none_of X G z_tuple,mg_none_of X G z_zip,⟨A_SIGNS,mg_of X G n_SIGNS,tab_SIGNS⟩⟩;have M:Exs K mg ⟨A_CircuitError,A_NoRow,A_NoTable,A_MOST_PLACES_tables,A_MOST_PLACES_covers⟩:=⟨trivial,mg_of X G n_CircuitError,mg_of X G n_NoRow,mg_of X G n_NoTable,mg_of X G n_MOST_PLACES_tables,mg_of X G n_MOST_PLACES_covers,g_MOST_PLACES_tables,g_MOST_PLACES_covers,e_NoRow,e_NoTable,c_NoRow,c_NoTable,t_NoneType_int,t_bool_int,t_int_int,t_str_int,t_tuple_int,t_list_int,t_NoneType_bool,t_bool_bool,t_int_bool,t_str_bool,t_tuple_bool,t_list_bool,t_NoneType_tuple,t_bool_tuple,t_int_tuple,t_str_tuple,t_tuple_tuple,t_list_tuple⟩
 have MK:Mks K mg:=⟨fun f oc od fd sl e1 e2=>by
  have z:=(mg_of X G a22).symm.trans e1;cases z;rw[l22]at e2;cases e2;exact⟨cc22,PP22,_,v22,h22,m22⟩⟩
 exact⟨_,fun s v=>.of_eq rfl,fun base _ _ BM=>(law_fn A B M BM MK (q0i (st:=q4g) l37 c37 k37) n).imp fun vs H Q E q=>y2j (hL _ M) q⟩
local macro_rules | `(tactic| walk_at "den") => do
 let l:=(("y2d y49 y39 y8l y8m y8n y8o y46 y19 y2a y8k z2l z2k y42 y43 y44 y45 y4m y4n y1v y8a y1w y1x y4o z2b y4p y4q y1y y8b z2c z2d z2e y8e y4t y4u y4v y4w y4x y4y y11 z2f y8f z2g x93 y4z y40 z0y z0z z00 z01 z02 z03 z04 y7b y67 y68 y69 y38 y1g z0w z0x y7a z3k z3l z3m z3n z05 x9x x9y y1h z06 z07 y7e dC_s z3o z3p y7f y7g z08 z09 z3q z1a y7h z1b z1c z3r y7i z1d z1e y7j z1f z1g z3s z3t y7k z3u y7l z1h y7m y7n y7o z1i z1j z1k y7p y7q y7r y4c y7s y7t y4d y1i y4e y1j z1l y7u y1k q4f y7v y7w x8s y7x y7y y4f z3v z1p z1q z3w z3x y4g z3y y1l y7z y4h z1r z1s y70 y71 y4i x9z x90 y1m y4j y1n y72 y4k z1t z1u z1v z1w z1x y73 z1y z3z z30 z31 z32 z33 z34 z35 z36 z37 z38 z39 z4a z4b z4c z4d z1z z10 z11 z12 z13 z14 z15 ix_t ix_l z4e z4f z4g z4h z4i z4j z4k z4l z4m z4n z4o z4p z4q sc_i sc_b sc_s sc_n sl_l at0 at1 at2 z16 rng1 rng2 init Option.map_some Option.bind_some List.map_cons List.map_nil List.length_cons List.length_nil List.replicate_succ List.replicate_zero List.cons_append List.nil_append List.getElem?_cons_zero List.getElem?_cons_succ List.set_cons_zero List.set_cons_succ if_true if_false decide_eq_true_eq reduceIte Bool.false_eq_true ite_true ite_false Nat.reduceSub Nat.reduceAdd Nat.reduceLeDiff Nat.zero_add Nat.le_refl Int.reduceLT Int.reduceLE Int.reduceNeg true_and and_true true_or or_true false_and and_false false_or or_false not_true_eq_false not_false_eq_true decide_true decide_false Bool.not_true Bool.not_false String.reduceEq Nat.reduceEqDiff y4l z4t z4u Int.reduceToNat Int.reducePow Nat.reduceLT cast0 cast1 Int.reduceEq Int.reduceMod Int.reduceDiv Int.reduceAdd Int.reduceSub Int.reduceMul y4b y7c y7d z1m z1n z1o y4a y8t y82".splitOn " ").map fun s=>Lean.mkIdent s.toName).toArray
 `(tactic| try simp only [$[$l:ident],*])
section
theorem x03(n:Nat)(ns:List Int){k:Int}(hk:0<=k):run K a (n+1) q1m [.lst (ns.map .int),.int k]=.ok (.fr (.int (ns.getD k.toNat 0))):=by
 rw[q6u];unfold q3f;walk_at "den"
 by_cases h:k<ns.length
 ·rw[if_pos (by simpa using h),x52 hk]
  have e:(ns.map W.int)[k.toNat]?=some (.int (ns.getD k.toNat 0)):=by
   have:k.toNat<ns.length:=by omega
   simp[List.getD,this]
  rw[e];walk_at "den"
 ·rw[if_neg (by simpa using h)]
  have:ns.getD k.toNat 0=0:=by
   have:¬k.toNat<ns.length:=by omega
   simp[List.getD,this]
  rw[this]
theorem x4e{i:Nat}{b:List S->SR}(st:S->List S)(p:W->Bool)(rt:W->S):∀(ws:List W)(z:S),(∀w∈ws,∀z,(p w=true->∃e',b ((st z).set i (.fr w))=.rt (rt w) e')/\(p w=false->∃z',b ((st z).set i (.fr w))=.nx (st z'))) ->
  (∀w,ws.find? p=some w->∃e',forD i b ws (st z)=.rt (rt w) e')/\(ws.find? p=none->∃z',forD i b ws (st z)=.nx (st z'))
 |[],z,h=>⟨fun w q=>by simp at q,fun _=>⟨z,rfl⟩⟩
 |w::ws,z,h=>by
  obtain⟨h1,h2⟩:=h w (by simp) z;cases q:p w with
  |true=>
   obtain⟨e',h3⟩:=h1 q;refine⟨fun u hu=>?_,fun hu=>?_⟩
   ·rw[w4j q]at hu;cases hu;exact⟨e',by rw[q3m,h3,x8s]⟩
   ·rw[w4j q]at hu;cases hu
  |false=>
   obtain⟨z',h3⟩:=h2 q;have ih:=x4e st p rt ws z' fun u hu=>h u (by simp[hu])
   rw[List.find?_cons_of_neg (by simp[q]),q3m,h3,q4f];exact ih
theorem q8p(n:Nat)(m:Int)(h0:0<=m)(h1:m<1000):run K a (n+1) q2q [.int m]=.ok (.fr (.int (2^m.toNat))):=by
 rw[q8c];unfold q4o;walk_at "den";rw[if_pos (q22 (by omega) (by omega))];walk_at "den"
 obtain⟨e',h2,z,rfl⟩:=q43 (b:=q5s K a (run K a n)) (i:=2) (lo:=0) (hi:=m) m.toNat (by omega) (fun j e=>∃z,e=[.fr (.int m),.fr (.int (2^j)),z]) [.fr (.int m),.fr (.int 1),.no] ⟨_,rfl⟩ (by
  rintro j e hj ⟨z,rfl⟩;unfold q5s;walk_at "den";exact⟨_,rfl,_,by rw[w3t,w5m]⟩)
 rw[h2];walk_at "den"
noncomputable def lg(n:Nat):Option Nat:=(List.range 11).find? fun m=>decide (2^m=n)
noncomputable def placesR(a:Adr):Option Nat->FR
 |some m=>.ok (.fr (.int m))
 |none=>.ex (.ref a.NoTable)
theorem x49(n:Nat)(ws:List W):run K a (n+2) q28 [.lst ws]=placesR a (lg ws.length):=by
 rw[q8e];unfold q4q;walk_at "den";rw[if_pos (q22 (by omega) (by omega))];walk_at "den";have e:rangeW 0 11=(List.range 11).map fun(k:Nat)=>W.int (0+(k:Int)):=rfl
 have h:=x4e (i:=1) (b:=q5t K a (run K a (n+1))) (fun z=>[.fr (.lst ws),z]) (fun w=>match w with|.int k=>decide ((ws.length:Int)=2^k.toNat)|_=>false) (fun w=>.fr w) (rangeW 0 11) .no (by
  intro w hw z;rw[e]at hw;obtain⟨k,hk,rfl⟩:=w1f.mp hw;rw[w0u]at hk;unfold q5t;walk_at "den";rw[q8p n _ (by omega) (by omega)];walk_at "den";constructor
  ·intro hp;have hp:(ws.length:Int)=2^(0+(k:Int)).toNat:=by simpa using hp
   rw[if_pos hp];exact⟨_,rfl⟩
  ·intro hp;have hp:¬(ws.length:Int)=2^(0+(k:Int)).toNat:=by simpa using hp
   rw[if_neg hp];exact⟨_,rfl⟩)
 have e2:(rangeW 0 11).find? (fun w=>match w with|.int k=>decide ((ws.length:Int)=2^k.toNat)|_=>false)=(lg ws.length).map fun(k:Nat)=>W.int (0+(k:Int)):=by
  rw[e,List.find?_map];unfold lg;congr 2;funext k
  simp only[Function.comp];rw[show(0+(k:Int)).toNat=k by omega]
  have:((ws.length:Int)=2^k)↔2^k=ws.length:=by
   constructor
   ·intro h;exact_mod_cast h.symm
   ·intro h;exact_mod_cast h.symm
  simp only[this]
 rw[e2]at h;cases q:lg ws.length with
 |some m=>
  rw[q]at h;obtain⟨e',h1⟩:=h.1 _ rfl;rw[h1];walk_at "den";simp[placesR]
 |none=>
  rw[q]at h;obtain⟨z',h1⟩:=h.2 rfl;rw[h1];walk_at "den";rfl
open M10
theorem y87(n:Nat)(i m:Int)(h0:0<=m)(h1:m<1000)(hi:i.natAbs<2^1000):run K a (n+1) q34 [.int i,.int m]=if rest m.toNat i=0 then .ok (.fr (.tup ((bits m.toNat i).reverse.map .bl)))else .ex (.ref a.NoRow):=by
 rw[x17];unfold q6n;walk_at "den";rw[if_pos (q22 (by omega) (by omega))];walk_at "den"
 obtain⟨e',h2,z,rfl⟩:=q43 (b:=q72 K a (run K a n)) (i:=4) (lo:=0) (hi:=m) m.toNat (by omega) (fun j e=>∃z,e=[.fr (.int i),.fr (.int m),.own none ((bits j i).map .bl),.fr (.int (rest j i)),z]) [.fr (.int i),.fr (.int m),.own none [],.fr (.int i),.no] ⟨_,rfl⟩ (by
  rintro j e hj ⟨z,rfl⟩;unfold q72;walk_at "den";rw[if_pos (by rw[w0a,q5e];omega)];walk_at "den";exact⟨_,rfl,_,by rw[x37,x38,w1l];rfl⟩)
 rw[h2];walk_at "den"
 by_cases hr:rest m.toNat i=0
 ·rw[if_pos hr];simp only[hr];walk_at "den";rw[List.map_reverse]
 ·rw[if_neg hr];simp only[hr];walk_at "den"
theorem x68:∀(m:Nat)(n:Int)(j:Nat),j<m->(bits m n)[j]?=some (decide (n / 2^j%2=1))
 |0,n,j,h=>by omega
 |m+1,n,0,h=>by simp[bits]
 |m+1,n,j+1,h=>by
  rw[bits,w0e,x68 m (n / 2) j (by omega)];rw[Int.ediv_ediv_of_nonneg (by decide),w3t,w5m (2^j) 2]
theorem small2{i:Int}(h1:0<=i)(h2:i<100000):i.natAbs<2^1000:=by
 have h:(2:Nat)^20<=2^1000:=w0x (by decide) (by decide);have:(2:Nat)^20=1048576:=by decide
 omega
noncomputable def rowB(m:Nat)(k:Nat):List Bool:=(bits m (k:Int)).reverse
theorem q4b(m k:Nat):(rowB m k).length=m:=by unfold rowB;rw[w3q,q5e]
theorem y88(n:Nat)(hk:k<2^m)(hm:m<=10):run K a (n+1) q34 [.int (k:Int),.int (m:Int)]=.ok (.fr (.tup ((rowB m k).map .bl))):=by
 have h10:(2:Nat)^m<=2^10:=w0x (by decide) hm;have h1024:(2:Nat)^10=1024:=by decide
 have hk2:(k:Int)<2^m:=by exact_mod_cast hk
 rw[y87 n k m (by omega) (by omega) (small2 (by omega) (by omega)),if_pos (x39 (by omega) (by simpa using hk2))];rw[w1j];rfl
theorem q6b(m:Nat):(2:Int)^m=((2^m:Nat):Int):=by exact_mod_cast rfl
theorem q3k(q:Nat):rangeW 0 (q:Int)=(List.range q).map fun k=>W.int ((k:Nat):Int):=by
 unfold rangeW;rw[w5k,w1j];apply w4z;intro k _;rw[Int.zero_add]
theorem x69(n:Nat)(hm:m<=10):run K a (n+2) q3o [.int (m:Int)]=.ok (.own none ((List.range (2^m)).map fun k=>W.tup ((rowB m k).map .bl))):=by
 have h10:(2:Nat)^m<=2^10:=w0x (by decide) hm;have h1024:(2:Nat)^10=1024:=by decide
 have hp0:0<(2:Nat)^m:=w5a (by decide);rw[q9d];unfold q45;walk_at "den";rw[q8p n m (by omega) (by omega)];walk_at "den";rw[w1j,q6b,if_pos (q22 (by omega) (by omega))];walk_at "den";rw[if_pos (by rw[q24];omega)];simp only[frz1,pj1,w0e,w0m];rw[q3k,D.x51 (g:=fun w=>match w with|.int k=>W.tup ((rowB m k.toNat).map .bl)|w=>w)]
 ·walk_at "den";rw[w2r];rfl
 ·intro w hw;obtain⟨k,hk,rfl⟩:=w1f.mp hw;rw[w0u]at hk;unfold q89;walk_at "den";rw[y88 n hk hm];walk_at "den";exact⟨_,rfl⟩
noncomputable def eo:Option Bool->W
 |none=>.non
 |some b=>.bl b
noncomputable def mt:List (Option Bool)->List Bool->Bool
 |o::c,b::r=>(o==none||o==some b)&&mt c r
 |_,_=>true
noncomputable def rin(c:List (Option Bool)):List Nat:=(List.range (2^c.length)).filter fun k=>mt c (rowB c.length k)
theorem q42{cc:Den Bool}{d:Den W}{pe:List S}{α:Type}{q:α->Bool}{g:α->W}{en:α->W}:∀(xs:List α),(∀x∈xs,∃e1,cc (.fr (en x)::pe)=.ok (q x) e1/\(q x=true->∃e2,d e1=.ok (g x) e2))->compD cc d pe (xs.map en)=some ((xs.filter q).map g)
 |[],_=>rfl
 |x::xs,h=>by
  obtain⟨e1,h1,h2⟩:=h x (by simp);have ih:=q42 (cc:=cc) (d:=d) (pe:=pe) (q:=q) (g:=g) (en:=en) xs fun u hu=>h u (by simp[hu])
  rw[w0n,x3y,h1,ih];cases hq:q x with
  |true=>
   obtain⟨e2,h3⟩:=h2 hq;simp only[hq,h3,w2l,if_true];rfl
  |false=>simp[hq,w2l]
theorem q4k{d:Den W}{pe:List S}{g:α->W}{en:α->W}(xs:List α)(h:∀x∈xs,∃e2,d (.fr (en x)::pe)=.ok (g x) e2):compD dYes d pe (xs.map en)=some (xs.map g):=by
 rw[q42 (cc:=dYes) (q:=fun _=>true) (g:=g) xs fun x hx=>⟨_,rfl,fun _=>h x hx⟩,List.filter_eq_self.mpr fun _ _=>rfl]
theorem pow10(hm:m<=10):2^m<=1024:=w0l (w0x (by decide) hm) (by decide)
theorem x0l(r0:Nat->List W->FR):∀(c:List (Option Bool))(r:List Bool),compP dYes (q7e K a r0) [] ((c.map eo).zip (r.map .bl))=some (((c.zip r).map fun p=>(p.1==none||p.1==some p.2)).map .bl)
 |[],_=>rfl
 |_::_,[]=>rfl
 |o::c,b::r=>by
  have ih:=x0l r0 c r;simp only[w0n,w3e];rw[q54,ih];unfold q7e;cases o with
  |none=>
   simp only[eo];walk_at "den";rfl
  |some d=>
   simp only[eo];walk_at "den";cases d<;>cases b<;>rfl
theorem y21:∀(c:List (Option Bool))(r:List Bool),((c.zip r).map fun p=>(p.1==none||p.1==some p.2)).all id=mt c r
 |[],_=>by cases ‹List Bool›<;>rfl
 |_::_,[]=>rfl
 |o::c,b::r=>by
  simp only[w3e,w0n,w1s,id,mt];rw[y21 c r]
theorem x8e(n:Nat){r:List Bool}(h:c.length=r.length)(hl:r.length<=1000):run K a (n+1) q35 [.tup (c.map eo),.tup (r.map .bl)]=.ok (.fr (.bl (mt c r))):=by
 rw[q98];unfold q5n;walk_at "den";simp only[w0a,h];walk_at "den";rw[if_pos (by simp[w2q];omega),x0l];walk_at "den";rw[x5d];walk_at "den";rw[y21]
theorem x4f{f:Nat->W}:∀(N j:Nat),enumL j ((List.range' j N).map f)=(List.range' j N).map fun(k:Nat)=>(W.int ((k:Nat):Int),f k)
 |0,_=>rfl
 |N+1,j=>by
  rw[List.range'_succ,w0n,w0n,<- x4f N (j+1)];rfl
theorem x0m{f:Nat->W}(N:Nat):enumL 0 ((List.range N).map f)=(List.range N).map fun(k:Nat)=>(W.int ((k:Nat):Int),f k):=by
 rw[List.range_eq_range'];exact x4f N 0
theorem x04{cc:Den Bool}{d:Den W}{pe:List S}{α:Type}{q:α->Bool}{g:α->W}{en:α->W×W}:∀(xs:List α),(∀x∈xs,∃e1,cc (.fr (en x).1::.fr (en x).2::pe)=.ok (q x) e1/\(q x=true->∃e2,d e1=.ok (g x) e2))->compP cc d pe (xs.map en)=some ((xs.filter q).map g)
 |[],_=>rfl
 |x::xs,h=>by
  obtain⟨e1,h1,h2⟩:=h x (by simp);have ih:=x04 (cc:=cc) (d:=d) (pe:=pe) (q:=q) (g:=g) (en:=en) xs fun u hu=>h u (by simp[hu])
  rw[w0n,q54,h1,ih];cases hq:q x with
  |true=>
   obtain⟨e2,h3⟩:=h2 hq;simp only[hq,h3,w2l,if_true];rfl
  |false=>simp[hq,w2l]
theorem q5j(n:Nat)(hc:c.length<=10):run K a (n+3) q2r [.tup (c.map eo)]=.ok (.own none ((rin c).map fun(k:Nat)=>W.int (k:Int))):=by
 have h10:=pow10 hc;rw[q99];unfold q5o;walk_at "den";rw[w0a,x69 n hc];walk_at "den";rw[x0m,if_pos (by rw[w0a,w1v];omega)];simp only[frz1,pj1,w0e,w0m];rw[x04 (q:=fun k=>mt c (rowB c.length k)) (g:=fun(k:Nat)=>W.int (k:Int))]
 ·walk_at "den";rfl
 ·intro k hk;unfold q97 q96;walk_at "den";rw[x8e (n+1) (by rw[q4b]) (by rw[q4b];omega)];walk_at "den";exact⟨_,rfl,fun _=>⟨_,rfl⟩⟩
theorem rin_mem:k∈rin c↔k<2^c.length/\mt c (rowB c.length k)=true:=by
 unfold rin;rw[w0s,w0u]
theorem x84(c:List (Option Bool)):(rin c).length<=2^c.length:=by
 unfold rin;refine w0l (w1c _ _) ?_;rw[w1v];exact w0f _
theorem z2t(h:m<=10):lg (2^m)=some m:=by
 have:m=0\/m=1\/m=2\/m=3\/m=4\/m=5\/m=6\/m=7\/m=8\/m=9\/m=10:=by omega
 rcases this with h|h|h|h|h|h|h|h|h|h|h<;>(subst h;decide)
theorem x3d(n:Nat)(hw:ws.length=2^m)(hm:m<=4):run K a (n+3) q1s [.lst ws]=.ok (.fr (.int m)):=by
 rw[q62];unfold q3q;walk_at "den";rw[x49 n,hw,z2t (by omega)];unfold placesR;walk_at "den";rw[if_neg (by omega)]
noncomputable def fitB(c w:List (Option Bool)):Bool:=(rin c).all fun k=>w.getD k none != some false
theorem y22(o:Option Bool):nisW (eo o) (.bl false)=some (.bl (o != some false)):=by
 cases o with
 |none=>rfl
 |some b=>cases b<;>rfl
theorem q9v{w:List (Option Bool)}(h:k<w.length):atI (w.map eo) (k:Int)=some (eo (w.getD k none)):=by
 refine q7i ?_;simp[List.getD,h]
theorem x05(n:Nat)(hw:w.length=2^c.length)(hc:c.length<=4):run K a (n+4) q44 [.tup (c.map eo),.lst (w.map eo)]=.ok (.fr (.bl (fitB c w))):=by
 have h10:=pow10 (show c.length<=10 by omega);rw[x6o];unfold q9a;walk_at "den";rw[x3d n (by rw[w0a];exact hw) hc];walk_at "den";simp only[w0a];walk_at "den";rw[q5j n (by omega)];walk_at "den";rw[if_pos (by rw[w0a];have:=x84 c;omega)];simp only[frz1,pj1,w0e,w0m];rw[q4k (g:=fun k=>W.bl (w.getD k none != some false))]
 ·walk_at "den";have e:(rin c).map (fun k=>W.bl (w.getD k none != some false))=((rin c).map fun k=>w.getD k none != some false).map .bl:=by rw[w2r];rfl
  rw[e,x5d];walk_at "den";unfold fitB;rw[w3s];rfl
 ·intro k hk;have h1:=rin_mem.mp hk;unfold x6n;walk_at "den";rw[q9v (by omega)];walk_at "den";rw[y22];exact⟨_,rfl⟩
theorem q6c(n:Nat)(ns:List Int){k m:Int}(hk:0<=k)(hk2:k<=1000000)(hm:0<m):∃v,run K a (n+2) q0x [.lst (ns.map .int),.int k,.int m]=.ok (.fr (.int v))/\0<=v/\v<m:=by
 rw[q9g];unfold q49;walk_at "den";rw[x03 n ns hk];walk_at "den";generalize hx:((ns.getD k.toNat 0*48271+7919*((ns.map W.int).length:Int)+104729*k)%2147483647)=x;have h1:0<=x:=by rw[<- hx];exact w2s _ (by decide)
 have h2:x<2147483647:=by rw[<- hx];exact w2a _ (by decide)
 rw[if_pos (.inl ⟨by omega,by omega⟩),if_pos hm];exact⟨_,rfl,w2s _ (by omega),w2a _ hm⟩
theorem x4g(hf:Fit ns)(i:Nat):Builtin.Int.intBits (ns.getD i 0)<=1048576:=by
 rw[List.getD_eq_getElem?_getD];cases h:ns[i]? with
 |none=>exact w1b _
 |some x=>exact hf.2 x (w1g h)
theorem q5g(hf:Fit ns)(n:Nat){k:Int}(hk:0<=k)(hk2:k<=1000000):∃v,run K a (n+2) q0y [.lst (ns.map .int),.int k]=.ok (.fr (.int v)):=by
 rw[q8h];unfold q4t;walk_at "den";rw[x03 n ns (show(0:Int)<=4+k by omega)];walk_at "den";rw[x03 n ns (show(0:Int)<=3 by decide)];walk_at "den";rw[if_pos (.inr ⟨by omega,by omega⟩)];generalize hx:(ns.getD (4+k).toNat 0*40692+ns.getD 3 0*48271*(k+1)+7919*k)=x
 have hb:Builtin.Int.intBits x<=67108864:=by
  rw[<- hx];exact w0l (PyProof.Rows.bits_add (PyProof.Rows.bits_add (PyProof.Rows.bits_mul (x4g hf _) (PySem.intBits_le_64 (by omega) (by omega))) (PyProof.Rows.bits_mul (PyProof.Rows.bits_mul (x4g hf _) (PySem.intBits_le_64 (by omega) (by omega))) (PySem.intBits_le_64 (by omega) (by omega)))) (PyProof.Rows.bits_mul (PySem.intBits_le_64 (by omega) (by omega)) (PySem.intBits_le_64 (by omega) (by omega)))) (by decide)
 rw[y8z hb hb (by decide)];walk_at "den";exact⟨_,rfl⟩
theorem x85{l:List (Option Bool)}(h:l≠[])(v:Int):∃o,atI (l.map eo) (v%((l.map eo).length:Int))=some (eo o):=by
 have hp:0<l.length:=w5b.mpr h;have h1:=w2s v (show((l.map eo).length:Int)≠0 by rw[w0a];omega);have h2:=w2a v (show(0:Int)<((l.map eo).length:Int) by rw[w0a];omega);rw[w0a]at h2;rw[x52 h1];refine⟨l.getD (v%((l.map eo).length:Int)).toNat none,?_⟩;rw[w0a]at h1 |-
 have h3:(v%(l.length:Int)).toNat<l.length:=by omega
 simp[List.getD,h3]
theorem x3e{d:Den W}{pe:List S}(h:∀w∈ws,∃o e2,d (.fr w::pe)=.ok (eo o) e2):∃os:List (Option Bool),compD dYes d pe ws=some (os.map eo)/\os.length=ws.length:=by
 induction ws with
 |nil=>exact⟨[],rfl,rfl⟩
 |cons w ws ih=>
  obtain⟨os,h1,h2⟩:=ih fun u hu=>h u (by simp[hu])
  obtain⟨o,e2,h3⟩:=h w (by simp);refine⟨o::os,?_,by simp[h2]⟩;rw[x3y];simp only[y1m,h3,h1];rfl
theorem x7a(ls:List (List (Option Bool)))(h:∀l∈ls,l≠[]){v:Int}(h0:0<=v)(h1:v<ls.length):∃l,l≠[]/\atI (ls.map fun l=>W.lst (l.map eo)) v=some (.lst (l.map eo)):=by
 have h2:v.toNat<ls.length:=by omega
 refine⟨ls[v.toNat],h _ (w2y h2),?_⟩;rw[x52 h0];simp[h2]
theorem x06{m:Nat}(hm:m<=4)(hq:2^m=q):atI [W.int 1,W.int 2,W.int 4,W.int 8,W.int 16] (m:Int)=some (.int (q:Int)):=by
 subst hq;have:m=0\/m=1\/m=2\/m=3\/m=4:=by omega
 rcases this with h|h|h|h|h<;>(subst h;rfl)
theorem wishE(n:Nat)(hf:Fit ns){l:List (Option Bool)}(hl:l≠[])(hk:k<=100000):∃o e2,q2y K a (run K a (n+2)) [.fr (.int (k:Int)),.fr (.lst (ns.map .int)),.fr (.lst (l.map eo))]=.ok (eo o) e2:=by
 unfold q2y;walk_at "den";obtain⟨v,h⟩:=q5g (K:=K) (a:=a) hf n (k:=(k:Int)) (by omega) (by omega);rw[h];walk_at "den";have hp:0<l.length:=w5b.mpr hl;rw[if_pos (by rw[w0a];omega)];walk_at "den";obtain⟨o,ho⟩:=x85 hl v;rw[ho];walk_at "den";exact⟨o,_,rfl⟩
theorem x4h(n:Nat)(hf:Fit ns){l:List (Option Bool)}(hl:l≠[])(hq:q<=100):∃w:List (Option Bool),compD dYes (q2y K a (run K a (n+2))) [.fr (.lst (ns.map .int)),.fr (.lst (l.map eo))] (rangeW 0 (q:Int))=some (w.map eo)/\w.length=q:=by
 rw[q3k]
 obtain⟨os,h1,h2⟩:=x3e (d:=q2y K a (run K a (n+2))) (pe:=[.fr (.lst (ns.map .int)),.fr (.lst (l.map eo))]) (ws:=(List.range q).map fun k=>W.int ((k:Nat):Int)) (by
  intro w hw;obtain⟨k,hk,rfl⟩:=w1f.mp hw;rw[w0u]at hk;exact wishE n hf hl (by omega))
 exact⟨os,h1,by rw[h2,w0a,w1v]⟩
theorem y0g(hf:Fit ns)(n:Nat)(hm:m<=4):∃w:List (Option Bool),run K a (n+3) q1n [.lst (ns.map .int),.int (m:Int)]=.ok (.own none (w.map eo))/\w.length=2^m:=by
 have h16:2^m<=16:=w0l (w0x (by decide) hm) (by decide);obtain⟨q,hq⟩:∃q,2^m=q:=⟨_,rfl⟩;rw[hq]at h16 |-
 rw[q6v];unfold q3g;walk_at "den";obtain⟨v1,h1,b1,c1⟩:=q6c (K:=K) (a:=a) n ns (k:=1) (m:=8) (by decide) (by decide) (by decide);obtain⟨v2,h2,b2,c2⟩:=q6c (K:=K) (a:=a) n ns (k:=2) (m:=20) (by decide) (by decide) (by decide);rw[h1];walk_at "den";obtain⟨l1,hl1,e1⟩:=x7a [[some false,some true,none],[some false,some true,some true],[some false,some false,some true,none],[some true,some true,none,some false,some true],[some false,some true],[some false,some true],[some false,none,some true],[some true,some false,some false,some false]] (by decide) b1 c1;simp only[w0n,w1t,eo]at e1;rw[e1];walk_at "den";rw[h2];walk_at "den"
 by_cases h3:v2<3
 ·rw[if_pos h3];obtain⟨l2,hl2,e2⟩:=x7a [[some true],[some false],[none]] (by decide) b2 h3;simp only[w0n,w1t,eo]at e2;rw[e2];walk_at "den";rw[x06 hm hq];walk_at "den";rw[if_pos (q22 (by omega) (by omega))];walk_at "den";rw[if_pos (by rw[q24];omega)];simp only[frz1,pj1,w0e,w0m];obtain⟨w,hw,hwl⟩:=x4h (K:=K) (a:=a) n hf hl2 (q:=q) (by omega);rw[hw];exact⟨w,rfl,hwl⟩
 ·rw[if_neg h3];walk_at "den";rw[x06 hm hq];walk_at "den";rw[if_pos (q22 (by omega) (by omega))];walk_at "den";rw[if_pos (by rw[q24];omega)];simp only[frz1,pj1,w0e,w0m];obtain⟨w,hw,hwl⟩:=x4h (K:=K) (a:=a) n hf hl1 (q:=q) (by omega);rw[hw];exact⟨w,rfl,hwl⟩
open M10
noncomputable def lrF:List (Option Bool)->List Int->List Int
 |[],l=>l
 |none::c,l=>lrF c (l.map (fun x=>2*x)++l.map (fun x=>2*x+1))
 |some b::c,l=>lrF c (l.map fun x=>2*x+b2 b)
theorem q7u:∀(c:List (Option Bool))(l:List Int),(lrF c l).length<=l.length*2^c.length
 |[],l=>by simp[lrF]
 |none::c,l=>by
  refine w0l (q7u c _) ?_;rw[w0q,w0a,w0a,w0p,w3u,w5n (2^c.length) 2,<- Nat.mul_assoc];exact Nat.mul_le_mul_right _ (by omega)
 |some b::c,l=>by
  refine w0l (q7u c _) ?_;rw[w0a,w0p,w3u];exact w5c _ (by omega)
theorem x3f:∀(c:List (Option Bool))(l:List Int)(x:Int),x∈lrF c l↔∃y∈l,∃r:List Bool,r.length=c.length/\mt c r=true/\x=numG y r
 |[],l,x=>by
  constructor
  ·intro h;exact⟨x,h,[],rfl,rfl,rfl⟩
  ·rintro⟨y,hy,r,hr,_,rfl⟩;have:r=[]:=w3f.mp hr;subst this;exact hy
 |none::c,l,x=>by
  show x∈lrF c _↔_;rw[x3f c];constructor
  ·rintro⟨y,hy,r,hr,hm,rfl⟩;rcases w2e.mp hy with h|h
   ·obtain⟨z,hz,rfl⟩:=w1f.mp h;exact⟨z,hz,false::r,by simp[hr],by simpa [mt]using hm,by simp[numG]⟩
   ·obtain⟨z,hz,rfl⟩:=w1f.mp h;exact⟨z,hz,true::r,by simp[hr],by simpa [mt]using hm,by simp[numG]⟩
  ·rintro⟨y,hy,r,hr,hm,rfl⟩;cases r with
   |nil=>simp at hr
   |cons b r=>
    refine⟨2*y+b2 b,?_,r,by simpa using hr,by simpa [mt]using hm,by simp[numG,b2]⟩;cases b with
    |false=>exact w2w _ (w1f.mpr ⟨y,hy,by simp[b2]⟩)
    |true=>exact w0i _ (w1f.mpr ⟨y,hy,by simp[b2]⟩)
 |some d::c,l,x=>by
  show x∈lrF c _↔_;rw[x3f c];constructor
  ·rintro⟨y,hy,r,hr,hm,rfl⟩;obtain⟨z,hz,rfl⟩:=w1f.mp hy;exact⟨z,hz,d::r,by simp[hr],by simpa [mt]using hm,by simp[numG,b2]⟩
  ·rintro⟨y,hy,r,hr,hm,rfl⟩;cases r with
   |nil=>simp at hr
   |cons b r=>
    have h2:(d=b)/\mt c r=true:=by simpa [mt]using hm
    obtain⟨rfl,h3⟩:=h2;exact⟨2*y+b2 d,w1f.mpr ⟨y,hy,rfl⟩,r,by simpa using hr,h3,by simp[numG,b2]⟩
theorem x7b(c:List (Option Bool))(x:Int):x∈lrF c [0]↔∃k∈rin c,x=((k:Nat):Int):=by
 rw[x3f];constructor
 ·rintro⟨y,hy,r,hr,hm,rfl⟩;obtain rfl:y=0:=by simpa using hy
  have hb:=x10 r;have e:((num r).toNat:Int)=num r:=w5d hb.1;refine⟨(num r).toNat,rin_mem.mpr ⟨?_,?_⟩,e.symm⟩
  ·have h2:((num r).toNat:Int)<((2^r.length:Nat):Int):=by rw[e,<- q6b];exact hb.2
   rw[<- hr]
   exact_mod_cast h2
  ·unfold rowB;rw[e,<- hr,y5e];exact hm
 ·rintro⟨k,hk,rfl⟩;obtain⟨h1,h2⟩:=rin_mem.mp hk;refine⟨0,by simp,rowB c.length k,q4b _ _,h2,?_⟩;have h3:(k:Int)<2^c.length:=by rw[q6b];exact_mod_cast h1
  exact(x02 (by omega) h3).symm
theorem q5a(r0:Nat->List W->FR)(cu:W):∀(c:List (Option Bool))(l:List Int)(z:S),l.length*2^c.length<=1000->∃z',forD 2 (q20 K a r0) (c.map eo) [.fr cu,.fr (.lst (l.map .int)),z]=.nx [.fr cu,.fr (.lst ((lrF c l).map .int)),z']
 |[],l,z,_=>⟨z,rfl⟩
 |none::c,l,z,h=>by
  rw[w0p,w3u,w5n (2^c.length) 2,<- Nat.mul_assoc]at h;have hp:0<2^c.length:=w5a (by decide);have hl:l.length*2<=1000:=w0l (w4d _ hp) h;obtain⟨z',ih⟩:=q5a r0 cu c (l.map (fun x=>2*x)++l.map (fun x=>2*x+1)) (.fr .non) (by rw[w0q,w0a,w0a,<- Nat.mul_two];exact h)
  refine⟨z',?_⟩;rw[w0n,q3m]
  have e1:q20 K a r0 [.fr cu,.fr (.lst (l.map .int)),.fr .non]=.nx [.fr cu,.fr (.lst ((l.map (fun x=>2*x)++l.map (fun x=>2*x+1)).map .int)),.fr .non]:=by
   unfold q20;walk_at "den";rw[if_pos (by rw[w0a];omega),q4k (g:=fun x=>W.int (2*x))]
   ·walk_at "den";rw[q4k (g:=fun x=>W.int (2*x+1))]
    ·walk_at "den";rw[if_pos (by simp only[w0a];omega)];walk_at "den";simp[Function.comp_def];omega
    ·intro x _;unfold q8a;walk_at "den";exact⟨_,rfl⟩
   ·intro x _;unfold q79;walk_at "den";exact⟨_,rfl⟩
  simp only[eo,w2b,w2c];rw[e1,q4f];exact ih
 |some b::c,l,z,h=>by
  rw[w0p,w3u]at h;have hp:0<2^c.length:=w5a (by decide);have hl:l.length*2^c.length<=1000:=w0l (w5c _ (by omega)) h;have hl2:l.length<=1000:=w0l (w4d _ hp) hl;obtain⟨z',ih⟩:=q5a r0 cu c (l.map fun x=>2*x+b2 b) (.fr (.bl b)) (by rw[w0a];exact hl)
  refine⟨z',?_⟩;rw[w0n,q3m]
  have e1:q20 K a r0 [.fr cu,.fr (.lst (l.map .int)),.fr (.bl b)]=.nx [.fr cu,.fr (.lst ((l.map fun x=>2*x+b2 b).map .int)),.fr (.bl b)]:=by
   unfold q20;walk_at "den";rw[if_pos (by rw[w0a];omega)];simp only[frz1,pj1,w0e,w0m];rw[q4k (g:=fun x=>W.int (2*x+b2 b))]
   ·walk_at "den";simp[Function.comp_def]
   ·intro x _;unfold q8b;walk_at "den";exact⟨_,rfl⟩
  simp only[eo,w2b,w2c];rw[e1,q4f];exact ih
theorem x0n(n:Nat)(hc:c.length<=5):run K a (n+1) q2d [.tup (c.map eo)]=.ok (.fr (.lst ((sortI (lrF c [0])).map .int))):=by
 have h32:2^c.length<=32:=w0l (w0x (by decide) hc) (by decide);have hl:=q7u c [0];simp only[w0p,w2f]at hl;rw[q5y];unfold q31;walk_at "den";obtain⟨z',h⟩:=q5a (K:=K) (a:=a) (run K a n) (.tup (c.map eo)) c [0] .no (by simp;omega);simp only[w0n,w1t]at h;rw[h];walk_at "den";rw[x6c (by omega)];walk_at "den"
theorem q73(r0:Nat->List W->FR)(cu:W)(w:List (Option Bool)):∀(xs:List Int)(z:S),(∀x∈xs,0<=x/\x<w.length) ->
  ((xs.any fun x=>w.getD x.toNat none==some false)=true->∃e',forD 2 (q3w K a r0) (xs.map .int) [.fr cu,.fr (.lst (w.map eo)),z]=.rt (.fr (.bl false)) e') /\
  ((xs.any fun x=>w.getD x.toNat none==some false)=false->∃z',forD 2 (q3w K a r0) (xs.map .int) [.fr cu,.fr (.lst (w.map eo)),z]=.nx [.fr cu,.fr (.lst (w.map eo)),z'])
 |[],z,_=>⟨fun h=>by simp at h,fun _=>⟨z,rfl⟩⟩
 |x::xs,z,h=>by
  obtain⟨h1,h2⟩:=h x (by simp);have ih:=q73 r0 cu w xs (.fr (.int x)) fun u hu=>h u (by simp[hu])
  have e:atI (w.map eo) x=some (eo (w.getD x.toNat none)):=by
   have:=q9v (w:=w) (k:=x.toNat) (by omega)
   rwa [w5d h1]at this
  have eb:q3w K a r0 [.fr cu,.fr (.lst (w.map eo)),.fr (.int x)]=if(w.getD x.toNat none==some false)=true then .rt (.fr (.bl false)) [.fr cu,.fr (.lst (w.map eo)),.fr (.int x)]else .nx [.fr cu,.fr (.lst (w.map eo)),.fr (.int x)]:=by
   unfold q3w;walk_at "den";rw[e];walk_at "den";cases w.getD x.toNat none with
   |none=>rfl
   |some b=>cases b<;>rfl
  rw[w0n,q3m];simp only[w2b,w2c];rw[eb,w3c];cases hb:(w.getD x.toNat none==some false)with
  |true=>
   rw[if_pos rfl];exact⟨fun _=>⟨_,rfl⟩,fun q=>by simp at q⟩
  |false=>
   rw[if_neg (by decide),q4f,Bool.false_or];exact ih
theorem y23(n:Nat)(hw:w.length=2^c.length)(hc:c.length<=5):run K a (n+2) q2e [.tup (c.map eo),.lst (w.map eo)]=.ok (.fr (.bl (fitB c w))):=by
 rw[q5z];unfold q32;walk_at "den";rw[x0n n hc];walk_at "den";have hm:∀x,x∈sortI (lrF c [0])↔∃k∈rin c,x=((k:Nat):Int):=fun x=>by rw[(q3n _).mem_iff,x7b]
 obtain⟨h1,h2⟩:=q73 (K:=K) (a:=a) (run K a (n+1)) (.tup (c.map eo)) w (sortI (lrF c [0])) .no (fun x hx=>by
  obtain⟨k,hk,rfl⟩:=(hm x).mp hx;have:=(rin_mem.mp hk).1;omega)
 have e:fitB c w=!((sortI (lrF c [0])).any fun x=>w.getD x.toNat none==some false):=by
  apply w1k.mpr;unfold fitB;rw[w0t,w3h,<- w4h,w1y];constructor
  ·rintro q ⟨x,hx,h⟩;obtain⟨k,hk,rfl⟩:=(hm x).mp hx;have:=q k hk;rw[w1j]at h;simp at h this;exact this h
  ·intro q k hk;have:=fun h=>q ⟨(k:Int),(hm _).mpr ⟨k,hk,rfl⟩,h⟩
   rw[w1j]at this
   simpa using this
 rw[e];cases hb:((sortI (lrF c [0])).any fun x=>w.getD x.toNat none==some false)with
 |true=>
  obtain⟨e',h3⟩:=h1 hb;rw[h3];rfl
 |false=>
  obtain⟨z',h3⟩:=h2 hb;rw[h3];walk_at "den"
theorem x07:∀(w:List (Option Bool)),depWs (w.map eo)=0
 |[]=>rfl
 |o::w=>by
  show max (depW (eo o)) (depWs (w.map eo))=0;rw[x07 w];cases o<;>rfl
noncomputable def encU(c:List (Option Bool)):W:=.tup (c.map eo)
noncomputable def up3(c:List (Option Bool)):List (List (Option Bool)):=[c++[none],c++[some false],c++[some true]]
noncomputable def cubesF:Nat->List (List (Option Bool))
 |0=>[[]]
 |m+1=>(cubesF m).flatMap up3
theorem q5b:∀m,(cubesF m).length=3^m
 |0=>rfl
 |m+1=>by
  show((cubesF m).flatMap up3).length=_;rw[List.length_flatMap]
  have:∀l:List (List (Option Bool)),(l.map fun c=>(up3 c).length).sum=3*l.length:=by
   intro l
   induction l with
   |nil=>rfl
   |cons c l ih=>rw[w0n,List.sum_cons,ih,w0p];show 3+3*l.length=_;omega
  rw[this,q5b m,w3u,w5n]
theorem q2i:∀(m:Nat)(c:List (Option Bool)),c∈cubesF m↔c.length=m
 |0,c=>by
  show c∈[[]]↔_;rw[w1h];exact w3f.symm
 |m+1,c=>by
  show c∈(cubesF m).flatMap up3↔_;rw[List.mem_flatMap];constructor
  ·rintro⟨d,hd,h⟩;have:=(q2i m d).mp hd;simp only[up3,w0h,w1d,or_false]at h;rcases h with rfl|rfl|rfl<;>simp[this]
  ·intro h;rcases List.eq_nil_or_concat c with rfl|⟨d,o,rfl⟩
   ·simp at h
   ·rw[List.concat_eq_append]at h |-
    refine⟨d,(q2i m d).mpr (by simpa using h),?_⟩;cases o with
    |none=>simp[up3]
    |some b=>cases b<;>simp[up3]
theorem y5l{d:List (Option Bool)}{o p:Option Bool}(h:c++[o]=d++[p]):c=d/\o=p:=by
 have:=List.append_inj' h rfl;exact⟨this.1,by simpa using this.2⟩
theorem q9k:∀m,(cubesF m).Nodup
 |0=>by decide
 |m+1=>by
  show((cubesF m).flatMap up3).Nodup;rw[w3r,w4p];refine⟨fun c _=>?_,(w3r.mp (q9k m)).imp fun {c d} hne x hx y hy e=>?_⟩
  ·simp[up3]
  ·simp only[up3,w0h,w1d,or_false]at hx hy;subst e;rcases hx with rfl|rfl|rfl<;>rcases hy with h|h|h<;>exact hne (y5l h).1
theorem y89(c:List (Option Bool)):(up3 c).map encU=[.tup (c.map eo++[.non]),.tup (c.map eo++[.bl false]),.tup (c.map eo++[.bl true])]:=by
 simp[up3,encU,eo]
theorem x7c(r0:Nat->List W->FR)(x0 x1 x2:S):∀(cs acc:List (List (Option Bool)))(z:S),(∀c∈cs,c.length<=10)->acc.length+3*cs.length<=1000 ->
  ∃z',forD 4 (q4v K a r0) (cs.map encU) [x0,x1,x2,.own none (acc.map encU),z]=.nx [x0,x1,x2,.own none ((acc++cs.flatMap up3).map encU),z']
 |[],acc,z,_,_=>⟨z,by simp[forD]⟩
 |c::cs,acc,z,hc,hl=>by
  have h1:=hc c (by simp);rw[w0p]at hl;obtain⟨z',ih⟩:=x7c r0 x0 x1 x2 cs (acc++up3 c) (.fr (encU c)) (fun d h=>hc d (by simp[h])) (by rw[w0q];show acc.length+3+_<=_;omega)
  refine⟨z',?_⟩;rw[w0n,q3m]
  have e1:q4v K a r0 [x0,x1,x2,.own none (acc.map encU),.fr (encU c)]=.nx [x0,x1,x2,.own none ((acc++up3 c).map encU),.fr (encU c)]:=by
   unfold q4v encU;walk_at "den";have l1:(c.map eo).length<=16777215:=by rw[w0a];omega
   have l2:(acc.map fun c=>W.tup (c.map eo)).length<=16777213:=by rw[w0a];omega
   simp only[l1,l2,if_true];rw[w1l,show(up3 c).map (fun c=>W.tup (c.map eo))=(up3 c).map encU from rfl,y89]
  simp only[w2b,w2c];rw[e1,q4f,ih,List.flatMap_cons,w2v]
theorem q69(h:m<=4):3^m<=81:=w0l (w0x (by decide) h) (by decide)
theorem x5a(n:Nat)(hm:m<=4):run K a (n+1) q29 [.int (m:Int)]=.ok (.fr (.lst ((cubesF m).map encU))):=by
 rw[q8f];unfold q4r;walk_at "den";rw[if_pos (q22 (by omega) (by omega))];walk_at "den"
 obtain⟨e',h5,z2,z3,z4,rfl⟩:=q43 (b:=q5u K a (run K a n)) (i:=2) (lo:=0) (hi:=(m:Int)) m (by omega) (fun j e=>∃(z2 z3 z4:S),e=[.fr (.int (m:Int)),.fr (.lst ((cubesF j).map encU)),z2,z3,z4]) [.fr (.int (m:Int)),.fr (.lst [.tup []]),.no,.no,.no] ⟨_,_,_,rfl⟩ (by
  rintro j e hj ⟨z2,z3,z4,rfl⟩;unfold q5u;walk_at "den";obtain⟨z',h⟩:=x7c (K:=K) (a:=a) (run K a n) (.fr (.int (m:Int))) (.fr (.lst ((cubesF j).map encU))) (.fr (.int (0+(j:Int)))) (cubesF j) [] z4 (fun c h=>by rw[(q2i j c).mp h];omega) (by rw[q5b];have:=q69 (show j<=4 by omega);simp only[w2f];omega)
  simp only[w1t,w4n]at h;rw[h];walk_at "den";exact⟨_,rfl,_,_,_,rfl⟩)
 rw[h5];walk_at "den"
open M10
noncomputable def wide(c:List (Option Bool))(k:Nat):List (Option Bool):=c.take k++none::c.drop (k+1)
theorem q5h(h:k<c.length):(wide c k).length=c.length:=by
 unfold wide;simp;omega
noncomputable def tru(c w:List (Option Bool)):Bool:=(rin c).any fun k=>w.getD k none==some true
noncomputable def wid(c:List (Option Bool)):List (List (Option Bool)):=((List.range c.length).filter fun k=>c.getD k none != none).map (wide c)
noncomputable def prB(c w:List (Option Bool)):Bool:=fitB c w&&(tru c w&&!((wid c).any fun d=>fitB d w))
theorem y9a(o:Option Bool):nisW (eo o) .non=some (.bl (o != none)):=by
 cases o with
 |none=>rfl
 |some b=>rfl
theorem q9w(o:Option Bool):isW (eo o) (.bl true)=some (.bl (o==some true)):=by
 cases o with
 |none=>rfl
 |some b=>cases b<;>rfl
theorem x7d{xs:List W}(h:k<=xs.length):cutW xs none (some (k:Int))=xs.take k:=by
 unfold cutW;rw[HT.sIx_none,HT.sIx_nat,Nat.min_eq_left h];simp
theorem x08{xs:List W}(h:k<=xs.length):cutW xs (some (k:Int)) none=xs.drop k:=by
 unfold cutW;rw[HT.sIx_none,HT.sIx_nat,Nat.min_eq_left h];exact List.take_of_length_le (by simp)
theorem z4z(h:k<c.length):slW (.tup (c.map eo)) none (some (k:Int))=some (.tup ((c.take k).map eo)):=by
 show(if ¬(HT.sIx (c.map eo).length 0 none=0/\HT.sIx (c.map eo).length (c.map eo).length (some (k:Int))=(c.map eo).length)then some (W.tup (cutW (c.map eo) none (some (k:Int))))else none)=_;rw[HT.sIx_nat,if_pos (by rw[w0a];omega),x7d (by rw[w0a];omega),List.map_take]
theorem y9b(h:k<c.length):slW (.tup (c.map eo)) (some ((k:Int)+1)) none=some (.tup ((c.drop (k+1)).map eo)):=by
 rw[show(k:Int)+1=((k+1:Nat):Int)from rfl];show(if ¬(HT.sIx (c.map eo).length 0 (some ((k+1:Nat):Int))=0/\HT.sIx (c.map eo).length (c.map eo).length none=(c.map eo).length)then some (W.tup (cutW (c.map eo) (some ((k+1:Nat):Int)) none))else none)=_;rw[HT.sIx_nat,if_pos (by rw[w0a];omega),x08 (by rw[w0a];omega),List.map_drop]
theorem y5m(c:List (Option Bool))(k:Nat):(c.take k).map eo++[W.non]++(c.drop (k+1)).map eo=(wide c k).map eo:=by
 unfold wide;simp[eo]
theorem y24(n:Nat)(hc:c.length<=10):run K a (n+1) q2n [.tup (c.map eo)]=.ok (.own none ((wid c).map encU)):=by
 rw[q63];unfold q3r;walk_at "den";rw[w0a,if_pos (q22 (by omega) (by omega))];walk_at "den";rw[if_pos (by rw[q24];omega)];simp only[frz1,pj1,w0e,w0m];rw[q3k,q42 (q:=fun k=>c.getD k none != none) (g:=fun k=>encU (wide c k)) (en:=fun k=>W.int ((k:Nat):Int)) (List.range c.length)]
 ·unfold wid;rw[w2r];rfl
 ·intro k hk;rw[w0u]at hk;unfold q6z q6y;walk_at "den";rw[q9v hk];walk_at "den";rw[y9a];walk_at "den";refine⟨_,rfl,fun _=>?_⟩
  walk_at "den";rw[z4z hk];walk_at "den";rw[if_pos (by rw[w0a,w2j];omega)];walk_at "den";rw[y9b hk];walk_at "den";rw[if_pos (by simp only[w0q,w0a,w2j,w2k,w0p,w2f];omega)];rw[y5m];exact⟨_,rfl⟩
theorem y9c{d:List (Option Bool)}(h:d∈wid c):d.length=c.length:=by
 unfold wid at h;obtain⟨k,hk,rfl⟩:=w1f.mp h;have:=(w0s.mp hk).1;rw[w0u]at this;exact q5h this
theorem y25(bs:List Bool):any1 [.lst (bs.map .bl)]=some (.bl (bs.any id)):=z4v
theorem y9d(c:List (Option Bool)):(wid c).length<=c.length:=by
 unfold wid;rw[w0a];refine w0l (w1c _ _) ?_;rw[w1v];exact w0f _
theorem x7e(n:Nat)(hw:w.length=2^c.length)(hc:c.length<=4):run K a (n+5) q3p [.tup (c.map eo),.lst (w.map eo)]=.ok (.fr (.bl (prB c w))):=by
 have h10:=pow10 (show c.length<=10 by omega);have hr:=x84 c;have hwl:=y9d c;rw[q9e];unfold q46;walk_at "den";rw[x05 n hw hc];unfold prB;cases hf:fitB c w with
 |false=>walk_at "den";rfl
 |true=>
  walk_at "den";rw[q5j (n+1) (by omega)];walk_at "den";rw[if_pos (by rw[w0a];omega)];simp only[frz1,pj1,w0e,w0m];rw[q4k (g:=fun k=>W.bl (w.getD k none==some true))]
  ·walk_at "den";have e:(rin c).map (fun k=>W.bl (w.getD k none==some true))=((rin c).map fun k=>w.getD k none==some true).map .bl:=by rw[w2r];rfl
   rw[e,y25];walk_at "den";have e2:((rin c).map fun k=>w.getD k none==some true).any id=tru c w:=by unfold tru;rw[w5l];rfl
   rw[e2];cases ht:tru c w with
   |false=>walk_at "den";rfl
   |true=>
    walk_at "den";rw[y24 (n+3) (by omega)];walk_at "den";rw[if_pos (by rw[w0a];omega)];simp only[frz1,pj1,w0e,w0m];rw[q4k (g:=fun d=>W.bl (fitB d w)) (en:=encU)]
    ·walk_at "den";have e3:(wid c).map (fun d=>W.bl (fitB d w))=((wid c).map fun d=>fitB d w).map .bl:=by rw[w2r];rfl
     rw[e3,y25];walk_at "den";rw[w5l];rfl
    ·intro d hd;have hl:=y9c hd;unfold q9b encU;walk_at "den";rw[x05 n (by rw[hl];exact hw) (by omega)];exact⟨_,rfl⟩
  ·intro k hk;have h1:=rin_mem.mp hk;unfold q9c;walk_at "den";rw[q9v (by omega)];walk_at "den";rw[q9w];exact⟨_,rfl⟩
theorem y0h(n:Nat)(hw:w.length=2^m)(hm:m<=4):run K a (n+6) q4y [.lst (w.map eo)]=.ok (.own none (((cubesF m).filter fun c=>prB c w).map encU)):=by
 have h81:=q69 hm;have hl:=q5b m;rw[x18];unfold q6o;walk_at "den";rw[x3d (n+2) (by rw[w0a];exact hw) hm];walk_at "den";rw[x5a (n+4) hm];walk_at "den";rw[if_pos (by rw[w0a];omega)];simp only[frz1,pj1,w0e,w0m];rw[q42 (q:=fun c=>prB c w) (g:=encU) (en:=encU) (cubesF m)]
 ·rfl
 ·intro c hc;have h1:=(q2i m c).mp hc;unfold x13 x12 encU;walk_at "den";rw[x7e n (by rw[h1];exact hw) (by omega)];walk_at "den";exact⟨_,rfl,fun _=>⟨_,rfl⟩⟩
theorem x86:∀(cs:List (List (Option Bool))),depWs (cs.map encU)<=1
 |[]=>w1b _
 |c::cs=>by
  show max (depW (encU c)) (depWs (cs.map encU))<=1;have:=x86 cs;have e:depW (encU c)=1:=by unfold encU;simp only[depW,x07]
  omega
open M10
theorem x7f(n:Nat)(hc:c.length<=5):run K a (n+1) q2d [.lst (c.map eo)]=.ok (.fr (.lst ((sortI (lrF c [0])).map .int))):=by
 have h32:2^c.length<=32:=w0l (w0x (by decide) hc) (by decide);have hl:=q7u c [0];simp only[w0p,w2f]at hl;rw[q5y];unfold q31;walk_at "den";obtain⟨z',h⟩:=q5a (K:=K) (a:=a) (run K a n) (.lst (c.map eo)) c [0] .no (by simp;omega);simp only[w0n,w1t]at h;rw[h];walk_at "den";rw[x6c (by omega)];walk_at "den"
theorem y0i(n:Nat)(hw:w.length=2^c.length)(hc:c.length<=5):run K a (n+2) q2e [.lst (c.map eo),.lst (w.map eo)]=.ok (.fr (.bl (fitB c w))):=by
 rw[q5z];unfold q32;walk_at "den";rw[x7f n hc];walk_at "den";have hm:∀x,x∈sortI (lrF c [0])↔∃k∈rin c,x=((k:Nat):Int):=fun x=>by rw[(q3n _).mem_iff,x7b]
 obtain⟨h1,h2⟩:=q73 (K:=K) (a:=a) (run K a (n+1)) (.lst (c.map eo)) w (sortI (lrF c [0])) .no (fun x hx=>by
  obtain⟨k,hk,rfl⟩:=(hm x).mp hx;have:=(rin_mem.mp hk).1;omega)
 have e:fitB c w=!((sortI (lrF c [0])).any fun x=>w.getD x.toNat none==some false):=by
  apply w1k.mpr;unfold fitB;rw[w0t,w3h,<- w4h,w1y];constructor
  ·rintro q ⟨x,hx,h⟩;obtain⟨k,hk,rfl⟩:=(hm x).mp hx;have:=q k hk;rw[w1j]at h;simp at h this;exact this h
  ·intro q k hk;have:=fun h=>q ⟨(k:Int),(hm _).mpr ⟨k,hk,rfl⟩,h⟩
   rw[w1j]at this
   simpa using this
 rw[e];cases hb:((sortI (lrF c [0])).any fun x=>w.getD x.toNat none==some false)with
 |true=>
  obtain⟨e',h3⟩:=h1 hb;rw[h3];rfl
 |false=>
  obtain⟨z',h3⟩:=h2 hb;rw[h3];walk_at "den"
noncomputable def nI(k:Nat):W:=.int (k:Int)
noncomputable def wr(w:List (Option Bool)):List Nat:=(List.range w.length).filter fun k=>w.getD k none==some true
theorem q9x:∀ts:List Nat,(ts.map nI).all scalW=true
 |[]=>rfl
 |_::ts=>by rw[w0n,w1s,q9x ts];rfl
theorem y26(k:Nat):∀ts:List Nat,((ts.map nI).any fun y=>eqS y (.int (k:Int)))=ts.contains k
 |[]=>rfl
 |t::ts=>by
  rw[w0n,w3c,y26 k ts,w3v];congr 1;show(((t:Int)==(k:Int)):Bool)=(k==t);apply w1k.mpr;simp only[beq_iff_eq];omega
theorem z2u(k:Nat)(ts:List Nat):ninW (nI k) (.lst (ts.map nI))=some (.bl (!ts.contains k)):=by
 show(if scalW (.int (k:Int))=true/\(ts.map nI).all scalW=true then some (W.bl (!(ts.map nI).any fun y=>eqS y (.int (k:Int))))else none)=_
 rw[if_pos ⟨rfl,q9x ts⟩,y26]
theorem q50(n:Nat){ns ts:List Nat}(h:ns.length<=2000):run K a (n+1) q1g [.lst (ns.map nI),.lst (ts.map nI)]=.ok (.own none ((ns.filter fun k=>!ts.contains k).map nI)):=by
 rw[q8g];unfold q4s;walk_at "den";rw[if_pos (by rw[w0a];omega)];simp only[frz1,pj1,w0e,w0m];rw[q42 (q:=fun k=>!ts.contains k) (g:=nI) (en:=nI) ns]
 ·rfl
 ·intro k _;unfold q78 q77;walk_at "den";rw[z2u];walk_at "den";exact⟨_,rfl,fun _=>⟨_,rfl⟩⟩
theorem y9e(w:List (Option Bool)):enumL 0 (w.map eo)=(List.range w.length).map fun(k:Nat)=>(W.int ((k:Nat):Int),eo (w.getD k none)):=by
 have e:w.map eo=(List.range w.length).map fun k=>eo (w.getD k none):=by
  apply w3g;intro k
  by_cases h:k<w.length
  ·simp[w5e h,h,List.getD]
  ·simp[h,Nat.le_of_not_lt h]
 rw[e,x0m]
theorem q74(n:Nat)(hw:w.length=2^m)(hm:m<=4):run K a (n+4) q1f [.lst (w.map eo)]=.ok (.own none ((wr w).map nI)):=by
 have h10:=pow10 (show m<=10 by omega);rw[q64];unfold q3s;walk_at "den";rw[x3d n (by rw[w0a];exact hw) hm];walk_at "den";rw[y9e,if_pos (by rw[w0a,w1v];omega)];rw[x04 (q:=fun k=>w.getD k none==some true) (g:=nI)]
 ·rfl
 ·intro k hk;unfold q61 q60;walk_at "den";rw[q9w];walk_at "den";exact⟨_,rfl,fun _=>⟨_,rfl⟩⟩
noncomputable def rst:List (List (Option Bool))->List Nat->List Nat
 |[],l=>l
 |c::cs,l=>rst cs (l.filter fun k=>!(rin c).contains k)
theorem x0o(n:Nat)(hw:w.length=2^m)(hm:m<=4)(co:W):∀(cs:List (List (Option Bool)))(l:List Nat)(z:S),(∀c∈cs,c.length=m)->l.length<=2000 ->
  ((cs.all fun c=>fitB c w)=true->∃z',forD 3 (q47 K a (run K a (n+4))) (cs.map encU) [.fr co,.fr (.lst (w.map eo)),.fr (.lst (l.map nI)),z]=.nx [.fr co,.fr (.lst (w.map eo)),.fr (.lst ((rst cs l).map nI)),z']) /\
  ((cs.all fun c=>fitB c w)=false->∃e',forD 3 (q47 K a (run K a (n+4))) (cs.map encU) [.fr co,.fr (.lst (w.map eo)),.fr (.lst (l.map nI)),z]=.rt (.fr (.bl false)) e')
 |[],l,z,_,_=>⟨fun _=>⟨z,rfl⟩,fun h=>by simp at h⟩
 |c::cs,l,z,hc,hl=>by
  have h1:=hc c (by simp);have ih:=x0o n hw hm co cs (l.filter fun k=>!(rin c).contains k) (.fr (encU c)) (fun c h=>hc c (by simp[h])) (w0l (w1c _ _) hl)
  have eb:q47 K a (run K a (n+4)) [.fr co,.fr (.lst (w.map eo)),.fr (.lst (l.map nI)),.fr (encU c)]=if fitB c w=true then .nx [.fr co,.fr (.lst (w.map eo)),.fr (.lst ((l.filter fun k=>!(rin c).contains k).map nI)),.fr (encU c)]else .rt (.fr (.bl false)) [.fr co,.fr (.lst (w.map eo)),.fr (.lst (l.map nI)),.fr (encU c)]:=by
   unfold q47 encU;walk_at "den";rw[x05 n (by rw[h1];exact hw) (by omega)];cases fitB c w with
   |false=>walk_at "den"
   |true=>
    walk_at "den";rw[q5j (n+1) (by omega)];walk_at "den";have e2:(rin c).map (fun(k:Nat)=>W.int (k:Int))=(rin c).map nI:=rfl
    rw[e2,q50 (n+3) hl];walk_at "den"
  rw[w0n,q3m];simp only[w2b,w2c];rw[eb,w1s];cases hf:fitB c w with
  |true=>
   rw[if_pos rfl,q4f,w2h];exact ih
  |false=>
   rw[if_neg (by decide)];exact⟨fun q=>by simp at q,fun _=>⟨_,rfl⟩⟩
noncomputable def covB(cs:List (List (Option Bool)))(w:List (Option Bool)):Bool:=(cs.all fun c=>fitB c w)&&(rst cs (wr w)).isEmpty
theorem x7g(w:List (Option Bool)):(wr w).length<=w.length:=by
 unfold wr;refine w0l (w1c _ _) ?_;rw[w1v];exact w0f _
theorem y0j(n:Nat)(hw:w.length=2^m)(hm:m<=4){cs:List (List (Option Bool))}(hc:∀c∈cs,c.length=m):run K a (n+5) q3a [.lst (cs.map encU),.lst (w.map eo)]=.ok (.fr (.bl (covB cs w))):=by
 have h10:=pow10 (show m<=10 by omega);have hl:=x7g w;rw[x19];unfold q6p;walk_at "den";rw[q74 n hw hm];walk_at "den";obtain⟨h1,h2⟩:=x0o (K:=K) (a:=a) n hw hm (.lst (cs.map encU)) cs (wr w) .no hc (by omega);unfold covB;cases q:(cs.all fun c=>fitB c w)with
 |true=>
  obtain⟨z',h3⟩:=h1 q;rw[h3];walk_at "den";rw[w0a,w2h];cases rst cs (wr w)with
  |nil=>rfl
  |cons x xs=>
   rw[decide_eq_false (by simp only[w0p];omega)];rfl
 |false=>
  obtain⟨e',h3⟩:=h2 q;rw[h3];rfl
theorem q9y:∀(cs:List (List (Option Bool)))(l:List Nat)(k:Nat),k∈rst cs l↔k∈l/\∀c∈cs,k∉rin c
 |[],l,k=>by simp[rst]
 |c::cs,l,k=>by
  show k∈rst cs _↔_;rw[q9y cs,w0s];simp;constructor
  ·rintro⟨⟨h1,h2⟩,h3⟩;exact⟨h1,h2,h3⟩
  ·rintro⟨h1,h2,h3⟩;exact⟨⟨h1,h2⟩,h3⟩
mutual
noncomputable def fine:W->Bool
 |.non=>true
 |.bl _=>true
 |.int _=>true
 |.tup ws=>decide (ws.length<=1000)&&fines ws
 |.lst ws=>fines ws
 |_=>false
noncomputable def fines:List W->Bool
 |[]=>true
 |w::ws=>fine w&&fines ws
end
theorem q5q:∀{ws:List W}{w:W},fines ws=true->w∈ws->fine w=true
 |x::ws,w,h,m=>by
  have h:(fine x&&fines ws)=true:=h;rw[w0j]at h;rcases w0h.mp m with rfl|m
  ·exact h.1
  ·exact q5q h.2 m
theorem x7h:∀{ws:List W},(∀w∈ws,fine w=true)->fines ws=true
 |[],_=>rfl
 |x::ws,h=>by
  show(fine x&&fines ws)=true;rw[h x (by simp),x7h fun w hw=>h w (by simp[hw])]
  rfl
theorem q7v(h:fine (.tup ws)=true):fines ws=true:=(w0j _ _ ▸ (show(decide (ws.length<=1000)&&fines ws)=true from h)).2
theorem q9z(hl:ws.length<=1000)(h:∀w∈ws,fine w=true):fine (.tup ws)=true:=by
 show(decide (ws.length<=1000)&&fines ws)=true;rw[decide_eq_true hl,x7h h];rfl
noncomputable def isTu:W->Bool
 |.tup _=>true
 |_=>false
noncomputable def isIn:W->Bool
 |.int _=>true
 |_=>false
noncomputable def isBo:W->Bool
 |.bl _=>true
 |_=>false
theorem y27(M:Exs K mg a){w:W}(h:fine w=true):isiW K (.type "tuple") w=some (.bl (isTu w)):=by
 cases w with
 |non=>exact x2y M.t_NoneType_tuple
 |bl b=>exact x0y M.t_bool_tuple
 |int b=>exact x2v M.t_int_tuple
 |tup b=>exact x2w M.t_tuple_tuple
 |lst b=>exact x2x M.t_list_tuple
 |_=>cases h
theorem q5r(M:Exs K mg a){w:W}(h:fine w=true):isiW K (.type "bool") w=some (.bl (isBo w)):=by
 cases w with
 |non=>exact x2y M.t_NoneType_bool
 |bl b=>exact x0y M.t_bool_bool
 |int b=>exact x2v M.t_int_bool
 |tup b=>exact x2w M.t_tuple_bool
 |lst b=>exact x2x M.t_list_bool
 |_=>cases h
theorem z2v(M:Exs K mg a){w:W}(h:fine w=true):isiW K (.type "int") w=some (.bl (isIn w||isBo w)):=by
 cases w with
 |non=>exact x2y M.t_NoneType_int
 |bl b=>exact x0y M.t_bool_int
 |int b=>exact x2v M.t_int_int
 |tup b=>exact x2w M.t_tuple_int
 |lst b=>exact x2x M.t_list_int
 |_=>cases h
noncomputable def tupN(k:Nat):W->Bool
 |.tup xs=>decide (xs.length=k)
 |_=>false
theorem q4c(M:Exs K mg a)(n:Nat){w:W}(h:fine w=true)(k:Nat):run K a (n+1) q01 [w,.int (k:Int)]=.ok (.fr (.bl (tupN k w))):=by
 rw[q65];unfold q3t;walk_at "den";rw[y27 M h];cases w with
 |tup xs=>
  simp only[isTu];walk_at "den";show FR.ok (S.fr (W.bl (decide (((xs.length:Nat):Int)=((k:Nat):Int)))))=FR.ok (S.fr (W.bl (decide (xs.length=k))));exact congrArg (fun b=>FR.ok (S.fr (W.bl b))) (decide_eq_decide.mpr (by omega))
 |_=>
  simp only[isTu];walk_at "den";rfl
theorem x4i(M:Exs K mg a)(n:Nat){w:W}(h:fine w=true):run K a (n+1) q26 [w]=.ok (.fr (.bl (isIn w))):=by
 rw[q9f];unfold q48;walk_at "den";rw[z2v M h];cases w with
 |int i=>
  simp only[isIn,isBo,w5g];walk_at "den";rw[q5r M h];simp only[isBo];walk_at "den"
  all_goals rfl
 |bl b=>
  simp only[isIn,isBo,Bool.or_true];walk_at "den";rw[q5r M h];simp only[isBo];walk_at "den"
  all_goals rfl
 |_=>
  simp only[isIn,isBo,w5g];walk_at "den"
noncomputable def eqo:W->Option Bool->Bool
 |.non,none=>true
 |.bl b,some c=>b==c
 |_,_=>false
theorem y5n(M:Exs K mg a)(n:Nat){w:W}(h:fine w=true)(hd:depW w<=100)(o:Option Bool):run K a (n+1) q2t [w,eo o]=.ok (.fr (.bl (eqo w o))):=by
 have ho:fine (eo o)=true:=by cases o<;>rfl
 rw[q7o];unfold q38;walk_at "den";have e2:eq2 w (eo o)=(eqW w (eo o)).map .bl:=if_pos (by omega);rw[e2];cases w with
 |non=>
  cases o with
  |none=>
   rw[show eqW .non (eo none)=some true from rfl];walk_at "den";rw[q5r M h];walk_at "den";rw[q5r M ho];rfl
  |some b=>
   rw[show eqW .non (eo (some b))=some false from rfl];walk_at "den";rfl
 |bl c=>
  cases o with
  |none=>
   rw[show eqW (.bl c) (eo none)=some false from rfl];walk_at "den";rfl
  |some b=>
   rw[show eqW (.bl c) (eo (some b))=some (c==b)from rfl];cases hb:(c==b)with
   |true=>
    walk_at "den";rw[q5r M h];walk_at "den";rw[q5r M ho];walk_at "den";show FR.ok (S.fr (W.bl true))=FR.ok (S.fr (W.bl (c==b)));rw[hb]
   |false=>
    walk_at "den";show FR.ok (S.fr (W.bl false))=FR.ok (S.fr (W.bl (c==b)));rw[hb]
 |int c=>
  cases o with
  |none=>
   rw[show eqW (.int c) (eo none)=some false from rfl];walk_at "den";rfl
  |some b=>
   rw[show eqW (.int c) (eo (some b))=some (c==(if b then 1 else 0))from rfl];cases hb:(c==(if b then(1:Int)else 0))with
   |true=>
    walk_at "den";rw[q5r M h];walk_at "den";rw[q5r M ho];rfl
   |false=>
    walk_at "den";rfl
 |tup xs=>
  rw[show eqW (.tup xs) (eo o)=some false by cases o<;>rfl];walk_at "den";cases o<;>rfl
 |lst xs=>
  rw[show eqW (.lst xs) (eo o)=some false by cases o<;>rfl];walk_at "den";cases o<;>rfl
 |_=>cases h
noncomputable def eqc:W->List (Option Bool)->Bool
 |.tup ws,c=>decide (ws.length=c.length)&&(ws.zip c).all fun p=>eqo p.1 p.2
 |_,_=>false
theorem q9l(M:Exs K mg a)(n:Nat):∀(ws:List W)(c:List (Option Bool)),fines ws=true->depWs ws<=100->compP dYes (q7g K a (run K a (n+1))) [] (ws.zip (c.map eo))=some (((ws.zip c).map fun p=>eqo p.1 p.2).map .bl)
 |[],_,_,_=>rfl
 |_::_,[],_,_=>rfl
 |w::ws,o::c,h,hd=>by
  have h:(fine w&&fines ws)=true:=h;rw[w0j]at h;have hd:max (depW w) (depWs ws)<=100:=hd;have ih:=q9l M n ws c h.2 (by omega);simp only[w0n,w3e];rw[q54,ih];unfold q7g;walk_at "den";rw[y5n M n h.1 (by omega) o];walk_at "den"
theorem x8f(M:Exs K mg a)(n:Nat){w:W}(h:fine w=true)(hd:depW w<=100)(hc:c.length<=10):run K a (n+2) q36 [w,encU c]=.ok (.fr (.bl (eqc w c))):=by
 rw[x0a];unfold q5p encU;walk_at "den";rw[w0a,q4c M n h c.length];walk_at "den";cases w with
 |tup ws=>
  by_cases hl:ws.length=c.length
  ·rw[show tupN c.length (.tup ws)=true from decide_eq_true hl];walk_at "den";rw[if_pos (by simp[w2q];omega),q9l M n ws c (q7v h) (by have:depWs ws+1<=100:=hd;omega)];walk_at "den";rw[x5d];walk_at "den";show FR.ok (S.fr (W.bl (((ws.zip c).map fun p=>eqo p.1 p.2).all id)))=FR.ok (S.fr (W.bl (decide (ws.length=c.length)&&(ws.zip c).all fun p=>eqo p.1 p.2)))
   rw[decide_eq_true hl,w2h,w3s];rfl
  ·rw[show tupN c.length (.tup ws)=false from decide_eq_false hl];walk_at "den";show FR.ok (S.fr (W.bl false))=FR.ok (S.fr (W.bl (decide (ws.length=c.length)&&(ws.zip c).all fun p=>eqo p.1 p.2)))
   rw[decide_eq_false hl,w3w]
 |_=>
  simp only[tupN];walk_at "den";try rfl
noncomputable abbrev Cb:=List (Option Bool)
noncomputable def inI(n:Int)(l:List Nat):Bool:=l.any fun k=>decide ((k:Int)=n)
noncomputable def rch(c:Cb):W:=.tup [encU c,.lst ((rin c).map nI)]
noncomputable def hv(P:List Cb)(n:Int):List Cb:=P.filter fun c=>inI n (rin c)
noncomputable def lf(l:List Nat)(c:Cb):List Nat:=l.filter fun k=>!(rin c).contains k
noncomputable def BT(T:List Nat->W->Bool)(l:List Nat):W->Cb->Bool
 |.tup [x,t],c=>eqc x c&&T (lf l c) t
 |_,_=>false
noncomputable def TS(k:Nat)(P:List Cb)(B:W->Cb->Bool)(l:List Nat):W->Bool
 |.tup [.int n,.tup bs]=>inI n l&&(if k=0 then bs.isEmpty else(decide (bs.length=(hv P n).length)&&(bs.zip (hv P n)).all fun p=>B p.1 p.2))
 |_=>false
noncomputable def TT(P:List Cb):Nat->List Nat->W->Bool
 |0,l,w=>TS 0 P (fun _ _=>false) l w
 |k+1,l,w=>TS (k+1) P (BT (TT P k) l) l w
theorem x3g(n:Int):∀ts:List Nat,((ts.map nI).any fun y=>eqS y (.int n))=inI n ts
 |[]=>rfl
 |t::ts=>by
  show(eqS (.int (t:Int)) (.int n)||(ts.map nI).any fun y=>eqS y (.int n))=(decide ((t:Int)=n)||inI n ts)
  rw[x3g n ts];congr 1
theorem y9f(n:Int)(ts:List Nat):ninW (.int n) (.lst (ts.map nI))=some (.bl (!inI n ts)):=by
 show(if scalW (.int n)=true/\(ts.map nI).all scalW=true then some (W.bl (!(ts.map nI).any fun y=>eqS y (.int n)))else none)=_
 rw[if_pos ⟨rfl,q9x ts⟩,x3g]
theorem z2w(n:Int)(ts:List Nat):inW (.int n) (.lst (ts.map nI))=some (.bl (inI n ts)):=by
 show(if scalW (.int n)=true/\(ts.map nI).all scalW=true then some (W.bl ((ts.map nI).any fun y=>eqS y (.int n)))else none)=_
 rw[if_pos ⟨rfl,q9x ts⟩,x3g]
theorem q57(n:Nat){P:List Cb}(hP:P.length<=1000)(x:Int):run K a (n+1) q2u [.lst (P.map rch),.int x]=.ok (.own none ((hv P x).map rch)):=by
 rw[x2b];unfold q6r;walk_at "den"
 rw[w0a,if_pos (by omega),q42 (q:=fun c=>inI x (rin c)) (g:=rch) (en:=rch) P fun c _=>by
  simp only[pjS,frzs,frz1,pj1,w0n,w1t,List.foldl_cons,List.foldl_nil,w0e,w0m];refine⟨[.fr (rch c),.fr (.int x)],?_,fun _=>⟨[.fr (rch c),.fr (.int x)],?_⟩⟩
  ·unfold x15;walk_at "den";rw[show ixW (rch c) (.int 1)=some (.lst ((rin c).map nI))from rfl];walk_at "den";rw[z2w];walk_at "den"
  ·unfold x14;walk_at "den"]
 walk_at "den";rfl
theorem x0p(n:Nat){w:Cb}(hw:w.length=2^m)(hm:m<=4):run K a (n+7) q16 [.lst (w.map eo)]=.ok (.own none (((cubesF m).filter fun c=>prB c w).map rch)):=by
 have hl:((cubesF m).filter fun c=>prB c w).length<=81:=by
  have:=w1c (fun c=>prB c w) (cubesF m)
  rw[q5b]at this;have:=q69 hm;omega
 have hc:∀c∈(cubesF m).filter fun c=>prB c w,c.length=m:=fun c h=>(q2i m c).mp (w0s.mp h).1
 have pr:=y0h (K:=K) (a:=a) n hw hm;rw[q7p];unfold q39;walk_at "den";rw[pr];walk_at "den";generalize (cubesF m).filter (fun c=>prB c w)=P at hl hc
 rw[w0a,if_pos (by omega),q4k (g:=rch) (en:=encU) P fun c h=>by
  unfold q7n encU;walk_at "den";rw[q5j (n+3) (c:=c) (by rw[hc c h];omega)];walk_at "den";exact⟨_,rfl⟩]
 walk_at "den"
theorem q8q{R:Nat->List W->FR}{P:List Cb}{B:W->Cb->Bool}(hB:∀(b:W)(c:Cb),fine b=true->depW b<=99->c∈P->R q1x [b,rch c,.lst (P.map rch),.lst (l.map nI),.int (k:Int)]=.ok (.fr (.bl (B b c)))):
  ∀(bs:List W)(cs:List Cb),fines bs=true->depWs bs<=99->(∀c∈cs,c∈P)->compP dYes (q7f K a R) [.fr (.lst (P.map rch)),.fr (.lst (l.map nI)),.fr (.int (k:Int))] (bs.zip (cs.map rch))=some (((bs.zip cs).map fun p=>B p.1 p.2).map .bl)
 |[],_,_,_,_=>rfl
 |_::_,[],_,_,_=>rfl
 |b::bs,c::cs,h,hd,hc=>by
  have h:(fine b&&fines bs)=true:=h;rw[w0j]at h;have hd:max (depW b) (depWs bs)<=99:=hd;have ih:=q8q hB bs cs h.2 (by omega) fun c hc'=>hc c (by simp[hc'])
  simp only[w0n,w3e];rw[q54,ih];unfold q7f;walk_at "den";rw[hB b c h.1 (by omega) (hc c (by simp))];walk_at "den"
theorem x4j(M:Exs K mg a){R:Nat->List W->FR}{P:List Cb}{B:W->Cb->Bool}(hP:P.length<=81)(hl:l.length<=100)
  (hT:∀x,fine x=true->R q01 [x,.int 2]=.ok (.fr (.bl (tupN 2 x))))(hW:∀x,fine x=true->R q26 [x]=.ok (.fr (.bl (isIn x))))(hH:∀x:Int,R q2u [.lst (P.map rch),.int x]=.ok (.own none ((hv P x).map rch)))
  (hB:k≠0->∀(b:W)(c:Cb),fine b=true->depW b<=99->c∈P->R q1x [b,rch c,.lst (P.map rch),.lst (l.map nI),.int (k:Int)]=.ok (.fr (.bl (B b c)))){w:W}(hf:fine w=true)(hd:depW w<=100):
  (q3j K a R [.fr w,.fr (.lst (P.map rch)),.fr (.lst (l.map nI)),.fr (.int (k:Int)),.no,.no,.no]).fn=.ok (.fr (.bl (TS k P B l w))):=by
 have no:∀w,fine w=true->tupN 2 w=false->(q3j K a R [.fr w,.fr (.lst (P.map rch)),.fr (.lst (l.map nI)),.fr (.int (k:Int)),.no,.no,.no]).fn=.ok (.fr (.bl false)):=fun w hf h2=>by
  unfold q3j;walk_at "den";rw[hT w hf,h2];walk_at "den"
 cases w with
 |tup xs=>
  rcases xs with _|⟨x,_|⟨y,_|⟨z,xs⟩⟩⟩
  ·exact no _ hf rfl
  ·rw[no _ hf rfl];cases x<;>rfl
  ·have hx:fine x=true:=q5q (ws:=[x,y]) (q7v hf) (by simp);have hy:fine y=true:=q5q (ws:=[x,y]) (q7v hf) (by simp);unfold q3j;walk_at "den";rw[hT _ hf];simp only[tupN];walk_at "den";rw[hW x hx];have hxx:(∃n,x=.int n)\/isIn x=false:=by cases x<;>first|exact .inl ⟨_,rfl⟩|exact .inr rfl
   rcases hxx with⟨n,rfl⟩|hx0
   ·simp only[isIn];walk_at "den";rw[y9f];walk_at "den";have hts:∀y,isTu y=false->TS k P B l (.tup [.int n,y])=false:=fun y h=>by cases y<;>first|rfl|cases h
    cases hin:inI n l with
    |false=>
     rw[if_pos (show(!false)=true from rfl)];cases y with
     |tup bs=>show _=FR.ok (S.fr (W.bl (inI n l&&_)));rw[hin];rfl
     |_=>rfl
    |true=>
     rw[if_neg (by decide),y27 M hy];cases htu:isTu y with
     |false=>
      walk_at "den";rw[hts y htu]
     |true=>
      obtain⟨bs,rfl⟩:∃bs,y=.tup bs:=by cases y<;>first|exact⟨_,rfl⟩|cases htu
      have hfb:fines bs=true:=q7v hy
      have hdb:depWs bs<=98:=by
       have hd:max 0 (max (depWs bs+1) 0)+1<=100:=hd;omega
      have eT:TS k P B l (.tup [.int n,.tup bs])=(if k=0 then bs.isEmpty else(decide (bs.length=(hv P n).length)&&(bs.zip (hv P n)).all fun p=>B p.1 p.2)):=by
       show(inI n l&&_)=_;rw[hin,w2h]
      rw[eT];walk_at "den"
      by_cases hk:k=0
      ·subst hk;rw[if_pos rfl,if_pos (by rfl)];walk_at "den";cases bs with
       |nil=>rfl
       |cons b bs=>
        show FR.ok (S.fr (W.bl (decide ((((b::bs).length:Nat):Int)=0))))=FR.ok (S.fr (W.bl false));rw[decide_eq_false (by simp only[w0p];omega)]
      ·rw[if_neg hk,if_neg (by omega),hH n];walk_at "den";rw[w0a];have hle:(hv P n).length<=81:=w0l (w1c _ _) hP
       by_cases he:bs.length=(hv P n).length
       ·rw[decide_eq_true he,w2h,if_neg (by simp;omega)];rw[if_pos (by rw[w2q,w0a];omega)];simp only[frz1,pj1,w0e,w0m];rw[q8q (hB hk) bs (hv P n) hfb (by omega) fun c hc=>(w0s.mp hc).1]
        walk_at "den";rw[x5d];walk_at "den";rw[w3s];rfl
       ·rw[decide_eq_false he,w3w,if_pos (by simp;omega)]
   ·rw[hx0];walk_at "den";cases x with
    |int n=>cases hx0
    |_=>rfl
  ·rw[no _ hf (show decide ((x::y::z::xs).length=2)=false from decide_eq_false (by simp only[w0p];omega))];cases x<;>cases y<;>rfl
 |_=>rw[no _ hf rfl];rfl
theorem x7i(l:List Nat)(c:Cb):(lf l c).length<=l.length:=w1c _ _
theorem y0k(M:Exs K mg a){P:List Cb}(hm:m<=4)(hc:∀c∈P,c.length=m){T:List Nat->W->Bool}(hT:∀(l:List Nat)(w:W),fine w=true->depW w<=100->l.length<=100->run K a (n+2) q2s [w,.lst (P.map rch),.lst (l.map nI),.int (k:Int)]=.ok (.fr (.bl (T l w))))
  (hl:l.length<=100){b:W}{c:Cb}(hf:fine b=true)(hd:depW b<=99)(hcP:c∈P):run K a (n+3) q1x [b,rch c,.lst (P.map rch),.lst (l.map nI),.int ((k+1:Nat):Int)]=.ok (.fr (.bl (BT T l b c))):=by
 have no:∀w,fine w=true->tupN 2 w=false->run K a (n+3) q1x [w,rch c,.lst (P.map rch),.lst (l.map nI),.int ((k+1:Nat):Int)]=.ok (.fr (.bl false)):=fun w hf h2=>by
  rw[q5x];unfold q30;walk_at "den";have:=q4c M (n+1) hf 2;rw[show run K a (n+2) q01 [w,.int 2]=_ from this,h2];walk_at "den"
 cases b with
 |tup xs=>
  rcases xs with _|⟨x,_|⟨y,_|⟨z,xs⟩⟩⟩
  ·exact no _ hf rfl
  ·exact no _ hf rfl
  ·have hx:fine x=true:=q5q (ws:=[x,y]) (q7v hf) (by simp);have hy:fine y=true:=q5q (ws:=[x,y]) (q7v hf) (by simp);have hd:max (depW x) (max (depW y) 0)+1<=99:=hd;rw[q5x];unfold q30;walk_at "den";have:=q4c M (n+1) hf 2;rw[show run K a (n+2) q01 [.tup [x,y],.int 2]=_ from this];simp only[tupN];walk_at "den";rw[show ixW (rch c) (.int 0)=some (encU c)from rfl];walk_at "den";rw[x8f M n hx (by omega) (c:=c) (by rw[hc c hcP];omega)];cases he:eqc x c with
   |false=>
    walk_at "den";show _=FR.ok (S.fr (W.bl (eqc x c&&_)));rw[he];rfl
   |true=>
    walk_at "den";rw[show ixW (rch c) (.int 1)=some (.lst ((rin c).map nI))from rfl];walk_at "den";rw[q50 (n+1) (by omega)];walk_at "den";rw[show(((k+1:Nat):Int))-1=(k:Int) by omega,show l.filter (fun k=>!(rin c).contains k)=lf l c from rfl,hT (lf l c) y hy (by omega) (w0l (x7i l c) hl)]
    walk_at "den";show _=FR.ok (S.fr (W.bl (eqc x c&&_)));rw[he];rfl
  ·exact no _ hf (show decide ((x::y::z::xs).length=2)=false from decide_eq_false (by simp only[w0p];omega))
 |_=>exact no _ hf rfl
theorem y5o(M:Exs K mg a){P:List Cb}(hm:m<=4)(hP:P.length<=81)(hc:∀c∈P,c.length=m):∀(k n:Nat)(l:List Nat)(w:W),fine w=true->depW w<=100->l.length<=100->run K a (n+2*k+4) q2s [w,.lst (P.map rch),.lst (l.map nI),.int (k:Int)]=.ok (.fr (.bl (TT P k l w))):=by
 intro k
 induction k with
 |zero=>
  intro n l w hf hd hl;rw[q7h];exact x4j M hP hl (fun x hx=>q4c M (n+2) hx 2) (fun x hx=>x4i M (n+2) hx) (fun x=>q57 (n+2) (by omega) x) (fun h=>absurd rfl h) hf hd
 |succ k ih=>
  intro n l w hf hd hl;have e:n+2*(k+1)+4=(n+2*k+3+2)+1:=by omega
  rw[e,q7h]
  exact x4j M hP hl (fun x hx=>q4c M (n+2*k+3+1) hx 2) (fun x hx=>x4i M (n+2*k+3+1) hx) (fun x=>q57 (n+2*k+3+1) (by omega) x) (fun _ b c hb hdb hcP=>by
   have:=y0k M hm hc (k:=k) (T:=TT P k) (n:=n+2*k+2) (fun l w h1 h2 h3=>ih n l w h1 h2 h3) hl hb hdb hcP
   exact this) hf hd
theorem x87(k:Nat)(l:List Nat):inI (k:Int) l=l.contains k:=by
 unfold inI;rw[w1k,w1y,w4q];constructor
 ·rintro⟨j,hj,e⟩;have e:=of_decide_eq_true e;have:j=k:=by omega
  exact this ▸ hj
 ·exact fun h=>⟨k,h,decide_eq_true rfl⟩
noncomputable def isNo:W->Bool
 |.non=>true
 |_=>false
theorem z2x{xs:List W}(h:depWs xs<=100):eq2 (.lst xs) (.lst [])=some (.bl xs.isEmpty):=by
 unfold eq2;rw[if_pos (show depW (.lst xs)<=150 by show depWs xs+1<=150;omega)];cases xs<;>rfl
theorem y6b:∀x c:Cb,eqc (encU x) c=decide (x=c)
 |[],[]=>rfl
 |[],_::_=>rfl
 |_::_,[]=>rfl
 |o::x,p::c=>by
  have ih:=y6b x c
  have e:eqo (eo o) p=decide (o=p):=by
   cases o with
   |none=>cases p<;>rfl
   |some a=>cases p with
    |none=>rfl
    |some b=>cases a<;>cases b<;>rfl
  have ih:(decide ((x.map eo).length=c.length)&&((x.map eo).zip c).all fun p=>eqo p.1 p.2)=decide (x=c):=ih
  show(decide (((o::x).map eo).length=(p::c).length)&&(eqo (eo o) p&&((x.map eo).zip c).all fun p=>eqo p.1 p.2))=decide (o::x=p::c)
  rw[e];have e2:decide (((o::x).map eo).length=(p::c).length)=decide ((x.map eo).length=c.length):=by simp
  rw[e2,<- w4s,Bool.and_comm (decide ((x.map eo).length=c.length)),w4s,ih];simp
def Tr:Nat->W->Prop
 |0,w=>w=.non\/∃n:Int,w=.tup [.int n,.tup []]
 |d+1,w=>w=.non\/∃(n:Int)(bs:List W),w=.tup [.int n,.tup bs]/\bs.length<=81/\∀b∈bs,∃(c:Cb)(t:W),b=.tup [encU c,t]/\c.length<=4/\Tr d t
theorem z2y(c:Cb)(h:c.length<=1000):fine (encU c)=true:=q9z (by rw[w0a];exact h) fun w hw=>by
 obtain⟨o,_,rfl⟩:=w1f.mp hw;cases o<;>rfl
theorem z40(c:Cb):depW (encU c)=1:=by show depWs (c.map eo)+1=1;rw[x07]
theorem x7j{d:Nat}:∀{ws:List W},(∀w∈ws,depW w<=d)->depWs ws<=d
 |[],_=>w1b _
 |w::ws,h=>by
  show max (depW w) (depWs ws)<=d;have h1:=h w (by simp);have h2:=x7j (ws:=ws) fun x hx=>h x (by simp[hx])
  omega
theorem Tr.ok:∀{d:Nat}{w:W},Tr d w->fine w=true/\depW w<=3*d+2
 |0,w,h=>by
  rcases h with rfl|⟨n,rfl⟩
  ·exact⟨rfl,w1b _⟩
  ·exact⟨rfl,by show max 0 (max (0+1) 0)+1<=2;decide⟩
 |d+1,w,h=>by
  rcases h with rfl|⟨n,bs,rfl,hl,hb⟩
  ·exact⟨rfl,w1b _⟩
  ·have hbs:∀b∈bs,fine b=true/\depW b<=3*d+3:=fun b hb'=>by
    obtain⟨c,t,rfl,hc,ht⟩:=hb b hb';obtain⟨t1,t2⟩:=Tr.ok ht;refine⟨q9z (by simp) fun x hx=>?_,?_⟩
    ·rcases w0h.mp hx with rfl|hx
     ·exact z2y c (by omega)
     ·rw[w1h.mp hx];exact t1
    ·show max (depW (encU c)) (max (depW t) 0)+1<=_;rw[z40];omega
   have f1:fine (.tup bs)=true:=q9z (by omega) fun b hb'=>(hbs b hb').1
   refine⟨q9z (by simp) fun x hx=>?_,?_⟩
   ·rcases w0h.mp hx with rfl|hx
    ·rfl
    ·rw[w1h.mp hx];exact f1
   ·have:=x7j (d:=3*d+3) fun b hb'=>(hbs b hb').2
    show max 0 (max (depWs bs+1) 0)+1<=3*(d+1)+2;omega
theorem x88(h:k∈l):inI (k:Int) l=true:=by rw[x87];simpa using h
noncomputable def Pm(w:Cb)(m:Nat):List Cb:=(cubesF m).filter fun c=>prB c w
theorem x5f(w:Cb)(hm:m<=4):(Pm w m).length<=81/\∀c∈Pm w m,c.length=m:=by
 refine⟨?_,fun c h=>(q2i m c).mp (w0s.mp h).1⟩
 have:=w1c (fun c=>prB c w) (cubesF m)
 rw[q5b]at this;have:=q69 hm;exact w0l ‹_› this
theorem z2z{w:Cb}(hw:w.length=2^m)(hm:m<=4):(wr w).length<=100:=by
 have h1:=x7g w;have h2:2^m<=2^4:=w0x (by decide) hm;have h3:(2:Nat)^4=16:=rfl;omega
theorem z20{w:W}(h:fine w=true):isW w .non=some (.bl (isNo w)):=by
 cases w<;>first|rfl|cases h
noncomputable def ans(w:Cb)(m:Nat)(cnt:Int)(t:W):Bool:=if cnt<0 then isNo t else TT (Pm w m) cnt.toNat (wr w) t
noncomputable def tx(cs:List Nat):Str:=⟨cs.toArray⟩
theorem y9g(cs:List Nat):(tx cs).cps.toList=cs:=by simp[tx]
theorem y28(as bs:List Nat):tx as++tx bs=tx (as++bs):=by
 show Str.mk (as.toArray++bs.toArray)=_;simp[tx]
theorem y9h:("":Str)=tx []:=by decide +kernel
theorem x89:∀cs:List Nat,Str.join "" (cs.map fun c=>tx [c])=tx cs
 |[]=>rfl
 |[c]=>rfl
 |c::d::cs=>by
  show tx [c]++""++Str.join "" ((d::cs).map fun c=>tx [c])=_
  rw[x89 (d::cs),y9h,y28,y28];rfl
theorem y5p(cs:List Nat):Txt.join "" (cs.map fun c=>tx [c])=tx cs:=(StrLaws.glued_eq_join _ _).trans (x89 cs)
theorem x9a:∀xs:List Str,strsW (xs.map .str)=some xs
 |[]=>rfl
 |x::xs=>by
  show(strsW (xs.map W.str)).map (x::·)=_;rw[x9a xs];rfl
theorem y5q(c:List (Option Bool)):strsW (c.map fun o=>.str (sgn o))=some (c.map sgn):=by
 have:=x9a (c.map sgn)
 rwa [w2r]at this
theorem y9i(o:Option Bool):(sgn o).length=1:=by
 cases o with
 |none=>rfl
 |some b=>cases b<;>rfl
theorem x9b:∀c:List (Option Bool),((c.map sgn).map fun x=>x.length).sum=c.length
 |[]=>rfl
 |o::c=>by
  rw[w0n,w0n,List.sum_cons,x9b c,y9i];simp;omega
theorem y5r(c:List (Option Bool))(h:c.length<=1000):joinW (.str "") [.lst (c.map fun o=>.str (sgn o))]=some (.str (Txt.join "" (c.map sgn))):=by
 show(match strsW (c.map fun o=>W.str (sgn o))with
   |some ys=>if joinOk "" ys=true then some (W.str (Txt.join "" ys))else none
   |none=>none)=_
 rw[y5q];show(if joinOk "" (c.map sgn)=true then some (W.str (Txt.join "" (c.map sgn)))else none)=_;rw[if_pos];unfold joinOk;rw[x9b,w0a];have:("":Str).length=0:=rfl;rw[this,Nat.mul_zero,Nat.ble_eq];omega
theorem y5s(n:Nat)(h:c.length<=1000):run K a (n+1) q2c [.tup (c.map eo)]=.ok (.fr (.str (Txt.join "" (c.map sgn)))):=by
 rw[q8d];unfold q4p;walk_at "den"
 rw[if_pos (by rw[w0a];omega),q4k (g:=fun o=>W.str (sgn o)) c fun o _=>⟨[.fr (eo o)],by
  unfold q76;walk_at "den";rw[show sgnW (eo o)=some (.str (sgn o))from by cases o<;>rfl];walk_at "den"⟩]
 walk_at "den";rw[y5r c h];walk_at "den"
noncomputable def keyn(P:List Cb)(k:Nat):Nat:=(hv P (k:Int)).length
noncomputable def rarF(P:List Cb):Nat->List Nat->Nat
 |b,[]=>b
 |b,k::l=>if keyn P k<keyn P b then rarF P k l else rarF P b l
noncomputable def rar(P:List Cb):List Nat->Nat
 |[]=>0
 |k::l=>rarF P k l
theorem x09(P:List Cb):∀(l:List Nat)(b:Nat),rarF P b l=b\/rarF P b l∈l
 |[],b=>.inl rfl
 |k::l,b=>by
  unfold rarF;split
  ·rcases x09 P l k with h|h
   ·exact .inr (by rw[h];exact w0k)
   ·exact .inr (w0g _ h)
  ·rcases x09 P l b with h|h
   ·exact .inl h
   ·exact .inr (w0g _ h)
theorem q90(P:List Cb)(k:Nat)(l:List Nat):rar P (k::l)∈k::l:=by
 rcases x09 P l k with h|h
 ·exact w0h.mpr (.inl h)
 ·exact w0g _ h
noncomputable def brF(go:Cb->List Cb ⊕ W)(num:Nat):List Cb->List W->List Cb ⊕ W
 |[],acc=>.inr (.tup [nI num,.tup acc])
 |c::cs,acc=>match go c with
  |.inl d=>.inl (c::d)
  |.inr t=>brF go num cs (acc++[.tup [encU c,t]])
noncomputable def tryF(P:List Cb):Nat->List Nat->List Cb ⊕ W
 |_,[]=>.inl []
 |0,k::l=>.inr (.tup [nI (rar P (k::l)),.tup []])
 |n+1,k::l=>brF (fun c=>tryF P n (lf (k::l) c)) (rar P (k::l)) (hv P (rar P (k::l):Int)) []
noncomputable def encRs:List Cb ⊕ W->W
 |.inl cs=>.tup [.str "cover", .lst (cs.map encU)]
 |.inr t=>.tup [.str "tree", t]
def Cov(cs:List Cb)(l:List Nat):Prop:=∀k∈l,∃c∈cs,k∈rin c
theorem lf_mem{c:Cb}:k∈lf l c↔k∈l/\k∉rin c:=by
 unfold lf;rw[w0s];simp
theorem hv_mem{P:List Cb}{c:Cb}:c∈hv P (k:Int)↔c∈P/\k∈rin c:=by
 unfold hv;rw[w0s,x87];simp
theorem x9c{go:Cb->List Cb ⊕ W}{num:Nat}:∀{cs:List Cb}{acc:List W}{t:W},brF go num cs acc=.inr t->∀c∈cs,∃u,go c=.inr u
 |[],_,_,_,_,h=>nomatch h
 |c::cs,acc,t,e,d,h=>by
  unfold brF at e;cases q:go c with
  |inl x=>rw[q]at e;cases e
  |inr u=>
   rw[q]at e;rcases w0h.mp h with rfl|h
   ·exact⟨u,q⟩
   ·exact x9c e d h
theorem x9d{go:Cb->List Cb ⊕ W}{num:Nat}:∀{cs:List Cb}{acc:List W}{x:List Cb},brF go num cs acc=.inl x->∃c∈cs,∃d,go c=.inl d/\x=c::d
 |[],_,_,e=>by cases e
 |c::cs,acc,x,e=>by
  unfold brF at e;cases q:go c with
  |inl d=>rw[q]at e;exact⟨c,w0k,d,q,(Sum.inl.inj e).symm⟩
  |inr u=>
   rw[q]at e;obtain⟨c',h,r⟩:=x9d e;exact⟨c',w0g _ h,r⟩
theorem q7a(P:List Cb):∀(n:Nat)(l:List Nat)(t:W),tryF P n l=.inr t->∀cs:List Cb,(∀c∈cs,c∈P)->cs.length<=n->¬Cov cs l
 |n,[],t,e=>by unfold tryF at e;cases e
 |0,k::l,t,_=>fun cs _ hl hc=>by
  obtain⟨c,h,_⟩:=hc k w0k;cases cs with
  |nil=>cases h
  |cons x y=>simp at hl
 |n+1,k::l,t,e=>fun cs hP hl hc=>by
  unfold tryF at e;obtain⟨c,h1,h2⟩:=hc _ (q90 P k l);obtain⟨u,hu⟩:=x9c e c (hv_mem.mpr ⟨hP c h1,h2⟩);refine q7a P n _ u hu (cs.erase c) (fun d hd=>hP d (List.mem_of_mem_erase hd)) (by rw[List.length_erase_of_mem h1];omega) fun j hj=>?_
  obtain⟨h3,h4⟩:=lf_mem.mp hj;obtain⟨d,h5,h6⟩:=hc j h3;exact⟨d,(List.mem_erase_of_ne fun z=>by subst z;exact h4 h6).mpr h5,h6⟩
theorem q6x(P:List Cb):∀(n:Nat)(l:List Nat)(cs:List Cb),tryF P n l=.inl cs->(∀c∈cs,c∈P/\∃k∈l,k∈rin c)/\cs.length<=n/\Cov cs l/\cs.Nodup
 |n,[],cs,e=>by
  unfold tryF at e;cases Sum.inl.inj e;exact⟨fun _ h=>(by cases h),w1b _,fun _ h=>(by cases h),List.nodup_nil⟩
 |0,k::l,cs,e=>by unfold tryF at e;cases e
 |n+1,k::l,cs,e=>by
  unfold tryF at e;obtain⟨c,h1,d,h2,rfl⟩:=x9d e;obtain⟨hc1,hc2⟩:=hv_mem.mp h1;obtain⟨a1,a2,a3,a4⟩:=q6x P n _ d h2;refine⟨fun x hx=>?_,by rw[w0p];omega,fun j hj=>?_,w1w.mpr ⟨fun z=>?_,a4⟩⟩
  ·rcases w0h.mp hx with rfl|hx
   ·exact⟨hc1,_,q90 P k l,hc2⟩
   ·obtain⟨b1,i,b2,b3⟩:=a1 x hx;exact⟨b1,i,(lf_mem.mp b2).1,b3⟩
  ·by_cases h:j∈rin c
   ·exact⟨c,w0k,h⟩
   ·obtain⟨x,b1,b2⟩:=a3 j (lf_mem.mpr ⟨hj,h⟩);exact⟨x,w0g _ b1,b2⟩
  ·obtain⟨_,i,b2,b3⟩:=a1 c z;exact(lf_mem.mp b2).2 b3
theorem x7k(P:List Cb):∀(l:List Nat),(∀k∈l,∃c∈P,k∈rin c)->∃cs:List Cb,(∀c∈cs,c∈P)/\cs.length<=l.length/\Cov cs l
 |[],_=>⟨[],fun _ h=>(by cases h),w0f _,fun _ h=>(by cases h)⟩
 |k::l,h=>by
  obtain⟨cs,h1,h2,h3⟩:=x7k P l fun j hj=>h j (w0g _ hj)
  obtain⟨c,hc,hk⟩:=h k w0k;refine⟨c::cs,fun d hd=>?_,by simp;omega,fun j hj=>?_⟩
  ·rcases w0h.mp hd with rfl|hd
   ·exact hc
   ·exact h1 d hd
  ·rcases w0h.mp hj with rfl|hj
   ·exact⟨c,w0k,hk⟩
   ·obtain⟨d,d1,d2⟩:=h3 j hj;exact⟨d,w0g _ d1,d2⟩
theorem x4k{β:Type}(f:Nat->α ⊕ β):∀(n:Nat),(∃x,f n=.inl x)->∃d,d<=n/\(∃x,f d=.inl x)/\∀i,i<d->∃t,f i=.inr t
 |0,h=>⟨0,w0f _,h,fun i hi=>absurd hi (Nat.not_lt_zero _)⟩
 |n+1,h=>by
  by_cases z:∃i,i<=n/\∃x,f i=.inl x
  ·obtain⟨i,h1,h2⟩:=z;obtain⟨d,d1,d2,d3⟩:=x4k f i h2;exact⟨d,by omega,d2,d3⟩
  ·refine⟨n+1,w0f _,h,fun i hi=>?_⟩
   cases q:f i with
   |inl x=>exact(z ⟨i,by omega,x,q⟩).elim
   |inr t=>exact⟨t,rfl⟩
termination_by n=>n
structure LC(P:List Cb)(l:List Nat)(N:Nat)(cs:List Cb)(T:W):Prop where
 cov:tryF P N l=.inl cs
 non:N=0->T=.non
 tree:∀n,N=n+1->tryF P n l=.inr T
theorem LC.len{P:List Cb}{cs:List Cb}{T:W}(h:LC P l N cs T):cs.length=N:=by
 obtain⟨a1,a2,a3,_⟩:=q6x P N l cs h.cov;cases N with
 |zero=>omega
 |succ n=>
  have:=q7a P n l T (h.tree n rfl) cs (fun c hc=>(a1 c hc).1)
  by_cases z:cs.length<=n
  ·exact(this z a3).elim
  ·omega
theorem LC.least{P:List Cb}{cs:List Cb}{T:W}(h:LC P l N cs T){ds:List Cb}(hd:∀c∈ds,c∈P)(hl:ds.length<N):¬Cov ds l:=by
 cases N with
 |zero=>omega
 |succ n=>exact q7a P n l T (h.tree n rfl) ds hd (by omega)
theorem y9j{P:List Cb}(h:∀k∈l,∃c∈P,k∈rin c):∃d,d<=l.length/\(∃x,tryF P d l=.inl x)/\∀i,i<d->∃t,tryF P i l=.inr t:=by
 refine x4k (fun n=>tryF P n l) l.length ?_
 obtain⟨cs,h1,h2,h3⟩:=x7k P l h;cases q:tryF P l.length l with
 |inl x=>exact⟨x,rfl⟩
 |inr t=>exact(q7a P _ l t q cs h1 h2 h3).elim
noncomputable def nn(c:Cb):Nat:=(c.filter fun o=>o==none).length
theorem x9e:∀{c:Cb}{r:List Bool}{j:Nat},mt c r=true->mt (wide c j) r=true\/c.length<=j
 |[],r,j,_=>.inr (w1b _)
 |o::c,[],j,_=>.inl (by cases j<;>rfl)
 |o::c,b::r,0,h=>by
  have h:((o==none||o==some b)&&mt c r)=true:=h;rw[w0j]at h;refine .inl ?_;show((none==(none:Option Bool)||none==some b)&&mt c r)=true;rw[h.2];rfl
 |o::c,b::r,j+1,h=>by
  have h:((o==none||o==some b)&&mt c r)=true:=h;rw[w0j]at h;rcases x9e (j:=j) h.2 with z|z
  ·refine .inl ?_;show((o==none||o==some b)&&mt (wide c j) r)=true;rw[h.1,z];rfl
  ·exact .inr (by simp;exact z)
theorem x9f:∀{c:Cb}{j:Nat},(c.getD j none != none)=true->nn (wide c j)=nn c+1
 |[],j,h=>by simp at h
 |o::c,0,h=>by
  have h:(o != none)=true:=h;cases o with
  |none=>cases h
  |some b=>rfl
 |o::c,j+1,h=>by
  have ih:=x9f (c:=c) (j:=j) h;show((o::wide c j).filter fun o=>o==none).length=((o::c).filter fun o=>o==none).length+1
  rw[w2l,w2l];unfold nn at ih;split
  ·rw[w0p,w0p,ih]
  ·exact ih
theorem z41(c:Cb):nn c<=c.length:=w1c _ _
theorem q75{w:Cb}(hk:w.getD k none=some true):∀(f:Nat)(c:Cb),c.length<=nn c+f->fitB c w=true->k∈rin c->∃d:Cb,d.length=c.length/\prB d w=true/\k∈rin d/\∀i∈rin c,i∈rin d
 |f,c,hf,h1,h2=>by
  by_cases ha:(wid c).any (fun d=>fitB d w)=true
  ·obtain⟨d,d1,d2⟩:=w1y.mp ha;obtain⟨j,j1,rfl⟩:=w1f.mp d1;obtain⟨j2,j3⟩:=w0s.mp j1;have hjl:=w0u.mp j2;have hnn:=x9f j3;have hle:=z41 (wide c j);rw[q5h hjl]at hle
   have hsub:∀i∈rin c,i∈rin (wide c j):=fun i hi=>by
    obtain⟨a1,a2⟩:=rin_mem.mp hi;refine rin_mem.mpr ⟨by rw[q5h hjl];exact a1,?_⟩;rw[q5h hjl];rcases x9e (j:=j) a2 with z|z
    ·exact z
    ·omega
   cases f with
   |zero=>omega
   |succ f=>
    obtain⟨d,e1,e2,e3,e4⟩:=q75 hk f (wide c j) (by rw[q5h hjl];omega) d2 (hsub k h2);exact⟨d,by rw[e1,q5h hjl],e2,e3,fun i hi=>e4 i (hsub i hi)⟩
  ·refine⟨c,rfl,?_,h2,fun i hi=>hi⟩
   have ht:tru c w=true:=w1y.mpr ⟨k,h2,by rw[hk];rfl⟩;unfold prB;rw[h1,ht,w1i.mpr ha];rfl
theorem x9g:∀r s:List Bool,r.length=s.length->(mt (r.map some) s=true↔r=s)
 |[],[],_=>⟨fun _=>rfl,fun _=>rfl⟩
 |a::r,b::s,h=>by
  have ih:=x9g r s (by simpa using h);show((some a==none||some a==some b)&&mt (r.map some) s)=true↔_;rw[w0j,ih];simp
theorem y9k{j:Nat}(hk:k<2^m)(hj:j<2^m)(h:rowB m k=rowB m j):k=j:=by
 have a1:num (rowB m k)=(k:Int):=x02 (by omega) (by rw[q6b];exact_mod_cast hk);have a2:num (rowB m j)=(j:Int):=x02 (by omega) (by rw[q6b];exact_mod_cast hj);rw[h,a2]at a1;omega
theorem y29{w:Cb}(hw:w.length=2^m)(hk:k∈wr w):∃c∈Pm w m,k∈rin c:=by
 obtain⟨h1,h2⟩:=w0s.mp hk;have hlt:k<2^m:=by rw[<- hw];exact w0u.mp h1
 have h2:w.getD k none=some true:=by simpa using h2
 have hl:((rowB m k).map some).length=m:=by rw[w0a,q4b]
 have hin:∀i,i∈rin ((rowB m k).map some)↔i=k:=fun i=>by
  rw[rin_mem,hl,x9g _ _ (by rw[q4b,q4b])];exact⟨fun⟨a1,a2⟩=>(y9k hlt a1 a2).symm,fun e=>by subst e;exact⟨hlt,rfl⟩⟩
 have hf:fitB ((rowB m k).map some) w=true:=w0t.mpr fun i hi=>by
  rw[(hin i).mp hi,h2];rfl
 obtain⟨d,e1,e2,e3,_⟩:=q75 h2 m _ (by rw[hl];omega) hf ((hin k).mpr rfl);exact⟨d,w0s.mpr ⟨(q2i m d).mpr (by rw[e1,hl]),e2⟩,e3⟩
theorem x4l:∀l:List Nat,noFns (l.map nI)=true
 |[]=>rfl
 |_::l=>x4l l
theorem x1a:∀c:Cb,noFns (c.map eo)=true
 |[]=>rfl
 |none::c=>x1a c
 |some _::c=>x1a c
theorem x4m:∀P:List Cb,noFns (P.map rch)=true
 |[]=>rfl
 |c::P=>by
  show((noFns (c.map eo)&&(noFns ((rin c).map nI)&&true))&&noFns (P.map rch))=true;rw[x1a,x4l,x4m P];rfl
theorem y5t(n:Nat){P:List Cb}(hP:P.length<=1000)(k:Nat):run K a (n+2) q1w [.int (k:Int),.lst (P.map rch)]=.ok (.fr (.int (keyn P k:Int))):=by
 have hh:=q57 (K:=K) (a:=a) n hP (k:Int);rw[q40,if_pos (show[W.int (k:Int),.lst (P.map rch)].length=2 from rfl)];unfold q4h;generalize run K a (n+1)=r at hh |-
 simp only[w0n,w1t];walk_at "den";rw[hh];walk_at "den";rw[w0a];rfl
theorem x9h:∀l:List Nat,intsW (l.map nI)=some (l.map fun(k:Nat)=>(k:Int))
 |[]=>rfl
 |k::l=>by
  show(intsW (l.map nI)).map ((k:Int)::·)=_;rw[x9h l];rfl
theorem q9m{P:List Cb}{F:Int->Option Int}(hF:∀k:Nat,F (k:Int)=some (keyn P k:Int)):∀(l:List Nat)(b:Nat),minGo F (l.map fun(k:Nat)=>(k:Int)) (some ((b:Int),(keyn P b:Int)))=some (rarF P b l:Int)
 |[],b=>rfl
 |k::l,b=>by
  show(match F (k:Int)with
   |some n=>minGo F (l.map fun(k:Nat)=>(k:Int)) (bestU (some ((b:Int),(keyn P b:Int))) (k:Int) n)
   |none=>none)=_
  rw[hF];show minGo F (l.map fun(k:Nat)=>(k:Int)) (if(keyn P k:Int)<(keyn P b:Int)then some ((k:Int),(keyn P k:Int))else some ((b:Int),(keyn P b:Int)))=some ((if keyn P k<keyn P b then rarF P k l else rarF P b l:Nat):Int)
  by_cases h:keyn P k<keyn P b
  ·rw[if_pos (by omega),if_pos h,q9m hF l k]
  ·rw[if_neg (by omega),if_neg h,q9m hF l b]
theorem x2j(n:Nat){P:List Cb}(hP:P.length<=1000)(k:Nat)(l:List Nat):run K a (n+3) q4z [.lst (P.map rch),.lst ((k::l).map nI)]=.ok (.fr (nI (rar P (k::l)))):=by
 have lr:=fun k=>y5t (K:=K) (a:=a) n hP k
 rw[x2a];unfold q6q;generalize run K a (n+2)=r at lr |-
 walk_at "den";show SR.fn (R.stm (minK r q1w _ (.lst ((k::l).map nI)) (some [.lst (P.map rch)])) _)=_;unfold minK;simp only[x9h];rw[if_pos (show noFns [W.lst (P.map rch)]=true by show(noFns (P.map rch)&&true)=true;rw[x4m];rfl)];have hF:∀j:Nat,keyI1 (r q1w [.int (j:Int),.lst (P.map rch)])=some (keyn P j:Int):=fun j=>by rw[lr j];rfl
 have e:minGo (fun i=>keyI1 (r q1w [.int i,.lst (P.map rch)])) ((k::l).map fun(k:Nat)=>(k:Int)) none=some (rar P (k::l):Int):=by
  show(match keyI1 (r q1w [.int (k:Int),.lst (P.map rch)])with
   |some n=>minGo (fun i=>keyI1 (r q1w [.int i,.lst (P.map rch)])) (l.map fun(k:Nat)=>(k:Int)) (bestU none (k:Int) n)
   |none=>none)=_
  rw[hF k];exact q9m hF l k
 rw[e];rfl
noncomputable def envY(P:List Cb)(l:List Nat)(cnt num:Nat)(acc:List W)(z5 z6 z7:S):List S:=[.fr (.lst (P.map rch)),.fr (.lst (l.map nI)),.fr (.int ((cnt+1:Nat):Int)),.fr (nI num),.own none acc,z5,z6,z7]
noncomputable def trT(P:List Cb)(l:List Nat)(cnt num:Nat)(acc:List W)(c:Cb):List Cb ⊕ W->SR
 |.inl d=>.rt (.fr (encRs (.inl (c::d)))) (envY P l cnt num acc (.fr (encU c)) (.fr (.lst ((rin c).map nI))) (.fr (encRs (.inl d))))
 |.inr t=>.nx (envY P l cnt num (acc++[.tup [encU c,t]]) (.fr (encU c)) (.fr (.lst ((rin c).map nI))) (.fr (encRs (.inr t))))
theorem y0l(r:Nat->List W->FR){P:List Cb}{num:Nat}{g:List Cb ⊕ W}{c:Cb}(h1:r q1g [.lst (l.map nI),.lst ((rin c).map nI)]=.ok (.own none ((lf l c).map nI)))
  (h2:r q2a [.lst (P.map rch),.lst ((lf l c).map nI),.int (cnt:Int)]=.ok (.fr (encRs g)))(hg:∀d,g=.inl d->d.length<=1000)(acc:List W)(ha:acc.length<=1000)(z7:S):
  q3i K a r (envY P l cnt num acc (.fr (encU c)) (.fr (.lst ((rin c).map nI))) z7)=trT P l cnt num acc c g:=by
 unfold q3i envY;walk_at "den";rw[h1];walk_at "den";rw[show((cnt+1:Nat):Int)-1=(cnt:Int) by omega,h2];walk_at "den";cases g with
 |inl d=>
  have:=hg d rfl;unfold trT envY encRs;walk_at "den";rw[w0a,if_pos (by omega)];walk_at "den"
  first|done|rfl
 |inr t=>
  unfold trT envY encRs;walk_at "den";rw[if_pos (by omega)]
theorem x2k(r:Nat->List W->FR){P:List Cb}{num:Nat}{go:Cb->List Cb ⊕ W}(h1:∀c∈P,r q1g [.lst (l.map nI),.lst ((rin c).map nI)]=.ok (.own none ((lf l c).map nI)))
  (h2:∀c∈P,r q2a [.lst (P.map rch),.lst ((lf l c).map nI),.int (cnt:Int)]=.ok (.fr (encRs (go c))))(hg:∀c d,go c=.inl d->d.length<=1000):∀(cs:List Cb)(acc:List W)(z5 z6 z7:S),(∀c∈cs,c∈P)->acc.length+cs.length<=1000 ->
  (∃d e,brF go num cs acc=.inl d/\forP 5 6 (q3i K a r) (cs.map fun c=>(encU c,.lst ((rin c).map nI))) (envY P l cnt num acc z5 z6 z7)=.rt (.fr (encRs (.inl d))) e) \/
  ∃acc' z5' z6' z7',acc'.length<=1000/\brF go num cs acc=.inr (.tup [nI num,.tup acc'])/\forP 5 6 (q3i K a r) (cs.map fun c=>(encU c,.lst ((rin c).map nI))) (envY P l cnt num acc z5 z6 z7)=.nx (envY P l cnt num acc' z5' z6' z7')
 |[],acc,z5,z6,z7,_,hl=>.inr ⟨acc,z5,z6,z7,by simpa using hl,rfl,rfl⟩
 |c::cs,acc,z5,z6,z7,hc,hl=>by
  simp only[w0p]at hl;have hcP:=hc c w0k;have e:=y0l (K:=K) (a:=a) r (num:=num) (h1 c hcP) (h2 c hcP) (hg c) acc (by omega) z7;have u:∀x,q3i K a r (envY P l cnt num acc (.fr (encU c)) (.fr (.lst ((rin c).map nI))) z7)=x->forP 5 6 (q3i K a r) ((c::cs).map fun c=>(encU c,.lst ((rin c).map nI))) (envY P l cnt num acc z5 z6 z7)=x.turnT (forP 5 6 (q3i K a r) (cs.map fun c=>(encU c,.lst ((rin c).map nI)))):=fun x h=>by rw[<- h];rfl
  rw[u _ e];unfold brF;cases q:go c with
  |inl d=>exact .inl ⟨_,_,rfl,rfl⟩
  |inr t=>exact x2k r h1 h2 hg cs (acc++[.tup [encU c,t]]) _ _ _ (fun d hd=>hc d (w0g _ hd)) (by rw[w0q];simp;omega)
theorem x7l:∀cs:List Cb,pairsW (cs.map rch)=some (cs.map fun c=>(encU c,.lst ((rin c).map nI)))
 |[]=>rfl
 |c::cs=>by
  show(pairsW (cs.map rch)).map ((encU c,.lst ((rin c).map nI))::·)=_;rw[x7l cs];rfl
theorem y0m{P:List Cb}{d:List Cb}(hn:n<=1000)(h:tryF P n l=.inl d):d.length<=1000:=w0l (q6x P n l d h).2.1 hn
theorem x4n{P:List Cb}(hP:P.length<=81):∀(cnt n:Nat)(l:List Nat),l.length<=100->cnt<=100->run K a (n+cnt+4) q2a [.lst (P.map rch),.lst (l.map nI),.int (cnt:Int)]=.ok (.fr (encRs (tryF P cnt l)))
 |cnt,n,[],_,_=>by
  rw[q67];unfold q5f tryF encRs;walk_at "den"
 |0,n,k::l,_,_=>by
  have rr:=x2j (K:=K) (a:=a) n (P:=P) (by omega) k l;rw[q67];unfold q5f tryF encRs;generalize run K a (n+0+3)=r at rr |-
  have e1:dFn len1 (dCons (dVar 1) dNil) (init 8 [.lst (P.map rch),.lst ((k::l).map nI),.int ((0:Nat):Int)])=.ok (.int ((l.length+1:Nat):Int)) (init 8 [.lst (P.map rch),.lst ((k::l).map nI),.int ((0:Nat):Int)]):=by
   unfold init;walk_at "den";rw[w0a]
  walk_at "den";rw[w0a,if_neg (by omega)];rw[w0n]at rr;rw[rr];walk_at "den"
 |cnt+1,n,k::l,hl,hcnt=>by
  have rr:=x2j (K:=K) (a:=a) (n+cnt+1) (P:=P) (by omega) k l;have hh:=q57 (K:=K) (a:=a) (n+cnt+3) (P:=P) (by omega) (rar P (k::l):Int);have h1:∀c∈P,run K a (n+cnt+4) q1g [.lst ((k::l).map nI),.lst ((rin c).map nI)]=.ok (.own none ((lf (k::l) c).map nI)):=fun c _=>q50 (K:=K) (a:=a) (n+cnt+3) (by omega)
  have h2:∀c∈P,run K a (n+cnt+4) q2a [.lst (P.map rch),.lst ((lf (k::l) c).map nI),.int (cnt:Int)]=.ok (.fr (encRs (tryF P cnt (lf (k::l) c)))):=fun c _=>x4n hP cnt n _ (w0l (x7i _ c) hl) (by omega)
  have lp:=x2k (K:=K) (a:=a) (run K a (n+cnt+4)) (num:=rar P (k::l)) h1 h2 (fun c d h=>y0m (by omega) h) (hv P (rar P (k::l):Int)) [] .no .no .no (fun c hc=>(hv_mem.mp hc).1) (by
   have:(hv P (rar P (k::l):Int)).length<=P.length:=w1c _ _;simp;omega)
  rw[show n+(cnt+1)+4=n+cnt+4+1 by omega,q67];unfold q5f tryF;rw[show n+cnt+1+3=n+cnt+4 by omega]at rr;generalize run K a (n+cnt+4)=r at rr hh lp |-
  unfold envY at lp;rw[w0n]at rr lp |-
  walk_at "den";rw[w0a,if_neg (by omega),rr];walk_at "den";rw[if_neg (show ¬(((cnt+1:Nat):Int)=0) by omega)];rw[show r q2u [.lst (P.map rch),nI (rar P (k::l))]=_ from hh];walk_at "den";rw[x7l];walk_at "den";rcases lp with⟨d,e,b1,b2⟩|⟨acc',z5,z6,z7,b0,b1,b2⟩
  ·rw[b2,b1];rfl
  ·rw[b2,b1];unfold encRs;walk_at "den"
noncomputable def sc:Option Bool->Nat
 |none=>45
 |some false=>48
 |some true=>49
theorem z21(o:Option Bool):sgn o=tx [sc o]:=by
 cases o with
 |none=>decide +kernel
 |some b=>cases b<;>decide +kernel
theorem join_list(c:Cb):(Txt.join "" (c.map sgn)).cps.toList=c.map sc:=by
 rw[show c.map sgn=(c.map sc).map fun c=>tx [c] by rw[w2r];exact w4z fun o _=>z21 o,y5p,y9g]
theorem x7m{u v:List Nat}(h:u<v):∀x:List Nat,x++u<x++v
 |[]=>h
 |a::x=>w2t.mpr (.inr ⟨rfl,x7m h x⟩)
theorem y3a:∀{x y:List Nat}(u v:List Nat),x.length=y.length->x<y->x++u<y++v
 |[],[],_,_,_,h=>(w4v _ h).elim
 |a::x,b::y,u,v,hl,h=>by
  rcases w2t.mp h with h|⟨e,h⟩
  ·exact w2t.mpr (.inl h)
  ·exact w2t.mpr (.inr ⟨e,y3a u v (by simpa using hl) h⟩)
theorem x4o:∀m,(cubesF m).Pairwise fun c d=>c.map sc<d.map sc
 |0=>List.pairwise_singleton _ _
 |m+1=>by
  show((cubesF m).flatMap up3).Pairwise _;rw[w4p];refine⟨fun c _=>?_,?_⟩
  ·unfold up3;simp only[w1r,w0h,w1d,or_false,w1l,List.Pairwise.nil,and_true];refine⟨fun x hx=>?_,fun x hx=>?_,fun _ h=>(by cases h)⟩
   ·rcases hx with rfl|rfl<;>(rw[w1l];exact x7m (by decide) _)
   ·subst hx;rw[w1l];exact x7m (by decide) _
  ·refine List.Pairwise.imp_of_mem (fun {c d} hc hd h x hx y hy=>?_) (x4o m)
   have lc:=(q2i m c).mp hc;have ld:=(q2i m d).mp hd;simp only[up3,w0h,w1d,or_false]at hx hy;rcases hx with rfl|rfl|rfl<;>rcases hy with rfl|rfl|rfl<;>(rw[w1l,w1l];exact y3a _ _ (by rw[w0a,w0a,lc,ld]) h)
noncomputable def txtU(c:Cb):Str:=Txt.join "" (c.map sgn)
theorem y3b{F:List W->FR}(hF:∀c:Cb,c.length<=1000->F [encU c]=.ok (.fr (.str (txtU c)))):∀cs:List Cb,(∀c∈cs,c.length<=1000)->keysW F (cs.map encU)=some (cs.map txtU)
 |[],_=>rfl
 |c::cs,h=>by
  show(match str1R (F [encU c]),keysW F (cs.map encU)with
   |some n,some ns=>some (n::ns)
   |_,_=>none)=_
  rw[hF c (h c w0k),y3b hF cs fun d hd=>h d (w0g _ hd)]
  rfl
noncomputable def srtU(P cs:List Cb):List Cb:=P.filter fun c=>cs.contains c
theorem y0n(w:Cb)(m:Nat)(cs:List Cb):(srtU (Pm w m) cs).Nodup:=List.Pairwise.filter _ (List.Pairwise.filter _ (q9k m))
theorem srtU_mem{P cs:List Cb}{c:Cb}:c∈srtU P cs↔c∈P/\c∈cs:=by
 unfold srtU;rw[w0s];simp
theorem x4p{w:Cb}{cs:List Cb}(h1:∀c∈cs,c∈Pm w m)(h2:cs.Nodup):(srtU (Pm w m) cs).Perm cs:=
 (List.perm_ext_iff_of_nodup (y0n w m cs) h2).mpr fun c=>srtU_mem.trans ⟨fun h=>h.2,fun h=>⟨h1 c h,h⟩⟩
theorem y9l{F:List W->FR}(hF:∀c:Cb,c.length<=1000->F [encU c]=.ok (.fr (.str (txtU c)))){w:Cb}(hm:m<=4){cs:List Cb}(h1:∀c∈cs,c∈Pm w m)(h2:cs.Nodup)(h3:cs.length<64):srtK F (.lst (cs.map encU))=some ((srtU (Pm w m) cs).map encU):=by
 have hlen:∀c∈cs,c.length<=1000:=fun c hc=>by rw[(x5f w hm).2 c (h1 c hc)];omega
 show(if(cs.map encU).length<64 then(keysW F (cs.map encU)).bind fun ns=>srtW ns (cs.map encU)else none)=_
 rw[w0a,if_pos h3,y3b hF cs hlen];show srtW (cs.map txtU) (cs.map encU)=_
 have hz:(cs.map txtU).zip (cs.map encU)=cs.map fun c=>(txtU c,encU c):=by
  rw[List.zip_map',]
 have pm:=x4p h1 h2;rw[y80 (zs:=(srtU (Pm w m) cs).map fun c=>(txtU c,encU c)) (by rw[w0a,w0a]) (by rw[hz];exact pm.map _) ?_,w2r]
 ·rfl
 ·refine w4a.mpr (List.Pairwise.imp (fun {c d} h=>?_) (List.Pairwise.filter _ (List.Pairwise.filter _ (x4o m))))
  show(txtU c).cps.toList<(txtU d).cps.toList;unfold txtU;rw[join_list,join_list];exact h
theorem y5u{w:Cb}{cs:List Cb}(h1:∀c∈cs,c∈Pm w m)(h2:cs.Nodup):(srtU (Pm w m) cs).length=cs.length:=by
 have pm:=x4p h1 h2;exact pm.length_eq
theorem x7n(R:Nat->List W->FR){P:List Cb}(A:W)(hR:∀cnt:Nat,cnt<=100->R q2a [.lst (P.map rch),.lst (l.map nI),.int (cnt:Int)]=.ok (.fr (encRs (tryF P cnt l)))):∀(d j fuel:Nat)(T:W),(∃x,tryF P (j+d) l=.inl x)->(∀i,i<d->∃t,tryF P (j+i) l=.inr t)->j+d<=100->d<fuel ->
  ∃T',(d=0->T'=T)/\(∀e,d=e+1->tryF P (j+e) l=.inr T')/\whileD (q27 K a R) (q33 K a R) fuel [.fr A,.fr (.lst (P.map rch)),.fr (.lst (l.map nI)),.fr (.int (j:Int)),.fr T,.fr (encRs (tryF P j l))]=.nx [.fr A,.fr (.lst (P.map rch)),.fr (.lst (l.map nI)),.fr (.int ((j+d:Nat):Int)),.fr T',.fr (encRs (tryF P (j+d) l))]
 |0,j,fuel+1,T,h1,_,_,_=>by
  obtain⟨x,hx⟩:=h1;refine⟨T,fun _=>rfl,fun e he=>by omega,?_⟩
  simp only[w5o]at hx |-
  rw[x8t,hx,show encRs (.inl x)=.tup [.str "cover", .lst (x.map encU)]from rfl];unfold q27;walk_at "den"
 |d+1,j,fuel+1,T,h1,h2,h3,h4=>by
  obtain⟨t,ht⟩:=h2 0 (by omega);rw[w5o]at ht;have e1:j+(d+1)=j+1+d:=by omega
  rw[e1]at h1 |-
  obtain⟨T',a1,a2,a3⟩:=x7n R A hR d (j+1) fuel t h1 (fun i hi=>by
   obtain⟨u,hu⟩:=h2 (i+1) (by omega);exact⟨u,by rw[show j+1+i=j+(i+1) by omega];exact hu⟩) (by omega) (by omega)
  refine⟨T',fun z=>by omega,fun e he=>?_,?_⟩
  ·cases e with
   |zero=>
    have:d=0:=by omega
    rw[a1 this,w5o];exact ht
   |succ e=>
    have:=a2 e (by omega);rw[show j+(e+1)=j+1+e by omega];exact this
  ·rw[<- a3,x8t,ht];have hr:=hR (j+1) (by omega)
   have ew:q27 K a R [.fr A,.fr (.lst (P.map rch)),.fr (.lst (l.map nI)),.fr (.int (j:Int)),.fr T,.fr (encRs (.inr t))]=.ok true [.fr A,.fr (.lst (P.map rch)),.fr (.lst (l.map nI)),.fr (.int (j:Int)),.fr T,.fr (encRs (.inr t))]:=by
    unfold q27 encRs;walk_at "den"
   have el:q33 K a R [.fr A,.fr (.lst (P.map rch)),.fr (.lst (l.map nI)),.fr (.int (j:Int)),.fr T,.fr (encRs (.inr t))]=.nx [.fr A,.fr (.lst (P.map rch)),.fr (.lst (l.map nI)),.fr (.int ((j+1:Nat):Int)),.fr t,.fr (encRs (tryF P (j+1) l))]:=by
    unfold q33;rw[show encRs (.inr t)=.tup [.str "tree", t]from rfl];walk_at "den";rw[show(j:Int)+1=((j+1:Nat):Int) by omega,hr];walk_at "den"
   rw[ew,y1g,if_pos rfl,el];rfl
theorem y3c(n:Nat){w:Cb}(hw:w.length=2^m)(hm:m<=4):∃N cs T,N<=16/\LC (Pm w m) (wr w) N cs T/\run K a (n+120) q1t [.lst (w.map eo)]=.ok (.fr (.tup [.lst ((srtU (Pm w m) cs).map encU),T])):=by
 have h16:(wr w).length<=16:=by
  have:=x7g w;have:2^m<=16:=w0l (w0x (by decide) hm) (by decide);omega
 have hP:=(x5f w hm).1;obtain⟨N,hN,⟨cs,hcs⟩,ht⟩:=y9j (P:=Pm w m) (l:=wr w) fun k hk=>y29 hw hk
 have rr:=x0p (K:=K) (a:=a) (n+112) hw hm;have wi:=q74 (K:=K) (a:=a) (n+115) hw hm
 have tr:∀cnt:Nat,cnt<=100->run K a (n+119) q2a [.lst ((Pm w m).map rch),.lst ((wr w).map nI),.int (cnt:Int)]=.ok (.fr (encRs (tryF (Pm w m) cnt (wr w)))):=fun cnt hc=>by
  have:=x4n (K:=K) (a:=a) hP cnt (n+115-cnt) (wr w) (by omega) hc
  rwa [show n+115-cnt+cnt+4=n+119 by omega]at this
 have tx:∀c:Cb,c.length<=1000->run K a (n+119) q2c [encU c]=.ok (.fr (.str (txtU c))):=fun c hc=>y5s (K:=K) (a:=a) (n+118) hc
 obtain⟨T,a1,a2,a3⟩:=x7n (K:=K) (a:=a) (run K a (n+119)) (.lst (w.map eo)) tr N 0 1000000 .non (by rw[w2z];exact⟨cs,hcs⟩) (fun i hi=>by rw[w2z];exact ht i hi) (by omega) (by omega)
 rw[w2z]at a3;have L:LC (Pm w m) (wr w) N cs T:=⟨hcs,a1,fun e he=>by have:=a2 e he;rwa [w2z]at this⟩
 obtain⟨b1,b2,b3,b4⟩:=q6x _ _ _ _ hcs;refine⟨N,cs,T,by omega,L,?_⟩;have sr:=y9l (F:=run K a (n+119) q2c) tx hm (fun c hc=>(b1 c hc).1) b4 (by omega)
 rw[q66];unfold q3u;rw[show n+112+7=n+119 by omega]at rr;rw[show n+115+4=n+119 by omega]at wi;have t0:=tr 0 (by omega);generalize run K a (n+119)=r at rr wi t0 a3 sr |-
 walk_at "den";rw[rr];walk_at "den";rw[wi];walk_at "den";rw[show r q2a [.lst (((cubesF m).filter fun c=>prB c w).map rch),.lst ((wr w).map nI),.int 0]=_ from t0]
 walk_at "den";rw[show((cubesF m).filter fun c=>prB c w)=Pm w m from rfl,show(0:Int)=((0:Nat):Int)from rfl,a3,hcs]
 rw[show encRs (.inl cs)=.tup [.str "cover", .lst (cs.map encU)]from rfl];walk_at "den";rw[sr];walk_at "den"
open M10
noncomputable def inF:List (List (Option Bool))->List Int->List Int
 |[],l=>l
 |c::cs,l=>inF cs (l++sortI (lrF c [0]))
theorem y9m(hc:c.length=m)(hm:m<=4):(sortI (lrF c [0])).length<=16:=by
 have h16:2^c.length<=16:=w0l (w0x (by decide) (by omega)) (by decide:2^4<=16);have hl:=q7u c [0];rw[(q3n _).length_eq];simp only[w0p,w2f]at hl;omega
theorem x9i:∀(cs:List (List (Option Bool)))(l:List Int)(k:Nat),((k:Nat):Int)∈inF cs l↔(k:Int)∈l\/∃c∈cs,k∈rin c
 |[],l,k=>by simp[inF]
 |c::cs,l,k=>by
  show(k:Int)∈inF cs _↔_
  have e:(k:Int)∈sortI (lrF c [0])↔k∈rin c:=by
   rw[(q3n _).mem_iff,x7b];constructor
   ·rintro⟨j,hj,e⟩;obtain rfl:k=j:=by omega
    exact hj
   ·exact fun h=>⟨k,h,rfl⟩
  rw[x9i cs,w2e,e];simp;constructor
  ·rintro((h|h)|h)
   ·exact .inl h
   ·exact .inr (.inl h)
   ·exact .inr (.inr h)
  ·rintro(h|h|h)
   ·exact .inl (.inl h)
   ·exact .inl (.inr h)
   ·exact .inr h
theorem x4q:∀ts:List Int,(ts.map W.int).all scalW=true
 |[]=>rfl
 |_::ts=>by rw[w0n,w1s,x4q ts];rfl
theorem x7o(k:Int):∀ts:List Int,((ts.map W.int).any fun y=>eqS y (.int k))=ts.contains k
 |[]=>rfl
 |t::ts=>by
  rw[w0n,w3c,x7o k ts,w3v];congr 1;show((t==k):Bool)=(k==t);apply w1k.mpr;simp only[beq_iff_eq];omega
theorem y5v(k:Int)(ts:List Int):ninW (.int k) (.lst (ts.map .int))=some (.bl (!ts.contains k)):=by
 show(if scalW (.int k)=true/\(ts.map W.int).all scalW=true then some (W.bl (!(ts.map W.int).any fun y=>eqS y (.int k)))else none)=_
 rw[if_pos ⟨rfl,x4q ts⟩,x7o]
theorem x4r(n:Nat)(hw:w.length=2^m)(hm:m<=4)(co:W):∀(cs:List (List (Option Bool)))(l:List Int)(z:S),(∀c∈cs,c.length=m)->l.length+16*cs.length<=100000 ->
  ((cs.all fun c=>fitB c w)=true->∃z',forD 3 (q2z K a (run K a (n+2))) (cs.map encU) [.fr co,.fr (.lst (w.map eo)),.fr (.lst (l.map .int)),z]=.nx [.fr co,.fr (.lst (w.map eo)),.fr (.lst ((inF cs l).map .int)),z']) /\
  ((cs.all fun c=>fitB c w)=false->∃e',forD 3 (q2z K a (run K a (n+2))) (cs.map encU) [.fr co,.fr (.lst (w.map eo)),.fr (.lst (l.map .int)),z]=.rt (.fr (.bl false)) e')
 |[],l,z,_,_=>⟨fun _=>⟨z,rfl⟩,fun h=>by simp at h⟩
 |c::cs,l,z,hc,hl=>by
  have h1:=hc c (by simp);have h16:=y9m h1 hm;rw[w0p]at hl;have ih:=x4r n hw hm co cs (l++sortI (lrF c [0])) (.fr (encU c)) (fun c h=>hc c (by simp[h])) (by rw[w0q];omega)
  have eb:q2z K a (run K a (n+2)) [.fr co,.fr (.lst (w.map eo)),.fr (.lst (l.map .int)),.fr (encU c)]=if fitB c w=true then .nx [.fr co,.fr (.lst (w.map eo)),.fr (.lst ((l++sortI (lrF c [0])).map .int)),.fr (encU c)]else .rt (.fr (.bl false)) [.fr co,.fr (.lst (w.map eo)),.fr (.lst (l.map .int)),.fr (encU c)]:=by
   unfold q2z encU;walk_at "den";rw[y23 n (by rw[h1];exact hw) (by omega)];cases fitB c w with
   |false=>walk_at "den"
   |true=>
    walk_at "den";rw[x0n (n+1) (by omega)];walk_at "den";rw[if_pos (by simp only[w0a];omega)];walk_at "den";rw[w1l]
  rw[w0n,q3m];simp only[w2b,w2c];rw[eb,w1s];cases hf:fitB c w with
  |true=>
   rw[if_pos rfl,q4f,w2h];exact ih
  |false=>
   rw[if_neg (by decide)];exact⟨fun q=>by simp at q,fun _=>⟨_,rfl⟩⟩
theorem x7p:∀l:List Nat,depWs (l.map nI)=0
 |[]=>rfl
 |x::l=>by
  show max (depW (nI x)) (depWs (l.map nI))=0;rw[x7p l];rfl
theorem y9n(l:List Nat):eq2 (.lst (l.map nI)) (.lst [])=some (.bl l.isEmpty):=by
 cases l with
 |nil=>rfl
 |cons x xs=>
  unfold eq2;rw[if_pos (by simp only[depW,x7p,depWs];omega)];rfl
theorem y5w(n:Nat)(hw:w.length=2^m)(hm:m<=4){cs:List (List (Option Bool))}(hc:∀c∈cs,c.length=m)(hl:cs.length<=1000):run K a (n+3) q1o [.lst (cs.map encU),.lst (w.map eo)]=.ok (.fr (.bl (covB cs w))):=by
 have h10:=pow10 (show m<=10 by omega);rw[q6w];unfold q3h;walk_at "den";obtain⟨h1,h2⟩:=x4r (K:=K) (a:=a) n hw hm (.lst (cs.map encU)) cs [] .no hc (by simp only[w2f];omega);unfold covB;cases q:(cs.all fun c=>fitB c w)with
 |true=>
  obtain⟨z',h3⟩:=h1 q;simp only[w1t]at h3;rw[h3];walk_at "den";rw[w0a,if_pos (q22 (by omega) (by omega))];walk_at "den";rw[if_pos (by rw[q24];omega)];simp only[frz1,pj1,w0e,w0m];rw[q3k,q42 (q:=fun k=>(w.getD k none==some true)&&!(inF cs []).contains ((k:Nat):Int)) (g:=nI) (en:=fun k=>W.int ((k:Nat):Int)) (List.range w.length)]
  ·walk_at "den";rw[y9n];walk_at "den"
   have e:(List.filter (fun(k:Nat)=>(w.getD k none==some true)&&!(inF cs []).contains ((k:Nat):Int)) (List.range w.length)).isEmpty=(rst cs (wr w)).isEmpty:=by
    apply w1k.mpr;rw[w4i,w4i,w2g,w2g];refine forall_congr' fun k=>not_congr ?_
    rw[q9y];unfold wr;rw[w0s,w0s,w0j,w3h,<- w4h,w4q,x9i];simp;exact and_assoc.symm
   rw[e];rfl
  ·intro k hk;rw[w0u]at hk;unfold q6t q6s;walk_at "den";rw[q9v hk];walk_at "den";rw[q9w];walk_at "den";cases hb:(w.getD k none==some true)with
   |false=>
    walk_at "den";exact⟨_,rfl,fun q=>by simp at q⟩
   |true=>
    walk_at "den";rw[y5v];walk_at "den";exact⟨_,rfl,fun _=>⟨_,rfl⟩⟩
 |false=>
  obtain⟨e',h3⟩:=h2 q;simp only[w1t]at h3;rw[h3];rfl
theorem widen(h:q<c.length):cutW (c.map eo) none (some (q:Int))++[W.non]++cutW (c.map eo) (some ((q:Int)+1)) none=(c.take q++none::c.drop (q+1)).map eo:=by
 rw[x7d (by rw[w0a];omega),show(q:Int)+1=((q+1:Nat):Int)from rfl,x08 (by rw[w0a];omega)];simp[List.map_take,List.map_drop,eo]
theorem q9n(h:q<c.length):(c.take q++none::c.drop (q+1)).length=c.length:=by
 simp;omega
theorem x7q{go:Cb->List Cb ⊕ W}{num:Nat}:∀{cs:List Cb}{acc:List W}{t:W},brF go num cs acc=.inr t->∃us:List W,us.length=cs.length/\(∀(i:Nat) c,cs[i]?=some c->∃u,go c=.inr u/\us[i]?=some (.tup [encU c,u]))/\t=.tup [nI num,.tup (acc++us)]
 |[],acc,t,e=>⟨[],rfl,fun i c h=>by simp at h,by rw[w1n];exact(Sum.inr.inj e).symm⟩
 |c::cs,acc,t,e=>by
  unfold brF at e;cases q:go c with
  |inl x=>rw[q]at e;cases e
  |inr u=>
   rw[q]at e;obtain⟨us,h1,h2,h3⟩:=x7q e;refine⟨.tup [encU c,u]::us,by simp[h1],fun i d h=>?_,by rw[h3,w2v];rfl⟩
   cases i with
   |zero=>cases h;exact⟨u,q,rfl⟩
   |succ i=>exact h2 i d h
open M10
theorem x9j{j:Nat}(hj:j<m):(rowB m k)[j]?=some (decide ((k:Int) / 2^(m-1-j)%2=1)):=by
 unfold rowB;rw[w4m (by rw[q5e];exact hj),q5e,x68 _ _ _ (by omega)]
theorem y3d{J:Int}(h0:0<=J)(h1:J<=1000):-18446744073709551616<J/\J<18446744073709551616:=⟨by omega,by omega⟩
theorem grown0(r:Nat->List W->FR)(hm:m<=4)(k:Nat):compD dYes (q4j K a r) [.fr (.int (k:Int)),.fr (.int (m:Int))] ((List.range m).map fun k=>W.int ((k:Nat):Int))=some (((rowB m k).map some).map eo):=by
 have h3:compD dYes (q4j K a r) [.fr (.int (k:Int)),.fr (.int (m:Int))] ((List.range m).map fun k=>W.int ((k:Nat):Int))=some ((List.range m).map fun j=>eo (((rowB m k).map some).getD j none)):=by
  refine q4k (g:=fun j=>eo (((rowB m k).map some).getD j none)) (List.range m) fun j hj=>?_
  rw[w0u]at hj;refine⟨[.fr (.int (j:Int)),.fr (.int (k:Int)),.fr (.int (m:Int))],?_⟩;unfold q4j;walk_at "den";rw[show(m:Int)-1-(j:Int)=((m-1-j:Nat):Int) by omega,x06 (m:=m-1-j) (by omega) rfl];walk_at "den";have hp:0<2^(m-1-j):=w5a (by decide);have hp2:2^(m-1-j)<=16:=w0l (w0x (by decide) (by omega)) (by decide:2^4<=16)
  have eg:((rowB m k).map some).getD j none=some (decide ((k:Int) / ((2^(m-1-j):Nat):Int)%2=1)):=by
   show(((rowB m k).map some)[j]?).getD none=_;rw[w0w,x9j hj,<- q6b];rfl
  rw[eg];generalize 2^(m-1-j)=t at hp hp2;rw[if_pos ⟨by omega,by omega⟩];rfl
 have e0:(List.range m).map (fun j=>eo (((rowB m k).map some).getD j none))=(((rowB m k).map some)).map eo:=by
  apply w3g;intro j
  by_cases h:j<m
  ·rw[w0w,w0w,w5e h];show some (eo ((((rowB m k).map some)[j]?).getD none))=_;rw[w0w,x9j h];rfl
  ·rw[w1m (by simp;omega),w1m (by simp[q4b];omega)]
 rw[e0]at h3;exact h3
theorem y0o(n:Nat){w:Cb}(hw:w.length=2^m)(hm:m<=4)(hm0:(0:Int)<(m:Int))(k:Nat)(mk:Int){J:Int}(jb:-18446744073709551616<J/\J<18446744073709551616){c:Cb}(hcl:c.length=m)(hfit:fitB ((rowB m k).map some) w=true->fitB c w=true)(z6 z7:S):
  ∃e',q4i K a (run K a (n+2)) [.fr (.lst (w.map eo)),.fr (.int (k:Int)),.fr (.int (m:Int)),.fr (.int mk),.fr (.lst (c.map eo)),.fr (.int J),z6,z7]=.nx e'/\∃(c:Cb)(z5 z6 z7:S),e'=[.fr (.lst (w.map eo)),.fr (.int (k:Int)),.fr (.int (m:Int)),.fr (.int mk),.fr (.lst (c.map eo)),z5,z6,z7]/\c.length=m/\(fitB ((rowB m k).map some) w=true->fitB c w=true):=by
 obtain⟨st,hst⟩:∃st,atI [W.int 1,W.int ((m:Int)-1)] (mk / 4%2)=some (.int st):=by
  have:mk / 4%2=0\/mk / 4%2=1:=by omega
  rcases this with h|h<;>(rw[h];exact⟨_,rfl⟩)
 obtain⟨q,hq⟩:=w2i (w2s (mk+J*st) (show(m:Int)≠0 by omega))
 have hqm:q<c.length:=by
  have:=w2a (mk+J*st) hm0;omega
 have l1:(cutW (c.map eo) none (some (q:Int))).length<=m:=by rw[x7d (by rw[w0a];omega),w2j,w0a];omega
 have l2:(cutW (c.map eo) none (some (q:Int))++[W.non]).length+(cutW (c.map eo) (some ((q:Int)+1)) none).length<=100:=by
  rw[w0q,show(q:Int)+1=((q+1:Nat):Int)from rfl,x08 (by rw[w0a];omega),w2k,w0a,w2p];omega
 have lf:=y0i (K:=K) (a:=a) n (c:=c.take q++none::c.drop (q+1)) (w:=w) (by rw[q9n hqm,hcl];exact hw) (by rw[q9n hqm];omega);unfold q4i;generalize run K a (n+2)=r at lf |-
 walk_at "den";rw[hst];walk_at "den";rw[if_pos (.inl jb)];walk_at "den";rw[if_pos hm0];walk_at "den";rw[hq,if_pos (by omega)];walk_at "den";rw[if_pos (by omega)];walk_at "den";rw[widen hqm,lf];walk_at "den";cases hb:fitB (c.take q++none::c.drop (q+1)) w
 ·exact⟨_,rfl,c,_,_,_,rfl,hcl,hfit⟩
 ·exact⟨_,rfl,_,_,_,_,rfl,by rw[q9n hqm];exact hcl,fun _=>hb⟩
theorem y3e(n:Nat){w:Cb}(hw:w.length=2^m)(hm:m<=4)(k:Nat)(mk:Int):∃c:Cb,run K a (n+3) q2v [.lst (w.map eo),.int (k:Int),.int (m:Int),.int mk]=.ok (.fr (encU c))/\c.length=m/\(fitB ((rowB m k).map some) w=true->fitB c w=true):=by
 have h3:=grown0 (K:=K) (a:=a) (run K a (n+2)) hm k;rw[q7q];unfold q4a;walk_at "den";rw[if_pos (q22 (by omega) (by omega))];walk_at "den";rw[if_pos (by rw[q24];omega)];simp only[frz1,pj1,w0e,w0m];rw[q3k,h3];walk_at "den";rw[if_pos (q22 (by omega) (by omega))];walk_at "den"
 obtain⟨e',h5,c,z5,z6,z7,rfl,hcl,hfit⟩:=q43 (b:=q4i K a (run K a (n+2))) (i:=5) (lo:=0) (hi:=(m:Int)) m (by omega) (fun j e=>∃(c:Cb)(z5 z6 z7:S),e=[.fr (.lst (w.map eo)),.fr (.int (k:Int)),.fr (.int (m:Int)),.fr (.int mk),.fr (.lst (c.map eo)),z5,z6,z7]/\c.length=m/\(fitB ((rowB m k).map some) w=true->fitB c w=true)) [.fr (.lst (w.map eo)),.fr (.int (k:Int)),.fr (.int (m:Int)),.fr (.int mk),.fr (.lst (((rowB m k).map some).map eo)),.no,.no,.no] ⟨(rowB m k).map some,_,_,_,rfl,by rw[w0a,q4b],id⟩ (by
  rintro j e hj ⟨c,z5,z6,z7,rfl,hcl,hfit⟩;exact y0o (K:=K) (a:=a) n hw hm (by omega) k mk (y3d (by omega) (by omega)) hcl hfit z6 z7)
 rw[h5];walk_at "den";exact⟨c,rfl,hcl,hfit⟩
theorem x9k{P:List Cb}(hm:m<=4)(hP:P.length<=81)(hc:∀c∈P,c.length=m):∀(cnt:Nat)(l:List Nat)(t:W),tryF P cnt l=.inr t->TT P cnt l t=true/\Tr cnt t
 |cnt,[],t,e=>by unfold tryF at e;cases e
 |0,k::l,t,e=>by
  unfold tryF at e;cases Sum.inr.inj e;refine⟨?_,.inr ⟨_,rfl⟩⟩;show(inI (rar P (k::l):Int) (k::l)&&true)=true;rw[x88 (q90 P k l)];rfl
 |cnt+1,k::l,t,e=>by
  unfold tryF at e;obtain⟨us,u1,u2,rfl⟩:=x7q e;rw[w4n];have hvP:∀(i:Nat) c,(hv P (rar P (k::l):Int))[i]?=some c->c∈P:=fun i c h=>(hv_mem.mp (w1g h)).1
  have ih:∀(i:Nat) c,(hv P (rar P (k::l):Int))[i]?=some c->∃u,us[i]?=some (.tup [encU c,u])/\TT P cnt (lf (k::l) c) u=true/\Tr cnt u:=fun i c h=>by
   obtain⟨u,g1,g2⟩:=u2 i c h;obtain⟨z1,z2⟩:=x9k hm hP hc cnt _ u g1;exact⟨u,g2,z1,z2⟩
  refine⟨?_,.inr ⟨_,us,rfl,by rw[u1];exact w0l (w1c _ _) hP,fun b hb=>?_⟩⟩
  ·show(inI (rar P (k::l):Int) (k::l)&&(if cnt+1=0 then us.isEmpty else(decide (us.length=(hv P (rar P (k::l):Int)).length)&&(us.zip (hv P (rar P (k::l):Int))).all fun p=>BT (TT P cnt) (k::l) p.1 p.2)))=true
   rw[x88 (q90 P k l),if_neg (Nat.succ_ne_zero _),decide_eq_true u1,w2h,w2h,w0t];intro p hp;obtain⟨i,hi,rfl⟩:=w2d.mp hp;have hi2:i<(hv P (rar P (k::l):Int)).length:=by rw[w2q]at hi;omega
   have hi1:i<us.length:=by rw[w2q]at hi;omega
   obtain⟨u,g1,g2,_⟩:=ih i _ (w0b hi2);rw[w0b hi1]at g1;rw[List.getElem_zip];show BT (TT P cnt) (k::l) us[i] (hv P (rar P (k::l):Int))[i]=true;rw[Option.some.inj g1];show(eqc (encU _) _&&TT P cnt (lf (k::l) _) u)=true;rw[y6b,decide_eq_true rfl,g2];rfl
  ·obtain⟨i,hi,rfl⟩:=w2d.mp hb;have hi2:i<(hv P (rar P (k::l):Int)).length:=by rw[<- u1];exact hi
   obtain⟨u,g1,_,g3⟩:=ih i _ (w0b hi2);rw[w0b hi]at g1;exact⟨_,u,Option.some.inj g1,by rw[hc _ (hvP i _ (w0b hi2))];omega,g3⟩
theorem x2l(M:Exs K mg a){w:Cb}(hw:w.length=2^m)(hm:m<=4){cnt:Int}(h1:cnt<=20){t:W}(hf:fine t=true)(hd:depW t<=100):run K a 148 q1u [.lst (w.map eo),.int cnt,t]=.ok (.fr (.bl (ans w m cnt t))):=by
 obtain⟨p1,p2⟩:=x5f w hm;have rr:run K a 147 q16 [.lst (w.map eo)]=.ok (.own none ((Pm w m).map rch)):=x0p (K:=K) (a:=a) 140 hw hm;have wd:run K a 147 q1f [.lst (w.map eo)]=.ok (.own none ((wr w).map nI)):=q74 (K:=K) (a:=a) 143 hw hm
 have tr:0<=cnt->run K a 147 q2s [t,.lst ((Pm w m).map rch),.lst ((wr w).map nI),.int cnt]=.ok (.fr (.bl (TT (Pm w m) cnt.toNat (wr w) t))):=fun h0=>by
  have:=y5o (K:=K) (a:=a) M hm p1 p2 cnt.toNat (143-2*cnt.toNat) (wr w) t hf hd (z2z hw hm);rw[show 143-2*cnt.toNat+2*cnt.toNat+4=147 by omega,show((cnt.toNat:Nat):Int)=cnt by omega]at this;exact this
 unfold ans;show run K a (147+1) q1u _=_;rw[q68];unfold q3v;generalize run K a 147=r at rr wd tr |-
 walk_at "den";rw[rr];walk_at "den"
 by_cases hc:cnt<0
 ·rw[if_pos hc,if_pos hc,z20 hf];walk_at "den"
 ·rw[if_neg hc,if_neg hc,wd];walk_at "den";rw[tr (by omega)];walk_at "den"
theorem fewer{w:Cb}{cs:List Cb}{T:W}(L:LC (Pm w m) (wr w) N cs T){ds:List Cb}(hd:∀c∈ds,c.length=m)(hf:∀c∈ds,fitB c w=true)(hl:ds.length<N):¬Cov ds (wr w):=by
 have key:∀ds:List Cb,(∀c∈ds,c.length=m)->(∀c∈ds,fitB c w=true)->∃es:List Cb,es.length<=ds.length/\(∀c∈es,c∈Pm w m)/\∀k∈wr w,(∃c∈ds,k∈rin c)->∃c∈es,k∈rin c:=by
  intro ds
  induction ds with
  |nil=>exact fun _ _=>⟨[],w0f _,fun _ h=>(by cases h),fun k _ ⟨c,h,_⟩=>(by cases h)⟩
  |cons d ds ih=>
   intro h1 h2;obtain⟨es,e1,e2,e3⟩:=ih (fun c h=>h1 c (w0g _ h)) fun c h=>h2 c (w0g _ h)
   by_cases z:∃k∈wr w,k∈rin d
   ·obtain⟨k,k1,k2⟩:=z;have hk:w.getD k none=some true:=by simpa using (w0s.mp k1).2
    obtain⟨p,p1,p2,_,p4⟩:=q75 hk d.length d (by omega) (h2 d w0k) k2;refine⟨p::es,by simp;omega,fun c hc=>?_,fun j hj ⟨c,c1,c2⟩=>?_⟩
    ·rcases w0h.mp hc with rfl|hc
     ·exact w0s.mpr ⟨(q2i m c).mpr (by rw[p1,h1 d w0k]),p2⟩
     ·exact e2 c hc
    ·rcases w0h.mp c1 with rfl|c1
     ·exact⟨p,w0k,p4 j c2⟩
     ·obtain⟨x,x1,x2⟩:=e3 j hj ⟨c,c1,c2⟩;exact⟨x,w0g _ x1,x2⟩
   ·refine⟨es,by simp;omega,e2,fun j hj ⟨c,c1,c2⟩=>?_⟩
    rcases w0h.mp c1 with rfl|c1
    ·exact(z ⟨j,hj,c2⟩).elim
    ·exact e3 j hj ⟨c,c1,c2⟩
 obtain⟨es,e1,e2,e3⟩:=key ds hd hf;exact fun h=>L.least e2 (by omega) fun k hk=>e3 k hk (h k hk)
theorem cov_rst{cs:List Cb}:(rst cs l).isEmpty=true↔Cov cs l:=by
 rw[w4i,w2g];constructor
 ·intro h k hk;have:=h k;rw[q9y]at this
  by_cases z:∃c∈cs,k∈rin c
  ·exact z
  ·exact(this ⟨hk,fun c hc hk=>z ⟨c,hc,hk⟩⟩).elim
 ·intro h k hk;obtain⟨h1,h2⟩:=(q9y cs l k).mp hk;obtain⟨c,c1,c2⟩:=h k h1;exact h2 c c1 c2
theorem x8g(r:Nat->List W->FR)(w:Cb):compD (q5w K a r) (q5v K a r) [.fr (.lst (w.map eo))] ((List.range w.length).map fun k=>W.int ((k:Nat):Int))=some ((wr w).map nI):=by
 refine q42 (q:=fun k=>w.getD k none==some true) (g:=nI) (en:=fun k=>W.int ((k:Nat):Int)) (List.range w.length) fun k hk=>?_
 rw[w0u]at hk;refine⟨[.fr (.int (k:Int)),.fr (.lst (w.map eo))],?_,fun _=>⟨[.fr (.int (k:Int)),.fr (.lst (w.map eo))],?_⟩⟩
 ·unfold q5w;walk_at "den";rw[q9v hk];walk_at "den";rw[q9w];walk_at "den"
 ·unfold q5v;walk_at "den";rfl
theorem y3f(n:Nat)(hf:Fit ns)(hm:m<=4)(hk:k<=100):∃c:Cb,compD dYes (q3x K a (run K a (n+2))) [.fr (.lst (ns.map .int)),.fr (.int (k:Int))] ((List.range m).map fun k=>W.int ((k:Nat):Int))=some (c.map eo)/\c.length=m:=by
 obtain⟨os,h1,h2⟩:=x3e (d:=q3x K a (run K a (n+2))) (pe:=[.fr (.lst (ns.map .int)),.fr (.int (k:Int))]) (ws:=(List.range m).map fun k=>W.int ((k:Nat):Int)) (by
  intro x hx;obtain⟨j,hj,rfl⟩:=w1f.mp hx;rw[w0u]at hj;obtain⟨v,hv⟩:=q5g (K:=K) (a:=a) hf n (k:=20+4*(k:Int)+(j:Int)) (by omega) (by omega);obtain⟨o,ho⟩:=x85 (l:=[none,some false,some true]) (by simp) v;unfold q3x;walk_at "den";rw[hv];walk_at "den";have ho:atI [W.non,.bl false,.bl true] (v%3)=some (eo o):=ho;rw[ho];exact⟨o,_,rfl⟩)
 exact⟨os,h1,by rw[h2,w0a,w1v]⟩
noncomputable def envS(w:Cb)(m cnt:Nat)(ns:List Int)(cs:List Cb)(z6 z7:S):List S:=[.fr (.lst (w.map eo)),.fr (.int (m:Int)),.fr (.int (cnt:Int)),.fr (.lst (ns.map .int)),.fr (.lst ((wr w).map nI)),.own none (cs.map encU),z6,z7]
theorem y3g(hf:Fit ns)(n:Nat){w:Cb}(hw:w.length=2^m)(hm:m<=4)(hne:0<(wr w).length)(cnt:Nat){cs:List Cb}(hl:cs.length<=100)(hk:k<=100)(z7:S):∃c:Cb,c.length=m/\∃z7',q4w K a (run K a (n+3)) (envS w m cnt ns cs (.fr (.int (k:Int))) z7)=.nx (envS w m cnt ns (cs++[c]) (.fr (.int (k:Int))) z7'):=by
 obtain⟨v0,h0⟩:=q5g (K:=K) (a:=a) hf (n+1) (k:=60) (by omega) (by omega);obtain⟨v1,h1⟩:=q5g (K:=K) (a:=a) hf (n+1) (k:=20+(k:Int)) (by omega) (by omega);obtain⟨v2,h2⟩:=q5g (K:=K) (a:=a) hf (n+1) (k:=40+(k:Int)) (by omega) (by omega);obtain⟨c0,d1,d2⟩:=y3f (K:=K) (a:=a) (n+1) hf hm hk;obtain⟨q,hq⟩:=w2i (w2s v1 (show((wr w).length:Int)≠0 by omega));have hq2:q<(wr w).length:=by have:=w2a v1 (show(0:Int)<((wr w).length:Int) by omega);omega
 obtain⟨num,hnum⟩:∃num,(wr w)[q]?=some num:=⟨_,w0b hq2⟩;have ha:atI ((wr w).map nI) (q:Int)=some (.int (num:Int)):=q7i (by rw[w0w,hnum];rfl);obtain⟨c,e1,e2,_⟩:=y3e (K:=K) (a:=a) n hw hm num v2;have h0:run K a (n+3) q0y _=_:=h0;have h1:run K a (n+3) q0y _=_:=h1;have h2:run K a (n+3) q0y _=_:=h2;have d1:compD dYes (q3x K a (run K a (n+3))) _ _=_:=d1;unfold q4w envS;generalize run K a (n+3)=r at h0 h1 h2 d1 e1 |-
 walk_at "den";rw[h0];walk_at "den"
 by_cases hb:v0%4=0
 ·rw[if_pos hb,if_pos (q22 (by omega) (by omega))];walk_at "den";rw[if_pos (by rw[q24];omega)];simp only[frz1,pj1,w0e,w0m];rw[q3k,d1];walk_at "den";rw[if_pos (by rw[w0a];omega)];refine⟨c0,d2,z7,?_⟩;rw[w1l];rfl
 ·rw[if_neg hb,h1];walk_at "den";rw[w0a,if_pos (by omega)];walk_at "den";rw[hq,ha];walk_at "den";rw[h2];walk_at "den";rw[e1];walk_at "den";rw[if_pos (by rw[w0a];omega)];refine⟨c,e2,.fr (.int (num:Int)),?_⟩;rw[w1l];rfl
theorem y5x(hf:Fit ns)(n:Nat){w:Cb}(hw:w.length=2^m)(hm:m<=4)(hne:0<(wr w).length)(hc:cnt<=20):∃cs:List Cb,cs.length=cnt/\(∀c∈cs,c.length=m)/\run K a (n+4) q2f [.lst (w.map eo),.int (m:Int),.int (cnt:Int),.lst (ns.map .int)]=.ok (.own none (cs.map encU)):=by
 have h16:2^m<=16:=w0l (w0x (by decide) hm) (by decide)
 obtain⟨e',h5,cs,z6,z7,rfl,hl,hcl⟩:=q43 (b:=q4w K a (run K a (n+3))) (i:=6) (lo:=0) (hi:=(cnt:Int)) cnt (by omega) (fun j e=>∃(cs:List Cb)(z6 z7:S),e=envS w m cnt ns cs z6 z7/\cs.length=j/\∀c∈cs,c.length=m) (envS w m cnt ns [] .no .no) ⟨[],_,_,rfl,rfl,fun _ h=>(by cases h)⟩ (by
  rintro j e hj ⟨cs,z6,z7,rfl,hl,hcl⟩;rw[Int.zero_add];obtain⟨c,c1,z7',c2⟩:=y3g (K:=K) (a:=a) hf n hw hm hne cnt (cs:=cs) (by omega) (k:=j) (by omega) z7;refine⟨_,c2,cs++[c],_,_,rfl,by simp[hl],fun d hd=>?_⟩
  rcases w2e.mp hd with hd|hd
  ·exact hcl d hd
  ·rw[w1h.mp hd];exact c1)
 refine⟨cs,hl,hcl,?_⟩;have wc:=x8g (K:=K) (a:=a) (run K a (n+3)) w;rw[q8i];unfold q4u;generalize run K a (n+3)=r at wc h5 |-
 walk_at "den";rw[w0a,if_pos (q22 (by omega) (by omega))];walk_at "den";rw[if_pos (by rw[q24];omega)];simp only[frz1,pj1,w0e,w0m];rw[q3k,wc];walk_at "den";rw[if_pos (q22 (by omega) (by omega))];walk_at "den";unfold envS at h5;rw[w1t]at h5;rw[h5];walk_at "den"
theorem y5y(w:Cb):((w.map eo).any fun y=>eqS y (.bl true))=w.contains (some true):=by
 induction w with
 |nil=>rfl
 |cons o w ih=>
  rw[w0n,w3c,ih,w3v];congr 1;cases o with
  |none=>rfl
  |some b=>cases b<;>rfl
theorem x3h:∀w:Cb,(w.map eo).all scalW=true
 |[]=>rfl
 |none::w=>x3h w
 |some _::w=>x3h w
theorem y5z(w:Cb):ninW (.bl true) (.lst (w.map eo))=some (.bl (!w.contains (some true))):=by
 show(if scalW (.bl true)=true/\(w.map eo).all scalW=true then some (W.bl (!(w.map eo).any fun y=>eqS y (.bl true)))else none)=_
 rw[if_pos ⟨rfl,x3h w⟩,y5y]
theorem z22{w:Cb}(h:wr w=[]):w.contains (some true)=false:=by
 rw[w1i];intro z;have z:some true∈w:=by simpa using z
 obtain⟨k,hk,e⟩:=w2d.mp z;have:k∈wr w:=w0s.mpr ⟨w0u.mpr hk,by show(w[k]?.getD none==some true)=true;rw[w0b hk,e];rfl⟩;rw[h]at this;cases this
theorem try0{P:List Cb}{cs:List Cb}(h:tryF P 0 l=.inl cs):l=[]:=by
 cases l with
 |nil=>rfl
 |cons k l=>unfold tryF at h;cases h
noncomputable def cr25(K:PySem.W.Frag)(a:Adr)(r:Nat->List W->FR):List S->SR:=
 (dSeq (dSet2 3 4 (dCall (r q1t) (dCons (dFz (dList (dCons (dVar 2) dNil))) dNil)))
  (dSeq (dIfS (dOr (dTest (dOp nisW (dCall (r q1u) (dCons (dFz (dList (dCons (dVar 2) dNil))) (dCons (dOp subW (dFn len1 (dCons (dVar 3) dNil)) (dC (.int 1))) (dCons (dVar 4) dNil)))) (dC (.bl true)))) (dTest (dOp nisW (dCall (r q3a) (dCons (dFz (dList (dCons (dVar 3) dNil))) (dCons (dFz (dList (dCons (dVar 2) dNil))) dNil))) (dC (.bl true)))))
  (dRet (dC (.bl false)))
  dNx)
  (dSeq (dIfS (dTest (dOp eq2 (dVar 3) (dFz (dLst dNil))))
  (dRet (dOp ninW (dC (.bl true)) (dVar 2)))
  dNx)
  (dSeq (dSet 5 (dOp subW (dFn len1 (dCons (dVar 3) dNil)) (dC (.int 1))))
  (dSeq (dIfS (dTest (dOp eq2 (dCall (r q0x) (dCons (dVar 0) (dCons (dC (.int 3)) (dCons (dC (.int 3)) dNil)))) (dC (.int 1))))
  (dSet 5 (dOp modW (dCall (r q0y) (dCons (dVar 0) (dCons (dC (.int 61)) dNil))) (dFn len1 (dCons (dVar 3) dNil))))
  dNx)
  (dRet (dNotV (dCall (r q1o) (dCons (dCall (r q2f) (dCons (dVar 2) (dCons (dVar 1) (dCons (dVar 5) (dCons (dVar 0) dNil))))) (dCons (dVar 2) dNil))))))))))
theorem y50(K:PySem.W.Frag)(a:Adr)(r:Nat->List W->FR):x16 K a r =
 (dSeq (dSet 1 (dCall (r q0x) (dCons (dVar 0) (dCons (dC (.int 0)) (dCons (dC (.int 5)) dNil)))))
  (dSeq (dSet 2 (dCall (r q1n) (dCons (dVar 0) (dCons (dVar 1) dNil))))
  (dSeq (dIfS (dTest (dOp eq2 (dCall (r q0x) (dCons (dVar 0) (dCons (dC (.int 3)) (dCons (dC (.int 6)) dNil)))) (dC (.int 1))))
  (dSeq (dSet 1 (dC (.int 3)))
  (dSet 2 (dFz (dCompR rng1 [0] (dCons (dC (.int 8)) dNil) dYes (q6a K a r)))))
  dNx)
  (cr25 K a r)))):=rfl
theorem z23{w:Cb}{c:Cb}(h:c∈Pm w m):fitB c w=true:=by
 have:=(w0s.mp h).2;unfold prB at this;rw[w0j]at this;exact this.1
theorem x7r(M:Exs K mg a)(hF:Fit ns){w:Cb}(hw:w.length=2^m)(hm:m<=4):∃e',cr25 K a (run K a 148) [.fr (.lst (ns.map .int)),.fr (.int (m:Int)),.fr (.lst (w.map eo)),.no,.no,.no]=.rt (.fr (.bl true)) e':=by
 obtain⟨N,cs,T,hN,L,lr⟩:=y3c (K:=K) (a:=a) 28 hw hm;have lr:run K a 148 q1t _=_:=lr;obtain⟨hP,hc⟩:=x5f w hm;obtain⟨b1,b2,b3,b4⟩:=q6x _ _ _ _ L.cov;have hcl:=L.len;have sl:=y5u (fun c hc=>(b1 c hc).1) b4
 have sm:∀c∈srtU (Pm w m) cs,c∈Pm w m:=fun c h=>(srtU_mem.mp h).1
 have hlen:∀c∈srtU (Pm w m) cs,c.length=m:=fun c h=>hc c (sm c h)
 have cv:Cov (srtU (Pm w m) cs) (wr w):=fun k hk=>by
  obtain⟨c,c1,c2⟩:=b3 k hk;exact⟨c,srtU_mem.mpr ⟨(b1 c c1).1,c1⟩,c2⟩
 have hcov:covB (srtU (Pm w m) cs) w=true:=by
  unfold covB;rw[w0t.mpr fun c h=>z23 (sm c h),cov_rst.mpr cv];rfl
 have cr:run K a 148 q3a [.lst ((srtU (Pm w m) cs).map encU),.lst (w.map eo)]=_:=y0j (K:=K) (a:=a) 143 hw hm hlen;rw[hcov]at cr;have em:=z2x (xs:=(srtU (Pm w m) cs).map encU) (w0l (x86 _) (by decide));obtain⟨v3,w3,_,_⟩:=q6c (K:=K) (a:=a) 146 ns (k:=3) (m:=3) (by omega) (by omega) (by omega);have w3:run K a 148 q0x [.lst (ns.map .int),.int 3,.int 3]=.ok (.fr (.int v3)):=w3;obtain⟨mk,hmk⟩:=q5g (K:=K) (a:=a) hF 146 (k:=61) (by omega) (by omega);have hmk:run K a 148 q0y [.lst (ns.map .int),.int 61]=.ok (.fr (.int mk)):=hmk;cases N with
 |zero=>
  have hT:=L.non rfl;subst hT;have e0:srtU (Pm w m) cs=[]:=w3f.mp (by omega);have sh:=x2l (K:=K) (a:=a) M hw hm (cnt:=-1) (by omega) (t:=.non) rfl (by decide);rw[show ans w m (-1) .non=true from rfl]at sh;rw[e0]at lr cr;generalize run K a 148=r at lr cr sh |-
  unfold cr25;walk_at "den";rw[lr];walk_at "den";rw[sh];walk_at "den";rw[show r q3a [.lst [],.lst (w.map eo)]=_ from cr];walk_at "den";rw[show eq2 (.lst []) (.lst [])=some (.bl true)from rfl];walk_at "den";rw[y5z,z22 (try0 L.cov)];exact⟨_,rfl⟩
 |succ c=>
  have e1:((srtU (Pm w m) cs).map encU).isEmpty=false:=by
   cases q:srtU (Pm w m) cs with
   |nil=>rw[q]at sl;simp at sl;omega
   |cons x y=>rfl
  obtain⟨t1,t2⟩:=x9k hm hP hc c (wr w) T (L.tree c rfl);obtain⟨t3,t4⟩:=t2.ok;have sh:=x2l (K:=K) (a:=a) M hw hm (cnt:=(c:Int)) (by omega) t3 (by omega)
  have ea:ans w m (c:Int) T=true:=by
   unfold ans;rw[if_neg (by omega),w1j];exact t1
  rw[ea]at sh
  have hne:0<(wr w).length:=by
   cases q:wr w with
   |nil=>
    have:=L.tree c rfl;rw[q]at this;unfold tryF at this;cases this
   |cons x y=>simp
  have ns':∀d:Nat,d<c+1->∃us:List W,run K a 148 q2f [.lst (w.map eo),.int (m:Int),.int (d:Int),.lst (ns.map .int)]=.ok (.own none us)/\run K a 148 q1o [.lst us,.lst (w.map eo)]=.ok (.fr (.bl false)):=fun d hd=>by
   obtain⟨ds,d1,d2,d3⟩:=y5x (K:=K) (a:=a) hF 144 hw hm hne (cnt:=d) (by omega);have cd:=y5w (K:=K) (a:=a) 145 hw hm d2 (by omega)
   have:covB ds w=false:=by
    rw[w1i];intro z;unfold covB at z;rw[w0j]at z;exact fewer L d2 (w0t.mp z.1) (by omega) (cov_rst.mp z.2)
   rw[this]at cd;exact⟨_,d3,cd⟩
  rw[e1]at em;generalize run K a 148=r at lr cr sh ns' w3 hmk |-
  unfold cr25;walk_at "den";rw[lr];walk_at "den";rw[w0a,sl,hcl,show((c+1:Nat):Int)-1=(c:Int) by omega,sh];walk_at "den";rw[cr];walk_at "den";rw[em];walk_at "den";rw[w3];walk_at "den"
  by_cases h3:v3=1
  ·obtain⟨q,hq⟩:=w2i (w2s mk (show((c+1:Nat):Int)≠0 by omega));have hq2:q<c+1:=by have:=w2a mk (show(0:Int)<((c+1:Nat):Int) by omega);omega
   obtain⟨us,u1,u2⟩:=ns' q hq2;rw[if_pos h3,hmk];walk_at "den";rw[w0a,sl,hcl,if_pos (by omega),hq];walk_at "den";rw[u1];walk_at "den";rw[u2];walk_at "den";exact⟨_,rfl⟩
  ·obtain⟨us,u1,u2⟩:=ns' c (by omega);rw[if_neg h3,w0a,sl,hcl,show((c+1:Nat):Int)-1=(c:Int) by omega];walk_at "den";rw[u1];walk_at "den";rw[u2];walk_at "den";exact⟨_,rfl⟩
theorem y51(n:Nat)(ns:List Int):∃w:Cb,compD dYes (q6a K a (run K a (n+2))) [.fr (.lst (ns.map .int))] (rangeW 0 8)=some (w.map eo)/\w.length=8:=by
 obtain⟨v,h,_,_⟩:=q6c (K:=K) (a:=a) n ns (k:=2) (m:=8) (by omega) (by omega) (by omega);rw[show(8:Int)=((8:Nat):Int)from rfl,q3k]
 obtain⟨os,h1,h2⟩:=x3e (d:=q6a K a (run K a (n+2))) (pe:=[.fr (.lst (ns.map .int))]) (ws:=(List.range 8).map fun k=>W.int ((k:Nat):Int)) (by
  intro x hx;obtain⟨j,hj,rfl⟩:=w1f.mp hx;unfold q6a;walk_at "den";rw[h];walk_at "den";rw[h];walk_at "den";rw[show ninW (.int (j:Int)) (.tup [.int v,.int (7-v)])=some (.bl (!([W.int v,.int (7-v)].any fun y=>eqS y (.int (j:Int)))))from rfl]
  exact⟨some _,_,rfl⟩)
 exact⟨os,h1,by rw[h2];rfl⟩
theorem y52(M:Exs K mg a)(ns:List Int)(hl:Fit ns):run K a 149 q55 [.lst (ns.map .int)]=.ok (.fr (.bl true)):=by
 obtain⟨v,w0,wv0,wv1⟩:=q6c (K:=K) (a:=a) 146 ns (k:=0) (m:=5) (by omega) (by omega) (by omega);obtain⟨m,rfl⟩:=w2i wv0;have hm:m<=4:=by omega
 obtain⟨w,wb,hw⟩:=y0g (K:=K) (a:=a) hl 145 hm;obtain⟨v6,w6,_,_⟩:=q6c (K:=K) (a:=a) 146 ns (k:=3) (m:=6) (by omega) (by omega) (by omega);obtain⟨w2,oc,hw2⟩:=y51 (K:=K) (a:=a) 146 ns;obtain⟨e1,k1⟩:=x7r (K:=K) (a:=a) M hl hw hm;obtain⟨e2,k2⟩:=x7r (K:=K) (a:=a) M hl (w:=w2) (m:=3) (by rw[hw2]) (by omega);have w0:run K a 148 q0x [.lst (ns.map .int),.int 0,.int 5]=.ok (.fr (.int (m:Int))):=w0;have wb:run K a 148 q1n [.lst (ns.map .int),.int (m:Int)]=.ok (.own none (w.map eo)):=wb;have w6:run K a 148 q0x [.lst (ns.map .int),.int 3,.int 6]=.ok (.fr (.int v6)):=w6;have oc:compD dYes (q6a K a (run K a 148)) _ _=_:=oc;show run K a (148+1) q55 _=_;rw[x82,y50];generalize run K a 148=r at w0 wb w6 oc k1 k2 |-
 walk_at "den";rw[w0];walk_at "den";rw[wb];walk_at "den";rw[w6];walk_at "den"
 by_cases h:v6=1
 ·rw[if_pos h,if_pos (by decide)];walk_at "den";rw[if_pos (by decide)];simp only[frz1,pj1,w0e,w0m];rw[oc];walk_at "den";rw[show(3:Int)=((3:Nat):Int)from rfl,k2];rfl
 ·rw[if_neg h,k1];rfl
end
theorem walk{l:PySem.W.OpenLaw}{q:Program}{loose:List Str}{XP:(Str->Option Value)->Heap->Prop}{YP:World->Heap->Prop}{d:DefRec}{K:Params->PySem.W.Frag}{tabs:List (Addr×Str)}(hn:l.most=some 63)(hdf:d.params.defaults=[])
  (hY:∀(w:World)(h:Heap),YP w h->(K w.params).In h)(hT:∀(w:World)(h:Heap),YP w h->∀P∈tabs.map (·.1),h.get? P=some (tabObj #[]))
  (hG:∀w:World,((D.dropT (K w.params)).lookup mainGlobals).isSome=true)(hNM:∀w:World,noMark (K w.params)=true)(hd:tabs.all (fun p=>tabs.lookup p.1==some p.2)=true)
  (hK:∀w:World,tabs.all (fun p=>((D.dropT (K w.params)).lookup p.1).isNone)=true)(hc:∀w:World,∀p∈tabs,∃c,codeHdIn (K w.params) c p.1=true)
  (F:∀(w:World)(mg:Str->Option Value)(fa:Addr)(h:Heap),(D.markT (D.dropT (K w.params)) tabs).In h->h.Ns mainGlobals mg->mg d.name=some (.ref fa) ->
   ∃fd:FuncData,(∀(s:Shared)(u:Value),BindsTo s fd ⟨[u],[]⟩ [("_law_script", u)])/\∀base:Heap,(D.markT (D.dropT (K w.params)) tabs).In base->base.Ns mainGlobals mg->BMain base mg->FnOk l.prog w (D.markT (D.dropT (K w.params)) tabs) mg base (CX1 l.prog w) 151 fa fd ["_law_script"] (spLawB (D.markT (D.dropT (K w.params)) tabs))):
  PySem.W.WalkO q loose XP YP l.row.toRowW d [] (fun f vs=>PySem.call f vs):=
 L2.y2m (K:=fun p=>D.markT (D.dropT (K p)) tabs) (tabs:=tabs) (n:=63) (k:=151) (x:="_law_script") (CX:=fun w=>CX1 l.prog w) (sp:=fun w=>spLawB (D.markT (D.dropT (K w.params)) tabs)) hn (by decide) hdf ⟨rfl,by decide,by decide,rfl⟩ (fun w h Y=>D.in_m (hG w) (D.y48 (hY w h Y))) F (fun _ _ a ns hl hb hS=>⟨a,ns,rfl,hS,⟨hl,hb⟩,fun _=>rfl⟩) (fun _ _ _ _ _ z=>z0v z)
  (fun w=>D.x94 (D.x7w (hNM w)) hd) (fun w h Y=>D.y8q (hY w h Y) (hT w h Y) (hc w)) (fun w=>D.tabs_none (hG w) (hK w))
end Q
open PySem PySem.W PyProof.Rows
set_option maxRecDepth 100000 in
set_option maxHeartbeats 0 in
theorem PySem.Challenge.cw_circuits_k25_whole_none_fewer_holds : PySem.Challenge.rw_circuits_k25_whole_none_fewer.Holds := by
 w_on; o_law; k_head; (case hw => w_witness2)
 k_fill
 refine Q.walk (l := PySem.Challenge.rw_circuits_k25_whole_none_fewer) (tabs := [(186, ("rarest" ++ ".<locals>.") ++ "<lambda>")]) rfl rfl (fun w h Y => PySem.W.km_in_of Y) (fun w h Y => PySem.W.km_tabs_of Y) (fun w => by kernel_rfl) (fun w => by kernel_rfl) (by decide +kernel) (fun w => by kernel_rfl) (fun w => List.forall_mem_cons.mpr ⟨⟨190, by kernel_rfl⟩, fun _ h => nomatch h⟩) ?F
 case F =>
  intro w mg fa h KX G hmg;refine' Q.mk KX G hmg ?a0 ?l0 ?c0 ?k0 ?a1 ?l1 ?c1 ?k1 ?a2 ?l2 ?c2 ?k2 ?a3 ?l3 ?c3 ?k3 ?a4 ?l4 ?c4 ?k4 ?a5 ?l5 ?c5 ?k5 ?a6 ?l6 ?c6 ?k6 ?a7 ?l7 ?c7 ?k7 ?a8 ?l8 ?c8 ?k8 ?a9 ?l9 ?c9 ?k9 ?a10 ?l10 ?c10 ?k10 ?a11 ?l11 ?c11 ?k11 ?a12 ?l12 ?c12 ?k12 ?a13 ?l13 ?c13 ?k13 ?a14 ?l14 ?c14 ?k14 ?a15 ?l15 ?c15 ?k15 ?a16 ?l16 ?c16 ?k16 ?a17 ?l17 ?c17 ?k17 ?a18 ?l18 ?c18 ?k18 ?a19 ?l19 ?c19 ?k19 ?a20 ?l20 ?c20 ?k20 ?a21 ?l21 ?c21 ?k21 ?a22 ?l22 ?c22 ?k22 ?a23 ?l23 ?c23 ?k23 ?a24 ?l24 ?c24 ?k24 ?a25 ?l25 ?c25 ?k25 ?a26 ?l26 ?c26 ?k26 ?a27 ?l27 ?c27 ?k27 ?a28 ?l28 ?c28 ?k28 ?a29 ?l29 ?c29 ?k29 ?a30 ?l30 ?c30 ?k30 ?a31 ?l31 ?c31 ?k31 ?a32 ?l32 ?c32 ?k32 ?a33 ?l33 ?c33 ?k33 ?a34 ?l34 ?c34 ?k34 ?a35 ?l35 ?c35 ?k35 ?a36 ?l36 ?c36 ?k36 ?a37 ?l37 ?c37 ?k37 ?v22 ?h22 ?m22 ?n_CircuitError ?n_NoRow ?n_NoTable ?n_MOST_PLACES_tables ?n_MOST_PLACES_covers ?n_SIGNS ?tab_SIGNS ?z_all ?z_any ?z_bool ?z_enumerate ?z_int ?z_isinstance ?z_len ?z_list ?z_min ?z_range ?z_reversed ?z_sorted ?z_tuple ?z_zip ?g_MOST_PLACES_tables ?g_MOST_PLACES_covers ?e_NoRow ?e_NoTable ?c_NoRow ?c_NoTable ?t_NoneType_int ?t_bool_int ?t_int_int ?t_str_int ?t_tuple_int ?t_list_int ?t_NoneType_bool ?t_bool_bool ?t_int_bool ?t_str_bool ?t_tuple_bool ?t_list_bool ?t_NoneType_tuple ?t_bool_tuple ?t_int_tuple ?t_str_tuple ?t_tuple_tuple ?t_list_tuple 148 ?hL
  (case a0 => exact D.ns_m (D.q0g (by k_is) (by kernel_rfl)))
  (case l0 => exact D.q0p (D.q0h (by k_is) (by kernel_rfl)))
  (case c0 => exact D.q0r (D.q0k (by k_is) (by kernel_rfl)))
  (case k0 => exact D.q0s (by kernel_rfl))
  (case a1 => exact D.ns_m (D.q0g (by k_is) (by kernel_rfl)))
  (case l1 => exact D.q0p (D.q0h (by k_is) (by kernel_rfl)))
  (case c1 => exact D.q0r (D.q0k (by k_is) (by kernel_rfl)))
  (case k1 => exact D.q0s (by kernel_rfl))
  (case a2 => exact D.ns_m (D.q0g (by k_is) (by kernel_rfl)))
  (case l2 => exact D.q0p (D.q0h (by k_is) (by kernel_rfl)))
  (case c2 => exact D.q0r (D.q0k (by k_is) (by kernel_rfl)))
  (case k2 => exact D.q0s (by kernel_rfl))
  (case a3 => exact D.ns_m (D.q0g (by k_is) (by kernel_rfl)))
  (case l3 => exact D.q0p (D.q0h (by k_is) (by kernel_rfl)))
  (case c3 => exact D.q0r (D.q0k (by k_is) (by kernel_rfl)))
  (case k3 => exact D.q0s (by kernel_rfl))
  (case a4 => exact D.ns_m (D.q0g (by k_is) (by kernel_rfl)))
  (case l4 => exact D.q0p (D.q0h (by k_is) (by kernel_rfl)))
  (case c4 => exact D.q0r (D.q0k (by k_is) (by kernel_rfl)))
  (case k4 => exact D.q0s (by kernel_rfl))
  (case a5 => exact D.ns_m (D.q0g (by k_is) (by kernel_rfl)))
  (case l5 => exact D.q0p (D.q0h (by k_is) (by kernel_rfl)))
  (case c5 => exact D.q0r (D.q0k (by k_is) (by kernel_rfl)))
  (case k5 => exact D.q0s (by kernel_rfl))
  (case a6 => exact D.ns_m (D.q0g (by k_is) (by kernel_rfl)))
  (case l6 => exact D.q0p (D.q0h (by k_is) (by kernel_rfl)))
  (case c6 => exact D.q0r (D.q0k (by k_is) (by kernel_rfl)))
  (case k6 => exact D.q0s (by kernel_rfl))
  (case a7 => exact D.ns_m (D.q0g (by k_is) (by kernel_rfl)))
  (case l7 => exact D.q0p (D.q0h (by k_is) (by kernel_rfl)))
  (case c7 => exact D.q0r (D.q0k (by k_is) (by kernel_rfl)))
  (case k7 => exact D.q0s (by kernel_rfl))
  (case a8 => exact D.ns_m (D.q0g (by k_is) (by kernel_rfl)))
  (case l8 => exact D.q0p (D.q0h (by k_is) (by kernel_rfl)))
  (case c8 => exact D.q0r (D.q0k (by k_is) (by kernel_rfl)))
  (case k8 => exact D.q0s (by kernel_rfl))
  (case a9 => exact D.ns_m (D.q0g (by k_is) (by kernel_rfl)))
  (case l9 => exact D.q0p (D.q0h (by k_is) (by kernel_rfl)))
  (case c9 => exact D.q0r (D.q0k (by k_is) (by kernel_rfl)))
  (case k9 => exact D.q0s (by kernel_rfl))
  (case a10 => exact D.ns_m (D.q0g (by k_is) (by kernel_rfl)))
  (case l10 => exact D.q0p (D.q0h (by k_is) (by kernel_rfl)))
  (case c10 => exact D.q0r (D.q0k (by k_is) (by kernel_rfl)))
  (case k10 => exact D.q0s (by kernel_rfl))
  (case a11 => exact D.ns_m (D.q0g (by k_is) (by kernel_rfl)))
  (case l11 => exact D.q0p (D.q0h (by k_is) (by kernel_rfl)))
  (case c11 => exact D.q0r (D.q0k (by k_is) (by kernel_rfl)))
  (case k11 => exact D.q0s (by kernel_rfl))
  (case a12 => exact D.ns_m (D.q0g (by k_is) (by kernel_rfl)))
  (case l12 => exact D.q0p (D.q0h (by k_is) (by kernel_rfl)))
  (case c12 => exact D.q0r (D.q0k (by k_is) (by kernel_rfl)))
  (case k12 => exact D.q0s (by kernel_rfl))
  (case a13 => exact D.ns_m (D.q0g (by k_is) (by kernel_rfl)))
  (case l13 => exact D.q0p (D.q0h (by k_is) (by kernel_rfl)))
  (case c13 => exact D.q0r (D.q0k (by k_is) (by kernel_rfl)))
  (case k13 => exact D.q0s (by kernel_rfl))
  (case a14 => exact D.ns_m (D.q0g (by k_is) (by kernel_rfl)))
  (case l14 => exact D.q0p (D.q0h (by k_is) (by kernel_rfl)))
  (case c14 => exact D.q0r (D.q0k (by k_is) (by kernel_rfl)))
  (case k14 => exact D.q0s (by kernel_rfl))
  (case a15 => exact D.ns_m (D.q0g (by k_is) (by kernel_rfl)))
  (case l15 => exact D.q0p (D.q0h (by k_is) (by kernel_rfl)))
  (case c15 => exact D.q0r (D.q0k (by k_is) (by kernel_rfl)))
  (case k15 => exact D.q0s (by kernel_rfl))
  (case a16 => exact D.ns_m (D.q0g (by k_is) (by kernel_rfl)))
  (case l16 => exact D.q0p (D.q0h (by k_is) (by kernel_rfl)))
  (case c16 => exact D.q0r (D.q0k (by k_is) (by kernel_rfl)))
  (case k16 => exact D.q0s (by kernel_rfl))
  (case a17 => exact D.ns_m (D.q0g (by k_is) (by kernel_rfl)))
  (case l17 => exact D.q0p (D.q0h (by k_is) (by kernel_rfl)))
  (case c17 => exact D.q0r (D.q0k (by k_is) (by kernel_rfl)))
  (case k17 => exact D.q0s (by kernel_rfl))
  (case a18 => exact D.ns_m (D.q0g (by k_is) (by kernel_rfl)))
  (case l18 => exact D.q0p (D.q0h (by k_is) (by kernel_rfl)))
  (case c18 => exact D.q0r (D.q0k (by k_is) (by kernel_rfl)))
  (case k18 => exact D.q0s (by kernel_rfl))
  (case a19 => exact D.ns_m (D.q0g (by k_is) (by kernel_rfl)))
  (case l19 => exact D.q0p (D.q0h (by k_is) (by kernel_rfl)))
  (case c19 => exact D.q0r (D.q0k (by k_is) (by kernel_rfl)))
  (case k19 => exact D.q0s (by kernel_rfl))
  (case a20 => exact D.ns_m (D.q0g (by k_is) (by kernel_rfl)))
  (case l20 => exact D.q0p (D.q0h (by k_is) (by kernel_rfl)))
  (case c20 => exact D.q0r (D.q0k (by k_is) (by kernel_rfl)))
  (case k20 => exact D.q0s (by kernel_rfl))
  (case a21 => exact D.ns_m (D.q0g (by k_is) (by kernel_rfl)))
  (case l21 => exact D.q0p (D.q0h (by k_is) (by kernel_rfl)))
  (case c21 => exact D.q0r (D.q0k (by k_is) (by kernel_rfl)))
  (case k21 => exact D.q0s (by kernel_rfl))
  (case a22 => exact D.ns_m (D.q0g (by k_is) (by kernel_rfl)))
  (case l22 => exact D.q0p (D.q0h (by k_is) (by kernel_rfl)))
  (case c22 => exact D.q0r (D.q0k (by k_is) (by kernel_rfl)))
  (case k22 => exact D.q0s (by kernel_rfl))
  (case a23 => exact D.ns_m (D.q0g (by k_is) (by kernel_rfl)))
  (case l23 => exact D.q0p (D.q0h (by k_is) (by kernel_rfl)))
  (case c23 => exact D.q0r (D.q0k (by k_is) (by kernel_rfl)))
  (case k23 => exact D.q0s (by kernel_rfl))
  (case a24 => exact D.ns_m (D.q0g (by k_is) (by kernel_rfl)))
  (case l24 => exact D.q0p (D.q0h (by k_is) (by kernel_rfl)))
  (case c24 => exact D.q0r (D.q0k (by k_is) (by kernel_rfl)))
  (case k24 => exact D.q0s (by kernel_rfl))
  (case a25 => exact D.ns_m (D.q0g (by k_is) (by kernel_rfl)))
  (case l25 => exact D.q0p (D.q0h (by k_is) (by kernel_rfl)))
  (case c25 => exact D.q0r (D.q0k (by k_is) (by kernel_rfl)))
  (case k25 => exact D.q0s (by kernel_rfl))
  (case a26 => exact D.ns_m (D.q0g (by k_is) (by kernel_rfl)))
  (case l26 => exact D.q0p (D.q0h (by k_is) (by kernel_rfl)))
  (case c26 => exact D.q0r (D.q0k (by k_is) (by kernel_rfl)))
  (case k26 => exact D.q0s (by kernel_rfl))
  (case a27 => exact D.ns_m (D.q0g (by k_is) (by kernel_rfl)))
  (case l27 => exact D.q0p (D.q0h (by k_is) (by kernel_rfl)))
  (case c27 => exact D.q0r (D.q0k (by k_is) (by kernel_rfl)))
  (case k27 => exact D.q0s (by kernel_rfl))
  (case a28 => exact D.ns_m (D.q0g (by k_is) (by kernel_rfl)))
  (case l28 => exact D.q0p (D.q0h (by k_is) (by kernel_rfl)))
  (case c28 => exact D.q0r (D.q0k (by k_is) (by kernel_rfl)))
  (case k28 => exact D.q0s (by kernel_rfl))
  (case a29 => exact D.ns_m (D.q0g (by k_is) (by kernel_rfl)))
  (case l29 => exact D.q0p (D.q0h (by k_is) (by kernel_rfl)))
  (case c29 => exact D.q0r (D.q0k (by k_is) (by kernel_rfl)))
  (case k29 => exact D.q0s (by kernel_rfl))
  (case a30 => exact D.ns_m (D.q0g (by k_is) (by kernel_rfl)))
  (case l30 => exact D.q0p (D.q0h (by k_is) (by kernel_rfl)))
  (case c30 => exact D.q0r (D.q0k (by k_is) (by kernel_rfl)))
  (case k30 => exact D.q0s (by kernel_rfl))
  (case a31 => exact D.ns_m (D.q0g (by k_is) (by kernel_rfl)))
  (case l31 => exact D.q0p (D.q0h (by k_is) (by kernel_rfl)))
  (case c31 => exact D.q0r (D.q0k (by k_is) (by kernel_rfl)))
  (case k31 => exact D.q0s (by kernel_rfl))
  (case a32 => exact D.ns_m (D.q0g (by k_is) (by kernel_rfl)))
  (case l32 => exact D.q0p (D.q0h (by k_is) (by kernel_rfl)))
  (case c32 => exact D.q0r (D.q0k (by k_is) (by kernel_rfl)))
  (case k32 => exact D.q0s (by kernel_rfl))
  (case a33 => exact D.ns_m (D.q0g (by k_is) (by kernel_rfl)))
  (case l33 => exact D.q0p (D.q0h (by k_is) (by kernel_rfl)))
  (case c33 => exact D.q0r (D.q0k (by k_is) (by kernel_rfl)))
  (case k33 => exact D.q0s (by kernel_rfl))
  (case a34 => exact D.ns_m (D.q0g (by k_is) (by kernel_rfl)))
  (case l34 => exact D.q0p (D.q0h (by k_is) (by kernel_rfl)))
  (case c34 => exact D.q0r (D.q0k (by k_is) (by kernel_rfl)))
  (case k34 => exact D.q0s (by kernel_rfl))
  (case a35 => exact D.ns_m (D.q0g (by k_is) (by kernel_rfl)))
  (case l35 => exact D.q0p (D.q0h (by k_is) (by kernel_rfl)))
  (case c35 => exact D.q0r (D.q0k (by k_is) (by kernel_rfl)))
  (case k35 => exact D.q0s (by kernel_rfl))
  (case a36 => exact D.ns_m (D.q0g (by k_is) (by kernel_rfl)))
  (case l36 => exact D.q0p (D.q0h (by k_is) (by kernel_rfl)))
  (case c36 => exact D.q0r (D.q0k (by k_is) (by kernel_rfl)))
  (case k36 => exact D.q0s (by kernel_rfl))
  (case a37 => exact D.ns_m (D.q0g (by k_is) (by kernel_rfl)))
  (case l37 => exact D.q0p (D.q0h (by k_is) (by kernel_rfl)))
  (case c37 => exact D.q0r (D.q0k (by k_is) (by kernel_rfl)))
  (case k37 => exact D.q0s (by kernel_rfl))
  (case v22 => exact rfl)
  (case h22 => exact (show codeHdIn _ _ 186 = true by kernel_rfl))
  (case m22 => exact w0i _ (by simp))
  (case n_CircuitError => exact D.ns_m (D.q0g (by k_is) (by kernel_rfl)))
  (case n_NoRow => exact D.ns_m (D.q0g (by k_is) (by kernel_rfl)))
  (case n_NoTable => exact D.ns_m (D.q0g (by k_is) (by kernel_rfl)))
  (case n_MOST_PLACES_tables => exact D.ns_m (D.q0g (by k_is) (by kernel_rfl)))
  (case n_MOST_PLACES_covers => exact D.ns_m (D.q0g (by k_is) (by kernel_rfl)))
  (case n_SIGNS => exact D.ns_m (D.q0g (by k_is) (by kernel_rfl)))
  (case tab_SIGNS => exact ⟨⟨_, D.q0p (D.q0h (by k_is) (by kernel_rfl)), by kernel_rfl⟩⟩)
  (case z_all => exact D.ns_m (D.q0g (by k_is) (by kernel_rfl)))
  (case z_any => exact D.ns_m (D.q0g (by k_is) (by kernel_rfl)))
  (case z_bool => exact D.ns_m (D.q0g (by k_is) (by kernel_rfl)))
  (case z_enumerate => exact D.ns_m (D.q0g (by k_is) (by kernel_rfl)))
  (case z_int => exact D.ns_m (D.q0g (by k_is) (by kernel_rfl)))
  (case z_isinstance => exact D.ns_m (D.q0g (by k_is) (by kernel_rfl)))
  (case z_len => exact D.ns_m (D.q0g (by k_is) (by kernel_rfl)))
  (case z_list => exact D.ns_m (D.q0g (by k_is) (by kernel_rfl)))
  (case z_min => exact D.ns_m (D.q0g (by k_is) (by kernel_rfl)))
  (case z_range => exact D.ns_m (D.q0g (by k_is) (by kernel_rfl)))
  (case z_reversed => exact D.ns_m (D.q0g (by k_is) (by kernel_rfl)))
  (case z_sorted => exact D.ns_m (D.q0g (by k_is) (by kernel_rfl)))
  (case z_tuple => exact D.ns_m (D.q0g (by k_is) (by kernel_rfl)))
  (case z_zip => exact D.ns_m (D.q0g (by k_is) (by kernel_rfl)))
  (case g_MOST_PLACES_tables => kernel_rfl)
  (case g_MOST_PLACES_covers => kernel_rfl)
  (case e_NoRow => kernel_rfl)
  (case e_NoTable => kernel_rfl)
  (case c_NoRow => kernel_rfl)
  (case c_NoTable => kernel_rfl)
  (case t_NoneType_int => kernel_rfl)
  (case t_bool_int => kernel_rfl)
  (case t_int_int => kernel_rfl)
  (case t_str_int => kernel_rfl)
  (case t_tuple_int => kernel_rfl)
  (case t_list_int => kernel_rfl)
  (case t_NoneType_bool => kernel_rfl)
  (case t_bool_bool => kernel_rfl)
  (case t_int_bool => kernel_rfl)
  (case t_str_bool => kernel_rfl)
  (case t_tuple_bool => kernel_rfl)
  (case t_list_bool => kernel_rfl)
  (case t_NoneType_tuple => kernel_rfl)
  (case t_bool_tuple => kernel_rfl)
  (case t_int_tuple => kernel_rfl)
  (case t_str_tuple => kernel_rfl)
  (case t_tuple_tuple => kernel_rfl)
  (case t_list_tuple => kernel_rfl)
  (case hL => exact fun a M ns hl => Q.y52 M ns hl)
