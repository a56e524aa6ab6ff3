import PyProof.Rows.All
import Wide.All
import OpenK.AllK
import Wide.FinOn
import PyProof.TupleKey
import PyProof.EqAt
import PyProof.EqKinds
import Wide.Seal
import Lean
import PyProof.TupleCall
import KE.KTryMore
import KE.KRevIter
import PyProof.CollectIter
import PyProof.ConsumeWalk
import PyProof.TupleOfStr
import KE.KIsAll
import PyProof.ExcArgs
import PyProof.ExcAttrAll.ValueError
import PyProof.CompUse
import PyProof.NeKinds
import PyProof.EnumIter
import PyProof.EnumFor
import PyProof.EnumMake
import PyProof.EnumStmt
import PyProof.ListMulRoad
import PyProof.ZipIter
import PyProof.TupleIter
import PyProof.Rows.SortWalk
import PyProof.SetKind
import PyProof.Rows.SetFrom
import PyProof.FactsAll.set_1
import KE.KDictSum
import PyProof.FactsAll.set_2
import PyProof.FactsAll.tuple_2
import PyProof.ReprRoads
import PyProof.Rows.SeqMore
import PyProof.ReprLen
import PyProof.WalkInts
import PyProof.SeqI3
import PyProof.Rows.TupIter
import PyProof.ListRange
import PyProof.SumWalk
import PyProof.DictIter
import PyProof.DictWalks
import PyProof.DictRoadsH
import PyProof.DictTruth
import KE.KDictList
import PyProof.Rows.TupDisplay
import PyProof.Draws
import PyProof.StrBlockI
import PyProof.StrLawsIn
import PyProof.StrOps2
import PyProof.ReprStr
import PyProof.ListNew
import PyProof.Rows.SortRev
import KE.KRevSl
import KE.RegMulBits
import PyProof.SetRoads
import PySem.Challenge.RW_circuits_k46_machine_of_told
set_option Elab.async false
set_option linter.all false
set_option maxRecDepth 100000
set_option maxHeartbeats 1000000
local macro_rules | `(tactic| omega) => `(tactic| first | with_reducible assumption | decide | with_reducible exact Nat.le_refl _ | with_reducible exact Nat.zero_le _ | lia)
set_option genSizeOf false
set_option genInjectivity false
local macro_rules | `(tactic| walk_at "1") => `(tactic| (first | exact Or.inl rfl | exact Or.inr (Or.inl rfl) | exact Or.inr (Or.inr rfl)))
local macro_rules | `(tactic| walk_at "2") => `(tactic| (first | exact .inl rfl | exact .inr rfl | assumption))
local macro_rules | `(tactic| walk_at "3") => `(tactic| (first | exact Or.inl rfl | exact Or.inr rfl))
open PySem.W (codeHdIn findIn hideAll_get keepIn kia_one kitOne kla_fn kla_obj methodObj mg_none_of mg_of pyHash_slot specialIn tabObj takesIn)
def w0a:=@List.length_map
def w0b:=@List.getElem?_eq_some_iff
def w0c:=@Option.map_eq_some_iff
def w0d:=@List.getElem?_eq_getElem
def w0e:=@List.size_toArray
def w0f:=@Nat.le_refl
def w0g:=@List.getElem?_map
def w0h:=@List.getElem?_set_ne
def w0i:=@List.getElem?_set_self
def w0j:=@List.mem_cons
def w0k:=@List.mem_cons_of_mem
def w0l:=@List.mem_of_getElem?
def w0m:=@List.getElem?_cons_succ
def w0n:=@List.mem_cons_self
def w0o:=@Nat.lt_of_lt_of_le
def w0p:=@Nat.ne_of_lt
def w0q:=@List.map_append
def w0r:=@Nat.le_trans
def w0s:=@List.lookup_cons
def w0t:=@List.mem_append_right
def w0u:=@List.length_cons
def w0v:=@List.all_eq_true
def w0w:=@Nat.pow_le_pow_right
def w0x:=@List.length_append
def w0y:=@List.map_cons
def w0z:=@List.mem_map
def w1a:=@Nat.zero_le
def w1b:=@Bool.and_eq_true
def w1c:=@Array.getElem?_eq_some_iff
def w1d:=@List.getElem?_cons_zero
def w1e:=@Bool.false_eq_true
def w1f:=@List.mem_singleton
def w1g:=@List.map_map
def w1h:=@List.mem_append
def w1i:=@List.append_nil
def w1j:=@List.mem_iff_getElem
def w1k:=@Array.getElem?_append_left
def w1l:=@Bool.eq_false_iff
def w1m:=@List.reverse_cons
def w1n:=@List.map_congr_left
def w1o:=@List.mem_range
def w1p:=@Bool.false_ne_true
def w1q:=@List.mem_filterMap
def w1r:=@List.mem_append_left
def w1s:=@Array.getElem_toList
def w1t:=@Nat.lt_succ_of_lt
def w1u:=@List.append_assoc
def w1v:=@List.nodup_cons
def w1w:=@List.getElem?_eq_none
def w1x:=@Nat.lt_irrefl
def w1y:=@Int.emod_lt_of_pos
def w1z:=@List.getElem?_append_left
def w2a:=@Array.getElem?_eq_getElem
def w2b:=@Option.bind_eq_some_iff
def w2c:=@List.length_take
def w2d:=@List.find?_cons
def w2e:=@Int.emod_nonneg
def w2f:=@List.getElem?_append_right
def w2g:=@List.getElem_mem
def w2h:=@List.filterMap_cons
def w2i:=@Array.length_toList
def w2j:=@List.length_reverse
def w2k:=@Nat.zero_add
def w2l:=@Int.zero_add
def w2m:=@List.forIn_cons
def w2n:=@List.getElem?_replicate
def w2o:=@List.filter_cons_of_pos
def w2p:=@List.take_succ_eq_append_getElem
def w2q:=@Int.toNat_natCast
def w2r:=@List.length_replicate
def w2s:=@List.drop_length
def w2t:=@Int.mul_le_mul_of_nonneg_left
def w2u:=@List.take_append_of_le_length
def w2v:=@List.all_cons
def w2w:=@List.toList_toArray
def w2x:=@Array.getD_eq_getD_getElem?
def w2y:=@List.foldl_cons
def w2z:=@Array.toList_setIfInBounds
def w3a:=@Array.forIn_toList
def w3b:=@List.set_cons_succ
def w3c:=@List.drop_eq_getElem_cons
def w3d:=@List.pairwise_iff_getElem
def w3e:=@List.mem_or_eq_of_mem_set
def w3f:=@Option.isSome_iff_exists
def w3g:=@Option.isSome_map
def w3h:=@List.nodup_append
def w3i:=@List.length_erase_of_mem
def w3j:=@List.idxOf_lt_length_iff
def w3k:=@List.filter_cons_of_neg
def w3l:=@Nat.min_le_right
def w3m:=@List.length_drop
def w3n:=@Nat.lt_succ_self
def w3o:=@List.not_mem_nil
def w3p:=@List.length_pos_of_mem
def w3q:=@List.length_eq_one_iff
def w3r:=@List.take_of_length_le
def w3s:=@List.mem_filter
def w3t:=@List.of_mem_zip
def w3u:=@List.length_singleton
def w3v:=@Bool.or_eq_true
def w3w:=@List.getElem?_toArray
def w3x:=@List.all_map
def w3y:=@Nat.lt_trans
def w3z:=@Nat.pow_succ
def w4a:=@List.getElem_toArray
def w4b:=@Bool.and_false
def w4c:=@Array.toList_append
def w4d:=@List.replicate_zero
def w4e:=@List.filter_eq_self
def w4f:=@Nat.add_assoc
def w4g:=@Bool.not_true
def w4h:=@List.filterMap_map
def w4i:=@List.map_inj_right
def w4j:=@Nat.lt_or_eq_of_le
def w4k:=@Nat.lt_of_le_of_lt
def w4l:=@List.any_cons
def w4m:=@List.lookup_append
def w4n:=@List.set_cons_zero
def w4o:=@Nat.not_lt
def w4p:=@Nat.le_of_lt
def w4q:=@Int.sub_zero
def w4r:=@Nat.succ_pos
def w4s:=@Int.pow_succ
namespace PySem.W.Fast
theorem tw15498770221746917494:True:=trivial
theorem tw301080571838713464:True:=trivial
theorem tw8146490139846783423:True:=trivial
theorem tw6013672320788477019:True:=trivial
theorem tw1991771243128874582:True:=trivial
theorem tw3146414946164568657:True:=trivial
theorem tw17323897129439844762:True:=trivial
theorem tw440299060599934705:True:=trivial
theorem tw10841649289834993892:True:=trivial
theorem tw1371539927693344474:True:=trivial
theorem tw7345339129739321154:True:=trivial
theorem tw12042970051209606053:True:=trivial
theorem tw1215575222982517955:True:=trivial
theorem tw6972136345107021097:True:=trivial
theorem tw9385752605080698648:True:=trivial
theorem tw11130898505485266657:True:=trivial
theorem tw3832371798781997475:True:=trivial
theorem tw5180002886111153876:True:=trivial
theorem tw17937725422644462776:True:=trivial
theorem tw4818445002908432119:True:=trivial
theorem tw5786259839583607311:True:=trivial
theorem tw13320294676941898544:True:=trivial
theorem tw15138093264444675192:True:=trivial
theorem tw17383058940359731282:True:=trivial
theorem tw11790797199369672683:True:=trivial
theorem tw11785148871317690961:True:=trivial
theorem tw15644693851606232835:True:=trivial
theorem tw14238022702378913405:True:=trivial
theorem tw5682756942435362801:True:=trivial
theorem tw8918877866579680913:True:=trivial
theorem tw16682015293856235:True:=trivial
theorem tw4172525955468512810:True:=trivial
theorem tw9009970171714940848:True:=trivial
theorem tw5527499618647391852:True:=trivial
theorem tw18209722274153199065:True:=trivial
theorem tw9992399879267457808:True:=trivial
theorem tw9980386736375370926:True:=trivial
theorem tw4670082903443965719:True:=trivial
theorem tw6380894559728209918:True:=trivial
theorem tw3925762454568608313:True:=trivial
theorem tw7162341110333821698:True:=trivial
theorem tw11871691051068373322:True:=trivial
theorem tw7438255943131424181:True:=trivial
theorem tw15873943000531724797:True:=trivial
theorem tw17290987392518761639:True:=trivial
theorem tw7948614348605010085:True:=trivial
theorem tw10873309192635433554:True:=trivial
theorem tw15855986678817887905:True:=trivial
theorem tw9572210425327950442:True:=trivial
theorem tw3329343042231202640:True:=trivial
theorem tw2141190541247668763:True:=trivial
theorem tw4745110862734090365:True:=trivial
theorem tw3888130399434280729:True:=trivial
theorem tw9535672487530888467:True:=trivial
theorem tw14785281415979659636:True:=trivial
theorem tw17291079789861419850:True:=trivial
theorem tw9215553051416547051:True:=trivial
theorem tw5327426882974287395:True:=trivial
theorem tw14847049410424999693:True:=trivial
theorem tw17339523916738675919:True:=trivial
end PySem.W.Fast
namespace L2
open PySem PySem.Spec PyProof.Rows
variable{C a b:Addr}{A:Around}{op:CmpOp}{c e tg:Expr}{fd:FuncData}{h h':Heap}{pins:List (Addr×Obj)}{ch fp:List Addr}{es:List Expr}{N ps:List Str}{us:List Value}{M:Model}{i k t':Nat}{p pos:Pos}{P prog:Program}{K:PySem.W.Frag}{s:Shared}{x:Str}{mg:Str->Option Value}{u:Value}{E:Value->Shared->Prop}{f:Value->Value->Sem Value}{w:World}
set_option genInjectivity true in
inductive Kx where
 |non|bl (b:Bool)|int (i:Int)|str (x:Str)|tup (ks:List Kx)
inductive Sh where
 |ob|bl|int|str|tup (ss:List Sh)|many (s:Sh)
noncomputable instance:DecidableEq Kx:=fun _ _=>Classical.propDecidable _
mutual
noncomputable def Kx.depth:Kx->Nat
 |.tup ks=>Kx.depths ks+1
 |_=>0
noncomputable def Kx.depths:List Kx->Nat
 |[]=>0
 |k::ks=>max k.depth (Kx.depths ks)
end
mutual
def Conf:Kx->Sh->Prop
 |.non,.ob=>True
 |.bl _,.ob=>True
 |.bl _,.bl=>True
 |.int _,.int=>True
 |.str _,.str=>True
 |.tup ks,.tup ss=>Confs ks ss
 |.tup ks,.many s=>ConfM ks s
 |_,_=>False
def Confs:List Kx->List Sh->Prop
 |[],[]=>True
 |k::ks,s::ss=>Conf k s/\Confs ks ss
 |_,_=>False
def ConfM:List Kx->Sh->Prop
 |[],_=>True
 |k::ks,s=>Conf k s/\ConfM ks s
end
mutual
def KIs(h:Heap):Kx->Value->Prop
 |.non,v=>v=.none
 |.bl b,v=>v=.bool b
 |.int i,v=>∃t,v=.int i t
 |.str x,v=>∃t,v=.str x t
 |.tup ks,v=>∃a o items n,v=.ref a/\h.get? a=some o/\o.cls=.type "tuple" /\ o.data=.seq items n/\KAre h ks items.toList
def KAre(h:Heap):List Kx->List Value->Prop
 |[],vs=>vs=[]
 |k::ks,vs=>∃v r,vs=v::r/\KIs h k v/\KAre h ks r
end
mutual
theorem x30{h:Heap}:∀(k k':Kx){v:Value},KIs h k v->KIs h k' v->k=k'
 |.non,k',v,x,y=>by
  cases(show v=.none from x);cases k' with
  |non=>rfl
  |bl c=>cases(show Value.none=.bool c from y)
  |int i=>obtain⟨t,e⟩:=y;cases e
  |str i=>obtain⟨t,e⟩:=y;cases e
  |tup ks=>obtain⟨_,_,_,_,e,_⟩:=y;cases e
 |.bl b,k',v,x,y=>by
  cases(show v=.bool b from x);cases k' with
  |non=>cases(show Value.bool b=.none from y)
  |bl c=>cases(show Value.bool b=.bool c from y);rfl
  |int i=>obtain⟨t,e⟩:=y;cases e
  |str i=>obtain⟨t,e⟩:=y;cases e
  |tup ks=>obtain⟨_,_,_,_,e,_⟩:=y;cases e
 |.int b,k',v,x,y=>by
  obtain⟨t,rfl⟩:=x;cases k' with
  |non=>cases y
  |bl c=>cases y
  |int i=>obtain⟨t,e⟩:=y;cases e;rfl
  |str i=>obtain⟨t,e⟩:=y;cases e
  |tup ks=>obtain⟨_,_,_,_,e,_⟩:=y;cases e
 |.str b,k',v,x,y=>by
  obtain⟨t,rfl⟩:=x;cases k' with
  |non=>cases y
  |bl c=>cases y
  |int i=>obtain⟨t,e⟩:=y;cases e
  |str i=>obtain⟨t,e⟩:=y;cases e;rfl
  |tup ks=>obtain⟨_,_,_,_,e,_⟩:=y;cases e
 |.tup ks,k',v,x,y=>by
  obtain⟨a,o,it,n,rfl,h1,h2,h3,h4⟩:=x;cases k' with
  |non=>cases y
  |bl c=>cases y
  |int i=>obtain⟨t,e⟩:=y;cases e
  |str i=>obtain⟨t,e⟩:=y;cases e
  |tup ks'=>
   obtain⟨a',o',it',n',e,g1,g2,g3,g4⟩:=y;cases e;rw[h1]at g1;cases g1;rw[h3]at g3;injection g3 with e1 _
   subst e1;rw[q77 ks ks' h4 g4]
theorem q77{h:Heap}:∀(ks ks':List Kx){vs:List Value},KAre h ks vs->KAre h ks' vs->ks=ks'
 |[],ks',vs,x,y=>by
  cases(show vs=[]from x);cases ks' with
  |nil=>rfl
  |cons k ks'=>obtain⟨v,r,e,_⟩:=y;cases e
 |k::ks,ks',vs,x,y=>by
  obtain⟨v,r,rfl,h1,h2⟩:=x;cases ks' with
  |nil=>cases(show v::r=[]from y)
  |cons k' ks'=>
   obtain⟨v',r',e,g1,g2⟩:=y;cases e;rw[x30 k k' h1 g1,q77 ks ks' h2 g2]
end
mutual
theorem x0a{h h':Heap}(hk:∀a o,h.get? a=some o->o.cls=.type "tuple"->(∃it n,o.data=.seq it n)->h'.get? a=some o):∀(k:Kx){v:Value},KIs h k v->KIs h' k v
 |.non,v,x=>x
 |.bl b,v,x=>x
 |.int b,v,x=>x
 |.str b,v,x=>x
 |.tup ks,v,x=>by
  obtain⟨a,o,it,n,rfl,h1,h2,h3,h4⟩:=x;exact⟨a,o,it,n,rfl,hk a o h1 h2 ⟨it,n,h3⟩,h2,h3,q8q hk ks h4⟩
theorem q8q{h h':Heap}(hk:∀a o,h.get? a=some o->o.cls=.type "tuple"->(∃it n,o.data=.seq it n)->h'.get? a=some o):∀(ks:List Kx){vs:List Value},KAre h ks vs->KAre h' ks vs
 |[],vs,x=>x
 |k::ks,vs,x=>by
  obtain⟨v,r,rfl,h1,h2⟩:=x;exact⟨v,r,rfl,x0a hk k h1,q8q hk ks h2⟩
end
theorem KAre.length:∀(ks:List Kx){vs:List Value},KAre h ks vs->vs.length=ks.length
 |[],vs,x=>by cases(show vs=[]from x);rfl
 |k::ks,vs,x=>by
  obtain⟨v,r,rfl,h1,h2⟩:=x;rw[w0u,w0u,KAre.length ks h2]
mutual
noncomputable def kHash(w:World):Kx->Int
 |.non=>PySem.W.hashW w.params .none
 |.bl b=>reduceHash (if b=true then 1 else 0)
 |.int i=>hashInt i
 |.str x=>hashStr w x
 |.tup ks=>reduceHash (Builtin.Tuple.tupleHashOf (kHashes w ks))
noncomputable def kHashes(w:World):List Kx->List Int
 |[]=>[]
 |k::ks=>kHash w k::kHashes w ks
end
mutual
noncomputable def kDraws:Kx->Nat
 |.tup ks=>kDrawss ks+1
 |_=>1
noncomputable def kDrawss:List Kx->Nat
 |[]=>0
 |k::ks=>kDraws k+kDrawss ks
end
mutual
theorem q9n:∀(k:Kx)(v:Value)(A:Around)(s:Shared)(Q:Int->Shared->Prop),KIs s.heap k v->A.units+k.depth<cLine->Q (kHash w k) {s with toks:=s.toks+kDraws k}->wpAny (model prog w) A (pyHash v) Q E s
 |.non,v,A,s,Q,x,hu,h=>by
  cases(show v=.none from x);exact pyHash_slot (T:="NoneType") rfl F.slot_NoneType_hash F.entry_NoneType_hash (F.args_NoneType_hash_1 _) (beq_builtin_none _) (.inr (by omega)) (wpAny_bind (wpAny_pure (wpAny_bind (wpAny_mkInt (wpAny_pure ⟨_,_,rfl,h⟩)))))
 |.bl b,v,A,s,Q,x,hu,h=>by
  cases(show v=.bool b from x);refine pyHash_slot (T:="bool") rfl F.slot_bool_hash entry_int_hash (args_int_hash _) (beq_builtin_none _) (.inr (by omega)) ?_;cases b
  ·exact(show wpAny _ _ (do ret (<- mkInt 0)) _ _ s from wpAny_bind (wpAny_mkInt (wpAny_pure ⟨_,_,rfl,h⟩)))
  ·exact(show wpAny _ _ (do ret (<- mkInt 1)) _ _ s from wpAny_bind (wpAny_mkInt (wpAny_pure ⟨_,_,rfl,h⟩)))
 |.int i,v,A,s,Q,x,hu,h=>by
  obtain⟨t,rfl⟩:=x;exact wpAny_pyHash_int h
 |.str i,v,A,s,Q,x,hu,h=>by
  obtain⟨t,rfl⟩:=x;exact wpAny_pyHash_str h
 |.tup ks,v,A,s,Q,x,hu,h=>by
  obtain⟨a,o,it,n,rfl,h1,h2,h3,h4⟩:=x;refine pyHash_slot (T:="tuple") ⟨_,h1,h2⟩ F.slot_tuple_hash F.entry_tuple_hash (F.args_tuple_hash_1 _) (beq_builtin_none _) (.inr (by omega)) ?_;show wpAny _ _ (Builtin.Tuple.tupleItemsOf (.ref a) >>= _) _ _ s;refine wpAny_bind (wpAny_tupleItemsOf h1 h3 ?_);refine wpAny_bind ?_;rw[<- w3a];refine x0b ks it.toList A.in1 s #[] _ h4 (by simp only[Kx.depth,Around.in1_units]at hu |-;omega) fun b hb=>?_
  show wpAny _ _ (retInt (Builtin.Tuple.tupleHashOf b.toList)) _ _ _;rw[hb];exact wpAny_bind (wpAny_mkInt (wpAny_pure ⟨_,_,rfl,by simpa [kHash,kDraws,w4f]using h⟩))
theorem x0b:∀(ks:List Kx)(vs:List Value)(A:Around)(s:Shared)(b:Array Int)(Q:Array Int->Shared->Prop),KAre s.heap ks vs->A.units+Kx.depths ks<cLine ->
  (∀b',b'.toList=b.toList++kHashes w ks->Q b' {s with toks:=s.toks+kDrawss ks}) ->
  wpAny (model prog w) A (forIn vs b fun x r=>do let h <- pyHash x;pure PUnit.unit;pure (ForInStep.yield (r.push h))) Q E s
 |[],vs,A,s,b,Q,x,hu,h=>by
  cases(show vs=[]from x);exact wpAny_pure (h b (by simp[kHashes]))
 |k::ks,vs,A,s,b,Q,x,hu,h=>by
  obtain⟨v,r,rfl,h1,h2⟩:=x;simp only[Kx.depths]at hu;rw[w2m];refine wpAny_bind (wpAny_bind (q9n k v A s _ h1 (by omega) ?_));refine wpAny_bind (wpAny_pure (wpAny_pure ?_))
  exact x0b ks r A _ _ Q h2 (by omega) fun b' hb=>by
   have:=h b' (by simp[hb,kHashes])
   simpa [kDrawss,w4f]using this
end
theorem x31(a b:Bool):decide (Kx.bl a=Kx.bl b)=(a==b):=by
 by_cases e:a=b
 ·subst e;simp
 ·rw[decide_eq_false (fun z=>e (by injection z))];exact(beq_eq_false_iff_ne.mpr e).symm
theorem x9g(a b:Int):decide (Kx.int a=Kx.int b)=(a==b):=by
 by_cases e:a=b
 ·subst e;simp
 ·rw[decide_eq_false (fun z=>e (by injection z))];exact(beq_eq_false_iff_ne.mpr e).symm
theorem x9h(a b:Str):decide (Kx.str a=Kx.str b)=(a==b):=by
 by_cases e:a=b
 ·subst e;simp
 ·rw[decide_eq_false (fun z=>e (by injection z))];exact(beq_eq_false_iff_ne.mpr e).symm
noncomputable def sameAt(ks ks':List Kx)(j:Nat):Bool:=decide (ks[j]?=ks'[j]?)
theorem x9i:∀ks ks':List Kx,((List.range (min ks.length ks'.length)).all (sameAt ks ks')&&ks.length==ks'.length)=decide (Kx.tup ks=Kx.tup ks'):=by
 intro ks ks'
 by_cases e:ks=ks'
 ·subst e;rw[decide_eq_true rfl];simp[sameAt]
 ·rw[decide_eq_false (fun z=>e (by injection z))]
  rw[Bool.and_eq_false_iff]
  by_cases hl:ks.length=ks'.length
  ·left
   rw[w1l];intro ha;refine e (List.ext_getElem? fun j=>?_)
   by_cases hj:j<ks.length
   ·have:=w0v.mp ha j (w1o.mpr (by omega));exact of_decide_eq_true this
   ·rw[w1w (by omega),w1w (by omega)]
  ·right
   simpa using hl
theorem q50:∀(ks:List Kx){vs:List Value},KAre h ks vs->∀(j:Nat)(v:Value),vs[j]?=some v->∃k,ks[j]?=some k/\KIs h k v
 |[],vs,x,j,v,e=>by cases(show vs=[]from x);simp at e
 |k::ks,vs,x,j,v,e=>by
  obtain⟨u,r,rfl,h1,h2⟩:=x;cases j with
  |zero=>cases e;exact⟨k,rfl,h1⟩
  |succ j=>exact q50 ks h2 j v (by simpa using e)
theorem q6q:∀(ks:List Kx)(j:Nat)(k:Kx),ks[j]?=some k->k.depth<=Kx.depths ks
 |[],j,k,e=>by simp at e
 |x::ks,j,k,e=>by
  simp only[Kx.depths];cases j with
  |zero=>cases e;omega
  |succ j=>have:=q6q ks j k (by simpa using e);omega
theorem q6r:∀(ks:List Kx)(ss:List Sh),Confs ks ss->∀(j:Nat)(k:Kx),ks[j]?=some k->∃s,ss[j]?=some s/\Conf k s
 |[],ss,_,j,k,e=>by simp at e
 |x::ks,[],c,j,k,e=>c.elim
 |x::ks,s::ss,c,j,k,e=>by
  cases j with
  |zero=>cases e;exact⟨s,rfl,c.1⟩
  |succ j=>exact q6r ks ss c.2 j k (by simpa using e)
theorem q6s:∀(ks:List Kx)(s:Sh),ConfM ks s->∀(j:Nat)(k:Kx),ks[j]?=some k->Conf k s
 |[],s,_,j,k,e=>by simp at e
 |x::ks,s,c,j,k,e=>by
  cases j with
  |zero=>cases e;exact c.1
  |succ j=>exact q6s ks s c.2 j k (by simpa using e)
theorem y95(s:Shared):∀(n:Nat)(k k':Kx)(sh:Sh)(v v':Value)(A:Around),k.depth<=n->Conf k sh->Conf k' sh->KIs s.heap k v->KIs s.heap k' v'->A.units+n<cLine->SeqAt.EqAt A s v v' (decide (k=k')):=by
 intro n
 induction n with
 |zero=>
  intro k k' sh v v' A hd c c' x y hu;cases k with
  |non=>
   cases sh with
   |ob=>
    cases k' with
    |non=>cases(show v=.none from x);cases(show v'=.none from y);rw[decide_eq_true rfl];exact .same _
    |bl b=>cases(show v=.none from x);cases(show v'=.bool b from y);rw[decide_eq_false (fun z=>nomatch z)];exact .none_bool b
    |_=>exact c'.elim
   |_=>exact c.elim
  |bl a=>
   cases sh with
   |ob=>
    cases k' with
    |non=>cases(show v=.bool a from x);cases(show v'=.none from y);rw[decide_eq_false (fun z=>nomatch z)];exact .bool_none a
    |bl b=>cases(show v=.bool a from x);cases(show v'=.bool b from y);rw[x31];exact .bool_bool a b
    |_=>exact c'.elim
   |bl=>
    cases k' with
    |bl b=>cases(show v=.bool a from x);cases(show v'=.bool b from y);rw[x31];exact .bool_bool a b
    |_=>exact c'.elim
   |_=>exact c.elim
  |int a=>
   cases sh with
   |int=>
    cases k' with
    |int b=>obtain⟨t,rfl⟩:=x;obtain⟨u,rfl⟩:=y;rw[x9g];exact .int_int a t b u
    |_=>exact c'.elim
   |_=>exact c.elim
  |str a=>
   cases sh with
   |str=>
    cases k' with
    |str b=>obtain⟨t,rfl⟩:=x;obtain⟨u,rfl⟩:=y;rw[x9h];exact .str_str a t b u
    |_=>exact c'.elim
   |_=>exact c.elim
  |tup ks=>simp only[Kx.depth]at hd;omega
 |succ n ih=>
  intro k k' sh v v' A hd c c' x y hu;cases k with
  |non=>exact ih .non k' sh v v' A (w1a _) c c' x y (by omega)
  |bl a=>exact ih (.bl a) k' sh v v' A (w1a _) c c' x y (by omega)
  |int a=>exact ih (.int a) k' sh v v' A (w1a _) c c' x y (by omega)
  |str a=>exact ih (.str a) k' sh v v' A (w1a _) c c' x y (by omega)
  |tup ks=>
   obtain⟨a,o,it,m,rfl,h1,h2,h3,h4⟩:=x
   have tail:∀ks',k'=.tup ks'->(∀(j:Nat)(u u':Kx),ks[j]?=some u->ks'[j]?=some u'->∃s,Conf u s/\Conf u' s)->SeqAt.EqAt A s (.ref a) v' (decide (Kx.tup ks=k')):=by
    rintro ks' rfl hc;obtain⟨b,o',it',m',rfl,g1,g2,g3,g4⟩:=y
    by_cases hab:a=b
    ·subst hab;rw[h1]at g1;cases g1;rw[h3]at g3;injection g3 with e1 _
     subst e1;rw[q77 ks ks' h4 g4,decide_eq_true rfl];exact .same _
    ·have l1:=KAre.length ks h4;have l2:=KAre.length ks' g4;rw[<- x9i]
     have:=SeqAt.RcAt.tuples (A:=A) (s:=s) (e:=sameAt ks ks') (show s.heap.IsTuple a it from⟨o,h1,h2,m,h3⟩) (show s.heap.IsTuple b it' from⟨o',g1,g2,m',g3⟩) (by omega) (fun j j1 j2=>by
      obtain⟨u,u1,u2⟩:=q50 ks h4 j it[j] (by simp[j1]);obtain⟨u',u1',u2'⟩:=q50 ks' g4 j it'[j] (by simp[j2]);obtain⟨sh',c1,c2⟩:=hc j u u' u1 u1';have hdj:=q6q ks j u u1;simp only[Kx.depth]at hd;have z:=ih u u' sh' _ _ A.in1 (by omega) c1 c2 u2 u2' (by rw[Around.in1_units];omega)
      have e:sameAt ks ks' j=decide (u=u'):=by
       unfold sameAt;rw[u1,u1']
       by_cases q:u=u'
       ·rw[q];simp
       ·rw[decide_eq_false q,decide_eq_false (fun z=>q (Option.some.inj z))]
      rw[e];exact z)
     rw[show it.size=ks.length by simpa using l1,show it'.size=ks'.length by simpa using l2]at this;exact .of_refs hab this
   cases sh with
   |tup ss=>
    cases k' with
    |tup ks'=>
     refine tail ks' rfl fun j u u' e1 e2=>?_
     obtain⟨s1,q1,q2⟩:=q6r ks ss c j u e1;obtain⟨s2,q3,q4⟩:=q6r ks' ss c' j u' e2;rw[q1]at q3;cases q3;exact⟨s1,q2,q4⟩
    |_=>exact c'.elim
   |many s1=>
    cases k' with
    |tup ks'=>exact tail ks' rfl fun j u u' e1 e2=>⟨s1,q6s ks s1 c j u e1,q6s ks' s1 c' j u' e2⟩
    |_=>exact c'.elim
   |_=>exact c.elim
theorem x9j:∀(n:Nat)(k:Kx)(v:Value)(s:Shared)(Q:Bool->Shared->Prop),k.depth<=n->KIs s.heap k v->Q true s->wpAny (model prog w) A (eqIsQuiet n v) Q E s:=by
 intro n
 induction n with
 |zero=>
  intro k v s Q hd x h;cases k with
  |non=>cases(show v=.none from x);rw[eqIsQuiet_byValue _ rfl];exact wpAny_pure h
  |bl b=>cases(show v=.bool b from x);rw[eqIsQuiet_byValue _ rfl];exact wpAny_pure h
  |int i=>obtain⟨t,rfl⟩:=x;rw[eqIsQuiet_byValue _ rfl];exact wpAny_pure h
  |str i=>obtain⟨t,rfl⟩:=x;rw[eqIsQuiet_byValue _ rfl];exact wpAny_pure h
  |tup ks=>simp only[Kx.depth]at hd;omega
 |succ n ih=>
  intro k v s Q hd x h;cases k with
  |non=>cases(show v=.none from x);rw[eqIsQuiet_byValue _ rfl];exact wpAny_pure h
  |bl b=>cases(show v=.bool b from x);rw[eqIsQuiet_byValue _ rfl];exact wpAny_pure h
  |int i=>obtain⟨t,rfl⟩:=x;rw[eqIsQuiet_byValue _ rfl];exact wpAny_pure h
  |str i=>obtain⟨t,rfl⟩:=x;rw[eqIsQuiet_byValue _ rfl];exact wpAny_pure h
  |tup ks=>
   obtain⟨a,o,it,m,rfl,h1,h2,h3,h4⟩:=x;have hT:s.TypeIs (.ref a) "tuple":=⟨o,h1,h2⟩;unfold eqIsQuiet;refine wpAny_bind (wpAny_specialOf hT F.slot_tuple_eq.lookup ?_);show wpAny _ _ (isInstance (.ref a) (.type "tuple") >>= _) _ _ s;refine wpAny_bind (wpAny_isInstance hT isSubtype_tuple_tuple ?_);simp only[w4g,w1e,if_false];refine wpAny_bind (wpAny_seqItems h1 h3 ?_);refine wpAny_bind ?_;show wpAny _ _ (forIn it _ _) _ _ s;rw[<- w3a];refine wpAny_forIn_list _ (fun rest r s'=>r.1=none/\s'=s/\∀v∈rest,∃k:Kx,k.depth<=n/\KIs s.heap k v) _ ?_ ?_ _ _ ⟨rfl,rfl,fun v hv=>?_⟩
   ·rintro v rest r s' ⟨hr,rfl,hall⟩;obtain⟨k,k1,k2⟩:=hall v w0n;refine wpAny_bind (ih k v _ _ k1 k2 ?_);simp only[w4g,w1e,if_false];exact wpAny_pure ⟨rfl,rfl,fun u hu'=>hall u (w0k _ hu')⟩
   ·rintro⟨r1,r2⟩ s' ⟨hr,rfl,_⟩;simp only at hr;subst hr;exact wpAny_pure h
   ·obtain⟨j,hj,e⟩:=w1j.mp hv;obtain⟨k,k1,k2⟩:=q50 ks h4 j v (by rw[w0d hj,e]);have:=q6q ks j k k1;simp only[Kx.depth]at hd;exact⟨k,by omega,k2⟩
noncomputable def treeKind(prog:Program)(w:World)(sh:Sh):HeapKind prog w Kx where
 is:=fun h k a=>KIs h k (.ref a)/\Conf k sh/\k.depth<=7
 hash:=kHash w
 draws:=kDraws
 room:=fun A=>A.units+8<cLine
 inj:=fun hx hy=>x30 _ _ hx.1 hy.1
 keeps:=fun {h h' k a d o es ep} x ho hd hs=>⟨x0a (fun b ob e1 e2 e3=>by
  have hne:b≠d:=by
   rintro rfl;rw[ho]at e1;cases e1;obtain⟨it,n,e⟩:=e3;rw[hd]at e;cases e
  exact(hs.2 b hne).trans e1) _ x.1,x.2⟩
 pyHash:=fun {A E s k a Q} hu hk h=>q9n k _ A s Q hk.1 (by have:=hk.2.2;omega) h
 eqBool:=fun {A E s x y a b Q} hu hx hy h=>y95 s 7 x y sh _ _ A hx.2.2 hx.2.1 hy.2.1 hx.1 hy.1 (by omega) prog w E Q h
 quiet:=fun {A E s k a Q} hk h=>x9j 8 k _ s Q (by have:=hk.2.2;omega) hk.1 h
set_option Elab.async false
set_option linter.all false
set_option maxRecDepth 100000
noncomputable abbrev Key:=Sum Int Str
noncomputable def keyIs:Key->Value->Bool
 |.inl k,v=>Value.isInt k v
 |.inr x,v=>Value.isStrOf x v
noncomputable def keyH(w:World):Key->Int
 |.inl k=>hashInt k
 |.inr x=>hashStr w x
theorem q10:∀{k:Key}{v:Value},keyIs k v=true->(∃i t,k=Sum.inl i/\v=Value.int i t)\/(∃x t,k=Sum.inr x/\v=Value.str x t)
 |.inl i,v,h=>by
  obtain⟨t,e⟩:=Value.isInt_shape (k:=i) (v:=v) h;exact .inl ⟨i,t,rfl,e⟩
 |.inr x,v,h=>by
  obtain⟨t,e⟩:=Value.isStrOf_shape (x:=x) (v:=v) h;exact .inr ⟨x,t,rfl,e⟩
theorem x6i(i:Int)(t:Tok):keyIs (.inl i) (.int i t)=true:=by simp[keyIs,Value.isInt]
theorem x6j(x:Str)(t:Tok):keyIs (.inr x) (.str x t)=true:=by simp[keyIs,Value.isStrOf]
theorem y6u(a b:Int):decide ((Sum.inl a:Key)=Sum.inl b)=(a==b):=by
 by_cases e:a=b
 ·subst e;simp
 ·have h:¬(Sum.inl a:Key)=Sum.inl b:=fun q=>e (Sum.inl.inj q)
  rw[decide_eq_false h];exact(beq_eq_false_iff_ne.mpr e).symm
theorem y6v(a b:Str):decide ((Sum.inr a:Key)=Sum.inr b)=decide (a=b):=by
 by_cases e:a=b
 ·subst e;simp
 ·have h:¬(Sum.inr a:Key)=Sum.inr b:=fun q=>e (Sum.inr.inj q)
  rw[decide_eq_false h,decide_eq_false e]
theorem y6w(a:Int)(b:Str):decide ((Sum.inl a:Key)=Sum.inr b)=false:=decide_eq_false (fun q=>nomatch q)
theorem y6x(a:Str)(b:Int):decide ((Sum.inr a:Key)=Sum.inl b)=false:=decide_eq_false (fun q=>nomatch q)
noncomputable def mixKind(prog:Program)(w:World):PySem.KeyKind prog w Key where
 is:=keyIs
 hash:=keyH w
 inj:=fun v a b ha hb=>by
  rcases q10 ha with⟨i,t,rfl,rfl⟩|⟨x,t,rfl,rfl⟩
  ·rcases q10 hb with⟨j,u,rfl,e⟩|⟨y,u,rfl,e⟩
   ·injection e with e1 _;rw[e1]
   ·exact nomatch e
  ·rcases q10 hb with⟨j,u,rfl,e⟩|⟨y,u,rfl,e⟩
   ·exact nomatch e
   ·injection e with e1 _;rw[e1]
 byValue:=fun k v h=>by
  rcases q10 h with⟨i,t,rfl,rfl⟩|⟨x,t,rfl,rfl⟩<;>rfl
 pyHash:=fun hv h=>by
  rcases q10 hv with⟨i,t,rfl,rfl⟩|⟨x,t,rfl,rfl⟩
  ·exact wpAny_pyHash_int h
  ·exact wpAny_pyHash_str h
 eqBool:=fun hu hv h=>by
  rcases q10 hu with⟨i,t,rfl,rfl⟩|⟨x,t,rfl,rfl⟩
  ·rcases q10 hv with⟨j,u,rfl,rfl⟩|⟨y,u,rfl,rfl⟩
   ·rw[y6u]at h;exact wpAny_eqBool_int h
   ·rw[y6w]at h;exact SeqAt.EqAt.int_str i t y u _ _ _ _ h
  ·rcases q10 hv with⟨j,u,rfl,rfl⟩|⟨y,u,rfl,rfl⟩
   ·rw[y6x]at h;exact SeqAt.EqAt.str_int x t j u _ _ _ _ h
   ·rw[y6v]at h;exact wpAny_eqBool_str h
 «strs»:=fun k x t v h=>by
  rcases q10 h with⟨i,u,rfl,e⟩|⟨y,u,rfl,e⟩
  ·exact nomatch e
  ·injection e with e1 _
   subst e1;cases v<;>rfl
theorem x3j(prog:Program)(w:World)(i:Int)(t:Tok):(mixKind prog w).is (.inl i) (.int i t)=true:=x6i i t
theorem x3k(prog:Program)(w:World)(x:Str)(t:Tok):(mixKind prog w).is (.inr x) (.str x t)=true:=x6j x t
set_option genInjectivity true in
inductive V where
 |non|bl (b:Bool)|int (i:Int)|str (x:Str)|byt (b:Array UInt8)|flt (b:UInt64)|ref (a:Addr)|ty (n:String)
 deriving DecidableEq
variable{xs:List V}{v:V}
def RelV:V->Value->Prop
 |.non,u=>u=Value.none
 |.bl b,u=>u=Value.bool b
 |.int i,u=>∃t,u=Value.int i t
 |.str x,u=>∃t,u=Value.str x t
 |.byt b,u=>∃t,u=Value.bytes b t
 |.flt b,u=>∃t,u=Value.float b t
 |.ref a,u=>u=Value.ref a
 |.ty n,u=>u=Value.type n
abbrev Vals:List V->List Value->Prop:=Paired RelV
theorem Vals.length(r:Vals xs us):xs.length=us.length:=Paired.length r
theorem Vals.get:∀{xs:List V}{us:List Value}{i:Nat}{x:V},Vals xs us->xs[i]?=some x->∃u,us[i]?=some u/\RelV x u
 |_,_,_,_,.nil,e=>by simp at e
 |_,_,0,_,.cons r _,e=>by simp at e;subst e;exact⟨_,rfl,r⟩
 |_,_,i+1,x,.cons _ t,e=>by
  obtain⟨u,h1,h2⟩:=Vals.get (i:=i) (x:=x) t (by simpa using e);exact⟨u,by simpa using h1,h2⟩
theorem Vals.set{x:V}(r:RelV x u):∀{xs:List V}{us:List Value}(i:Nat),Vals xs us->Vals (xs.set i x) (us.set i u)
 |_,_,_,.nil=>.nil
 |_,_,0,.cons _ t=>.cons r t
 |_,_,i+1,.cons q t=>.cons q (Vals.set r i t)
theorem Vals.append:∀{xs ys:List V}{us ws:List Value},Vals xs us->Vals ys ws->Vals (xs++ys) (us++ws)
 |_,_,_,_,.nil,s=>s
 |_,_,_,_,.cons r t,s=>.cons r (Vals.append t s)
theorem Vals.take:∀{xs:List V}{us:List Value}(n:Nat),Vals xs us->Vals (xs.take n) (us.take n)
 |_,_,0,_=>.nil
 |_,_,_+1,.nil=>.nil
 |_,_,n+1,.cons r t=>.cons r (Vals.take n t)
theorem Vals.drop:∀{xs:List V}{us:List Value}(n:Nat),Vals xs us->Vals (xs.drop n) (us.drop n)
 |_,_,0,r=>r
 |_,_,_+1,.nil=>.nil
 |_,_,n+1,.cons _ t=>Vals.drop n t
def RelO:Option V->Option Value->Prop
 |some v,some u=>RelV v u
 |none,none=>True
 |_,_=>False
def KV{κ:Type}:List (κ×V)->List (κ×Value)->Prop:=Paired fun(p:κ×V) (q:κ×Value)=>p.1=q.1/\RelV p.2 q.2
noncomputable def kV:Key->V
 |.inl i=>.int i
 |.inr x=>.str x
inductive HO where
 /-- a list -/
 |lst (xs:List V)
 /-- a tuple (never changes) -/
 |tup (xs:List V)
 /-- a dict whose keys are ints and texts;one whose keys are tuples of ints and texts (the empty one is both) -/
 |dK (kvs:List (Key×V))|dT (sh:Sh) (kvs:List (Kx×V)) (kas:List Addr)
 /-- a set of ints: its members,its size -/
 |set (S:Int->Bool) (n:Nat)
 /-- an instance of the class at C,its dict at dx,its attributes -/
 |ins (C dx:Addr) (fs:List (Str×V))
 /-- the dict of the instance at x -/
 |own (x:Addr)
 /-- the dict of an exception -/
 |xd (fs:List (Str×V))
 /-- a bound method,f of x -/
 |met (f x:Addr)
 /-- a range object lo,lo+1,.. below hi -/
 |rng (lo hi:Int)
 /-- a thing that is known to the object (the script;a dict while a loop walks it): read,never written while it is so -/
 |frz (o:Obj) (u:HO)
 /-- a code object's table -/
 |tbl (ps:Array Value)
 /-- any other thing,by what is true of its one object (a def of one's own: SetO a S n:=HO.ext fun h=>..) -/
 |ext (φ:Heap->Prop)
noncomputable abbrev Hp:=Addr->Option HO
variable{H H':Hp}
def TupLike:HO->Prop
 |.tup _=>True
 |.frz _ (.tup _)=>True
 |.frz _ (.own _)=>True
 |_=>False
mutual
def KRep(H:Hp):Kx->V->Prop
 |.non,v=>v=.non
 |.bl b,v=>v=.bl b
 |.int i,v=>v=.int i
 |.str x,v=>v=.str x
 |.tup ks,v=>∃a xs,v=.ref a/\(H a=some (.tup xs)\/∃o,H a=some (.frz o (.tup xs)))/\KReps H ks xs
def KReps(H:Hp):List Kx->List V->Prop
 |[],vs=>vs=[]
 |k::ks,vs=>∃v r,vs=v::r/\KRep H k v/\KReps H ks r
end
mutual
theorem KRep.keeps{H H':Hp}(ht:∀b u,TupLike u->H b=some u->H' b=some u):∀(k:Kx){v:V},KRep H k v->KRep H' k v
 |.non,_,x=>x
 |.bl _,_,x=>x
 |.int _,_,x=>x
 |.str _,_,x=>x
 |.tup ks,_,x=>by
  obtain⟨a,xs,e,q,r⟩:=x;refine⟨a,xs,e,?_,KReps.keeps ht ks r⟩;rcases q with q|⟨o,q⟩
  ·exact .inl (ht _ _ True.intro q)
  ·exact .inr ⟨o,ht _ _ True.intro q⟩
theorem KReps.keeps{H H':Hp}(ht:∀b u,TupLike u->H b=some u->H' b=some u):∀(ks:List Kx){vs:List V},KReps H ks vs->KReps H' ks vs
 |[],_,x=>x
 |k::ks,_,x=>by
  obtain⟨v,r,e,h1,h2⟩:=x;exact⟨v,r,e,KRep.keeps ht k h1,KReps.keeps ht ks h2⟩
end
noncomputable def upd(H:Hp)(a:Addr)(o:HO):Hp:=fun b=>if b=a then some o else H b
theorem q0g{o:HO}:upd H a o a=some o:=by unfold upd;rw[if_pos rfl]
theorem q0d{o:HO}(h:b≠a):upd H a o b=H b:=by unfold upd;rw[if_neg h]
theorem q0t{o u:HO}(h:H a=some o)(h':H b=some u)(d:o≠u):a≠b:=by
 intro e;subst e;rw[h]at h';exact d (Option.some.inj h')
theorem q0p{o:HO}(h:H a=some o)(h':H b=none):a≠b:=by
 intro e;subst e;rw[h]at h';cases h'
section
variable(P:Program)(w:World)
def BareT(h:Heap)(a:Addr):Prop:=∃o,h.get? a=some o/\o.dict=none
def ObjOk(H:Hp)(h:Heap)(a:Addr):HO->Prop
 |.lst xs=>xs.length<=sizeLine/\∃(its:List Value)(n:Nat),Vals xs its/\h.get? a=some {cls:=.type "list", data:=.seq its.toArray n}
 |.tup xs=>xs.length<=sizeLine/\∃its:List Value,Vals xs its/\IsTup h a its.toArray/\BareT h a
 |.dK kvs=>kvs.length<=sizeLine/\(a==sysModules)=false/\∃vs,KV kvs vs/\h.DictOf (mixKind P w) a vs
 |.dT sh kvs kas=>kvs.length<=sizeLine/\(a==sysModules)=false/\∃xs:List (Kx×Addr×Value),
   Paired (fun(p:Kx×V) (q:Kx×Addr×Value)=>p.1=q.1/\(KRep H p.1 (.ref q.2.1)/\Conf p.1 sh/\p.1.depth<=7)/\RelV p.2 q.2.2) kvs xs/\xs.map (·.2.1)=kas /\
   ∃o es ep,h.get? a=some o/\o.ExactDict/\o.data=.dict es ep/\es.toList=xs.map (entryOfKey (treeKind P w sh))/\(xs.map (·.1)).Nodup
 |.set S n=>h.SetOf (intKind P w) a S n
 |.ins C dx fs=>H dx=some (.own a)/\fs.length<=1000/\dx≠a/\h.get? a=some (PySem.W.instObj C dx) /\
   ∃mA,h.Ns1 dx mA/\(∀f,RelO (fs.lookup f) (mA f))/\PySem.Within mA (fs.map (·.1))
 |.own _=>∃o,h.get? a=some o
 |.xd fs=>∃mA,h.Ns1 a mA/\∀f,RelO (fs.lookup f) (mA f)
 |.rng lo hi=>∃t u v,h.get? a=some {cls:=.type "range", data:=.fields #[.int lo t,.int hi u,.int 1 v]}
 |.frz o u=>h.get? a=some o/\ObjOk H h a u
 |.tbl ps=>(∃(q:Str)(qs:Array Value),ps[0]?=some (.bool true)/\ps[1]?=some (.str q 0)/\h.get? a=some {cls:=.none,data:=.fields qs}/\TriplesOk qs.toList/\∀(pos:Pos)(cv:Value),codeAmong pos qs.toList=some cv ->
   ∃(c:Addr)(oc:Obj)(vs:Array Value)(t:Tok),cv=.ref c/\H c=some (.frz oc (.own 0))/\oc.data=.fields vs/\vs[1]?=some (.str q t)) \/
   ∃(q:Str)(c:Addr)(oc ob:Obj)(vs:Array Value)(t:Tok),ps[0]?=some (.bool false)/\ps[1]?=some (.str q 0)/\ps[2]?=some (.ref c)/\H c=some (.frz oc (.own 0))/\oc.data=.fields vs/\vs[1]?=some (.str q t)/\h.get? a=some ob
 |.met f x=>h.get? a=some (methodObj (.ref f) (.ref x))
 |.ext φ=>φ h/\(∃o,h.get? a=some o)/\∀h1 h2:Heap,φ h1->(∀o,h1.get? a=some o->h2.get? a=some o)->φ h2
def HOk(H:Hp)(h:Heap):Prop:=∀a o,H a=some o->ObjOk P w H h a o
end
section
variable{o:HO}
theorem ObjOk.lt(x:ObjOk P w H h a o):a<h.objs.size:=by
 cases o with
 |lst xs=>obtain⟨_,_,_,_,e⟩:=x;exact Heap.lt_size e
 |tup xs=>obtain⟨_,_,_,p,_⟩:=x;exact p.lt
 |dK kvs=>obtain⟨_,_,_,_,o,_,_,e,_⟩:=x;exact Heap.lt_size e
 |dT sh kvs kas=>obtain⟨_,_,_,_,_,o,_,_,e,_⟩:=x;exact Heap.lt_size e
 |set S n=>obtain⟨o,_,_,_,e,_⟩:=x;exact Heap.lt_size e
 |ins C dx fs=>obtain⟨_,_,_,e,_⟩:=x;exact Heap.lt_size e
 |own y=>obtain⟨_,e⟩:=x;exact Heap.lt_size e
 |xd fs=>obtain⟨_,⟨_,_,_,e,_⟩,_⟩:=x;exact Heap.lt_size e
 |rng lo hi=>obtain⟨_,_,_,e⟩:=x;exact Heap.lt_size e
 |frz ob u=>obtain⟨e,_⟩:=x;exact Heap.lt_size e
 |tbl ps=>rcases x with⟨_,_,_,_,e,_⟩|⟨_,_,_,_,_,_,_,_,_,_,_,_,e⟩<;>exact Heap.lt_size e
 |met f y=>exact Heap.lt_size (show h.get? a=some _ from x)
 |ext φ=>obtain⟨_,⟨_,e⟩,_⟩:=x;exact Heap.lt_size e
theorem Paired.mapP{α β:Type}{F G:α->β->Prop}:∀{l₁:List α}{l₂:List β},Paired F l₁ l₂->(∀a b,F a b->G a b)->Paired G l₁ l₂
 |_,_,.nil,_=>.nil
 |_,_,.cons r t,f=>.cons (f _ _ r) (Paired.mapP t f)
theorem ObjOk.stay(x:ObjOk P w H h a o)(k:∀b u,(b=a\/H b=some (.own a))->h.get? b=some u->h'.get? b=some u)
  (ho:∀b,H b=some (.own a)->H' b=some (.own a))(ht:∀b u,TupLike u->H b=some u->H' b=some u):ObjOk P w H' h' a o:=by
 induction o with
 |lst xs=>obtain⟨z,its,n,r,e⟩:=x;exact⟨z,its,n,r,k _ _ (.inl rfl) e⟩
 |tup xs=>obtain⟨z,its,r,⟨ob,e,c⟩,⟨o2,e2,c2⟩⟩:=x;exact⟨z,its,r,⟨ob,k _ _ (.inl rfl) e,c⟩,⟨o2,k _ _ (.inl rfl) e2,c2⟩⟩
 |dK kvs=>obtain⟨z,y,vs,r,ob,es,ep,e,c⟩:=x;exact⟨z,y,vs,r,ob,es,ep,k _ _ (.inl rfl) e,c⟩
 |dT sh kvs kas=>
  obtain⟨z,y,xs,r,ka,ob,es,ep,e,c⟩:=x;exact⟨z,y,xs,Paired.mapP r fun p q z=>⟨z.1,⟨KRep.keeps ht _ z.2.1.1,z.2.1.2⟩,z.2.2⟩,ka,ob,es,ep,k _ _ (.inl rfl) e,c⟩
 |set S n=>obtain⟨ob,es,ep,t,e,c⟩:=x;exact⟨ob,es,ep,t,k _ _ (.inl rfl) e,c⟩
 |ins C dx fs=>
  obtain⟨d,z,ne,e,mA,⟨od,es,ep,e2,c⟩,r⟩:=x;exact⟨ho _ d,z,ne,k _ _ (.inl rfl) e,mA,⟨od,es,ep,k _ _ (.inr d) e2,c⟩,r⟩
 |own y=>obtain⟨ob,e⟩:=x;exact⟨ob,k _ _ (.inl rfl) e⟩
 |xd fs=>obtain⟨mA,⟨od,es,ep,e,c⟩,r⟩:=x;exact⟨mA,⟨od,es,ep,k _ _ (.inl rfl) e,c⟩,r⟩
 |rng lo hi=>obtain⟨t,u,v,e⟩:=x;exact⟨t,u,v,k _ _ (.inl rfl) e⟩
 |frz ob u ih=>obtain⟨e,q⟩:=x;exact⟨k _ _ (.inl rfl) e,ih q⟩
 |tbl ps=>
  rcases x with⟨q,qs,p0,p1,e,tr,cd⟩|⟨q,c,oc,ob,vs,t,p0,p1,p2,h3,h4,h5,e⟩
  ·refine .inl ⟨q,qs,p0,p1,k _ _ (.inl rfl) e,tr,fun pos cv z=>?_⟩
   obtain⟨c,oc,vs,t,h1,h3,h4,h5⟩:=cd pos cv z;exact⟨c,oc,vs,t,h1,ht _ _ True.intro h3,h4,h5⟩
  ·exact .inr ⟨q,c,oc,ob,vs,t,p0,p1,p2,ht _ _ True.intro h3,h4,h5,k _ _ (.inl rfl) e⟩
 |met f y=>
  have e:h.get? a=some (methodObj (.ref f) (.ref y)):=x;show h'.get? a=some (methodObj (.ref f) (.ref y));exact k a _ (.inl rfl) e
 |ext φ=>obtain⟨p,⟨o,e⟩,st⟩:=x;exact⟨st _ _ p fun o q=>k _ _ (.inl rfl) q,⟨o,k _ _ (.inl rfl) e⟩,st⟩
theorem HOk.lt(x:HOk P w H h)(e:H a=some o):a<h.objs.size:=(x a o e).lt
theorem HOk.fresh(x:HOk P w H h)(e:h.objs.size<=a):H a=none:=by
 cases q:H a with
 |none=>rfl
 |some u=>exact absurd (w0o (x.lt q) e) (w1x _)
theorem HOk.kept(x:HOk P w H h)(k:∀b u,h.get? b=some u->h'.get? b=some u):HOk P w H h':=fun a o e=>
 (x a o e).stay (fun b u _ q=>k b u q) (fun _ q=>q) fun _ _ _ q=>q
theorem HOk.laid(x:HOk P w H h)(k:∀b u,h.get? b=some u->h'.get? b=some u)(hp:h.objs.size<=a)(new:ObjOk P w (upd H a o) h' a o):HOk P w (upd H a o) h':=fun b u e=>by
 have hn:=x.fresh hp
 by_cases hb:b=a
 ·subst hb;rw[q0g]at e;cases e;exact new
 ·rw[q0d hb]at e;exact(x b u e).stay (fun c v _ q=>k c v q) (fun c q=>by rw[q0d (q0p q hn)];exact q) fun c xs _ q=>by rw[q0d (q0p q hn)];exact q
end
def Rd(H:Hp)(a:Addr)(u:HO):Prop:=H a=some u\/∃o,H a=some (.frz o u)
theorem Rd.ok{u:HO}(r:Rd H a u)(x:HOk P w H h):ObjOk P w H h a u:=by
 rcases r with r|⟨o,r⟩
 ·exact x a u r
 ·obtain⟨_,q⟩:=x a _ r;exact q
def Mut:Option HO->Prop
 |some (.lst _)=>True
 |some (.dK _)=>True
 |some (.dT _ _ _)=>True
 |some (.set _ _)=>True
 |some (.ins _ _ _)=>True
 |some (.ext _)=>True
 |_=>False
section
variable{x e:Addr}{o':HO}
theorem HOk.write(ok:HOk P w H h)(mu:Mut (H x))(he:e=x\/H e=some (.own x))(k:∀b u,b≠e->h.get? b=some u->h'.get? b=some u)(heo:∃u,h'.get? e=some u)
  (new:ObjOk P w (upd H x o') h' x o'):HOk P w (upd H x o') h':=fun b u q=>by
 have nown:∀c y,H c=some (.own y)->c≠x:=fun c y r z=>by subst z;rw[r]at mu;exact mu
 have ntup:∀c u,TupLike u->H c=some u->c≠x:=fun c u t r z=>by
  subst z;rw[r]at mu;cases u<;>first|exact mu|exact t
 by_cases hb:b=x
 ·subst hb;rw[q0g]at q;cases q;exact new
 ·rw[q0d hb]at q
  by_cases hbe:b=e
  ·have q':H b=some (.own x):=by
    rcases he with z|z
    ·exact absurd (hbe.trans z) hb
    ·rw[hbe];exact z
   rw[q]at q';cases q';obtain⟨v,hv⟩:=heo;exact⟨v,by rw[hbe];exact hv⟩
  ·refine(ok b u q).stay (fun c v hc r=>k c v ?_ r) (fun c r=>by rw[q0d (nown c b r)];exact r) fun c xs t r=>by rw[q0d (ntup c xs t r)];exact r
   rcases hc with rfl|hc
   ·exact hbe
   ·rintro rfl;rcases he with z|z
    ·exact nown c b hc z
    ·rw[hc]at z;cases z;exact hb rfl
end
structure Un(fs ex:List Addr)(H H':Hp)(h h':Heap):Prop where
 keep:∀b o,h.get? b=some o->H b=none->b∉fs->b∉ex->h'.get? b=some o
 slot:∀b o,h.get? b=some o->H b=none->b∈fs->b∉ex->∃sl,h'.get? b=some {o with slots:=sl}
 free:∀b o,h.get? b=some o->H b=none->b∉ex->H' b=none
 there:∀b o,h.get? b=some o->b∉ex->∃o',h'.get? b=some o'
 tups:∀b xs,H b=some (.tup xs)->H' b=some (.tup xs)
 frzs:∀b o u,H b=some (.frz o u)->H' b=some (.frz o u)
 tbls:∀b ps,H b=some (.tbl ps)->∃more,H' b=some (.tbl (ps++more))
section
variable{fs fs' ex ex':List Addr}{H1 H2:Hp}{h1 h2:Heap}{x e:Addr}{o:HO}
theorem Un.any(u:Un fs ex H H1 h h1){ob:Obj}(q:h.get? b=some ob)(n:H b=none)(hx:b∉ex):∃sl,h1.get? b=some {ob with slots:=sl}:=by
 by_cases hb:b∈fs
 ·exact u.slot b ob q n hb hx
 ·exact⟨ob.slots,u.keep b ob q n hb hx⟩
theorem Un.kept(k:∀b u,h.get? b=some u->h'.get? b=some u):Un fs ex H H h h':=
 ⟨fun b ob q _ _ _=>k b ob q,fun b ob q _ _ _=>⟨ob.slots,k b ob q⟩,fun _ _ _ n _=>n,fun b ob q _=>⟨ob,k b ob q⟩,fun _ _ q=>q,fun _ _ _ q=>q,fun _ ps q=>⟨#[],by rw[q];simp⟩⟩
theorem Un.refl:Un fs ex H H h h:=Un.kept fun _ _ q=>q
theorem Un.laid(k:∀b u,h.get? b=some u->h'.get? b=some u)(hp:h.objs.size<=a)(hn:H a=none):Un fs ex H (upd H a o) h h' where
 keep:=fun b u q _ _ _=>k b u q
 slot:=fun b u q _ _ _=>⟨u.slots,k b u q⟩
 free:=fun b u q n _=>by rw[q0d (w0p (w0o (Heap.lt_size q) hp))];exact n
 there:=fun b u q _=>⟨u,k b u q⟩
 tups:=fun b xs q=>by rw[q0d (q0p q hn)];exact q
 frzs:=fun b u xs q=>by rw[q0d (q0p q hn)];exact q
 tbls:=fun b ps q=>⟨#[],by rw[q0d (q0p q hn),q];simp⟩
theorem Un.write(mu:Mut (H x))(he:e=x\/H e=some (.own x))(k:∀b u,b≠e->h.get? b=some u->h'.get? b=some u)(heo:∃u,h'.get? e=some u):Un fs ex H (upd H x o) h h':=by
 have hx:∀b,H b=none->b≠x:=fun b n z=>by subst z;rw[n]at mu;exact mu
 have hb:∀b,H b=none->b≠e:=fun b n z=>by
  subst z;rcases he with r|r
  ·exact hx b n r
  ·rw[n]at r;cases r
 have hm:∀b u,H b=some u->¬Mut (some u)->b≠x:=fun b u q nm z=>by subst z;rw[q]at mu;exact nm mu
 refine⟨fun b u q n _ _=>k b u (hb b n) q,fun b u q n _ _=>⟨u.slots,k b u (hb b n) q⟩,fun b u q n _=>by rw[q0d (hx b n)];exact n,fun b u q _=>?_,
  fun b xs q=>by rw[q0d (hm b _ q fun z=>z)];exact q,fun b u xs q=>by rw[q0d (hm b _ q fun z=>z)];exact q,fun b ps q=>⟨#[],by rw[q0d (hm b _ q fun z=>z),q];simp⟩⟩
 by_cases hbe:b=e
 ·subst hbe;exact heo
 ·exact⟨u,k b u hbe q⟩
end
noncomputable def trk(h:Heap)(H:Hp):List Addr:=(List.range h.objs.size).filter fun a=>(H a).isSome
noncomputable def hidT(h:Heap)(H:Hp):Heap:=PySem.W.hideAll h (trk h H)
theorem x0c(h:Heap)(H:Hp):(hidT h H).objs.size=h.objs.size:=PySem.W.hideAll_size _ _
theorem x1v{o:Obj}(e:h.get? b=some o)(n:H b=none):(hidT h H).get? b=some o:=
 hideAll_get _ e fun hm=>by
  have q:(H b).isSome=true:=(w3s.mp hm).2;rw[n]at q;simp at q
theorem x32{o:Obj}(e:(hidT h H).get? b=some o):h.get? b=some o/\H b=none:=by
 have e':h.get? b=some o:=PySem.W.of_hideAll (trk h H) e;refine⟨e',?_⟩;cases q:H b with
 |none=>rfl
 |some x=>
  have hm:b∈trk h H:=w3s.mpr ⟨w1o.mpr (Heap.lt_size e'),by simp[q]⟩;have z:(hidT h H).get? b=none:=PySem.W.hideAll_none (trk h H) hm;rw[z]at e;cases e
noncomputable def allNews(g h:Heap)(L:Addr):List (Addr×Obj):=(List.range h.objs.size).filterMap fun a=>if a=L\/(g.get? a).isSome=true then none else(h.get? a).map fun o=>(a,o)
noncomputable def rest(g h:Heap)(L d:Addr):List (Addr×Obj):=(allNews g h L).filter fun p=>decide (p.1≠d)
structure Mod(K:PySem.W.Frag)(mg:Str->Option Value)(base:Heap):Prop where
 kin:K.In base
 glob:base.Ns mainGlobals mg
 blt:∃mb,base.Ns builtinsNs mb/\∀x:Str,x≠"__name__"->mb x=bootBuiltins x
 nolimit:base.NoLimit
structure Cx where
 prog:Program
 w:World
 K:PySem.W.Frag
 mg:Str->Option Value
 base:Heap
 A:Around
 N:List Str
 s₀:Shared
 H₀:Hp
 env:Env
 outer:List Env
 stack:List Env
 ex:List Addr
 fn:Str->Bool
 calm:Bool
 pn:List (Addr×Obj)
 xe:Value->Shared->Prop
variable{X:Cx}
noncomputable def frs(l:List Env):List Addr:=l.filterMap (·.frame)
noncomputable abbrev Cx.fs(X:Cx):List Addr:=frs X.outer
def Vis(sc:Scope)(x:Str):Prop:=sc.names.lookup x=some .local\/sc.names.lookup x=some .cell\/sc.names.lookup x=some .free
def Loc(sc:Scope)(x:Str):Prop:=sc.names.lookup x=some .local\/sc.names.lookup x=some .cell
def Look(env:Env)(h:Heap)(m:Str->Option Value)(x:Str)(u:Value):Prop:=
 (env.kindOf x=some .local/\m x=some u)\/((env.kindOf x=some .cell\/env.kindOf x=some .free)/\∃c,env.cells.lookup x=some c/\h.IsCell c (some u))
noncomputable abbrev markO(P:Addr)(q:Str):Obj:={cls:=.str q 0,data:=.fields #[.ref P]}
def TabOk(K:PySem.W.Frag)(H:Hp):Prop:=∀(a:Addr)(q:Str)(P:Addr),(a,markO P q)∈K->∃ps:Array Value,H P=some (.tbl ps)/\ps[0]?=some (.bool true)/\ps[1]?=some (.str q 0)
noncomputable def noMark(K:PySem.W.Frag):Bool:=K.all fun p=>match p.2.cls with
 |.str _ _=>false
 |_=>true
theorem TabOk.vac(h:noMark K=true):TabOk K H:=fun a q P m=>by
 have:=w0v.mp h _ m;cases this
theorem TabOk.un{fs ex:List Addr}{h':Heap}(t:TabOk K H)(u:Un fs ex H H' h h'):TabOk K H':=fun a q P m=>by
 obtain⟨ps,e,p0,p1⟩:=t a q P m;obtain⟨more,e'⟩:=u.tbls P ps e;refine⟨_,e',?_,?_⟩
 ·rw[w1k (by obtain⟨z,_⟩:=w1c.mp p0;exact z)];exact p0
 ·rw[w1k (by obtain⟨z,_⟩:=w1c.mp p1;exact z)];exact p1
theorem TabOk.laid{D:Addr}{o:HO}(t:TabOk K H)(hn:H D=none):TabOk K (upd H D o):=fun a q P m=>by
 obtain⟨ps,e,p⟩:=t a q P m;exact⟨ps,by rw[q0d (q0p e hn)];exact e,p⟩
structure Cx.Ok(X:Cx):Prop where
 mod:Mod X.K X.mg X.base
 kind:X.env.scope.kind=.function
 glob:X.env.globals=mainGlobals
 blt:X.env.builtins=builtinsNs
 above:X.s₀.heap.objs.size<=X.env.locals
 inj:∀x y c,X.env.cells.lookup x=some c->X.env.cells.lookup y=some c->x=y
 has:∀x,(X.env.kindOf x=some .cell\/X.env.kindOf x=some .free)->∃c,X.env.cells.lookup x=some c
 cab:∀x c,X.fn x=true->X.env.cells.lookup x=some c->X.s₀.heap.objs.size<=c
 hd:X.calm=true->X.A.handled=none
 frames:X.A.frames=some X.stack
 stk:X.stack=X.outer\/(X.stack=X.env::X.outer/\X.env.frame=some X.env.locals)
 exf:∀b∈X.ex,b≠X.env.locals/\∀x c,X.env.cells.lookup x=some c->c≠b
 bs:∀b o,X.base.get? b=some o->X.s₀.heap.get? b=some o/\X.H₀ b=none
 bsz:X.base.objs.size<=X.s₀.heap.objs.size
 noex:∀b o,X.base.get? b=some o->b∉X.ex
 exfs:∀b∈X.ex,b∉X.fs
 funs:X.s₀.heap.FunFrames X.base X.outer
 frf:∀b∈X.fs,X.H₀ b=none
 tab:TabOk X.K X.H₀
structure Inv(X:Cx)(pins:List (Addr×Obj))(σ:List (Option V))(H:Hp)(s:Shared):Prop where
 ok:X.Ok
 os:s.os=X.s₀.os
 bare:AllBare s.gens
 base:Un X.fs X.ex X.H₀ H X.s₀.heap s.heap
 loc:∃m,s.heap.Ns X.env.locals m/\∀(i:Nat)(x:Str)(v:V),X.N[i]?=some x->σ[i]?=some (some v)->Vis X.env.scope x->∃u,RelV v u/\Look X.env s.heap m x u
 cell:∀x c,X.env.cells.lookup x=some c->∃v,s.heap.IsCell c v
 free:H X.env.locals=none
 freeC:∀x c,X.env.cells.lookup x=some c->H c=none
 pin:∀p∈X.pn++pins,s.heap.get? p.1=some p.2/\H p.1=none/\p.1≠X.env.locals/\p.1∉X.fs/\∀v,p.2.data≠.cell v
 hok:HOk X.prog X.w H s.heap
 len:σ.length=X.N.length
section
variable{σ:List (Option V)}
theorem Cx.Ok.nofr(ok:X.Ok){o:Obj}(e:X.base.get? b=some o):b∉X.fs:=fun hb=>by
 have:=(ok.funs.mem hb).1
 rw[e]at this;cases this
theorem Inv.bs(I:Inv X pins σ H s):∀b o,X.base.get? b=some o->s.heap.get? b=some o/\H b=none:=fun b o e=>
 ⟨I.base.keep b o (I.ok.bs b o e).1 (I.ok.bs b o e).2 (I.ok.nofr e) (I.ok.noex b o e),I.base.free b o (I.ok.bs b o e).1 (I.ok.bs b o e).2 (I.ok.noex b o e)⟩
theorem Inv.bk(I:Inv X pins σ H s):∀b o,X.base.get? b=some o->s.heap.get? b=some o:=fun b o e=>(I.bs b o e).1
theorem Inv.mod(I:Inv X pins σ H s):Mod X.K X.mg X.base:=I.ok.mod
theorem Inv.kIn(I:Inv X pins σ H s):X.K.In s.heap:=I.ok.mod.kin.keeps I.bk
theorem Inv.fr(I:Inv X pins σ H s):∃m,Fr X.base X.env.locals s.heap m:=
 let ⟨m,hn,_⟩:=I.loc
 ⟨m,hn,I.bk,w0r I.ok.bsz I.ok.above⟩
theorem Inv.lt(I:Inv X pins σ H s):X.env.locals<s.heap.objs.size:=let ⟨_,hn,_⟩:=I.loc;hn.lt
theorem Inv.sz(I:Inv X pins σ H s):X.s₀.heap.objs.size<=s.heap.objs.size:=w0r I.ok.above (w4p I.lt)
theorem Inv.nofs(I:Inv X pins σ H s)(h:s.heap.objs.size<=a):a∉X.fs:=fun hb=>by
 obtain⟨_,o,ho,_⟩:=I.ok.funs.mem hb
 exact absurd (w0o (Heap.lt_size ho) (w0r I.sz h)) (w1x _)
theorem Inv.cne(I:Inv X pins σ H s):∀x c,X.env.cells.lookup x=some c->c≠X.env.locals:=fun x c e z=>by
 obtain⟨v,o,ho,hd⟩:=I.cell x c e;obtain⟨m,⟨o',es,ep,ho',hd',_⟩,_⟩:=I.loc;rw[z,ho']at ho;cases ho;rw[hd']at hd;cases hd
theorem Inv.funs(I:Inv X pins σ H s):s.heap.FunFrames X.base X.outer:=by
 have all:∀(l:List Env),(∀b∈frs l,b∈X.fs)->X.s₀.heap.FunFrames X.base l->s.heap.FunFrames X.base l:=by
  intro l
  induction l with
  |nil=>intro _ _;trivial
  |cons env r ih=>
   intro hs hl;obtain⟨hk,⟨L,o,hf,hn,ho,hd⟩,hr⟩:=hl;have hL:L∈X.fs:=hs L (by unfold frs;rw[w2h,hf];exact w0n);obtain⟨sl,e⟩:=I.base.slot L o ho (I.ok.frf L hL) hL fun z=>I.ok.exfs L z hL
   exact⟨hk,⟨L,_,hf,hn,e,hd⟩,ih (fun b hb=>hs b (by unfold frs;rw[w2h,hf];exact w0k _ hb)) hr⟩
 exact all X.outer (fun _ hb=>hb) I.ok.funs
theorem Inv.stack(I:Inv X pins σ H s):s.heap.FunFrames X.base X.stack:=by
 rcases I.ok.stk with e|⟨e,hf⟩
 ·rw[e];exact I.funs
 ·rw[e];obtain⟨m,hn,_⟩:=I.loc;refine .cons (by rw[I.ok.kind];decide) hf hn ?_ I.funs
  exact Heap.get?_none_of_le (w0r I.ok.bsz I.ok.above)
theorem Inv.stkSub(I:Inv X pins σ H s):∀b∈frs X.stack,b∈X.env.locals::X.fs:=fun b hb=>by
 rcases I.ok.stk with e|⟨e,hf⟩
 ·rw[e]at hb;exact w0k _ hb
 ·rw[e]at hb;unfold frs at hb;rw[w2h,hf]at hb;exact hb
theorem Inv.stkFree(I:Inv X pins σ H s):∀b∈frs X.stack,H b=none:=fun b hb=>by
 rcases w0j.mp (I.stkSub b hb)with e|hb
 ·rw[e];exact I.free
 ·obtain⟨_,o,ho,_⟩:=I.ok.funs.mem hb
  exact I.base.free b o ho (I.ok.frf b hb) fun z=>I.ok.exfs b z hb
theorem Inv.step{g':Array GenState}{d':Drawn}{ch:List Addr}(I:Inv X pins σ H s)
  (hch:∀b∈ch,(b∈X.ex\/X.s₀.heap.objs.size<=b)/\b≠X.env.locals/\(∀x c,X.env.cells.lookup x=some c->c≠b)/\∀p∈X.pn++pins,p.1≠b)
  (keep:∀b o,b≠X.env.locals->b∉X.fs->b∉ch->s.heap.get? b=some o->H b=none->h'.get? b=some o)
  (slot:∀b o,b≠X.env.locals->b∈X.fs->b∉ch->s.heap.get? b=some o->H b=none->∃sl,h'.get? b=some {o with slots:=sl})(free:∀b o,b∉ch->s.heap.get? b=some o->H b=none->H' b=none)
  (there:∀b o,b∉ch->s.heap.get? b=some o->∃o',h'.get? b=some o')
  (tups:∀b xs,H b=some (.tup xs)->H' b=some (.tup xs))(frzs:∀b o u,H b=some (.frz o u)->H' b=some (.frz o u))(tbls:∀b ps,H b=some (.tbl ps)->∃more,H' b=some (.tbl (ps++more)))
  (ns:∀m,s.heap.Ns X.env.locals m->h'.Ns X.env.locals m)(hok:HOk X.prog X.w H' h')(hg:AllBare g'):
  Inv X pins σ H' {s with heap:=h',gens:=g',drawn:=d',toks:=t'}:=by
 have neL:∀b o,X.s₀.heap.get? b=some o->b≠X.env.locals:=fun b o e=>w0p (w0o (Heap.lt_size e) I.ok.above)
 have neC:∀b o,X.s₀.heap.get? b=some o->b∉X.ex->b∉ch:=fun b o e hx hb=>by
  rcases(hch b hb).1 with z|z
  ·exact hx z
  ·exact absurd (w0o (Heap.lt_size e) z) (w1x _)
 have cellK:∀x c,X.env.cells.lookup x=some c->∀v,s.heap.IsCell c v->h'.IsCell c v:=fun x c e v ⟨o,ho,hd⟩=>by
  have nch:c∉ch:=fun z=>(hch c z).2.2.1 x c e rfl
  by_cases hc:c∈X.fs
  ·obtain⟨sl,q⟩:=slot c o (I.cne x c e) hc nch ho (I.freeC x c e);exact⟨_,q,hd⟩
  ·exact⟨o,keep c o (I.cne x c e) hc nch ho (I.freeC x c e),hd⟩
 refine⟨I.ok,I.os,hg,⟨fun b o e n hb hx=>?_,fun b o e n hb hx=>?_,fun b o e n hx=>?_,fun b o e hx=>?_,fun b xs e=>tups b xs (I.base.tups b xs e),fun b o xs e=>frzs b o xs (I.base.frzs b o xs e),fun b ps e=>?_⟩,?_,fun x c e=>?_,?_,fun x c e=>?_,fun p hp=>?_,hok,I.len⟩
 ·exact keep b o (neL b o e) hb (neC b o e hx) (I.base.keep b o e n hb hx) (I.base.free b o e n hx)
 ·obtain⟨sl,e1⟩:=I.base.slot b o e n hb hx;obtain⟨sl',e2⟩:=slot b _ (neL b o e) hb (neC b o e hx) e1 (I.base.free b o e n hx);exact⟨sl',e2⟩
 ·obtain⟨o',e1⟩:=I.base.there b o e hx;exact free b o' (neC b o e hx) e1 (I.base.free b o e n hx)
 ·obtain⟨o',e1⟩:=I.base.there b o e hx;exact there b o' (neC b o e hx) e1
 ·obtain⟨m1,e1⟩:=I.base.tbls b ps e;obtain⟨m2,e2⟩:=tbls b _ e1;exact⟨m1++m2,by rw[e2,Array.append_assoc]⟩
 ·obtain⟨m,hn,hl⟩:=I.loc;refine⟨m,ns m hn,fun i x v e1 e2 e3=>?_⟩
  obtain⟨u,r,l⟩:=hl i x v e1 e2 e3;refine⟨u,r,?_⟩;rcases l with l|⟨k,c,e,z⟩
  ·exact .inl l
  ·exact .inr ⟨k,c,e,cellK x c e _ z⟩
 ·obtain⟨v,z⟩:=I.cell x c e;exact⟨v,cellK x c e v z⟩
 ·obtain⟨m,⟨o,_,_,ho,_⟩,_⟩:=I.loc;exact free _ o (fun z=>(hch _ z).2.1 rfl) ho I.free
 ·obtain⟨v,o,ho,hd⟩:=I.cell x c e;exact free c o (fun z=>(hch c z).2.2.1 x c e rfl) ho (I.freeC x c e)
 ·obtain⟨e,n,ne,nf,d⟩:=I.pin p hp;have nch:p.1∉ch:=fun z=>(hch p.1 z).2.2.2 p hp rfl
  exact⟨keep p.1 p.2 ne nf nch e n,free p.1 p.2 nch e n,ne,nf,d⟩
theorem Inv.un(I:Inv X pins σ H s)(u:Un X.fs [] H H' s.heap h')(hok:HOk X.prog X.w H' h'):Inv X pins σ H' {s with heap:=h',toks:=t'}:=by
 obtain⟨m,⟨o,es,ep,ho,r⟩,_⟩:=id I.loc;obtain⟨sl,hL⟩:=u.any ho I.free (by simp)
 exact I.step (g':=s.gens) (d':=s.drawn) (ch:=[]) (fun _ z=>nomatch z) (fun b o _ hb _ e n=>u.keep b o e n hb (by simp)) (fun b o _ hb _ e n=>u.slot b o e n hb (by simp)) (fun b o _ e n=>u.free b o e n (by simp)) (fun b o _ e=>u.there b o e (by simp)) u.tups u.frzs u.tbls (fun m' hm=>by
  obtain⟨o',es',ep',ho',r'⟩:=hm;rw[ho]at ho';cases ho';exact⟨_,es',ep',hL,r'⟩) hok I.bare
theorem Inv.call{g':Array GenState}{d':Drawn}(I:Inv X pins σ H s)(u:Un (frs X.stack) ch H H' s.heap h')(hok:HOk X.prog X.w H' h')(hg:AllBare g')
  (hch:∀b∈ch,(b∈X.ex\/X.s₀.heap.objs.size<=b)/\b≠X.env.locals/\(∀x c,X.env.cells.lookup x=some c->c≠b)/\∀p∈X.pn++pins,p.1≠b):
  Inv X pins σ H' {s with heap:=h',gens:=g',drawn:=d',toks:=t'}:=by
 obtain⟨m,⟨o,es,ep,ho,r⟩,_⟩:=id I.loc;obtain⟨sl,hL⟩:=u.any ho I.free fun z=>(hch _ z).2.1 rfl
 exact I.step (ch:=ch) hch (fun b o hL hb hc e n=>u.keep b o e n (fun z=>(w0j.mp (I.stkSub b z)).elim hL hb) hc) (fun b o _ _ hc e n=>u.any e n hc) (fun b o hc e n=>u.free b o e n hc) (fun b o hc e=>u.there b o e hc) u.tups u.frzs u.tbls (fun m' hm=>by
  obtain⟨o',es',ep',ho',r'⟩:=hm;rw[ho]at ho';cases ho';exact⟨_,es',ep',hL,r'⟩) hok hg
theorem Inv.turned{t':Nat}{it:Addr}(I:Inv X pins σ H s)(k:∀b o,b≠it->s.heap.get? b=some o->h'.get? b=some o)(hn:H it=none)(hL:it≠X.env.locals)
  (h1:it∈X.ex\/X.s₀.heap.objs.size<=it)(h2:∀x c,X.env.cells.lookup x=some c->c≠it)(h3:∀p∈X.pn++pins,p.1≠it):Inv X pins σ H {s with heap:=h',toks:=t'}:=by
 have nit:∀b u,H b=some u->b≠it:=fun b u e z=>by rw[z,hn]at e;cases e
 refine I.step (g':=s.gens) (d':=s.drawn) (ch:=[it]) (fun b hb=>?_) (fun b o _ _ hc e _=>k b o (fun z=>hc (by simp[z])) e) (fun b o _ _ hc e _=>⟨o.slots,k b o (fun z=>hc (by simp[z])) e⟩) (fun _ _ _ _ n=>n)
  (fun b o hc e=>⟨o,k b o (fun z=>hc (by simp[z])) e⟩) (fun _ _ e=>e) (fun _ _ _ e=>e) (fun b ps e=>⟨#[],by rw[e];simp⟩) (fun m hm=>?_) (fun b u e=>?_) I.bare
 ·have e:b=it:=by simpa using hb
  subst e;exact⟨h1,hL,h2,h3⟩
 ·obtain⟨o,es,ep,ho,r⟩:=hm;exact⟨o,es,ep,k _ o (Ne.symm hL) ho,r⟩
 ·refine(I.hok b u e).stay (fun c v hc q=>k c v ?_ q) (fun _ q=>q) fun _ _ _ q=>q
  rcases hc with z|z
  ·rw[z];exact nit b u e
  ·exact nit c _ z
theorem Inv.tok(I:Inv X pins σ H s)(t:Nat):Inv X pins σ H {s with toks:=t}:=I.un (h':=s.heap) (t':=t) Un.refl I.hok
theorem Inv.kept{t':Nat}(I:Inv X pins σ H s)(k:∀b u,s.heap.get? b=some u->h'.get? b=some u):Inv X pins σ H {s with heap:=h',toks:=t'}:=I.un (Un.kept k) (I.hok.kept k)
theorem Inv.laid{a:Addr}{o:HO}{t':Nat}(I:Inv X pins σ H s)(k:∀b u,s.heap.get? b=some u->h'.get? b=some u)(hp:s.heap.objs.size<=a)(new:ObjOk X.prog X.w (upd H a o) h' a o):
  Inv X pins σ (upd H a o) {s with heap:=h',toks:=t'}:=I.un (Un.laid k hp (I.hok.fresh hp)) (I.hok.laid k hp new)
theorem Inv.write{x e:Addr}{o:HO}(I:Inv X pins σ H s)(mu:Mut (H x))(he:e=x\/H e=some (.own x))(k:∀b u,b≠e->s.heap.get? b=some u->h'.get? b=some u)(heo:∃u,h'.get? e=some u)
  (new:ObjOk X.prog X.w (upd H x o) h' x o):Inv X pins σ (upd H x o) {s with heap:=h',toks:=t'}:=I.un (Un.write mu he k heo) (I.hok.write mu he k heo new)
theorem Inv.weak{σ':List (Option V)}(I:Inv X pins σ H s)(hl:σ'.length=σ.length)(w:∀(i:Nat) v,σ'[i]?=some (some v)->σ[i]?=some (some v)):Inv X pins σ' H s:=
 ⟨I.ok,I.os,I.bare,I.base,let ⟨m,hn,hl'⟩:=I.loc;⟨m,hn,fun i x v e1 e2 e3=>hl' i x v e1 (w i v e2) e3⟩,I.cell,I.free,I.freeC,I.pin,I.hok,hl.trans I.len⟩
theorem Inv.pins_of{pins':List (Addr×Obj)}(I:Inv X pins σ H s)(h:∀p∈pins',s.heap.get? p.1=some p.2/\H p.1=none/\p.1≠X.env.locals/\p.1∉X.fs/\∀v,p.2.data≠.cell v):Inv X pins' σ H s:=
 ⟨I.ok,I.os,I.bare,I.base,I.loc,I.cell,I.free,I.freeC,fun p hp=>(w1h.mp hp).elim (fun z=>I.pin p (w1r _ z)) (h p),I.hok,I.len⟩
theorem x1w(hN:N.Nodup){j:Nat}(a:N[i]?=some x)(b:N[j]?=some x):i=j:=by
 obtain⟨h1,e1⟩:=w0b.mp a;obtain⟨h2,e2⟩:=w0b.mp b;exact(List.getElem_inj hN).mp (e1.trans e2.symm)
theorem x6k{Q:Unit->Shared->Prop}(I:Inv X pins σ H s)(hN:X.N.Nodup)(hi:X.N[i]?=some x)(hx:Loc X.env.scope x)(r:RelV v u)
  (h:∀s',Inv X pins (σ.set i (some v)) H s'->(∃a,Heap.SameBut a s.heap s'.heap/\(a=X.env.locals\/X.env.cells.lookup x=some a))->Q () s')(hf:X.fn x=true\/X.env.scope.names.lookup x=some .local:=by walk_at "2"):wpAny M A (storeName X.env x u) Q E s:=by
 obtain⟨m,hn,hl⟩:=id I.loc;have hcls:(X.env.scope.kind==.class||(X.env.scope.kind==.module&&X.env.locals != X.env.globals))=false:=by rw[I.ok.kind];rfl
 have hiσ:i<σ.length:=by rw[I.len];exact(w0b.mp hi).1
 have cne:=I.cne
 have tracked:∀{a:Addr}{h':Heap},(∃o,s.heap.get? a=some o/\H a=none)->Heap.SameBut a s.heap h'->HOk X.prog X.w H h':=fun {a h'} ha hs b ob e=>by
  obtain⟨_,_,hfree⟩:=ha;refine(I.hok b ob e).stay (fun c w' hc q=>(hs.2 c ?_).trans q) (fun _ q=>q) fun _ _ _ q=>q
  rintro rfl;rcases hc with rfl|hc
  ·rw[hfree]at e;cases e
  ·rw[hfree]at hc;cases hc
 rcases hx with hk|hk
 ·refine wpAny_storeName_local hk hn (fun h' hn' hs=>?_) hcls
  obtain⟨oL,_,_,hoL,_⟩:=id hn;refine h _ ⟨I.ok,I.os,I.bare,⟨fun b o e n hb hx=>?_,fun b o e n hb hx=>?_,I.base.free,fun b o e hx=>?_,I.base.tups,I.base.frzs,I.base.tbls⟩,⟨_,hn',fun j y v' e1 e2 e3=>?_⟩,fun y c e=>?_,I.free,I.freeC,fun p hp=>?_,tracked ⟨oL,hoL,I.free⟩ hs,by simpa using I.len⟩ ⟨_,hs,.inl rfl⟩
  ·exact(hs.2 b (w0p (w0o (Heap.lt_size e) I.ok.above))).trans (I.base.keep b o e n hb hx)
  ·obtain⟨sl,e1⟩:=I.base.slot b o e n hb hx;exact⟨sl,(hs.2 b (w0p (w0o (Heap.lt_size e) I.ok.above))).trans e1⟩
  ·obtain⟨o',e1⟩:=I.base.there b o e hx;exact⟨o',(hs.2 b (w0p (w0o (Heap.lt_size e) I.ok.above))).trans e1⟩
  ·by_cases hj:j=i
   ·subst hj;rw[hi]at e1;cases e1;rw[w0i hiσ]at e2;cases e2;exact⟨u,r,.inl ⟨hk,by simp⟩⟩
   ·rw[w0h (Ne.symm hj)]at e2;obtain⟨u',r',q⟩:=hl j y v' e1 e2 e3;refine⟨u',r',?_⟩;rcases q with⟨k,e⟩|⟨k,c,e,z⟩
    ·refine .inl ⟨k,?_⟩;have:y≠x:=fun e=>hj (x1w hN e1 (e ▸ hi))
     simp[this,e]
    ·exact .inr ⟨k,c,e,z.sameBut hs (cne y c e)⟩
  ·obtain⟨w',z⟩:=I.cell y c e;exact⟨w',z.sameBut hs (cne y c e)⟩
  ·obtain⟨e,n,ne,nf,d⟩:=I.pin p hp;exact⟨(hs.2 p.1 ne).trans e,n,ne,nf,d⟩
 ·have hfn:X.fn x=true:=by
   rcases hf with z|z
   ·exact z
   ·rw[z]at hk;cases hk
  obtain⟨c,hc⟩:=I.ok.has x (.inl hk);obtain⟨w',z⟩:=I.cell x c hc;refine wpAny_storeName_cell I.ok.kind hk hc z (fun h' hc' hs=>?_)
  obtain⟨oc,hoc,hocd⟩:=id z;refine h {s with heap:=h'} ⟨I.ok,I.os,I.bare,⟨fun b o e n hb hx=>?_,fun b o e n hb hx=>?_,I.base.free,fun b o e hx=>?_,I.base.tups,I.base.frzs,I.base.tbls⟩,⟨m,hn.sameBut hs (Ne.symm (cne x c hc)),fun j y v' e1 e2 e3=>?_⟩,fun y c' e=>?_,I.free,I.freeC,fun p hp=>?_,tracked ⟨oc,hoc,I.freeC x c hc⟩ hs,by simpa using I.len⟩ ⟨c,hs,.inr hc⟩
  ·exact(hs.2 b (w0p (w0o (Heap.lt_size e) (I.ok.cab x c hfn hc)))).trans (I.base.keep b o e n hb hx)
  ·obtain⟨sl,e1⟩:=I.base.slot b o e n hb hx;exact⟨sl,(hs.2 b (w0p (w0o (Heap.lt_size e) (I.ok.cab x c hfn hc)))).trans e1⟩
  ·obtain⟨o',e1⟩:=I.base.there b o e hx;exact⟨o',(hs.2 b (w0p (w0o (Heap.lt_size e) (I.ok.cab x c hfn hc)))).trans e1⟩
  ·by_cases hj:j=i
   ·subst hj;rw[hi]at e1;cases e1;rw[w0i hiσ]at e2;cases e2;exact⟨u,r,.inr ⟨.inl hk,c,hc,hc'⟩⟩
   ·rw[w0h (Ne.symm hj)]at e2;obtain⟨u',r',q⟩:=hl j y v' e1 e2 e3;refine⟨u',r',?_⟩;rcases q with q|⟨k,c',e,z'⟩
    ·exact .inl q
    ·refine .inr ⟨k,c',e,z'.sameBut hs ?_⟩;rintro rfl;exact hj (x1w hN e1 (I.ok.inj _ _ _ e hc ▸ hi))
  ·by_cases hcc:c'=c
   ·subst hcc;exact⟨_,hc'⟩
   ·obtain⟨w2,z2⟩:=I.cell y c' e;exact⟨w2,z2.sameBut hs hcc⟩
  ·obtain⟨e,n,ne,nf,d⟩:=I.pin p hp;refine⟨(hs.2 p.1 ?_).trans e,n,ne,nf,d⟩;intro q;rw[q,hoc]at e;have q':oc=p.2:=Option.some.inj e;exact d w' (by rw[<- q'];exact hocd)
theorem x1x{Q:Unit->Shared->Prop}(I:Inv X pins σ H s)(hN:X.N.Nodup)(hi:X.N[i]?=some x)(hx:Loc X.env.scope x)(r:RelV v u)
  (h:∀s',Inv X pins (σ.set i (some v)) H s'->Q () s')(hf:X.fn x=true\/X.env.scope.names.lookup x=some .local:=by walk_at "2"):wpAny M A (storeName X.env x u) Q E s:=
 x6k I hN hi hx r (fun s' I' _=>h s' I') hf
theorem Inv.call'{s':Shared}{ch:List Addr}(I:Inv X pins σ H s)(ho:s'.os=s.os)(u:Un (frs X.stack) ch H H' s.heap s'.heap)(hok:HOk X.prog X.w H' s'.heap)(hg:AllBare s'.gens)
  (hch:∀b∈ch,(b∈X.ex\/X.s₀.heap.objs.size<=b)/\b≠X.env.locals/\(∀x c,X.env.cells.lookup x=some c->c≠b)/\∀p∈X.pn++pins,p.1≠b):Inv X pins σ H' s':=by
 obtain⟨h',g',d',t',o'⟩:=s';have e:o'=s.os:=ho;subst e;exact I.call (g':=g') (t':=t') (d':=d') u hok hg hch
end
abbrev XK:=Value->Option Addr->Hp->Prop
noncomputable abbrev St:=List (Option V)
variable{σ:St}
abbrev VK:=V->Hp->Prop
abbrev TE:=St->Hp->VK->Prop
variable{ta te:TE}
abbrev TT:=St->Hp->(Bool->Hp->Prop)->Prop
abbrev TA:=St->Hp->(List V->Hp->Prop)->Prop
structure Ends where
 nx:St->Hp->Prop
 rt:VK
 bk:St->Hp->Prop:=fun _ _=>False
 ct:St->Hp->Prop:=fun _ _=>False
abbrev TS:=Ends->St->Hp->Prop
variable{tb:TS}
def EP(X:Cx)(pins:List (Addr×Obj))(σ:St)(Q:VK)(u:Value)(s':Shared):Prop:=∃v H',Inv X pins σ H' s'/\RelV v u/\Q v H'
def TP(X:Cx)(pins:List (Addr×Obj))(σ:St)(Q:Bool->Hp->Prop)(b:Bool)(s':Shared):Prop:=∃H',Inv X pins σ H' s'/\Q b H'
def AP(X:Cx)(pins:List (Addr×Obj))(σ:St)(Q:List V->Hp->Prop)(us:List Value)(s':Shared):Prop:=∃vs H',Inv X pins σ H' s'/\Vals vs us/\Q vs H'
def SP(X:Cx)(pins:List (Addr×Obj))(D:Ends)(f:Flow)(s':Shared):Prop:=
 match f with
 |.next=>∃σ' H',Inv X pins σ' H' s'/\D.nx σ' H'
 |.brk=>∃σ' H',Inv X pins σ' H' s'/\D.bk σ' H'
 |.cont=>∃σ' H',Inv X pins σ' H' s'/\D.ct σ' H'
 |.ret u=>∃v σ' H',Inv X pins σ' H' s'/\RelV v u/\D.rt v H'
def PE(X:Cx)(e:Expr)(t:TE):Prop:=
 ∀(pins:List (Addr×Obj))(s:Shared)(σ:St)(H:Hp)(Q:VK),Inv X pins σ H s->t σ H Q->wpAny (model X.prog X.w) X.A (eval e X.env) (EP X pins σ Q) X.xe s
def PT(X:Cx)(e:Expr)(t:TT):Prop:=
 ∀(pins:List (Addr×Obj))(s:Shared)(σ:St)(H:Hp)(Q:Bool->Hp->Prop),Inv X pins σ H s->t σ H Q->wpAny (model X.prog X.w) X.A (isTrue e X.env (eval e X.env)) (TP X pins σ Q) X.xe s
def PW(X:Cx)(e:Expr)(t:TT):Prop:=
 ∀(whole:Sem Value)(pins:List (Addr×Obj))(s:Shared)(σ:St)(H:Hp)(Q:Bool->Hp->Prop),Inv X pins σ H s->t σ H Q->wpAny (model X.prog X.w) X.A (isTrue e X.env whole) (TP X pins σ Q) X.xe s
theorem PW.pt{t:TT}(h:PW X e t):PT X e t:=h _
def PA(X:Cx)(es:List Expr)(t:TA):Prop:=
 ∀(pos:Pos)(pins:List (Addr×Obj))(s:Shared)(σ:St)(H:Hp)(Q:List V->Hp->Prop),Inv X pins σ H s->t σ H Q->wpAny (model X.prog X.w) X.A (spliced (backTo pos (starEach es X.env))) (AP X pins σ Q) X.xe s
def PS(X:Cx)(st:Stmt)(t:TS):Prop:=
 ∀(pins:List (Addr×Obj))(s:Shared)(σ:St)(H:Hp)(D:Ends),Inv X pins σ H s->t D σ H->wpAny (model X.prog X.w) X.A (exec st X.env) (SP X pins D) X.xe s
def PSs(X:Cx)(st:List Stmt)(t:TS):Prop:=
 ∀(pins:List (Addr×Obj))(s:Shared)(σ:St)(H:Hp)(D:Ends),Inv X pins σ H s->t D σ H->wpAny (model X.prog X.w) X.A (execs st X.env) (SP X pins D) X.xe s
theorem thn{α:Type}{t:Sem α}{Q Q':α->Shared->Prop}(h:wpAny M A t Q E s)(hQ:∀a s,Q a s->Q' a s):wpAny M A t Q' E s:=wpAny_mono h hQ fun _ _ x=>x
section
def tVar(i:Nat):TE:=fun σ H Q=>∃v,σ[i]?=some (some v)/\Q v H
def tC(v:V):TE:=fun _ H Q=>Q v H
theorem y6y(hN:X.N[i]?=some x)(hv:Vis X.env.scope x)(hd:(x==("__debug__":Str))=false:=by decide)(hcd:(x==("__classdict__":Str))=false:=by decide):PE X (.Name x pos) (tVar i):=by
 intro pins s σ H Q I h;obtain⟨v,e,h⟩:=h;obtain⟨m,hn,hl⟩:=I.loc;obtain⟨u,r,l⟩:=hl i x v hN e hv;have fin:EP X pins σ Q u s:=⟨v,H,I,r,h⟩;rcases l with⟨hk,hm⟩|⟨hk,c,hc,hcell⟩
 ·exact wpAny_Name (wpAny_loadName_local I.ok.kind hk hn hm fin) hd
 ·rcases hk with hk|hk
  ·exact wpAny_Name (wpAny_loadName_cell I.ok.kind hk hc hcell fin) hd
  ·exact wpAny_Name (wpAny_loadName_free I.ok.kind hk hc hcell fin hcd) hd
theorem q6t{i j pos}:PE X (.Constant (.int i) j pos) (tC (.int i)):=fun _ _ _ H _ I h=>wpAny_Constant_int ⟨.int i,H,I.tok _,⟨_,rfl⟩,h⟩
theorem y96{b j pos}:PE X (.Constant (.bool b) j pos) (tC (.bl b)):=fun _ _ _ H _ I h=>Constant_bool ⟨.bl b,H,I,rfl,h⟩
theorem y6z{x j pos}:PE X (.Constant (.str x) j pos) (tC (.str x)):=fun _ _ _ H _ I h=>Calls.Constant_str ⟨.str x,H,I.tok _,⟨_,rfl⟩,h⟩
def Gl(X:Cx)(x:Str):Prop:=X.env.kindOf x=some .globalImplicit
theorem q9o{Q:Value->Shared->Prop}(I:Inv X pins σ H s)(hg:Gl X x)(hm:X.mg x=some u)(h:Q u s)
  (hd:(x==("__debug__":Str))=false:=by decide):wpAny (model X.prog X.w) X.A (eval (.Name x pos) X.env) Q E s:=
 Calls.Name_function_global I.ok.kind hg (Calls.loadGlobal_global (by rw[I.ok.glob];exact I.mod.glob.keeps I.bk) hm h) hd
theorem q4w{Q:Value->Shared->Prop}(I:Inv X pins σ H s)(hg:Gl X x)(hm:X.mg x=none)(hv:bootBuiltins x=some u)(h:Q u s)
  (hn:x≠"__name__":=by decide)(hd:(x==("__debug__":Str))=false:=by decide):wpAny (model X.prog X.w) X.A (eval (.Name x pos) X.env) Q E s:=by
 obtain⟨mb,h1,h2⟩:=I.mod.blt;exact Calls.Name_function_global I.ok.kind hg (Calls.loadGlobal_builtin (by rw[I.ok.glob];exact I.mod.glob.keeps I.bk) hm (by rw[I.ok.blt];exact h1.keeps I.bk) ((h2 x hn).trans hv) h) hd
theorem y23{v:V}(hg:Gl X x)(hm:X.mg x=none)(hv:bootBuiltins x=some u)(r:RelV v u)(hn:x≠"__name__":=by decide)(hd:(x==("__debug__":Str))=false:=by decide):PE X (.Name x pos) (tC v):=
 fun _ _ _ H _ I h=>q4w I hg hm hv ⟨v,H,I,r,h⟩ hn hd
variable{a b:Expr}{tb:TE}
def PC(X:Cx)(op:CmpOp)(a b:Expr)(t:TE):Prop:=
 ∀(pins:List (Addr×Obj))(s:Shared)(σ:St)(H:Hp)(Q:VK),Inv X pins σ H s->t σ H Q ->
  wpAny (model X.prog X.w) X.A (eval a X.env) (fun v s₁=>wpAny (model X.prog X.w) X.A (eval b X.env) (fun u s₂=>wpAny (model X.prog X.w) X.A (compareOp op v u) (EP X pins σ Q) X.xe s₂) X.xe s₁) X.xe s
theorem nobehind(b:Expr)(h:op≠.In)(h2:op≠.NotIn):behindInMarks op b=false:=by
 have e1:(op==CmpOp.In)=false:=by cases op<;>first|rfl|exact absurd rfl h
 have e2:(op==CmpOp.NotIn)=false:=by cases op<;>first|rfl|exact absurd rfl h2
 cases b<;>simp[behindInMarks,e1,e2]
def tB(t:TE):TT:=fun σ H Q=>t σ H fun x H1=>∃c,x=.bl c/\Q c H1
theorem y60{t:TE}(h:PC X op a b t)(h1:behindInMarks op b=false:=by first|exact nobehind _ (by decide) (by decide)|rfl):PT X (.Compare a [op] [b] pos) (tB t):=by
 intro pins s σ H Q I hw;refine wpAny_isTrue_Compare1 (thn (h pins s σ H _ I hw) fun v s1 h1=>thn h1 fun u s2 h2=>thn h2 fun c s3 ⟨x,H1,I1,r1,q1⟩=>?_) h1
 obtain⟨d,rfl,q⟩:=q1;cases r1;exact wpAny_truthy_bool ⟨H1,I1,q⟩
variable{tA tB':TT}{rest:List Expr}
def tAnd(t u:TT):TT:=fun σ H Q=>t σ H fun c H1=>if c=true then u σ H1 Q else Q false H1
def tOr(t u:TT):TT:=fun σ H Q=>t σ H fun c H1=>if c=true then Q true H1 else u σ H1 Q
def tNot(t:TT):TT:=fun σ H Q=>t σ H fun c H1=>Q (!c) H1
theorem y24(ha:PT X a tA):PW X (.BoolOp .And [a] pos) tA:=by
 intro wh pins s σ H Q I h;refine isTrue_and (thn (ha pins s σ H Q I h) fun c s1 e=>?_)
 cases c with
 |true=>exact isTrue_and_nil e
 |false=>exact e
theorem y61(ha:PT X a tA):PW X (.BoolOp .Or [a] pos) tA:=by
 intro wh pins s σ H Q I h;refine isTrue_or (thn (ha pins s σ H Q I h) fun c s1 e=>?_)
 cases c with
 |false=>exact isTrue_or_nil e
 |true=>exact e
theorem y62(ha:PT X a tA)(hb:PW X (.BoolOp .And (b::rest) pos) tB'):PW X (.BoolOp .And (a::b::rest) pos) (tAnd tA tB'):=by
 intro wh pins s σ H Q I h;refine isTrue_and (thn (ha pins s σ H _ I h) fun c s1 ⟨H1,I1,q1⟩=>?_)
 cases c with
 |true=>exact hb wh pins s1 σ H1 Q I1 q1
 |false=>exact⟨H1,I1,q1⟩
theorem y97(ha:PT X a tA)(hb:PW X (.BoolOp .Or (b::rest) pos) tB'):PW X (.BoolOp .Or (a::b::rest) pos) (tOr tA tB'):=by
 intro wh pins s σ H Q I h;refine isTrue_or (thn (ha pins s σ H _ I h) fun c s1 ⟨H1,I1,q1⟩=>?_)
 cases c with
 |true=>exact⟨H1,I1,q1⟩
 |false=>exact hb wh pins s1 σ H1 Q I1 q1
theorem y63(ha:PT X a tA):PT X (.UnaryOp .Not a pos) (tNot tA):=by
 intro pins s σ H Q I h;exact isTrue_not (ha pins s σ H (fun c H1=>Q (!c) H1) I h)
def tAndV(ta tb:TE):TE:=fun σ H Q=>ta σ H fun x H1=>∃c,x=.bl c/\if c=true then tb σ H1 Q else Q (.bl false) H1
def tOrV(ta tb:TE):TE:=fun σ H Q=>ta σ H fun x H1=>∃c,x=.bl c/\if c=true then Q (.bl true) H1 else tb σ H1 Q
def tNotV(ta:TE):TE:=fun σ H Q=>ta σ H fun x H1=>∃c,x=.bl c/\Q (.bl (!c)) H1
theorem y64{op}{t:TE}(h:PE X a t):PE X (.BoolOp op [a] pos) t:=fun pins s σ H Q I hw=>BoolOp_one (h pins s σ H Q I hw)
theorem y65(ha:PE X a ta)(hb:PE X (.BoolOp .And (b::rest) pos) tb):PE X (.BoolOp .And (a::b::rest) pos) (tAndV ta tb):=by
 intro pins s σ H Q I h;refine BoolOp_and (thn (ha pins s σ H _ I h) fun v s1 ⟨x,H1,I1,r1,q1⟩=>?_)
 obtain⟨c,rfl,q1⟩:=q1;cases r1;refine wpAny_truthy_bool ?_;cases c with
 |true=>exact hb pins s1 σ H1 Q I1 q1
 |false=>exact⟨.bl false,H1,I1,rfl,q1⟩
theorem y98(ha:PE X a ta)(hb:PE X (.BoolOp .Or (b::rest) pos) tb):PE X (.BoolOp .Or (a::b::rest) pos) (tOrV ta tb):=by
 intro pins s σ H Q I h;refine BoolOp_or (thn (ha pins s σ H _ I h) fun v s1 ⟨x,H1,I1,r1,q1⟩=>?_)
 obtain⟨c,rfl,q1⟩:=q1;cases r1;refine wpAny_truthy_bool ?_;cases c with
 |false=>exact hb pins s1 σ H1 Q I1 q1
 |true=>exact⟨.bl true,H1,I1,rfl,q1⟩
theorem y66(ha:PE X a ta):PE X (.UnaryOp .Not a pos) (tNotV ta):=by
 intro pins s σ H Q I h;refine UnaryOp_ (thn (ha pins s σ H _ I h) fun v s1 ⟨x,H1,I1,r1,q1⟩=>?_)
 obtain⟨c,rfl,q1⟩:=q1;cases r1;exact not_of (wpAny_truthy_bool ⟨.bl (!c),H1,I1,rfl,q1⟩)
end
def SqL(K:PySem.W.Frag)(H:Hp)(a:Addr)(xs:List V):Prop:=
 Rd H a (.lst xs) \/
  ∃(o:Obj)(its:Array Value)(n:Nat),K.lookup a=some o/\o.cls=.type "list" /\ o.dict=none/\o.data=.seq its n/\its.size<=sizeLine/\Vals xs its.toList
def SqT(K:PySem.W.Frag)(H:Hp)(a:Addr)(xs:List V):Prop:=
 Rd H a (.tup xs) \/
  ∃(o:Obj)(its:Array Value)(n:Nat),K.lookup a=some o/\o.cls=.type "tuple" /\ o.dict=none/\o.data=.seq its n/\its.size<=sizeLine/\Vals xs its.toList
noncomputable def absV:Value->Option V
 |.none=>some .non
 |.bool b=>some (.bl b)
 |.int i _=>some (.int i)
 |.str x _=>some (.str x)
 |.bytes b _=>some (.byt b)
 |.float b _=>some (.flt b)
 |.ref a=>some (.ref a)
 |.type n=>some (.ty n)
 |_=>none
theorem RelV.abs{x:V}(r:RelV x u):absV u=some x:=by
 cases x with
 |non=>cases r;rfl
 |bl _=>cases r;rfl
 |int _=>obtain⟨t,rfl⟩:=r;rfl
 |str _=>obtain⟨t,rfl⟩:=r;rfl
 |byt _=>obtain⟨t,rfl⟩:=r;rfl
 |flt _=>obtain⟨t,rfl⟩:=r;rfl
 |ref _=>cases r;rfl
 |ty _=>cases r;rfl
theorem RelV.inj{x y:V}(r:RelV x u)(q:RelV y u):x=y:=Option.some.inj (r.abs.symm.trans q.abs)
theorem Vals.inj:∀{xs ys:List V}{us:List Value},Vals xs us->Vals ys us->xs=ys
 |_,_,_,.nil,.nil=>rfl
 |_,_,_,.cons r t,.cons r' t'=>by rw[r.inj r',Vals.inj t t']
section
variable{ys:List V}
theorem SqL.of(h:H a=some (.lst xs)):SqL K H a xs:=.inl (.inl h)
theorem SqT.of(h:H a=some (.tup xs)):SqT K H a xs:=.inl (.inl h)
theorem Inv.list(I:Inv X pins σ H s)(h:SqL X.K H a xs):∃its:List Value,Vals xs its/\PlainL s.heap a its.toArray/\xs.length<=sizeLine:=by
 rcases h with h|⟨o,its,n,hk,hc,hd,hs,hz,r⟩
 ·obtain⟨z,its,n,r,e⟩:=h.ok I.hok;exact⟨its,r,⟨_,n,e,rfl,rfl,rfl⟩,z⟩
 ·refine⟨its.toList,r,⟨o,n,I.kIn a o hk,hc,hd,by simpa using hs⟩,?_⟩;have e:=r.length;simp only[w2i]at e;omega
theorem Inv.tuple(I:Inv X pins σ H s)(h:SqT X.K H a xs):∃its:List Value,Vals xs its/\IsTup s.heap a its.toArray/\xs.length<=sizeLine:=by
 rcases h with h|⟨o,its,n,hk,hc,_,hs,hz,r⟩
 ·obtain⟨z,its,r,p,_⟩:=h.ok I.hok;exact⟨its,r,p,z⟩
 ·refine⟨its.toList,r,⟨o,I.kIn a o hk,hc,n,by simpa using hs⟩,?_⟩;have e:=r.length;simp only[w2i]at e;omega
theorem Inv.list_inj(I:Inv X pins σ H s)(h:SqL X.K H a xs)(h':SqL X.K H a ys):xs=ys:=by
 obtain⟨its,r,⟨o,n,e,_,_,d⟩,_⟩:=I.list h;obtain⟨its',r',⟨o',n',e',_,_,d'⟩,_⟩:=I.list h';rw[e]at e';cases e';rw[d]at d';injection d' with d1 _
 have:its=its':=by simpa using congrArg Array.toList d1
 subst this;exact r.inj r'
theorem Inv.tuple_inj(I:Inv X pins σ H s)(h:SqT X.K H a xs)(h':SqT X.K H a ys):xs=ys:=by
 obtain⟨its,r,⟨o,e,_,n,d⟩,_⟩:=I.tuple h;obtain⟨its',r',⟨o',e',_,n',d'⟩,_⟩:=I.tuple h';rw[e]at e';cases e';rw[d]at d';injection d' with d1 _
 have:its=its':=by simpa using congrArg Array.toList d1
 subst this;exact r.inj r'
end
section
variable{st:Stmt}{rest:List Stmt}{t u:TS}
def tNext:TS:=fun D σ H=>D.nx σ H
def tSeq(t u:TS):TS:=fun D σ H=>t {D with nx:=u D} σ H
theorem y25:PSs X [] tNext:=fun _ _ σ H _ I h=>wpAny_execs_nil ⟨σ,H,I,h⟩
theorem q51(h1:PS X st t)(h2:PSs X rest u):PSs X (st::rest) (tSeq t u):=by
 intro pins s σ H D I h;refine wpAny_execs_cons (thn (h1 pins s σ H {D with nx:=u D} I h) fun f s1 q=>?_)
 cases f with
 |next=>
  obtain⟨σ',H',I',q⟩:=q;exact h2 pins s1 σ' H' D I' q
 |ret v=>exact q
 |brk=>exact q
 |cont=>exact q
theorem x33(h1:PS X st t):PSs X [st] t:=by
 intro pins s σ H D I h;refine wpAny_execs_cons (thn (h1 pins s σ H D I h) fun f s1 q=>?_)
 cases f with
 |next=>exact wpAny_execs_nil q
 |ret v=>exact q
 |brk=>exact q
 |cont=>exact q
theorem Inv.quiet(I:Inv X pins σ H s):interactive X.env=false:=by simp[interactive,I.ok.kind]
def tDrop(te:TE):TS:=fun D σ H=>te σ H fun _ H1=>D.nx σ H1
theorem q4t(he:PE X e te)(hs:swapsWith e none pos.line X.env=pure false:=by rfl):PS X (.Expr e pos) (tDrop te):=by
 intro pins s σ H D I h;exact wpAny_Expr_any (thn (he pins s σ H _ I h) fun v s1 ⟨x,H1,I1,r1,q1⟩=>⟨σ,H1,I1,q1⟩) I.quiet hs
def tRet(te:TE):TS:=fun D σ H=>te σ H D.rt
theorem x1y(he:PE X e te):PS X (.Return (some e) pos) (tRet te):=by
 intro pins s σ H D I h;exact wpAny_Return_some (thn (he pins s σ H _ I h) fun v s1 ⟨x,H1,I1,r1,q1⟩=>⟨x,σ,H1,I1,r1,q1⟩)
def tIfS(c:TT)(t u:TS):TS:=fun D σ H=>c σ H fun b H1=>if b=true then t D σ H1 else u D σ H1
theorem y99{a b:List Stmt}{tc:TT}(hc:PT X c tc)(ha:PSs X a t)(hb:PSs X b u):PS X (.If c a b pos) (tIfS tc t u):=by
 intro pins s σ H D I h;refine wpAny_If (thn (hc pins s σ H _ I h) fun d s1 ⟨H1,I1,q1⟩=>?_)
 cases d with
 |true=>exact ha pins s1 σ H1 D I1 q1
 |false=>exact hb pins s1 σ H1 D I1 q1
end
abbrev TG:=V->St->Hp->(St->Hp->Prop)->Prop
abbrev TGs:=List V->St->Hp->(St->Hp->Prop)->Prop
def PG(X:Cx)(target:Expr)(t:TG):Prop:=
 ∀(pins:List (Addr×Obj))(s:Shared)(σ:St)(H:Hp)(v:V)(u:Value)(Q:St->Hp->Prop),Inv X pins σ H s->RelV v u->t v σ H Q ->
  wpAny (model X.prog X.w) X.A (assign target X.env u) (fun _ s'=>∃σ' H',Inv X pins σ' H' s'/\Q σ' H') X.xe s
def PGs(X:Cx)(ts:List Expr)(t:TGs):Prop:=
 ∀(pins:List (Addr×Obj))(s:Shared)(σ:St)(H:Hp)(vs:List V)(us:List Value)(Q:St->Hp->Prop),Inv X pins σ H s->Vals vs us->t vs σ H Q ->
  wpAny (model X.prog X.w) X.A (assignInOrder ((assignEach ts X.env).map (·.2)) us) (fun _ s'=>∃σ' H',Inv X pins σ' H' s'/\Q σ' H') X.xe s
abbrev TSet:=V->V->V->Hp->(Hp->Prop)->Prop
def PSet(X:Cx)(t:TSet):Prop:=
 ∀(pins:List (Addr×Obj))(s:Shared)(σ:St)(H:Hp)(o i v:V)(ov iv u:Value)(Q:Hp->Prop),Inv X pins σ H s->RelV o ov->RelV i iv->RelV v u->t o i v H Q ->
  wpAny (model X.prog X.w) X.A (setItem ov iv u) (fun _ s'=>∃H',Inv X pins σ H' s'/\Q H') X.xe s
def gName(i:Nat):TG:=fun v σ H Q=>Q (σ.set i (some v)) H
theorem y26(hN:X.N.Nodup)(hi:X.N[i]?=some x)(hx:Loc X.env.scope x)(hf:X.fn x=true\/X.env.scope.names.lookup x=some .local:=by walk_at "2"):PG X (.Name x pos) (gName i):=by
 intro pins s σ H v u Q I r h;exact wpAny_assign_Name (x1x I hN hi hx r (fun s' I'=>⟨_,H,I',h⟩) hf)
noncomputable def gNil:TGs:=fun vs σ H Q=>vs=[]/\Q σ H
noncomputable def gCons(t:TG)(u:TGs):TGs:=fun vs σ H Q=>∃v r,vs=v::r/\t v σ H fun σ' H'=>u r σ' H' Q
theorem q7o:PGs X [] gNil:=by
 intro pins s σ H vs us Q I r h;obtain⟨e,h⟩:=h;subst e;cases r;exact assignInOrder_nil ⟨σ,H,I,h⟩
theorem q3j{t:TG}{u:TGs}(h1:PG X e t)(h2:PGs X es u)
  (hs:(assignEach (e::es) X.env).map (·.2)=assign e X.env::(assignEach es X.env).map (·.2):=by rfl):PGs X (e::es) (gCons t u):=by
 intro pins s σ H vs us Q I r h;obtain⟨v,vr,e1,h⟩:=h;subst e1;cases r with
 |cons r rr=>
  rw[hs];refine assignInOrder_cons (thn (h1 pins s σ H _ _ _ I r h) fun _ s1 ⟨σ1,H1,I1,q1⟩=>?_)
  exact h2 pins s1 σ1 H1 _ _ Q I1 rr q1
def gTup(K:PySem.W.Frag)(n:Nat)(t:TGs):TG:=fun v σ H Q=>∃a xs,v=.ref a/\SqT K H a xs/\xs.length=n/\t xs σ H Q
theorem q8r{t:TGs}{n:Nat}(hc:X.calm=true)(h:PGs X es t)
  (hn:(assignEach es X.env).length=n:=by rfl)(hst:(assignEach es X.env).findIdx? (·.1)=none:=by rfl):PG X (.Tuple es k pos) (gTup X.K n t):=by
 intro pins s σ H v u Q I r hw;obtain⟨a,xs,e1,hq,hl,hw⟩:=hw;subst e1;cases r;obtain⟨its,rv,ht,hz⟩:=I.tuple hq;refine assign_Tuple_tuple (I.ok.hd hc) ht (by simp[hn,<- hl,rv.length]) hst fun h' hx=>?_
 have I1:Inv X pins σ H {s with heap:=h'}:=I.kept (t':=s.toks) fun b o e=>hx b o (w0p (Heap.lt_size e)) e
 exact h pins _ σ H xs _ Q I1 (by simpa using rv) hw
def gSub(to ti:TE)(t:TSet):TG:=fun v σ H Q=>to σ H fun o H1=>ti σ H1 fun i H2=>t o i v H2 fun H3=>Q σ H3
theorem y67{o i:Expr}{to ti:TE}{t:TSet}(ho:PE X o to)(hi:PE X i ti)(hs:PSet X t)
  (ha:∀v,assign (.Subscript o i pos) X.env v=(do
   let ov <- holding [v] (eval o X.env)
   let iv <- holding [v,ov] (eval i X.env)
   standAt pos
   holding [v,ov,iv] (setItem ov iv v)
   release [v,ov,iv] []):=by intro _;rfl):PG X (.Subscript o i pos) (gSub to ti t):=by
 intro pins s σ H v u Q I r h;rw[ha];refine wpAny_bind (wpAny_holding (thn (ho pins s σ H _ I h) fun ov s1 ⟨x,H1,I1,r1,q1⟩=>?_))
 refine wpAny_bind (wpAny_holding (thn (hi pins s1 σ H1 _ I1 q1) fun iv s2 ⟨y,H2,I2,r2,q2⟩=>?_))
 refine wpAny_bind (wpAny_standAt (wpAny_bind (wpAny_holding (thn (hs pins s2 σ H2 x y v ov iv u _ I2 r1 r2 r q2) fun _ s3 ⟨H3,I3,q3⟩=>?_))))
 exact wpAny_release ⟨σ,H3,I3,q3⟩
def tAsg(te:TE)(g:TG):TS:=fun D σ H=>te σ H fun x H1=>g x σ H1 D.nx
theorem x1z{g:TG}(he:PE X e te)(hg:PG X tg g)(hs:swapsWithSole [tg] e pos.line X.env=pure false:=by rfl)(hw:swappedStores [tg] e X.env=pure none:=by rfl)
  (h1:(assignEach [tg] X.env).map (·.2)=[assign tg X.env]:=by rfl):PS X (.Assign [tg] e pos) (tAsg te g):=by
 intro pins s σ H D I h;refine wpAny_Assign_stores (thn (he pins s σ H _ I h) fun v s1 ⟨x,H1,I1,r1,q1⟩=>?_) hs hw
 rw[h1];exact thn (hg pins s1 σ H1 x v _ I1 r1 q1) fun _ s2 q=>q
theorem y68{pos':Pos}(hN:X.N.Nodup)(hi:X.N[i]?=some x)(hx:Loc X.env.scope x)(he:PE X e te)(hs:swapsWith e (some (.Name x pos')) pos.line X.env=pure false:=by rfl)(hf:X.fn x=true\/X.env.scope.names.lookup x=some .local:=by walk_at "2"):
  PS X (.Assign [.Name x pos'] e pos) (tAsg te (gName i)):=by
 intro pins s σ H D I h;refine wpAny_Assign_Name (thn (he pins s σ H _ I h) fun v s1 ⟨y,H1,I1,r1,q1⟩=>?_) hs
 exact x1x I1 hN hi hx r1 (fun s2 I2=>⟨_,H1,I2,q1⟩) hf
def tWhile(c:TT)(tb:TS):TS:=fun D σ H=>∃W:Nat->St->Hp->Prop,(∃m,W m σ H)/\∀m σ H,W m σ H ->
 c σ H fun b H1=>if b=true then ∃N:St->Hp->Prop,(∀σ' H',N σ' H'->∃m',m'<m/\W m' σ' H')/\tb {D with nx:=N,ct:=N,bk:=D.nx} σ H1 else D.nx σ H1
theorem x9k{body:List Stmt}{tc:TT}(hp:PassesOwn (model X.prog X.w) X.A X.env X.xe)(hc:PT X c tc)(hb:PSs X body tb):PS X (.While c body [] pos) (tWhile tc tb):=by
 intro pins s σ H D I h;obtain⟨W,⟨m0,w0⟩,turn⟩:=h;refine wpAny_While (codeAny_whileLoop (fun n s'=>∃σ' H',Inv X pins σ' H' s'/\W n σ' H') ?_ m0 ⟨σ,H,I,w0⟩)
 rintro n s1 ⟨σ1,H1,I1,w1⟩;refine wpAny_passesOwn hp (thn (hc pins s1 σ1 H1 _ I1 (turn n σ1 H1 w1)) fun b s2 ⟨H2,I2,q2⟩=>?_)
 cases b with
 |true=>
  obtain⟨N,hN,q2⟩:=q2;rw[if_pos rfl];refine wpAny_passesOwn hp (thn (hb pins s2 σ1 H2 _ I2 q2) fun f s3 q3=>?_)
  cases f with
  |next=>
   obtain⟨σ3,H3,I3,n3⟩:=q3;obtain⟨m',hm,w3⟩:=hN σ3 H3 n3;exact⟨m',hm,σ3,H3,I3,w3⟩
  |cont=>
   obtain⟨σ3,H3,I3,n3⟩:=q3;obtain⟨m',hm,w3⟩:=hN σ3 H3 n3;exact⟨m',hm,σ3,H3,I3,w3⟩
  |brk=>exact q3
  |ret v=>exact q3
 |false=>
  rw[if_neg w1p];exact wpAny_execs_nil ⟨σ1,H2,I2,q2⟩
structure It where
 go:Nat->Hp->Prop
 yld:Nat->Hp->V->Hp->Prop
 stop:Nat->Hp->Prop
def FpOk(X:Cx)(pins:List (Addr×Obj))(H:Hp)(b:Addr):Prop:=
 H b=none/\b≠X.env.locals/\b∉X.fs/\(b∈X.ex\/X.s₀.heap.objs.size<=b)/\(∀x c,X.env.cells.lookup x=some c->c≠b)/\∀p∈X.pn++pins,p.1≠b
theorem Inv.fpOk(I:Inv X pins σ H s)(hb:s.heap.objs.size<=b)(hn:H' b=none):FpOk X pins H' b:=by
 refine⟨hn,Nat.ne_of_gt (w0o I.lt hb),I.nofs hb,.inr (w0r I.sz hb),fun x c e z=>?_,fun p hp z=>?_⟩
 ·obtain⟨v,q⟩:=I.cell x c e;exact absurd (w0o q.lt (by rw[z];exact hb)) (w1x _)
 ·exact absurd (w0o (Heap.lt_size (I.pin p hp).1) (by rw[z];exact hb)) (w1x _)
structure Turn(P:Program)(w:World)(K:PySem.W.Frag)(tg:Expr)(J:It)(fp:List Addr)(it:Addr)(tn:Nat->Heap->Prop):Prop where
 mem:it∈fp
 obj:∀i h,tn i h->∀b∈fp,∃o,h.get? b=some o/\∀v,o.data≠.cell v
 keep:∀i h h',tn i h->(∀b∈fp,∀o,h.get? b=some o->h'.get? b=some o)->tn i h'
 item:∀(X:Cx),X.prog=P->X.w=w->X.K=K->X.calm=true->∀(i:Nat)(pins:List (Addr×Obj))(s:Shared)(σ:St)(H:Hp)(E:Value->Shared->Prop),Inv X pins σ H s->(∀b∈fp,FpOk X pins H b)->tn i s.heap->J.go i H ->
  wpAny (model P w) X.A (pyNext (.ref it)) (fun r s1=>∃u,r=some u /\
   wpAny (model P w) X.A (letOwnedTupleGo tg (.ref it) u) (fun _ s2=>∃x H',Inv X pins σ H' s2/\RelV x u/\J.yld i H x H'/\tn (i+1) s2.heap/\∀b∈fp,H' b=none) E s1) E s
 done:∀(X:Cx),X.prog=P->X.w=w->X.K=K->X.calm=true->∀(i:Nat)(pins:List (Addr×Obj))(s:Shared)(σ:St)(H:Hp)(E:Value->Shared->Prop),Inv X pins σ H s->(∀b∈fp,FpOk X pins H b)->tn i s.heap->J.stop i H ->
  wpAny (model P w) X.A (pyNext (.ref it)) (fun r s1=>r=none/\Inv X pins σ H s1) E s
 self:∀(A:Around)(i:Nat)(s:Shared)(Q:Value->Shared->Prop)(E:Value->Shared->Prop),tn i s.heap->Q (.ref it) s->wpAny (model P w) A (pyIter (.ref it)) Q E s
abbrev TI:=St->Hp->(It->Hp->Prop)->Prop
def PIE(X:Cx)(pins:List (Addr×Obj))(σ:St)(tg:Expr)(R:It->Hp->Prop)(itv:Value)(s2:Shared):Prop:=
 ∃(it:Addr)(fp:List Addr)(tn:Nat->Heap->Prop)(J:It)(H':Hp),itv=.ref it/\Inv X pins σ H' s2/\Turn X.prog X.w X.K tg J fp it tn/\tn 0 s2.heap/\(∀b∈fp,FpOk X pins H' b)/\R J H'
def PI(X:Cx)(tg iter:Expr)(wi:TI):Prop:=
 ∀(pins:List (Addr×Obj))(s:Shared)(σ:St)(H:Hp)(R:It->Hp->Prop),Inv X pins σ H s->wi σ H R ->
  wpAny (model X.prog X.w) X.A (eval iter X.env) (fun v s1=>wpAny (model X.prog X.w) X.A (pyIter v) (PIE X pins σ tg R) X.xe s1) X.xe s
theorem x47{E : Value -> Shared -> Prop}{s : Shared}{it : Addr}{o : Obj}{n : String}{vs : Array Value}{Q : Unit -> Shared -> Prop}(ho : s.heap.get? it = some o)(hc : o.cls = .type n)(hd : o.data = .fields vs)
    (hn : ["enumerate", "zip", "dict_itemiterator", "dict_reverseitemiterator", "odict_iterator", "itertools.zip_longest", "itertools.pairwise"].contains n = false)(hQ : Q () s) : wpAny M A (letOwnedTupleGo tg (.ref it) u) Q E s := by
  unfold letOwnedTupleGo
  cases tg <;> first
    | exact wpAny_pure hQ
    | (cases u <;> first
        | exact wpAny_pure hQ
        | (refine wpAny_bind (wpAny_load ho ?_)
           rw [hc, hd];show wpAny M A (if (["enumerate", "zip", "dict_itemiterator", "dict_reverseitemiterator", "odict_iterator", "itertools.zip_longest", "itertools.pairwise"].contains n && vs[0]? == some (rawInt _)) = true then _ else _) Q E s;rw [if_neg (by intro h; rw [hn, Bool.false_and] at h; cases h)];exact wpAny_pure hQ))
noncomputable def Itl(K:PySem.W.Frag)(a:Addr):It:=
 ⟨fun i H=>∃xs x,SqL K H a xs/\xs[i]?=some x,fun i H x H'=>H'=H/\∀xs,SqL K H a xs->xs[i]?=some x,fun i H=>∃xs,SqL K H a xs/\xs.length<=i⟩
noncomputable def Itt(K:PySem.W.Frag)(a:Addr):It:=
 ⟨fun i H=>∃xs x,SqT K H a xs/\xs[i]?=some x,fun i H x H'=>H'=H/\∀xs,SqT K H a xs->xs[i]?=some x,fun i H=>∃xs,SqT K H a xs/\xs.length<=i⟩
noncomputable def Itr(lo:Int)(n:Nat):It:=⟨fun i _=>i<n,fun i H x H'=>H'=H/\x=.int (lo+i),fun i _=>n<=i⟩
theorem x6l(a it:Addr):Turn P w K tg (Itl K a) [it] it (fun i h=>h.IsListIter it a i) where
 mem:=by simp
 obj:=fun i h st b hb=>by
  have e:b=it:=by simpa using hb
  subst e;obtain⟨o,e,c,d⟩:=st;exact⟨o,e,fun v z=>by rw[d]at z;cases z⟩
 keep:=fun i h h' st k=>st.at fun o e=>k it (by simp) o e
 item:=by
  intro X hP hw hK hc i pins s σ H E I hf st hg;subst hP hw hK;obtain⟨xs,x,hq,hx⟩:=hg;obtain⟨its,rv,p,hz⟩:=I.list hq;obtain⟨u,hu,ru⟩:=rv.get hx;obtain⟨f0,f1,f2,f3,f4,f5⟩:=hf it (by simp);refine wpAny_pyNext_list_item st p.isList (x:=u) (by simpa using hu) fun h' st' sb=>?_
  have I1:Inv X pins σ H {s with heap:=h'}:=I.turned (t':=s.toks) (fun b o hb e=>(sb.2 b hb).trans e) f0 f1 f3 f4 f5
  obtain⟨o,e,c,d⟩:=id st';exact⟨u,rfl,x47 (s:={s with heap:=h'}) e c d (by decide) ⟨x,H,I1,ru,⟨rfl,fun ys hy=>by rw[I.list_inj hy hq];exact hx⟩,st',fun b hb=>(hf b hb).1⟩⟩
 done:=by
  intro X hP hw hK hc i pins s σ H E I hf st hg;subst hP hw hK;obtain⟨xs,hq,hx⟩:=hg;obtain⟨its,rv,p,hz⟩:=I.list hq;obtain⟨f0,f1,f2,f3,f4,f5⟩:=hf it (by simp);have hl:=rv.length;exact wpAny_pyNext_list_end (I.ok.hd hc) st p.isList (by simp;omega) fun h' eb=>⟨rfl,I.turned (t':=s.toks) (fun b o hb e=>eb b o hb e) f0 f1 f3 f4 f5⟩
 self:=fun _ _ _ _ _ st h=>wpAny_pyIter_listiter st h
theorem x48(a it:Addr):Turn P w K tg (Itt K a) [it] it (fun i h=>h.IsTupleIter it a i) where
 mem:=by simp
 obj:=fun i h st b hb=>by
  have e:b=it:=by simpa using hb
  subst e;obtain⟨o,e,c,d⟩:=st;exact⟨o,e,fun v z=>by rw[d]at z;cases z⟩
 keep:=fun i h h' st k=>st.at fun o e=>k it (by simp) o e
 item:=by
  intro X hP hw hK hc i pins s σ H E I hf st hg;subst hP hw hK;obtain⟨xs,x,hq,hx⟩:=hg;obtain⟨its,rv,p,hz⟩:=I.tuple hq;obtain⟨u,hu,ru⟩:=rv.get hx;obtain⟨f0,f1,f2,f3,f4,f5⟩:=hf it (by simp);refine wpAny_pyNext_tuple_item st (show s.heap.IsTuple a its.toArray from p) (x:=u) (by simpa using hu) fun h' st' sb=>?_
  have I1:Inv X pins σ H {s with heap:=h'}:=I.turned (t':=s.toks) (fun b o hb e=>(sb.2 b hb).trans e) f0 f1 f3 f4 f5
  obtain⟨o,e,c,d⟩:=id st';exact⟨u,rfl,x47 (s:={s with heap:=h'}) e c d (by decide) ⟨x,H,I1,ru,⟨rfl,fun ys hy=>by rw[I.tuple_inj hy hq];exact hx⟩,st',fun b hb=>(hf b hb).1⟩⟩
 done:=by
  intro X hP hw hK hc i pins s σ H E I hf st hg;subst hP hw hK;obtain⟨xs,hq,hx⟩:=hg;obtain⟨its,rv,p,hz⟩:=I.tuple hq;obtain⟨f0,f1,f2,f3,f4,f5⟩:=hf it (by simp);have hl:=rv.length;exact wpAny_pyNext_tuple_end (I.ok.hd hc) st (show s.heap.IsTuple a its.toArray from p) (by simp;omega) fun h' eb=>⟨rfl,I.turned (t':=s.toks) (fun b o hb e=>eb b o hb e) f0 f1 f3 f4 f5⟩
 self:=fun _ _ _ _ _ st h=>wpAny_pyIter_tupleiter st h
theorem x49(it:Addr)(lo:Int)(n:Nat):Turn P w K tg (Itr lo n) [it] it (fun i h=>IsRangeIter h it (lo+(i:Nat)*1) ((n:Int)-(i:Nat)) 1) where
 mem:=by simp
 obj:=fun i h st b hb=>by
  have e:b=it:=by simpa using hb
  subst e
  exact⟨_,st,fun v z=>by
   have z':Data.fields _=Data.cell v:=z;cases z'⟩
 keep:=fun i h h' st k=>k it (by simp) _ st
 item:=by
  intro X hP hw hK hc i pins s σ H E I hf st hg;subst hP hw hK;obtain⟨f0,f1,f2,f3,f4,f5⟩:=hf it (by simp);have W:=Walks.range (prog:=X.prog) (w:=X.w) (I.ok.hd hc) it lo 1 n;refine W.item i s _ _ hg st fun v h' tk hv st' kk=>?_
  obtain⟨t,rfl⟩:=hv;have I1:Inv X pins σ H {s with heap:=h',toks:=tk}:=I.turned (fun b o hb e=>kk b o (by simpa using hb) e) f0 f1 f3 f4 f5
  refine⟨_,rfl,x47 (s:={s with heap:=h',toks:=tk}) (n:="range_iterator") st' rfl rfl (by decide) ⟨.int (lo+i),H,I1,⟨t,?_⟩,⟨rfl,rfl⟩,st',fun b hb=>(hf b hb).1⟩⟩
  rw[Int.mul_one]
 done:=by
  intro X hP hw hK hc i pins s σ H E I hf st hg;subst hP hw hK;obtain⟨f0,f1,f2,f3,f4,f5⟩:=hf it (by simp);exact wpAny_pyNext_range_end (I.ok.hd hc) st (by have:n<=i:=hg;omega) fun h' eb=>⟨rfl,I.turned (t':=s.toks) (fun b o hb e=>eb b o hb e) f0 f1 f3 f4 f5⟩
 self:=fun _ _ _ _ _ st h=>wpAny_pyIter_rangeiter st h
theorem x10{R:It->Hp->Prop}{lo hi:Int}{t u v:Tok}{tk:Nat}(I:Inv X pins σ H s)(h1:-(2^62)<=lo)(h2:lo<2^62)(h3:-(2^62)<=hi)(h4:hi<2^62)
  (q:R (Itr lo (hi-lo).toNat) H):wpAny (model X.prog X.w) X.A (pyIter (.ref s.heap.objs.size)) (PIE X pins σ tg R) E {s with heap:=s.heap.push {cls:=.type "range", data:=.fields #[.int lo t,.int hi u,.int 1 v]},toks:=tk}:=by
 refine wpAny_pyIter_range (IsRange.new ..) (small_one h1 h2 h3 h4) ?_;have I1:Inv X pins σ H {s with heap:=s.heap.push {cls:=.type "range", data:=.fields #[.int lo t,.int hi u,.int 1 v]},toks:=tk}:=I.kept fun b o e=>Heap.get?_push_of_some _ e
 refine⟨(s.heap.push {cls:=.type "range", data:=.fields #[.int lo t,.int hi u,.int 1 v]}).objs.size,[(s.heap.push {cls:=.type "range", data:=.fields #[.int lo t,.int hi u,.int 1 v]}).objs.size],_,_,H,rfl,
  I1.kept (t':=tk) fun b o e=>Heap.get?_push_of_some _ e,x49 _ lo (hi-lo).toNat,?_,fun b hb=>?_,q⟩
 ·have e1:lo+((0:Nat):Int)*1=lo:=by simp
  have e2:(((hi-lo).toNat:Nat):Int)-((0:Nat):Int)=Builtin.Range.rangeSize lo hi 1:=by rw[rangeSize_one];split<;>omega
  show IsRangeIter _ _ (lo+((0:Nat):Int)*1) ((((hi-lo).toNat:Nat):Int)-((0:Nat):Int)) 1;rw[e1,e2];exact Heap.get?_push_size _ rfl
 ·have e:b=(s.heap.push {cls:=.type "range", data:=.fields #[.int lo t,.int hi u,.int 1 v]}).objs.size:=by simpa using hb
  subst e;exact I1.fpOk (w0f _) (I1.hok.fresh (w0f _))
def iRng1(ta:TA):TI:=fun σ H R=>ta σ H fun vs H1=>∃j:Int,vs=[.int j]/\-(2^62)<=j/\j<2^62/\R (Itr 0 j.toNat) H1
def iRng2(ta:TA):TI:=fun σ H R=>ta σ H fun vs H1=>∃i j:Int,vs=[.int i,.int j]/\(-(2^62)<=i/\i<2^62/\-(2^62)<=j/\j<2^62)/\R (Itr i (j-i).toNat) H1
theorem x0d{a:Expr}{ta:TA}(hg:Gl X "range")(hm:X.mg "range"=none)(ha:PA X [a] ta)(hs:starEach [a] X.env=[(false,eval a X.env)]:=by rfl):PI X tg (.Call (.Name "range" p) [a] [] pos) (iRng1 ta):=by
 intro pins s σ H R I h;refine Call_ (q4w I hg hm boot_range (PyProof.Rows.callWith_type1 (thn (ha pos pins s σ H _ I h) fun us s1 ⟨vs,H1,I1,r1,q1⟩=>?_) hs rfl))
 obtain⟨j,e,q1,q2,q⟩:=q1;subst e;cases r1 with
 |cons r rr=>
  cases rr;obtain⟨t,rfl⟩:=r;exact call_range_1 (x10 I1 (by omega) (by omega) q1 q2 (by simpa using q))
theorem x6m{a b:Expr}{ta:TA}(hg:Gl X "range")(hm:X.mg "range"=none)(ha:PA X [a,b] ta)(hs:starEach [a,b] X.env=[(false,eval a X.env),(false,eval b X.env)]:=by rfl)(hs2:starEach [b] X.env=[(false,eval b X.env)]:=by rfl):
  PI X tg (.Call (.Name "range" p) [a,b] [] pos) (iRng2 ta):=by
 intro pins s σ H R I h;refine Call_ (q4w I hg hm boot_range (PyProof.Rows.callWith_type1 (thn (ha pos pins s σ H _ I h) fun us s1 ⟨vs,H1,I1,r1,q1⟩=>?_) (by rw[hs,hs2]) (by rw[hs2];rfl)))
 obtain⟨i,j,e,⟨q1,q2,q3,q4⟩,q⟩:=q1;subst e;cases r1 with
 |cons r rr=>
  cases rr with
  |cons r' rr=>
   cases rr;obtain⟨t,rfl⟩:=r;obtain⟨t',rfl⟩:=r';exact call_range_2 (x10 I1 q1 q2 q3 q4 q)
def tFor(wi:TI)(g:TG)(tb:TS):TS:=fun D σ H=>wi σ H fun J H1=>∃W:Nat->Nat->St->Hp->Prop,(∃m,W 0 m σ H1)/\∀i m σ H,W i m σ H ->
 (J.stop i H/\D.nx σ H)\/(J.go i H/\∃N:St->Hp->Prop,(∀σ' H',N σ' H'->∃m',m'<m/\W (i+1) m' σ' H')/\∀x H',J.yld i H x H'->g x σ H' fun σ2 H2=>tb {D with nx:=N,ct:=N,bk:=D.nx} σ2 H2)
noncomputable def pinsAt(fp:List Addr)(h:Heap):List (Addr×Obj):=fp.filterMap fun b=>(h.get? b).map fun o=>(b,o)
theorem q4s{o:Obj}(hb:b∈fp)(e:h.get? b=some o):(b,o)∈pinsAt fp h:=w1q.mpr ⟨b,hb,by rw[e];rfl⟩
theorem x6n{p:Addr×Obj}(hp:p∈pinsAt fp h):p.1∈fp/\h.get? p.1=some p.2:=by
 obtain⟨b,hb,e⟩:=w1q.mp hp;cases q:h.get? b with
 |none=>rw[q]at e;cases e
 |some o=>
  rw[q]at e;have e':(b,o)=p:=Option.some.inj e;subst e';exact⟨hb,q⟩
theorem Inv.pinned(I:Inv X pins σ H s)(hf:∀b∈fp,FpOk X pins H b)(ho:∀b∈fp,∃o,s.heap.get? b=some o/\∀v,o.data≠.cell v):Inv X (pins++pinsAt fp s.heap) σ H s:=
 I.pins_of fun p hp=>(w1h.mp hp).elim (fun z=>I.pin p (w0t _ z)) fun z=>by
  obtain⟨hb,e⟩:=x6n z;obtain⟨f0,f1,f2,_⟩:=hf p.1 hb;obtain⟨o,e',d⟩:=ho p.1 hb;rw[e]at e';cases e';exact⟨e,f0,f1,f2,d⟩
theorem Inv.unpinned{pl:List (Addr×Obj)}(I:Inv X (pins++pl) σ H s):Inv X pins σ H s:=I.pins_of fun p hp=>I.pin p (w0t _ (w1r _ hp))
theorem q8s{iter:Expr}{body:List Stmt}{wi:TI}{g:TG}(hp:PassesOwn (model X.prog X.w) X.A X.env X.xe)(hc:X.calm=true)(hi:PI X tg iter wi)(hg:PG X tg g)(hb:PSs X body tb)
  (hs:∀x,foldedSetIterable iter X.env x=pure x:=by intro _;rfl):PS X (.For tg iter body [] pos) (tFor wi g tb):=by
 intro pins s σ H D I h;refine wpAny_For (thn (hi pins s σ H _ I h) fun v s1 h1=>thn h1 fun itv s2 h2=>?_) hs
 obtain⟨it,fp,tn,J,H2,e,I2,T,st2,f2,W,⟨m0,w0⟩,turn⟩:=h2;subst e;have stat:∀{H':Hp},(∀b∈fp,H' b=none)->∀b∈fp,FpOk X pins H' b:=fun hn b hb=>⟨hn b hb,(f2 b hb).2⟩
 refine codeAny_forLoop_any (fun n s'=>∃i σ' H',Inv X pins σ' H' s'/\tn i s'.heap/\(∀b∈fp,H' b=none)/\W i n σ' H') ?_ m0 ⟨0,σ,H2,I2,st2,fun b hb=>(f2 b hb).1,w0⟩
 rintro n s3 ⟨i,σ3,H3,I3,st3,fr3,w3⟩;rcases turn i n σ3 H3 w3 with⟨stop,qn⟩|⟨go,N,hN,step⟩
 ·refine wpAny_passesOwn hp (thn (T.done X rfl rfl rfl hc i pins s3 σ3 H3 X.xe I3 (stat fr3) st3 stop) fun r s4 ⟨hr,I4⟩=>?_)
  subst hr;exact wpAny_execs_nil ⟨σ3,H3,I4,qn⟩
 ·refine wpAny_passesOwn hp (thn (T.item X rfl rfl rfl hc i pins s3 σ3 H3 X.xe I3 (stat fr3) st3 go) fun r s4 ⟨u,hr,h4⟩=>?_)
  subst hr;refine wpAny_passesOwn hp (thn h4 fun _ s5 ⟨x,H5,I5,r5,y5,st5,fr5⟩=>?_)
  have I5':=I5.pinned (stat fr5) (T.obj _ _ st5);refine wpAny_passesOwn hp (thn (hg _ s5 σ3 H5 x u _ I5' r5 (step x H5 y5)) fun _ s6 ⟨σ6,H6,I6,q6⟩=>?_)
  refine wpAny_passesOwn hp (thn (hb _ s6 σ6 H6 _ I6 q6) fun f s7 q7=>?_)
  have again:∀{σ7:St}{H7:Hp},Inv X (pins++pinsAt fp s5.heap) σ7 H7 s7->N σ7 H7->∃m,m<n/\∃i σ' H',Inv X pins σ' H' s7/\tn i s7.heap/\(∀b∈fp,H' b=none)/\W i m σ' H':=fun {σ7 H7} I7 n7=>by
   obtain⟨m',hm,w7⟩:=hN σ7 H7 n7;refine⟨m',hm,i+1,σ7,H7,I7.unpinned,T.keep _ _ _ st5 fun b hb o e=>(I7.pin (b,o) (w0t _ (w0t _ (q4s hb e)))).1,fun b hb=>?_,w7⟩
   obtain⟨o,e,d⟩:=T.obj _ _ st5 b hb;exact(I7.pin (b,o) (w0t _ (w0t _ (q4s hb e)))).2.1
  cases f with
  |next=>obtain⟨σ7,H7,I7,n7⟩:=q7;exact again I7 n7
  |cont=>obtain⟨σ7,H7,I7,n7⟩:=q7;exact again I7 n7
  |brk=>obtain⟨σ7,H7,I7,q7⟩:=q7;exact⟨σ7,H7,I7.unpinned,q7⟩
  |ret v=>obtain⟨x7,σ7,H7,I7,r7,q7⟩:=q7;exact⟨x7,σ7,H7,I7.unpinned,r7,q7⟩
theorem x9l{g:TG}{D:Ends}(Pv:Nat->St->Hp->Prop)(h0:Pv 0 σ H)(hl:∀i σ H,i<=xs.length->Pv i σ H->SqL K H a xs)
  (hs:∀i x σ H,xs[i]?=some x->Pv i σ H->g x σ H fun σ2 H2=>tb {D with nx:=Pv (i+1),ct:=Pv (i+1),bk:=D.nx} σ2 H2)(hd:∀σ H,Pv xs.length σ H->D.nx σ H):
  ∃W:Nat->Nat->St->Hp->Prop,(∃m,W 0 m σ H)/\∀i m σ H,W i m σ H ->
   ((Itl K a).stop i H/\D.nx σ H)\/((Itl K a).go i H/\∃N:St->Hp->Prop,(∀σ' H',N σ' H'->∃m',m'<m/\W (i+1) m' σ' H')/\∀x H',(Itl K a).yld i H x H'->g x σ H' fun σ2 H2=>tb {D with nx:=N,ct:=N,bk:=D.nx} σ2 H2):=by
 refine⟨fun i m σ H=>m=xs.length-i/\i<=xs.length/\Pv i σ H,⟨xs.length,by simp,w1a _,h0⟩,?_⟩
 rintro i m σ H ⟨rfl,hi,p⟩;have q:=hl i σ H hi p
 by_cases hlt:i<xs.length
 ·refine .inr ⟨⟨xs,xs[i],q,by simp[hlt]⟩,Pv (i+1),fun σ' H' p'=>⟨xs.length-(i+1),by omega,rfl,hlt,p'⟩,fun x H' y=>?_⟩
  obtain⟨e,y⟩:=y;subst e;exact hs i x σ _ (y xs q) p
 ·have e:i=xs.length:=by omega
  subst e;exact .inl ⟨⟨xs,q,w0f _⟩,hd σ H p⟩
theorem y27{g:TG}{D:Ends}(Pv:Nat->St->Hp->Prop)(h0:Pv 0 σ H)(hl:∀i σ H,i<=xs.length->Pv i σ H->SqT K H a xs)
  (hs:∀i x σ H,xs[i]?=some x->Pv i σ H->g x σ H fun σ2 H2=>tb {D with nx:=Pv (i+1),ct:=Pv (i+1),bk:=D.nx} σ2 H2)(hd:∀σ H,Pv xs.length σ H->D.nx σ H):
  ∃W:Nat->Nat->St->Hp->Prop,(∃m,W 0 m σ H)/\∀i m σ H,W i m σ H ->
   ((Itt K a).stop i H/\D.nx σ H)\/((Itt K a).go i H/\∃N:St->Hp->Prop,(∀σ' H',N σ' H'->∃m',m'<m/\W (i+1) m' σ' H')/\∀x H',(Itt K a).yld i H x H'->g x σ H' fun σ2 H2=>tb {D with nx:=N,ct:=N,bk:=D.nx} σ2 H2):=by
 refine⟨fun i m σ H=>m=xs.length-i/\i<=xs.length/\Pv i σ H,⟨xs.length,by simp,w1a _,h0⟩,?_⟩
 rintro i m σ H ⟨rfl,hi,p⟩;have q:=hl i σ H hi p
 by_cases hlt:i<xs.length
 ·refine .inr ⟨⟨xs,xs[i],q,by simp[hlt]⟩,Pv (i+1),fun σ' H' p'=>⟨xs.length-(i+1),by omega,rfl,hlt,p'⟩,fun x H' y=>?_⟩
  obtain⟨e,y⟩:=y;subst e;exact hs i x σ _ (y xs q) p
 ·have e:i=xs.length:=by omega
  subst e;exact .inl ⟨⟨xs,q,w0f _⟩,hd σ H p⟩
theorem x6o{lo:Int}{n:Nat}{g:TG}{D:Ends}(Pv:Nat->St->Hp->Prop)(h0:Pv 0 σ H)
  (hs:∀i σ H,i<n->Pv i σ H->g (.int (lo+i)) σ H fun σ2 H2=>tb {D with nx:=Pv (i+1),ct:=Pv (i+1),bk:=D.nx} σ2 H2)(hd:∀σ H,Pv n σ H->D.nx σ H):
  ∃W:Nat->Nat->St->Hp->Prop,(∃m,W 0 m σ H)/\∀i m σ H,W i m σ H ->
   ((Itr lo n).stop i H/\D.nx σ H)\/((Itr lo n).go i H/\∃N:St->Hp->Prop,(∀σ' H',N σ' H'->∃m',m'<m/\W (i+1) m' σ' H')/\∀x H',(Itr lo n).yld i H x H'->g x σ H' fun σ2 H2=>tb {D with nx:=N,ct:=N,bk:=D.nx} σ2 H2):=by
 refine⟨fun i m σ H=>m=n-i/\i<=n/\Pv i σ H,⟨n,by simp,w1a _,h0⟩,?_⟩
 rintro i m σ H ⟨rfl,hi,p⟩
 by_cases hlt:i<n
 ·refine .inr ⟨hlt,Pv (i+1),fun σ' H' p'=>⟨n-(i+1),by omega,rfl,hlt,p'⟩,fun x H' y=>?_⟩
  obtain⟨e,y⟩:=y;subst e y;exact hs i σ _ hlt p
 ·have e:i=n:=by omega
  subst e;exact .inl ⟨w0f _,hd σ H p⟩
abbrev R2:=V->V->Hp->VK->Prop
variable{r:R2}
def OpR(X:Cx)(f:Value->Value->Sem Value)(r:R2):Prop:=
 ∀(pins:List (Addr×Obj))(s:Shared)(σ:St)(H:Hp)(x y:V)(v u:Value)(Q:VK),Inv X pins σ H s->RelV x v->RelV y u->r x y H Q ->
  wpAny (model X.prog X.w) X.A (f v u) (EP X pins σ Q) X.xe s
def UnR(X:Cx)(f:Value->Sem Value)(r:V->Hp->VK->Prop):Prop:=
 ∀(pins:List (Addr×Obj))(s:Shared)(σ:St)(H:Hp)(x:V)(v:Value)(Q:VK),Inv X pins σ H s->RelV x v->r x H Q ->
  wpAny (model X.prog X.w) X.A (f v) (EP X pins σ Q) X.xe s
def CallR(X:Cx)(f:Value)(r:List V->Hp->VK->Prop):Prop:=
 ∀(pins:List (Addr×Obj))(s:Shared)(σ:St)(H:Hp)(xs:List V)(us:List Value)(Q:VK),Inv X pins σ H s->Vals xs us->r xs H Q ->
  wpAny (model X.prog X.w) X.A (call f us) (EP X pins σ Q) X.xe s
def TruR(X:Cx)(r:V->Hp->(Bool->Hp->Prop)->Prop):Prop:=
 ∀(pins:List (Addr×Obj))(s:Shared)(σ:St)(H:Hp)(x:V)(v:Value)(Q:Bool->Hp->Prop),Inv X pins σ H s->RelV x v->r x H Q ->
  wpAny (model X.prog X.w) X.A (truthy v) (TP X pins σ Q) X.xe s
def tOp(r:R2)(ta tb:TE):TE:=fun σ H Q=>ta σ H fun x H1=>tb σ H1 fun y H2=>r x y H2 Q
def tUn(r:V->Hp->VK->Prop)(ta:TE):TE:=fun σ H Q=>ta σ H fun x H1=>r x H1 Q
def rI(C:Int->Int->Prop)(g:Int->Int->V):R2:=fun x y H Q=>∃i j,x=.int i/\y=.int j/\C i j/\Q (g i j) H
def rI0(g:Int->Int->V):R2:=fun x y H Q=>∃i j,x=.int i/\y=.int j/\Q (g i j) H
section
variable{a b:Expr}{tb tc:TE}
theorem binT(ha:PE X a ta)(hb:PE X b tb){R:V->V->Hp->Prop}(I:Inv X pins σ H s)
  (h:ta σ H fun x H1=>tb σ H1 fun y H2=>R x y H2){Q:Value->Shared->Prop}
  (hf:∀v u s2 x y H2,Inv X pins σ H2 s2->RelV x v->RelV y u->R x y H2->wpAny (model X.prog X.w) X.A (f v u) Q X.xe s2):
  wpAny (model X.prog X.w) X.A (eval a X.env) (fun v s₁=>wpAny (model X.prog X.w) X.A (eval b X.env) (fun u s₂=>wpAny (model X.prog X.w) X.A (f v u) Q X.xe s₂) X.xe s₁) X.xe s:=by
 refine thn (ha pins s σ H _ I h) fun v s1 ⟨x,H1,I1,r1,q1⟩=>?_
 refine thn (hb pins s1 σ H1 _ I1 q1) fun u s2 ⟨y,H2,I2,r2,q2⟩=>?_
 exact hf v u s2 x y H2 I2 r1 r2 q2
theorem z0a{op:Operator}(ho:OpR X (binaryOp op) r)(ha:PE X a ta)(hb:PE X b tb):PE X (.BinOp a op b pos) (tOp r ta tb):=by
 intro pins s σ H Q I h;exact wpAny_BinOp (binT ha hb I h fun v u s2 x y H2 I2 rx ry q=>ho pins s2 σ H2 x y v u Q I2 rx ry q)
theorem opI{C:Int->Int->Prop}{g:Int->Int->Int}
  (rule:∀(i j:Int)(t u:Tok)(s:Shared)(Q:Value->Shared->Prop)(E:Value->Shared->Prop),C i j->Q (.int (g i j) s.toks) {s with toks:=s.toks+1}->wpAny (model X.prog X.w) X.A (f (.int i t) (.int j u)) Q E s):
  OpR X f (rI C fun i j=>.int (g i j)):=by
 intro pins s σ H x y v u Q I rx ry h;obtain⟨i,j,rfl,rfl,hc,q⟩:=h;obtain⟨t,rfl⟩:=rx;obtain⟨t',rfl⟩:=ry;exact rule i j t t' s _ _ hc ⟨.int (g i j),H,I.tok _,⟨_,rfl⟩,q⟩
theorem opI0{g:Int->Int->Int}
  (rule:∀(i j:Int)(t u:Tok)(s:Shared)(Q:Value->Shared->Prop)(E:Value->Shared->Prop),Q (.int (g i j) s.toks) {s with toks:=s.toks+1}->wpAny (model X.prog X.w) X.A (f (.int i t) (.int j u)) Q E s):
  OpR X f (rI0 fun i j=>.int (g i j)):=by
 intro pins s σ H x y v u Q I rx ry h;obtain⟨i,j,rfl,rfl,q⟩:=h;obtain⟨t,rfl⟩:=rx;obtain⟨t',rfl⟩:=ry;exact rule i j t t' s _ _ ⟨.int (g i j),H,I.tok _,⟨_,rfl⟩,q⟩
theorem opB0{g:Int->Int->Bool}
  (rule:∀(i j:Int)(t u:Tok)(s:Shared)(Q:Value->Shared->Prop)(E:Value->Shared->Prop),Q (.bool (g i j)) s->wpAny (model X.prog X.w) X.A (f (.int i t) (.int j u)) Q E s):
  OpR X f (rI0 fun i j=>.bl (g i j)):=by
 intro pins s σ H x y v u Q I rx ry h;obtain⟨i,j,rfl,rfl,q⟩:=h;obtain⟨t,rfl⟩:=rx;obtain⟨t',rfl⟩:=ry;exact rule i j t t' s _ _ ⟨.bl (g i j),H,I,rfl,q⟩
def CDiv(i j:Int):Prop:=0<j/\j<1073741824
def CMul(i j:Int):Prop:=(-(2^64)<i/\i<2^64)\/(-(2^64)<j/\j<2^64)
theorem CMul.ok{i j:Int}(h:CMul i j):IntMulOk i j:=by
 rcases h with⟨h1,h2⟩|⟨h1,h2⟩
 ·exact .of_left (intBits_le_64 h1 h2)
 ·exact .of_right (intBits_le_64 h1 h2)
theorem op_add:OpR X (binaryOp .Add) (rI0 fun i j=>.int (i+j)):=opI0 fun _ _ _ _ _ _ _ q=>add_int q
theorem y69:OpR X (binaryOp .Sub) (rI0 fun i j=>.int (i-j)):=opI0 fun _ _ _ _ _ _ _ q=>sub_int q
theorem y7a:OpR X (binaryOp .Mult) (rI CMul fun i j=>.int (i*j)):=opI fun _ _ _ _ _ _ _ hc q=>mul_int q hc.ok
theorem y28:OpR X (binaryOp .FloorDiv) (rI CDiv fun i j=>.int (i / j)):=opI fun i j _ _ _ _ _ hc q=>by
 have h1:(0:Int)<j:=hc.1;have h2:j<1073741824:=hc.2;exact floordiv_int (by omega) (by rw[Int.fdiv_eq_ediv_of_nonneg i (by omega)];exact q) (.inl (PyProof.noPylong_small (by omega)))
theorem y7b:OpR X (binaryOp .Mod) (rI (fun _ j=>0<j) fun i j=>.int (i%j)):=opI fun i j _ _ _ _ _ hc q=>by
 have h1:(0:Int)<j:=hc;exact mod_int' (by omega) (by rw[Int.fmod_eq_emod_of_nonneg i (by omega)];exact q)
end
section
variable{a b:Expr}{tb tc:TE}
theorem z0b:OpR X (compareOp .Lt) (rI0 fun i j=>.bl (decide (i<j))):=opB0 fun _ _ _ _ _ _ _ q=>lt_int q
theorem z0c:OpR X (compareOp .Gt) (rI0 fun i j=>.bl (decide (j<i))):=opB0 fun _ _ _ _ _ _ _ q=>gt_int q
theorem z0d:OpR X (compareOp .GtE) (rI0 fun i j=>.bl (decide (j<=i))):=opB0 fun _ _ _ _ _ _ _ q=>ge_int q
theorem OpR.or{r':R2}(h:OpR X f r)(h':OpR X f r'):OpR X f (fun x y H Q=>r x y H Q\/r' x y H Q):=by
 intro pins s σ H x y v u Q I rx ry q;rcases q with q|q
 ·exact h pins s σ H x y v u Q I rx ry q
 ·exact h' pins s σ H x y v u Q I rx ry q
theorem nomark(b:Expr)(h:op≠.In:=by decide)(h2:op≠.NotIn:=by decide):behindInMarks op b=false:=by
 have e1:(op==CmpOp.In)=false:=by cases op<;>first|rfl|exact absurd rfl h
 have e2:(op==CmpOp.NotIn)=false:=by cases op<;>first|rfl|exact absurd rfl h2
 cases b<;>simp[behindInMarks,e1,e2]
theorem y29(ho:OpR X (compareOp op) r)(ha:PE X a ta)(hb:PE X b tb)(hm:behindInMarks op b=false):PE X (.Compare a [op] [b] pos) (tOp r ta tb):=by
 intro pins s σ H Q I h;exact wpAny_Compare1 (binT ha hb I h fun v u s2 x y H2 I2 rx ry q=>ho pins s2 σ H2 x y v u Q I2 rx ry q) hm
def tTest(t:TE):TT:=fun σ H Q=>t σ H fun x H'=>∃k,x=.bl k/\Q k H'
theorem y3a(ho:OpR X (compareOp op) r)(ha:PE X a ta)(hb:PE X b tb)(hm:behindInMarks op b=false):PT X (.Compare a [op] [b] pos) (tTest (tOp r ta tb)):=by
 intro pins s σ H Q I h
 refine wpAny_isTrue_Compare1 (thn (ha pins s σ H _ I h) fun v s1 ⟨x,H1,I1,r1,q1⟩=>thn (hb pins s1 σ H1 _ I1 q1) fun u s2 ⟨y,H2,I2,r2,q2⟩=>
  thn (ho pins s2 σ H2 x y v u _ I2 r1 r2 q2) fun c s3 ⟨z,H3,I3,r3,k,e,q3⟩=>?_) hm
 subst e;cases r3;exact wpAny_truthy_bool ⟨H3,I3,q3⟩
def TruV(K:PySem.W.Frag)(x:V)(H:Hp)(k:Bool):Prop:=
 match x with
 |.non=>k=false
 |.bl b=>k=b
 |.int i=>k=(i != 0)
 |.str y=>y.length<=sizeLine/\k=((y.length:Int) != 0)
 |.byt y=>y.size<=sizeLine/\k=((y.size:Int) != 0)
 |.ref p=>(∃xs,SqL K H p xs/\k=!xs.isEmpty)\/(∃xs,SqT K H p xs/\k=!xs.isEmpty)\/∃kvs,H p=some (.dK kvs)/\k=!kvs.isEmpty
 |_=>False
theorem x5a{κ:Type}{kvs:List (κ×V)}{vs:List (κ×Value)}(r:KV kvs vs):(!vs.isEmpty)=!kvs.isEmpty:=by
 cases r<;>rfl
theorem q8t{its:List Value}(r:Vals xs its):(!its.toArray.isEmpty)=!xs.isEmpty:=by
 cases r<;>simp
theorem line63:(sizeLine:Nat)<2^63:=by rw[sizeLine_eq];decide
theorem y7c:TruR X (fun x H Q=>∃k,TruV X.K x H k/\Q k H):=by
 intro pins s σ H x v Q I rx h;obtain⟨k,e,q⟩:=h;have hl:=line63;have hs:sizeLine=16777216:=sizeLine_eq;cases x with
 |non=>
  cases rx;have e':k=false:=e;subst e';exact truthy_none ⟨H,I,q⟩
 |bl b=>
  cases rx;have e':k=b:=e;subst e';exact wpAny_truthy_bool ⟨H,I,q⟩
 |int i=>
  obtain⟨t,rfl⟩:=rx;have e':k=(i != 0):=e;subst e';exact PySem.P.truthy_int ⟨H,I,q⟩
 |str y=>
  obtain⟨t,rfl⟩:=rx;obtain⟨hy,e'⟩:y.length<=sizeLine/\k=((y.length:Int) != 0):=e;subst e';exact PySem.P.truthy_str (by omega) ⟨H,I.tok _,q⟩
 |byt y=>
  obtain⟨t,rfl⟩:=rx;obtain⟨hy,e'⟩:y.size<=sizeLine/\k=((y.size:Int) != 0):=e;subst e';exact PySem.W.truthy_bytes (by omega) ⟨H,I.tok _,q⟩
 |ref p=>
  cases rx;have e':(∃xs,SqL X.K H p xs/\k=!xs.isEmpty)\/(∃xs,SqT X.K H p xs/\k=!xs.isEmpty)\/∃kvs,H p=some (.dK kvs)/\k=!kvs.isEmpty:=e;rcases e' with⟨xs,hx,e'⟩|⟨xs,hx,e'⟩|⟨kvs,hx,e'⟩
  ·subst e';obtain⟨its,r,pl,hz⟩:=I.list hx;have hlen:=r.length;exact wpAny_truthy_list pl.isList (by simp only[w0e];omega) ⟨H,I.tok _,by rw[q8t r];exact q⟩
  ·subst e';obtain⟨its,r,pl,hz⟩:=I.tuple hx;have hlen:=r.length;exact truthy_tuple pl (by simp only[w0e];omega) ⟨H,I.tok _,by rw[q8t r];exact q⟩
  ·subst e';obtain⟨hz,hS,vs,r,m⟩:kvs.length<=sizeLine/\(p==sysModules)=false/\∃vs,KV kvs vs/\s.heap.DictOf (mixKind X.prog X.w) p vs:=I.hok p _ hx;have hlen:kvs.length=vs.length:=Paired.length r;exact wpAny_truthy_dict hS m (by omega) ⟨H,I.tok _,by rw[x5a r];exact q⟩
 |_=>exact(show False from e).elim
theorem x9m(ha:PE X a ta)(he:∀whole,isTrue a X.env whole=(do let v <- whole;standAt a.pos;holding [v] (truthy v))):
  PT X a (fun σ H Q=>ta σ H fun x H'=>∃k,TruV X.K x H' k/\Q k H'):=by
 intro pins s σ H Q I h;exact isTrue_plain (thn (ha pins s σ H _ I h) fun v s1 ⟨x,H1,I1,r1,q1⟩=>y7c pins s1 σ H1 x v Q I1 r1 q1) (he _)
theorem op_add_str:OpR X (binaryOp .Add) (fun x y H Q=>∃i j,x=.str i/\y=.str j/\i.length+j.length<=sizeLine/\Q (.str (i++j)) H):=by
 intro pins s σ H x y v u Q I rx ry h;obtain⟨i,j,rfl,rfl,hz,q⟩:=h;obtain⟨t,rfl⟩:=rx;obtain⟨t',rfl⟩:=ry;exact add_str (fun t' tk=>⟨.str (i++j),H,I.tok _,⟨_,rfl⟩,q⟩) hz
theorem vals1{x:V}(r:Vals [x] us):∃u,us=[u]/\RelV x u:=by
 cases r with
 |cons r1 r2=>cases r2;exact⟨_,rfl,r1⟩
theorem vals2{x y:V}(r:Vals [x,y] us):∃u w',us=[u,w']/\RelV x u/\RelV y w':=by
 cases r with
 |cons r1 r2=>
  cases r2 with
  |cons r3 r4=>cases r4;exact⟨_,_,rfl,r1,r3⟩
theorem x6p(hc:X.calm=true):CallR X (.builtin "max") (fun xs H Q=>∃i j,xs=[.int i,.int j]/\Q (.int (if j>i then j else i)) H):=by
 intro pins s σ H xs us Q I r h;obtain⟨i,j,rfl,q⟩:=h;obtain⟨u,w',rfl,⟨t,rfl⟩,⟨t',rfl⟩⟩:=vals2 r;refine max_two_ints (I.ok.hd hc) fun h' tk k=>⟨_,H,I.kept k,?_,q⟩
 by_cases hj:j>i
 ·rw[if_pos hj,if_pos hj];exact⟨_,rfl⟩
 ·rw[if_neg hj,if_neg hj];exact⟨_,rfl⟩
def LenV(K:PySem.W.Frag)(x:V)(H:Hp)(n:Nat):Prop:=
 match x with
 |.str y=>y.length<=sizeLine/\n=y.length
 |.byt y=>y.size<=sizeLine/\n=y.size
 |.ref p=>(∃xs,SqL K H p xs/\n=xs.length)\/∃xs,SqT K H p xs/\n=xs.length
 |_=>False
theorem x11:CallR X (.builtin "len") (fun xs H Q=>∃x n,xs=[x]/\LenV X.K x H n/\Q (.int n) H):=by
 intro pins s σ H xs us Q I r h;obtain⟨x,n,rfl,e,q⟩:=h;obtain⟨u,rfl,rx⟩:=vals1 r;have hl:=line63;have hs:sizeLine=16777216:=sizeLine_eq;cases x with
 |str y=>
  obtain⟨t,rfl⟩:=rx;obtain⟨hy,e'⟩:y.length<=sizeLine/\n=y.length:=e;subst e';exact len_str (by omega) ⟨.int _,H,I.tok _,⟨_,rfl⟩,q⟩
 |byt y=>
  obtain⟨t,rfl⟩:=rx;obtain⟨hy,e'⟩:y.size<=sizeLine/\n=y.size:=e;subst e';exact PySem.W.len_bytes (by omega) ⟨.int _,H,I.tok _,⟨_,rfl⟩,q⟩
 |ref p=>
  cases rx;have e':(∃xs,SqL X.K H p xs/\n=xs.length)\/∃xs,SqT X.K H p xs/\n=xs.length:=e;rcases e' with⟨xs,hx,e'⟩|⟨xs,hx,e'⟩
  ·subst e';obtain⟨its,r',pl,hz⟩:=I.list hx;have hlen:=r'.length;exact Calls.call_len_list pl.isList (by simp only[w0e];omega) ⟨.int xs.length,H,I.tok _,⟨_,by simp only[w0e];rw[hlen]⟩,q⟩
  ·subst e';obtain⟨its,r',pl,hz⟩:=I.tuple hx;have hlen:=r'.length;exact len_tuple pl (by simp only[w0e];omega) ⟨.int xs.length,H,I.tok _,⟨_,by simp only[w0e];rw[hlen]⟩,q⟩
 |_=>exact(show False from e).elim
end
structure ObjM(h:Heap)(x dx C:Addr)(mA:Str->Option Value):Prop where
 obj:h.get? x=some (PySem.W.instObj C dx)
 ns:h.Ns1 dx mA
 ne:dx≠x
theorem RelO.some_of{v:V}{o:Option Value}(r:RelO (some v) o):∃u,o=some u/\RelV v u:=by
 cases o with
 |none=>exact(show False from r).elim
 |some u=>exact⟨u,rfl,r⟩
structure Cls(K:PySem.W.Frag)(C:Addr):Prop where
 pg:PySem.W.plainGet K C Str.empty=true
 hd:PySem.W.hasDictIn K C=true
 po:PySem.W.plainOver K C=true
 sa:findIn K (.ref C) "__setattr__"=some (some (.builtin "object.__setattr__"))
structure Con(K:PySem.W.Frag)(C:Addr)(f:Str)(v:V)(u:Value):Prop where
 at_:findIn K (.ref C) f=some (some u)
 rel:RelV v u
 get:specialIn K u "__get__"=some none
 cp:PySem.W.copiedNames.contains f=false
structure Meth(K:PySem.W.Frag)(C:Addr)(m:Str)(f:Addr):Prop where
 at_:findIn K (.ref C) m=some (some (.ref f))
 fn:PySem.W.isFn K (.ref f)=true
 kp:keepIn K (.ref f)=true
section
variable{Q:Value->Shared->Prop}{c:Value}{b:Bool}
inductive TyOf(K:PySem.W.Frag)(H:Hp):V->Value->Prop where
 |non:TyOf K H .non (.type "NoneType")
 |bl (x:Bool):TyOf K H (.bl x) (.type "bool")
 |int (i:Int):TyOf K H (.int i) (.type "int")
 |str (x:Str):TyOf K H (.str x) (.type "str")
 |flt (x:UInt64):TyOf K H (.flt x) (.type "float")
 |lst {a:Addr} {xs:List V} (e:H a=some (.lst xs)):TyOf K H (.ref a) (.type "list")
 |frz {a:Addr} {o:Obj} {xs:List V} (e:H a=some (.frz o (.lst xs))):TyOf K H (.ref a) (.type "list")
 |tup {a:Addr} {xs:List V} (e:H a=some (.tup xs)):TyOf K H (.ref a) (.type "tuple")
 |dK {a:Addr} {kvs:List (Key×V)} (e:H a=some (.dK kvs)):TyOf K H (.ref a) (.type "dict")
 |dT {a:Addr} {sh:Sh} {kvs:List (Kx×V)} {kas:List Addr} (e:H a=some (.dT sh kvs kas)):TyOf K H (.ref a) (.type "dict")
 |ins {a C dx:Addr} {fs:List (Str×V)} (e:H a=some (.ins C dx fs)) (cl:Cls K C) (ha:findIn K (.ref C) "__class__"=some (some (.builtin "object.__class__")))
   (hn:specialIn K (.builtin "object.__class__") "__get__"=some (some (.builtin "getset_descriptor.__get__"))) (htk:takesIn K (.builtin "object.__class__")=some true)
   (hm:PySem.W.mroIn K C (.type "object")=some true):TyOf K H (.ref a) (.ref C)
end
structure Room(k:Nat)(A:Around):Prop where
 hd:A.handled=none
 dp:A.depth+3*k+5<recursionLimit
 un:A.units+16*k+200<cLine
 gd:A.guards=some []
theorem Room.deeper(r:Room (k+1) A)(env:Env):Room k (A.deeper env):=
 ⟨r.hd,by have:=r.dp;show A.depth+1+3*k+5<_;omega,by have:=r.un;show A.units+3+16*k+200<_;omega,r.gd⟩
theorem Room.depth(r:Room k A):A.depth<recursionLimit:=by have:=r.dp;omega
def tNil:TA:=fun _ H Q=>Q [] H
def tCons(ta:TE)(tr:TA):TA:=fun σ H Q=>ta σ H fun x H1=>tr σ H1 fun xs H2=>Q (x::xs) H2
section
variable{t:TA}
theorem q4j:PA X [] tNil:=fun _ _ _ _ H Q I h=>Calls.spliced_nil ⟨[],H,I,.nil,h⟩
theorem q3b(ha:PE X e te)(hr:PA X es t)(hs:starEach (e::es) X.env=(false,eval e X.env)::starEach es X.env:=by rfl):PA X (e::es) (tCons te t):=by
 intro pos pins s σ H Q I h;rw[hs];show wpAny _ _ (spliced ((false,eval e X.env)::backTo pos (starEach es X.env))) _ _ s;refine Calls.spliced_cons (thn (ha pins s σ H _ I h) fun u s1 ⟨x,H1,I1,r1,q1⟩=>?_)
 exact thn (hr pos pins s1 σ H1 _ I1 q1) fun us s2 ⟨xs,H2,I2,r2,q2⟩=>⟨x::xs,H2,I2,.cons r1 r2,q2⟩
def tTup(t:TA):TE:=fun σ H Q=>t σ H fun xs H1=>xs.length<=sizeLine/\∀p,H1 p=none->Q (.ref p) (upd H1 p (.tup xs))
def tLst(t:TA):TE:=fun σ H Q=>t σ H fun xs H1=>xs.length<=sizeLine/\∀p,H1 p=none->Q (.ref p) (upd H1 p (.lst xs))
theorem x6q{x1}(h:PA X es t):PE X (.Tuple es x1 pos) (tTup t):=by
 intro pins s σ H Q I hq;refine wpAny_Tuple_spliced (thn (h pos pins s σ H _ I hq) fun us s1 ⟨xs,H1,I1,r,z,q⟩=>⟨by rw[<- r.length];exact z,?_⟩)
 have hf:H1 s1.heap.objs.size=none:=I1.hok.fresh (w0f _);refine⟨.ref s1.heap.objs.size,upd H1 s1.heap.objs.size (.tup xs),I1.laid (t':=s1.toks) (fun b u e=>Heap.get?_push_of_some _ e) (w0f _) ?_,rfl,q _ hf⟩
 exact⟨z,us,r,⟨_,Heap.get?_push_size _ rfl,rfl,_,rfl⟩,⟨_,Heap.get?_push_size _ rfl,rfl⟩⟩
theorem y7d(h:PA X es t):PE X (.List es pos) (tLst t):=by
 intro pins s σ H Q I hq;refine wpAny_List_spliced (thn (h pos pins s σ H _ I hq) fun us s1 ⟨xs,H1,I1,r,z,q⟩=>⟨by rw[<- r.length];exact z,?_⟩)
 have hf:H1 s1.heap.objs.size=none:=I1.hok.fresh (w0f _);refine⟨.ref s1.heap.objs.size,upd H1 s1.heap.objs.size (.lst xs),I1.laid (t':=s1.toks) (fun b u e=>Heap.get?_push_of_some _ e) (w0f _) ?_,rfl,q _ hf⟩
 exact⟨z,us,0,r,Heap.get?_push_size _ rfl⟩
end
abbrev Sp:=List V->Hp->VK->XK->Prop
variable{sp:Sp}
abbrev CXT:=List Env->Hp->Shared->XK->Value->Shared->Prop
variable{CX:CXT}
structure Env0(P:Program)(w:World)(K:PySem.W.Frag)(mg:Str->Option Value)(base:Heap)(A:Around)(outer:List Env)(s:Shared)(H:Hp):Prop where
 frames:A.frames=some outer
 mod:Mod K mg base
 bs:∀b o,base.get? b=some o->s.heap.get? b=some o/\H b=none
 bsz:base.objs.size<=s.heap.objs.size
 funs:s.heap.FunFrames base outer
 frf:∀b∈frs outer,H b=none
 hok:HOk P w H s.heap
 bare:AllBare s.gens
 tab:TabOk K H
def CE(outer:List Env)(P:Program)(w:World)(H:Hp)(s:Shared)(Q:VK)(u:Value)(s':Shared):Prop:=
 ∃v H',s'.os=s.os/\AllBare s'.gens/\Un (frs outer) [] H H' s.heap s'.heap/\HOk P w H' s'.heap/\RelV v u/\Q v H'
def CR(CX:CXT)(outer:List Env)(P:Program)(w:World)(H:Hp)(s:Shared)(Q:VK)(E:XK)(r:Result)(s':Shared):Prop:=
 match r with
 |.ok (.ret u)=>CE outer P w H s Q u s'
 |.ok _=>False
 |.error e=>CX outer H s E e s'
structure FnOk(P:Program)(w:World)(K:PySem.W.Frag)(mg:Str->Option Value)(base:Heap)(CX:CXT)(k:Nat)(f:Addr)(fd:FuncData)(ps:List Str)(sp:Sp):Prop where
 len:∀vs H Q E,sp vs H Q E->vs.length=ps.length
 run:∀(A:Around)(outer:List Env)(s:Shared)(H:Hp)(args:Args)(us:List Value)(vs:List V)(Q:VK)(E:XK),Room k A->Env0 P w K mg base A outer s H->BindsTo s fd args (ps.zip us)->Vals vs us->sp vs H Q E ->
  codeAny (model P w) A (.call (.ref f) args) (CR CX outer P w H s Q E) s
theorem FnOk.imp{base:Heap}{f:Addr}{sp':Sp}(F:FnOk P w K mg base CX k f fd ps sp)
  (h:∀vs H Q E,sp' vs H Q E->sp vs H Q E):FnOk P w K mg base CX k f fd ps sp':=
 ⟨fun vs H Q E q=>F.len vs H Q E (h _ _ _ _ q),fun A outer s H args us vs Q E hr he hb hv hs=>F.run A outer s H args us vs Q E hr he hb hv (h _ _ _ _ hs)⟩
section
variable{s':Shared}
theorem Inv.env0(I:Inv X pins σ H s):Env0 X.prog X.w X.K X.mg X.base X.A X.stack s H:=
 ⟨I.ok.frames,I.ok.mod,I.bs,w0r I.ok.bsz I.sz,I.stack,I.stkFree,I.hok,I.bare,I.ok.tab.un I.base⟩
theorem Inv.after{Q:VK}(I:Inv X pins σ H s)(h:CE X.stack X.prog X.w H s Q u s'):EP X pins σ Q u s':=by
 obtain⟨v,H',os,bare,un,hok,r,q⟩:=h;obtain⟨hh,g,d,t,os'⟩:=s';obtain rfl:os'=s.os:=os;exact⟨v,H',I.call (h':=hh) (g':=g) (d':=d) (t':=t) (ch:=[]) un hok bare (fun b z=>absurd z (by simp)),r,q⟩
end
def Binds(K:PySem.W.Frag)(fd:FuncData)(ps:List Str)(ds:List Value):Prop:=
 ∀(s:Shared)(us:List Value),K.In s.heap->(us++ds).length=ps.length->BindsTo s fd ⟨us,[]⟩ (ps.zip (us++ds))
theorem Binds.all(h:∀us:List Value,us.length=ps.length->bindArgs fd ⟨us,[]⟩=pure (ps.zip us)):Binds K fd ps []:=fun s us _ hl=>by
 rw[w1i]at hl |-
 exact .of_eq (h us hl)
section
variable{f:Addr}{dvs:List V}{ds:List Value}{E:XK}{m:Str}{apos:Pos}{o:Expr}{t:TA}
structure Mk(K:PySem.W.Frag)(C f:Addr):Prop where
 makes:PySem.W.makesIn K C=true
 init:findIn K (.ref C) "__init__"=some (some (.ref f))
 fn:PySem.W.isFn K (.ref f)=true
 kp:keepIn K (.ref C)=true
end
section
variable{f:Addr}{ks:List Str}{E:XK}{m:Str}{apos kpos:Pos}{o:Expr}{kws:List Keyword}{t tk:TA}{nm:Option Str}
structure KBinds(K:PySem.W.Frag)(fd:FuncData)(ps ks:List Str)(g:List Value->List Value->List Value)(gV:List V->List V->List V):Prop where
 to:∀(s:Shared)(us ws:List Value),K.In s.heap->(g us ws).length=ps.length->BindsTo s fd ⟨us,ks.zip ws⟩ (ps.zip (g us ws))
 rel:∀{vs:List V}{us:List Value}{zs:List V}{ws:List Value},Vals vs us->Vals zs ws->Vals (gV vs zs) (g us ws)
variable{g:List Value->List Value->List Value}{gV:List V->List V->List V}
end
structure FnScope(N P:List Str)(sc:Scope):Prop where
 kind:sc.kind=.function
 co:sc.isCoroutine=false
 gen:sc.isGenerator=false
 nd:N.Nodup
 pre:N.take P.length=P
 par:∀x∈P,sc.names.lookup x=some .local\/sc.names.lookup x=some .cell
 nofree:∀y∈sc.names,y.2≠.free
theorem x0e{kindOf:Str->Option NameKind}:∀{binds:List (Str×Value)}{m:Str->Option Value},(∀v,(x,v)∉binds)->bindL kindOf binds m x=m x
 |[],_,_=>rfl
 |(n,v)::r,m,h=>by
  unfold bindL;rw[x0e fun w hw=>h w (w0k _ hw)]
  split
  ·have:x≠n:=by rintro rfl;exact h v w0n
   simp[this]
  ·rfl
theorem x0f{kindOf:Str->Option NameKind}:∀{binds:List (Str×Value)}{m:Str->Option Value},(∀v,(x,v)∉binds)->bindC kindOf binds m x=m x
 |[],_,_=>rfl
 |(n,v)::r,m,h=>by
  unfold bindC;rw[x0f fun w hw=>h w (w0k _ hw)]
  split
  ·rfl
  ·have:x≠n:=by rintro rfl;exact h v w0n
   simp[this]
theorem x0g{kindOf:Str->Option NameKind}{x:Str}{v:Value}:∀{P:List Str}{vs:List Value}{i:Nat}{m:Str->Option Value},P.Nodup->P[i]?=some x->vs[i]?=some v->kindOf x=some .local ->
  bindL kindOf (P.zip vs) m x=some v
 |[],_,_,_,_,h,_,_=>by simp at h
 |_::_,[],_,_,_,_,h,_=>by simp at h
 |p::P,w::vs,0,m,nd,h1,h2,hk=>by
  simp at h1 h2;subst h1;subst h2;show bindL kindOf ((p,w)::P.zip vs) m p=_;unfold bindL;rw[x0e fun v hv=>(w1v.mp nd).1 (w3t hv).1,if_pos hk]
  simp
 |p::P,w::vs,i+1,m,nd,h1,h2,hk=>by
  show bindL kindOf ((p,w)::P.zip vs) m x=_;unfold bindL;exact x0g (i:=i) (w1v.mp nd).2 (by simpa using h1) (by simpa using h2) hk
theorem x0h{kindOf:Str->Option NameKind}{x:Str}{v:Value}:∀{P:List Str}{vs:List Value}{i:Nat}{m:Str->Option Value},P.Nodup->P[i]?=some x->vs[i]?=some v->kindOf x≠some .local ->
  bindC kindOf (P.zip vs) m x=some v
 |[],_,_,_,_,h,_,_=>by simp at h
 |_::_,[],_,_,_,_,h,_=>by simp at h
 |p::P,w::vs,0,m,nd,h1,h2,hk=>by
  simp at h1 h2;subst h1;subst h2;show bindC kindOf ((p,w)::P.zip vs) m p=_;unfold bindC;rw[x0f fun v hv=>(w1v.mp nd).1 (w3t hv).1,if_neg hk]
  simp
 |p::P,w::vs,i+1,m,nd,h1,h2,hk=>by
  show bindC kindOf ((p,w)::P.zip vs) m x=_;unfold bindC;exact x0h (i:=i) (w1v.mp nd).2 (by simpa using h1) (by simpa using h2) hk
noncomputable def start(N:List Str)(vs:List V):St:=vs.map some++List.replicate (N.length-vs.length) none
noncomputable def cxOf(CX:CXT)(P:Program)(w:World)(K:PySem.W.Frag)(mg:Str->Option Value)(base:Heap)(N:List Str)(qual:Str)(scope:Scope)(f:Addr)(cd:Value)(A:Around)(outer:List Env)(s:Shared)(H:Hp)(E:XK):Cx where
 prog:=P
 w:=w
 K:=K
 mg:=mg
 base:=base
 A:=A.deeper (envOfC qual scope s.heap.objs.size f cd)
 N:=N
 s₀:=s
 H₀:=H
 env:=envOfC qual scope s.heap.objs.size f cd
 outer:=outer
 stack:=envOfC qual scope s.heap.objs.size f cd::outer
 ex:=[]
 calm:=true
 fn:=fun _=>true
 pn:=[]
 xe:=fun e s'=>wpAny (model P w) (A.deeper (envOfC qual scope s.heap.objs.size f cd)) (leaving (envOfC qual scope s.heap.objs.size f cd) e) (fun _ s''=>CX outer H s E e s'') (fun e' s''=>CX outer H s E e' s'') s'
theorem x12{sc:Scope}{n:Nat}(h:sc.names.lookup x=some .cell):∃c,(cellsFrom n sc.names []).lookup x=some c:=by
 have q:=PySem.W.cellsFrom_some sc.names n [] (.inl h);exact w3f.mp q
theorem x6r{base:Heap}{qual:Str}{scope:Scope}{f:Addr}{cd:Value}{outer:List Env}{s1:Shared}{E:XK}{vs:List V}
  (S:FnScope N ps scope)(hd:A.handled=none)(e0:Env0 P w K mg base A outer s H)(hl:vs.length=ps.length)(r:Vals vs us)
  (x:InCallC s s.heap.objs.size (bindL (envOfC qual scope s.heap.objs.size f cd).kindOf (ps.zip us) fun _=>none) (cellsFrom (s.heap.objs.size+1) scope.names []) (bindC (envOfC qual scope s.heap.objs.size f cd).kindOf (ps.zip us) fun _=>none) s1):
  Inv (cxOf CX P w K mg base N qual scope f cd A outer s H E) [] (start N vs) H s1:=by
 have hpl:ps.length<=N.length:=by have:=congrArg List.length S.pre;rw[w2c]at this;omega
 obtain⟨h1,tk,rfl,hk⟩:=x.done;have noA:∀b:Addr,b∉(cxOf CX P w K mg base N qual scope f cd A outer s H E).ex:=fun b z=>absurd (show b∈([]:List Addr)from z) (by simp)
 refine⟨⟨e0.mod,S.kind,rfl,rfl,w0f _,fun y z c h1 h2=>?_,fun y hy=>?_,fun y c _ h=>?_,fun _=>hd,Around.frames_deeper e0.frames,.inr ⟨rfl,rfl⟩,fun b z=>absurd z (noA b),e0.bs,e0.bsz,fun b _ _=>noA b,fun b z=>absurd z (noA b),e0.funs,e0.frf,e0.tab⟩,
  rfl,e0.bare,Un.kept hk,⟨_,x.toInCall.ns,fun i y v h1 h2 h3=>?_⟩,fun y c h=>⟨_,x.cell y c h⟩,e0.hok.fresh (w0f _),fun y c h=>?_,fun p hp=>absurd (show p∈([]:List (Addr×Obj))from hp) (by simp),e0.hok.kept hk,?_⟩
 ·exact name_of_addr x.apart (PySem.mem_of_lookup h1) (PySem.mem_of_lookup h2)
 ·have hy:scope.names.lookup y=some .cell\/scope.names.lookup y=some .free:=hy;rcases hy with hy|hy
  ·exact x12 hy
  ·exact absurd rfl (S.nofree _ (PySem.mem_of_lookup hy))
 ·exact w4p (x.above y c (PySem.mem_of_lookup h))
 ·have hi:i<vs.length:=by
   unfold start at h2
   by_cases hi:i<vs.length
   ·exact hi
   ·rw[w2f (by simpa using hi)]at h2;rw[w2n]at h2;split at h2<;>cases h2
  have ha:vs[i]?=some v:=by
   unfold start at h2;rw[w1z (by simpa using hi),w0g]at h2;cases e:vs[i]? with
   |none=>rw[e]at h2;cases h2
   |some a=>rw[e]at h2;cases h2;rfl
  obtain⟨u,hu,rv⟩:=r.get ha
  have hp:ps[i]?=some y:=by
   rw[<- S.pre,List.getElem?_take_of_lt (by omega)];exact h1
  have ndP:ps.Nodup:=by rw[<- S.pre];exact S.nd.sublist (List.take_sublist _ _)
  refine⟨u,rv,?_⟩;rcases S.par y (w0l hp)with k|k
  ·exact .inl ⟨k,x0g ndP hp hu k⟩
  ·obtain⟨c,e⟩:=x12 (n:=s.heap.objs.size+1) k;refine .inr ⟨.inl k,c,e,?_⟩;have q:=x.cell y c e;rw[x0h ndP hp hu (by show scope.names.lookup y≠_;rw[k];decide)]at q;exact q
 ·exact e0.hok.fresh (w4p (x.above y c (PySem.mem_of_lookup h)))
 ·unfold start;show _=N.length;rw[w0x,w0a,w2r];omega
theorem y2n{base:Heap}{f:Addr}{name qual:Str}{params:Arguments}{body:List Stmt}{scope:Scope}{dV kV doc pm cdv ct oc:Value}{an od:Option Addr}
  {osl:Array (Option Value)}(lk:K.lookup f=some ⟨oc,od,.func (PySem.W.fnOf name qual params body scope dV kV doc pm an cdv ct),osl⟩)(hcd:PySem.W.codeIn K cdv qual=true)(S:FnScope N ps scope)
  (len:∀vs H Q E,sp vs H Q E->vs.length=ps.length)
  (hbody:∀(A:Around)(outer:List Env)(s:Shared)(H:Hp)(vs:List V)(Q:VK)(E:XK),Room k (A.deeper (envOfC qual scope s.heap.objs.size f cdv))->sp vs H Q E ->
   ∃t,PSs (cxOf CX P w K mg base N qual scope f cdv A outer s H E) body t/\t {nx:=fun _ H'=>Q .non H',rt:=Q} (start N vs) H):
  FnOk P w K mg base CX (k+1) f (PySem.W.fnOf name qual params body scope dV kV doc pm an cdv ct) ps sp:=by
 refine⟨len,fun A outer s H args us vs Q E hr e0 hb r hsp=>?_⟩
 have hl:=len _ _ _ _ hsp;have KX:K.In s.heap:=e0.mod.kin.keeps fun b o e=>(e0.bs b o e).1
 have lim:s.heap.NoLimit:=e0.mod.nolimit.keeps fun b o e=>(e0.bs b o e).1
 have hkind:∀y∈ps.zip us,scope.names.lookup y.1=some .local\/(scope.names.lookup y.1=some .cell/\((cellsFrom (s.heap.objs.size+1) scope.names []).lookup y.1).isSome=true):=fun⟨n,v⟩ hy=>by
  rcases S.par n (w3t hy).1 with q|q
  ·exact .inl q
  ·exact .inr ⟨q,PySem.W.cellsFrom_some _ _ _ (.inl q)⟩
 refine codeAny_call_function hr.depth (KX _ _ lk) rfl S.co S.gen rfl (PySem.W.codeRec_of KX hcd) (hb _ _ _ _ ?_)
 refine wpAny_newFunctionEnv_cells S.kind hkind fun env he s1 x=>?_
 subst he;refine⟨lim.keeps x.toInCall.keep,codeAny_func ?_⟩
 obtain⟨t,ht,hq⟩:=hbody A outer s H vs Q E (hr.deeper _) hsp;have I:Inv (cxOf CX P w K mg base N qual scope f cdv A outer s H E) [] (start N vs) H s1:=x6r S hr.hd e0 hl r x;refine wpAny_mono (ht [] s1 (start N vs) H _ I hq) (fun fl s' hs=>?_) fun e s' hs=>hs
 have fin:∀{σ':St}{H':Hp}{v:V}{u:Value},Inv (cxOf CX P w K mg base N qual scope f cdv A outer s H E) [] σ' H' s'->RelV v u->Q v H'->CE outer P w H s Q u s':=
  fun {σ' H' v u} J rv q=>⟨v,H',J.os,J.bare,J.base,J.hok,rv,q⟩
 cases fl with
 |ret u=>
  obtain⟨v,σ',H',J,rv,q⟩:=hs;exact fin J rv q
 |next=>
  obtain⟨σ',H',J,q⟩:=hs;exact fin (v:=V.non) (u:=Value.none) J rfl q
 |brk=>
  obtain⟨_,_,_,q⟩:=hs;exact False.elim q
 |cont=>
  obtain⟨_,_,_,q⟩:=hs;exact False.elim q
section
variable{t:TA}{id T:String}{r:List V->Hp->VK->Prop}
def tCB(r:List V->Hp->VK->Prop)(t:TA):TE:=fun σ H Q=>t σ H fun vs H1=>r vs H1 Q
theorem q52(hc:CallR X (.builtin id) r)(hg:Gl X x)(hm:X.mg x=none)(hv:bootBuiltins x=some (.builtin id))(ha:PA X (e::es) t)(hn:x≠"__name__":=by decide)(hdb:(x==("__debug__":Str))=false:=by decide)
  (he:starEach (e::es) X.env=(false,eval e X.env)::starEach es X.env:=by rfl)(hpl:(backTo pos (starEach es X.env)).any (·.1)=false:=by rfl):PE X (.Call (.Name x p) (e::es) [] pos) (tCB r t):=by
 intro pins s σ H Q I h;refine wpAny_Call_Name_kw (q4w I hg hm hv ?_ hn hdb);exact PyProof.Rows.callWith_builtin1 (thn (ha pos pins s σ H _ I h) fun us s1 ⟨vs,H1,I1,r1,q1⟩=>hc pins s1 σ H1 vs us Q I1 r1 q1) he hpl
theorem x0i(hc:CallR X (.type T) r)(hg:Gl X x)(hm:X.mg x=none)(hv:bootBuiltins x=some (.type T))(ha:PA X (e::es) t)(hn:x≠"__name__":=by decide)(hdb:(x==("__debug__":Str))=false:=by decide)
  (he:starEach (e::es) X.env=(false,eval e X.env)::starEach es X.env:=by rfl)(hpl:(backTo pos (starEach es X.env)).any (·.1)=false:=by rfl):PE X (.Call (.Name x p) (e::es) [] pos) (tCB r t):=by
 intro pins s σ H Q I h;refine wpAny_Call_Name_kw (q4w I hg hm hv ?_ hn hdb);exact PyProof.Rows.callWith_type1 (thn (ha pos pins s σ H _ I h) fun us s1 ⟨vs,H1,I1,r1,q1⟩=>hc pins s1 σ H1 vs us Q I1 r1 q1) he hpl
end
end L2
namespace HT
open PySem PyProof.Rows
section
variable{prog:Program}{w:World}{A:Around}{E:Value->Shared->Prop}{s:Shared}
theorem cat_tup{t b:Addr}{vs ws:List Value}{Q:Value->Shared->Prop}(ht:IsTup s.heap t vs.toArray)(hb:IsTup s.heap b ws.toArray)(hv:vs≠[])
  (h1:ws=[]->Q (.ref t) s)(h2:ws≠[]->Q (.ref s.heap.objs.size) {s with heap:=s.heap.push {cls:=.type "tuple", data:=.seq (vs++ws).toArray}})
  (hsz:vs.length+ws.length<=sizeLine):wpAny (model prog w) A (binaryOp .Add (.ref t) (.ref b)) Q E s:=by
 obtain⟨⟨cls,dd,data,sl⟩,ho,hc,n,hd⟩:=id ht;obtain⟨⟨cls2,dd2,data2,sl2⟩,ho2,hc2,n2,hd2⟩:=id hb;simp only at hc hd hc2 hd2;subst hc hd hc2 hd2;have e:vs.toArray++ws.toArray=(vs++ws).toArray:=by simp
 by_cases hw:ws=[]
 ·exact concat_meets ⟨_,ho,rfl⟩ ⟨_,ho2,rfl⟩ noFill_tuple_add seq_tuple_add PySem.F.slot_tuple_add PySem.F.entry_tuple_add (PySem.F.args_tuple_add_2 _ _)
   (tuple_addW1 t b vs.toArray ws.toArray n n2 dd dd2 sl sl2 (by simpa using hv) (by simp[hw])) ⟨ho,ho2,h1 hw⟩
 ·refine concat_meets ⟨_,ho,rfl⟩ ⟨_,ho2,rfl⟩ noFill_tuple_add seq_tuple_add PySem.F.slot_tuple_add PySem.F.entry_tuple_add (PySem.F.args_tuple_add_2 _ _)
   (tuple_addW2 t b vs.toArray ws.toArray n n2 dd dd2 sl sl2 (by simpa using hv) (by simpa using hw) (by rw[w0e,w0e];exact hsz)) ⟨ho,ho2,?_⟩
  rw[e];exact h2 hw
noncomputable def sIx(n d:Nat):Option Int->Nat
 |none=>d
 |some v=>if v<0 then(v+(n:Int)).toNat else min v.toNat n
theorem y7e(n d:Nat)(hd:d<=n)(o:Option Int):sIx n d o<=n:=by
 cases o with
 |none=>exact hd
 |some v=>
  show(if v<0 then(v+(n:Int)).toNat else min v.toNat n)<=n
  by_cases hv:v<0
  ·rw[if_pos hv];omega
  ·rw[if_neg hv];exact w3l _ _
theorem x34(v:Int)(n d:Nat):(if v<0 then max (v+(n:Int)) 0 else min v (n:Int))=((sIx n d (some v):Nat):Int):=by
 show(if v<0 then max (v+(n:Int)) 0 else min v (n:Int))=(((if v<0 then(v+(n:Int)).toNat else min v.toNat n):Nat):Int)
 by_cases hv:v<0
 ·simp only[if_pos hv];omega
 ·simp only[if_neg hv];omega
theorem x5b(lo hi:Option Int)(n:Nat):Builtin.Slice.sliceAdjust lo hi 1 (n:Int)=(((sIx n 0 lo:Nat):Int),((sIx n n hi:Nat):Int)):=by
 have h1:¬((1:Int)<0):=by omega
 unfold Builtin.Slice.sliceAdjust;simp only[h1,if_false];refine Prod.ext ?_ ?_
 ·cases lo with
  |none=>rfl
  |some v=>exact x34 v n 0
 ·cases hi with
  |none=>rfl
  |some v=>exact x34 v n n
theorem x5c(i j:Nat):Builtin.Slice.slicePlaces (i:Int) (j:Int) 1=j-i:=by
 unfold Builtin.Slice.slicePlaces;have h1:(1:Int)>0:=by omega
 simp only[h1,if_true,Int.ediv_one];split<;>omega
theorem q8u{v:Value}{o:Option Int}{Q:Option Int->Shared->Prop}(p:IsPart v o)(h:Q o s):wpAny (model prog w) A (Builtin.Slice.slicePartIndex v) Q E s:=by
 cases p with
 |none=>exact slicePart_none h
 |int i t=>exact slicePart_int h
theorem q4x{sl:Addr}{vl vu:Value}{lo hi:Option Int}{n:Nat}{Q:Int×Int×Nat->Shared->Prop}(hs:s.heap.IsSliceOf sl vl vu .none)(pl:IsPart vl lo)(pu:IsPart vu hi)
  (h:Q (((sIx n 0 lo:Nat):Int),1,sIx n n hi-sIx n 0 lo) s):wpAny (model prog w) A (Builtin.Slice.sliceApplied (.ref sl) (pure (n:Int))) Q E s:=by
 obtain⟨os,hos,hcs,hds⟩:=id hs;unfold Builtin.Slice.sliceApplied Builtin.Slice.sliceFields;refine wpAny_bind (wpAny_bind (wpAny_field hos hds (x:=vl) rfl (wpAny_bind (wpAny_field hos hds (x:=vu) rfl (wpAny_bind (wpAny_field hos hds (x:=.none) rfl (wpAny_pure ?_)))))));refine wpAny_bind (slicePart_none ?_);show wpAny _ _ (if((1:Int)==0)=true then _ else _) _ _ s;rw[if_neg (by decide)];refine wpAny_bind (q8u pl (wpAny_bind (q8u pu (wpAny_bind (wpAny_pure ?_)))));show wpAny _ _ (match Builtin.Slice.sliceAdjust lo hi 1 (n:Int)with|(lo,hi)=>pure (lo,(1:Int),Builtin.Slice.slicePlaces lo hi 1)) _ _ s;rw[x5b lo hi n];show wpAny _ _ (pure (((sIx n 0 lo:Nat):Int),(1:Int),Builtin.Slice.slicePlaces ((sIx n 0 lo:Nat):Int) ((sIx n n hi:Nat):Int) 1)) _ _ s;rw[x5c];exact wpAny_pure h
theorem x9n(xs:Array Value)(i k:Nat):((List.range k).filterMap fun(m:Nat)=>xs[((i:Int)+(m:Int)*1).toNat]?).toArray=((xs.toList.drop i).take k).toArray:=by
 have e:(fun(m:Nat)=>xs[((i:Int)+(m:Int)*1).toNat]?)=fun m=>xs[i+m]?:=by
  funext m
  have:((i:Int)+(m:Int)*1).toNat=i+m:=by omega
  rw[this]
 rw[e];have:=pick_run xs i k;rw[w4h]at this;have e2:((fun x=>xs[x]?) ∘ fun x=>i+x)=fun m=>xs[i+m]?:=rfl
 rw[e2]at this;rw[this]
theorem getItem_tuple_cut{t sl:Addr}{items:Array Value}{vl vu:Value}{lo hi:Option Int}{Q:Value->Shared->Prop}(ht:IsTup s.heap t items)(hs:s.heap.IsSliceOf sl vl vu .none)(pl:IsPart vl lo)(pu:IsPart vu hi)
  (hw:¬(sIx items.size 0 lo=0/\sIx items.size items.size hi=items.size))
  (h:Q (.ref s.heap.objs.size) {s with heap:=s.heap.push {cls:=.type "tuple", data:=.seq ((items.toList.drop (sIx items.size 0 lo)).take (sIx items.size items.size hi-sIx items.size 0 lo)).toArray}})
  (hsz:items.size<=sizeLine):wpAny (model prog w) A (getItem (.ref t) (.ref sl)) Q E s:=by
 have htake:sizeOk (.seq ((items.toList.drop (sIx items.size 0 lo)).take (sIx items.size items.size hi-sIx items.size 0 lo)).toArray):=by
  show((items.toList.drop (sIx items.size 0 lo)).take (sIx items.size items.size hi-sIx items.size 0 lo)).toArray.size<=sizeLine;rw[w0e,w2c,w3m,w2i];exact w0r (w3l _ _) (w0r (Nat.sub_le _ _) hsz)
 have hj:sIx items.size items.size hi<=items.size:=y7e _ _ (w0f _) hi;obtain⟨os,hos,hcs,hds⟩:=id hs;have hTs:s.TypeIs (.ref sl) "slice":=⟨os,hos,hcs⟩;unfold getItem;try with_reducible refine wpAny_holding ?_
 first|refine wpAny_bind (wpAny_pure ?_)|skip
 refine wpAny_bind (wpAny_sequenceKey ht.typeIs (by decide) ?_)
 refine wpAny_bind (wpAny_callSpecial?_slot (name:=Str.ofString "__getitem__") ht.typeIs PyProof.Rows.slot_tuple_getitem
  (wpAny_call_entry PyProof.Rows.slot_tuple_getitem ht.typeIs entry_tuple_getitem ?_ (args_tuple_getitem _ _)))
 show wpAny _ _ (Builtin.Tuple.tupleItemsOf (.ref t) >>= _) _ _ s;refine wpAny_bind (tupleItemsOf_ ht ?_);refine wpAny_bind (wpAny_typeOf hTs ?_);rw[if_pos (by decide)];refine wpAny_bind (q4x hs pl pu ?_)
 have hno:¬((((sIx items.size 0 lo:Nat):Int)==0&&(1:Int)==1&&(sIx items.size items.size hi-sIx items.size 0 lo)==items.size)=true):=by
  intro q;rw[w1b,w1b]at q;have q1:((sIx items.size 0 lo:Nat):Int)=0:=eq_of_beq q.1.1;have q2:sIx items.size items.size hi-sIx items.size 0 lo=items.size:=eq_of_beq q.2;exact hw ⟨by omega,by omega⟩
 show wpAny _ _ (if(((sIx items.size 0 lo:Nat):Int)==0&&(1:Int)==1&&(sIx items.size items.size hi-sIx items.size 0 lo)==items.size)=true then _ else _) _ _ s;rw[if_neg hno,x9n]
 first
  |exact wpAny_bind (m:=Builtin.Tuple.tupleExact _) (wpAny_newObj_type (wpAny_pure ⟨_,rfl,wpAny_pure h⟩) htake)
  |exact wpAny_bind (m:=Builtin.Tuple.tupleExact _) (wpAny_newObj_type (wpAny_bind (wpAny_pure (wpAny_pure ⟨_,rfl,wpAny_pure h⟩))) htake)
  |exact wpAny_bind (wpAny_bind (m:=Builtin.Tuple.tupleExact _) (wpAny_newObj_type (wpAny_pure (wpAny_pure ⟨_,rfl,wpAny_pure h⟩)) htake))
  |exact wpAny_bind (wpAny_bind (m:=Builtin.Tuple.tupleExact _) (wpAny_newObj_type (wpAny_pure ⟨_,rfl,wpAny_pure h⟩) htake))
end
end HT
namespace L2
open PySem PySem.Spec PyProof.Rows
variable{X:Cx}{H:Hp}{pins:List (Addr×Obj)}{xs:List V}{its us:List Value}{n:Nat}{s:Shared}{σ:St}{α:Type}
abbrev TO:=St->Hp->(Option Int->Hp->Prop)->Prop
def PO(X:Cx)(e:Option Expr)(t:TO):Prop:=
 ∀(pins:List (Addr×Obj))(s:Shared)(σ:St)(H:Hp)(Q:Option Int->Hp->Prop),Inv X pins σ H s->t σ H Q ->
  wpAny (model X.prog X.w) X.A (evalPart e X.env) (fun u s'=>∃o H',Inv X pins σ H' s'/\IsPart u o/\Q o H') X.xe s
def tNoPart:TO:=fun _ H Q=>Q none H
def tPart(t:TE):TO:=fun σ H Q=>t σ H fun x H1=>∃i,x=.int i/\Q (some i) H1
section
variable{e:Expr}{te:TE}{lo hi:Option Expr}{tl th:TO}{pos p2:Pos}
theorem y3b:PO X none tNoPart:=by
 intro pins s σ H Q I h;rw[evalPart_none];exact wpAny_pure ⟨none,H,I,.none,h⟩
theorem y3c(h:PE X e te):PO X (some e) (tPart te):=by
 intro pins s σ H Q I hw;rw[evalPart_some];refine thn (h pins s σ H _ I hw) fun u s1 ⟨x,H1,I1,r1,q1⟩=>?_
 obtain⟨i,rfl,q⟩:=q1;obtain⟨t,rfl⟩:=r1;exact⟨some i,H1,I1,.int i t,q⟩
def SlR(X:Cx)(r:V->Option Int->Option Int->Hp->VK->Prop):Prop:=
 ∀(pins:List (Addr×Obj))(s:Shared)(σ:St)(H:Hp)(x:V)(v vl vu:Value)(lo hi:Option Int)(sl:Addr)(Q:VK),Inv X pins σ H s->RelV x v->s.heap.IsSliceOf sl vl vu .none->IsPart vl lo->IsPart vu hi->r x lo hi H Q ->
  ∃T id,typeLookup (.type T) "__getitem__"=pure (some (.builtin id))/\s.TypeIs v T/\wpAny (model X.prog X.w) X.A (getItem v (.ref sl)) (EP X pins σ Q) X.xe s
theorem SlR.or{r r':V->Option Int->Option Int->Hp->VK->Prop}(h:SlR X r)(h':SlR X r'):SlR X (fun x lo hi H Q=>r x lo hi H Q\/r' x lo hi H Q):=by
 intro pins s σ H x v vl vu lo hi sl Q I rx hs pl pu q;rcases q with q|q
 ·exact h pins s σ H x v vl vu lo hi sl Q I rx hs pl pu q
 ·exact h' pins s σ H x v vl vu lo hi sl Q I rx hs pl pu q
def tSl(r:V->Option Int->Option Int->Hp->VK->Prop)(te:TE)(tl th:TO):TE:=fun σ H Q=>te σ H fun x H1=>tl σ H1 fun l H2=>th σ H2 fun u H3=>r x l u H3 Q
theorem x9o{r:V->Option Int->Option Int->Hp->VK->Prop}(hr:SlR X r)(he:PE X e te)(hl:PO X lo tl)(hu:PO X hi th):PE X (.Subscript e (.Slice lo hi none p2) pos) (tSl r te tl th):=by
 intro pins s σ H Q I h;refine Subscript_ (thn (he pins s σ H _ I h) fun v s1 ⟨x,H1,I1,r1,q1⟩=>?_)
 refine wpAny_Slice (thn (hl pins s1 σ H1 _ I1 q1) fun vl s2 ⟨l,H2,I2,pl,q2⟩=>thn (hu pins s2 σ H2 _ I2 q2) fun vu s3 ⟨u,H3,I3,pu,q3⟩=>?_)
 rw[evalPart_none];refine wpAny_pure ?_;have I4:Inv X pins σ H3 {s3 with heap:=s3.heap.push {cls:=.type "slice", data:=.fields #[vl,vu,.none]}}:=I3.kept (t':=s3.toks) fun b ob q=>Heap.get?_push_of_some _ q
 obtain⟨T,id,hT,ht,hg⟩:=hr pins {s3 with heap:=s3.heap.push {cls:=.type "slice", data:=.fields #[vl,vu,.none]}} σ H3 x v vl vu l u s3.heap.objs.size Q I4 r1 (Heap.IsSliceOf.new ..) pl pu q3;show wpAny (model X.prog X.w) X.A (subscriptTail e (.Slice lo hi none p2) v (.ref s3.heap.objs.size)) (EP X pins σ Q) X.xe {s3 with heap:=s3.heap.push {cls:=.type "slice", data:=.fields #[vl,vu,.none]}};exact tail_any (ops:=[.ref s3.heap.objs.size,v]) ht hT hg (by with_unfolding_all rfl)
noncomputable def cutV(xs:List V)(lo hi:Option Int):List V:=(xs.drop (HT.sIx xs.length 0 lo)).take (HT.sIx xs.length xs.length hi-HT.sIx xs.length 0 lo)
theorem q7z(xs:List V)(lo hi:Option Int):(cutV xs lo hi).length<=xs.length:=by
 unfold cutV;rw[w2c,w3m];exact w0r (w3l _ _) (Nat.sub_le _ _)
def rSlT(K:PySem.W.Frag):V->Option Int->Option Int->Hp->VK->Prop:=fun x lo hi H Q=>∃a xs,x=.ref a/\SqT K H a xs /\
 ¬(HT.sIx xs.length 0 lo=0/\HT.sIx xs.length xs.length hi=xs.length)/\∀p,H p=none->Q (.ref p) (upd H p (.tup (cutV xs lo hi)))
theorem y7f:SlR X (rSlT X.K):=by
 intro pins s σ H x v vl vu lo hi sl Q I rx hs pl pu h;obtain⟨a,xs,rfl,hx,hw,q⟩:=h;cases rx;obtain⟨its,r,ht,hz⟩:=I.tuple hx;have hlen:its.toArray.size=xs.length:=by rw[w0e];exact r.length.symm
 refine⟨"tuple", _,PyProof.Rows.slot_tuple_getitem.lookup,ht.typeIs,?_⟩;refine HT.getItem_tuple_cut ht hs pl pu (by rw[hlen];exact hw) ?_ (by rw[hlen];exact hz);rw[hlen];refine⟨.ref s.heap.objs.size,_,I.laid (t':=s.toks) (o:=.tup (cutV xs lo hi)) (fun b ob q=>Heap.get?_push_of_some _ q) (w0f _) ?_,rfl,q _ (I.hok.fresh (w0f _))⟩
 exact⟨w0r (q7z xs lo hi) hz,_,(r.drop (HT.sIx xs.length 0 lo)).take (HT.sIx xs.length xs.length hi-HT.sIx xs.length 0 lo),IsTup.new _ _,_,Heap.get?_push_size _ rfl,rfl⟩
def rCatT(K:PySem.W.Frag):R2:=fun x y H Q=>∃a b xs ys,x=.ref a/\y=.ref b/\SqT K H a xs/\SqT K H b ys/\xs≠[]/\xs.length+ys.length<=sizeLine /\
 (ys=[]->Q (.ref a) H)/\(ys≠[]->∀p,H p=none->Q (.ref p) (upd H p (.tup (xs++ys))))
theorem Vals.nil_iff(r:Vals xs us):us=[]↔xs=[]:=by
 cases r with
 |nil=>simp
 |cons _ _=>simp
theorem op_catT:OpR X (binaryOp .Add) (rCatT X.K):=by
 intro pins s σ H x y v u Q I rx ry h;obtain⟨a,b,xs,ys,rfl,rfl,ha,hb,hx,hz,q1,q2⟩:=h;cases rx;cases ry;obtain⟨its,r1,p1,_⟩:=I.tuple ha;obtain⟨its2,r2,p2,_⟩:=I.tuple hb;refine HT.cat_tup p1 p2 (fun z=>hx (r1.nil_iff.mp z)) (fun z=>⟨.ref a,H,I,rfl,q1 (r2.nil_iff.mp z)⟩) (fun z=>?_) (by rw[<- r1.length,<- r2.length];exact hz)
 refine⟨.ref s.heap.objs.size,_,I.laid (t':=s.toks) (o:=.tup (xs++ys)) (fun b ob q=>Heap.get?_push_of_some _ q) (w0f _) ?_,rfl,q2 (fun w=>z (r2.nil_iff.mpr w)) _ (I.hok.fresh (w0f _))⟩
 exact⟨by rw[w0x];exact hz,_,r1.append r2,IsTup.new _ _,_,Heap.get?_push_size _ rfl,rfl⟩
end
noncomputable def ixN(n:Nat)(i:Int):Option Nat:=if 0<=i then(if i<n then some i.toNat else none)else if -(n:Int)<=i then some (i+n).toNat else none
noncomputable def atI(xs:List α)(i:Int):Option α:=(ixN xs.length i).bind fun j=>xs[j]?
theorem x35{i:Int}{j:Nat}(h:ixN n i=some j):seqIndex? i n=some j/\j<n/\-(n:Int)<=i/\i<n:=by
 unfold ixN at h
 by_cases h0:0<=i
 ·rw[if_pos h0]at h
  by_cases h1:i<n
  ·rw[if_pos h1]at h;have e:i.toNat=j:=Option.some.inj h;exact⟨by rw[seqIndex_of h0 h1,e],by omega,by omega,h1⟩
  ·rw[if_neg h1]at h;cases h
 ·rw[if_neg h0]at h
  by_cases h1:-(n:Int)<=i
  ·rw[if_pos h1]at h;have e:(i+n).toNat=j:=Option.some.inj h;exact⟨by rw[seqIndex_neg (by omega) h1,e],by omega,h1,by omega⟩
  ·rw[if_neg h1]at h;cases h
theorem q9p{xs:List α}{i:Int}{v:α}(h:atI xs i=some v):∃j,seqIndex? i xs.length=some j/\xs[j]?=some v/\j<xs.length/\-(xs.length:Int)<=i/\i<xs.length:=by
 unfold atI at h;cases e:ixN xs.length i with
 |none=>rw[e]at h;cases h
 |some j=>
  rw[e]at h;obtain⟨h1,h2,h3,h4⟩:=x35 e;exact⟨j,h1,h,h2,h3,h4⟩
theorem q19{xs:List α}{j:Nat}{v:α}(h:xs[j]?=some v):atI xs (j:Int)=some v:=by
 have hj:j<xs.length:=(w0b.mp h).1
 have e:ixN xs.length (j:Int)=some j:=by
  unfold ixN;rw[if_pos (by omega),if_pos (by omega)];simp
 unfold atI;rw[e];exact h
def PlainIx(b:Expr):Prop:=∀o i,subscripted b false o i=operate [o,i] (getItem o i)
def IxR(X:Cx)(r:R2):Prop:=
 ∀(value slice:Expr)(pins:List (Addr×Obj))(s:Shared)(σ:St)(H:Hp)(x y:V)(v u:Value)(Q:VK),Inv X pins σ H s->RelV x v->RelV y u->r x y H Q ->
  subscripted slice false v u=operate [v,u] (getItem v u)->wpAny (model X.prog X.w) X.A (subscriptTail value slice v u) (EP X pins σ Q) X.xe s
def MtR(X:Cx)(id:String)(r:V->List V->Hp->VK->Prop):Prop:=
 ∀(pins:List (Addr×Obj))(s:Shared)(σ:St)(H:Hp)(x:V)(xs:List V)(v:Value)(us:List Value)(Q:VK),Inv X pins σ H s->RelV x v->Vals xs us->r x xs H Q ->
  wpAny (model X.prog X.w) X.A (call (.builtin id) (v::us)) (EP X pins σ Q) X.xe s
section
variable{a b:Expr}{ta tb:TE}{pos:Pos}
theorem IxR.or{r r':R2}(h:IxR X r)(h':IxR X r'):IxR X (fun x y H Q=>r x y H Q\/r' x y H Q):=by
 intro value slice pins s σ H x y v u Q I rx ry q hs;rcases q with q|q
 ·exact h value slice pins s σ H x y v u Q I rx ry q hs
 ·exact h' value slice pins s σ H x y v u Q I rx ry q hs
theorem q8v{r:R2}(hr:IxR X r)(ha:PE X a ta)(hb:PE X b tb)(hs:PlainIx b):PE X (.Subscript a b pos) (tOp r ta tb):=by
 intro pins s σ H Q I h;exact Subscript_ (binT ha hb I h fun v u s2 x y H2 I2 rx ry q=>hr a b pins s2 σ H2 x y v u Q I2 rx ry q (hs _ _))
def rIxL(K:PySem.W.Frag):R2:=fun x y H Q=>∃p xs i v,x=.ref p/\y=.int i/\SqL K H p xs/\atI xs i=some v/\Q v H
def rIxT(K:PySem.W.Frag):R2:=fun x y H Q=>∃p xs i v,x=.ref p/\y=.int i/\SqT K H p xs/\atI xs i=some v/\Q v H
def rIxS:R2:=fun x y H Q=>∃z i c,x=.str z/\y=.int i/\z.length<=sizeLine/\atI z.cps.toList i=some c/\Q (.str ⟨#[c]⟩) H
theorem ix_list:IxR X (rIxL X.K):=by
 intro value slice pins s σ H x y v u Q I rx ry h hs;obtain⟨p,xs,i,z,rfl,rfl,hq,he,q⟩:=h;cases rx;obtain⟨t,rfl⟩:=ry;obtain⟨its,r,pl,hz⟩:=I.list hq;obtain⟨j,h1,h2,h3,h4,h5⟩:=q9p he;obtain⟨w,ew,rw'⟩:=r.get h2;have hl:=r.length;have hn:=line63;have fin:EP X pins σ Q w s:=⟨z,H,I,rw',q⟩
 by_cases h0:0<=i
 ·have hj:i.toNat=j:=by
   rw[seqIndex_of h0 h5]at h1;exact Option.some.inj h1
  exact item_listR pl.isList h0 (by omega) (by rw[hj];simpa using ew) fin hs
 ·have hj:(i+(its.toArray.size:Int)).toNat=j:=by
   rw[seqIndex_neg (by omega) h4]at h1;rw[w0e,<- hl];exact Option.some.inj h1
  exact subscriptTail_builtinR (x:=w) pl.isList.typeIs slot_list_getitem.lookup
   (wpAny_getItem_list_neg (Q:=fun r s'=>r=w/\EP X pins σ Q r s') pl.isList (by omega) (by rw[w0e]<;>omega) (by omega) (by rw[hj];simpa using ew) ⟨rfl,fin⟩) hs
theorem ix_tup:IxR X (rIxT X.K):=by
 intro value slice pins s σ H x y v u Q I rx ry h hs;obtain⟨p,xs,i,z,rfl,rfl,hq,he,q⟩:=h;cases rx;obtain⟨t,rfl⟩:=ry;obtain⟨its,r,pl,hz⟩:=I.tuple hq;obtain⟨j,h1,h2,h3,h4,h5⟩:=q9p he;obtain⟨w,ew,rw'⟩:=r.get h2;have hl:=r.length;have hn:=line63;have fin:EP X pins σ Q w s:=⟨z,H,I,rw',q⟩
 exact subscriptTail_builtinR (x:=w) pl.typeIs slot_tuple_getitem.lookup
  (getItem_tuple (j:=j) (Q:=fun r s'=>r=w/\EP X pins σ Q r s') pl (by omega) (by omega) (by rw[w0e,<- hl];exact h1) (by simpa using ew) ⟨rfl,fin⟩) hs
theorem y7g:IxR X rIxS:=by
 intro value slice pins s σ H x y v u Q I rx ry h hs;obtain⟨z,i,c,rfl,rfl,hz,he,q⟩:=h;obtain⟨t,rfl⟩:=rx;obtain⟨t',rfl⟩:=ry;obtain⟨j,h1,h2,h3,h4,h5⟩:=q9p he;have hl:z.cps.toList.length=z.length:=by simp[Str.length]
 rw[hl]at h1 h4 h5;have hn:=line63
 exact tail_any (typeIs_str s z t) slot_str_getitem.lookup (getItem_str (c:=c) (by
  have e1:decide (i < -(2^63:Int))=false:=decide_eq_false (by omega);have e2:decide (i>=2^63)=false:=decide_eq_false (by omega);rw[e1,e2,Bool.or_false]) (by rw[h1];simpa using h2) ⟨.str ⟨#[c]⟩,H,I.tok _,⟨_,rfl⟩,q⟩) hs
def rIx(K:PySem.W.Frag):R2:=fun x y H Q=>rIxL K x y H Q\/rIxT K x y H Q\/rIxS x y H Q
theorem x13:IxR X (rIx X.K):=ix_list.or (ix_tup.or y7g)
theorem x5d(its:List Value)(n j:Nat)(u:Value):Obj.mapSeq (·.setIfInBounds j u) {cls:=.type "list", data:=.seq its.toArray n}={cls:=.type "list", data:=.seq (its.set j u).toArray n}:=by
 simp[Obj.mapSeq]
theorem Inv.lst{p:Addr}(I:Inv X pins σ H s)(h:H p=some (.lst xs)):
  ∃(its:List Value)(n:Nat),Vals xs its/\s.heap.get? p=some {cls:=.type "list", data:=.seq its.toArray n}/\xs.length<=sizeLine:=by
 obtain⟨z,its,n,r,e⟩:=I.hok p _ h;exact⟨its,n,r,e,z⟩
theorem Inv.lstUpd{p:Addr}{ys:List V}{its':List Value}{n':Nat}{f:Obj->Obj}(I:Inv X pins σ H s)(h:H p=some (.lst xs))
  (ho:s.heap.get? p=some {cls:=.type "list", data:=.seq its.toArray n})(hf:f {cls:=.type "list", data:=.seq its.toArray n}={cls:=.type "list", data:=.seq its'.toArray n'})(r:Vals ys its')(hz:ys.length<=sizeLine)(t:Nat):
  Inv X pins σ (upd H p (.lst ys)) {s with heap:=s.heap.update p f,toks:=t}:=by
 have e:(s.heap.update p f).get? p=some {cls:=.type "list", data:=.seq its'.toArray n'}:=by
  rw[Heap.get?_update_self f ho (by rw[hf]<;>rfl),hf]
 refine I.write (x:=p) (e:=p) (by rw[h];trivial) (.inl rfl) (fun b u hb q=>(Heap.get?_update_other _ _ (Ne.symm hb)).trans q) ⟨_,e⟩ ?_
 exact⟨hz,its',n',r,e⟩
def rSetL:V->V->V->Hp->(Hp->Prop)->Prop:=fun o i v H Q=>∃p xs k j,o=.ref p/\i=.int k/\H p=some (.lst xs)/\ixN xs.length k=some j/\Q (upd H p (.lst (xs.set j v)))
theorem x9p:PSet X rSetL:=by
 intro pins s σ H o i v ov iv u Q I ro ri rv h;obtain⟨p,xs,k,j,rfl,rfl,hp,hj,q⟩:=h;cases ro;obtain⟨t,rfl⟩:=ri;obtain⟨its,n,r,ho,hz⟩:=I.lst hp;obtain⟨h1,h2,h3,h4⟩:=x35 hj;have hl:=r.length;have hn:=line63
 have I':Inv X pins σ (upd H p (.lst (xs.set j v))) {s with heap:=s.heap.update p (Obj.mapSeq (·.setIfInBounds j u))}:=
  I.lstUpd hp ho (x5d its n j u) (r.set rv j) (by rw[List.length_set];exact hz) s.toks
 by_cases h0:0<=k
 ·have hk:k.toNat=j:=by
   rw[seqIndex_of h0 h4]at h1;exact Option.some.inj h1
  exact PySem.W.ki_setAt ho h0 (by omega) (by rw[w0e,<- hl];exact h4) (by rw[hk];exact⟨_,I',q⟩)
 ·have hk:(k+(its.toArray.size:Int)).toNat=j:=by
   rw[seqIndex_neg (by omega) h3]at h1;rw[w0e,<- hl];exact Option.some.inj h1
  exact PySem.W.ki_setBack ho (by omega) (by rw[w0e,<- hl];exact h3) (by omega) (by rw[hk];exact⟨_,I',q⟩)
theorem x14(lo hi:Option Int)(n:Nat):(sliceBounds lo hi none n).1=((HT.sIx n 0 lo:Nat):Int)/\(sliceBounds lo hi none n).2.1=((HT.sIx n n hi:Nat):Int)/\(sliceBounds lo hi none n).2.2=1:=by
 refine⟨?_,?_,rfl⟩
 ·cases lo with
  |none=>simp[sliceBounds,HT.sIx]
  |some i=>
   simp only[sliceBounds,HT.sIx,Option.getD_none,show(1:Int)>0 by decide,if_true]
   by_cases h:i<0
   ·simp only[h,if_true]<;>omega
   ·simp only[h,if_false]<;>omega
 ·cases hi with
  |none=>simp[sliceBounds,HT.sIx]
  |some i=>
   simp only[sliceBounds,HT.sIx,Option.getD_none,show(1:Int)>0 by decide,if_true]
   by_cases h:i<0
   ·simp only[h,if_true]<;>omega
   ·simp only[h,if_false]<;>omega
theorem x1d(its:List Value)(lo hi:Option Int):slicePick its.toArray lo hi none=((its.drop (HT.sIx its.length 0 lo)).take (HT.sIx its.length its.length hi-HT.sIx its.length 0 lo)).toArray:=by
 obtain⟨h1,h2,h3⟩:=x14 lo hi its.toArray.size;unfold slicePick;rw[h1,h2,h3];simp only[sliceRange_one,pick_run,w0e]<;>rfl
def rSlL(K:PySem.W.Frag):V->Option Int->Option Int->Hp->VK->Prop:=fun x lo hi H Q=>∃a xs,x=.ref a/\SqL K H a xs/\∀p,H p=none->Q (.ref p) (upd H p (.lst (cutV xs lo hi)))
theorem sl_list:SlR X (rSlL X.K):=by
 intro pins s σ H x v vl vu lo hi sl Q I rx hs pl pu h;obtain⟨a,xs,rfl,hx,q⟩:=h;cases rx;obtain⟨its,r,ht,hz⟩:=I.list hx;have hlen:=r.length;refine⟨"list", _,slot_list_getitem.lookup,ht.isList.typeIs,?_⟩;refine wpAny_getItem_list_slice ht.isList hs pl pu .none (by simp) ?_ (by rw[w0e]<;>omega);rw[x1d,<- hlen];refine⟨.ref s.heap.objs.size,_,I.laid (t':=s.toks) (o:=.lst (cutV xs lo hi)) (fun b ob q=>Heap.get?_push_of_some _ q) (w0f _) ?_,rfl,q _ (I.hok.fresh (w0f _))⟩
 exact⟨w0r (q7z xs lo hi) hz,_,0,(r.drop (HT.sIx xs.length 0 lo)).take (HT.sIx xs.length xs.length hi-HT.sIx xs.length 0 lo),Heap.get?_push_size _ rfl⟩
theorem x1e:CallR X (.type "tuple") (fun xs H Q=>∃p ys,xs=[.ref p]/\((SqL X.K H p ys/\∀l,H l=none->Q (.ref l) (upd H l (.tup ys)))\/(SqT X.K H p ys/\Q (.ref p) H))):=by
 intro pins s σ H xs us Q I r h;obtain⟨p,ys,rfl,h⟩:=h;obtain⟨u,rfl,rx⟩:=vals1 r;cases rx;rcases h with⟨hq,q⟩|⟨hq,q⟩
 ·obtain⟨its,r',pl,hz⟩:=I.list hq;have hlen:=r'.length;refine call_tuple_list pl.isList (fun h' kp=>?_) (by simp only[w0e]<;>omega)
  have I1:Inv X pins σ H {s with heap:=h'}:=I.kept (t':=s.toks) kp
  have I2:Inv X pins σ (upd H h'.objs.size (.tup ys)) {s with heap:=h'.push {cls:=.type "tuple", data:=.seq its.toArray}}:=
   I1.laid (t':=s.toks) (fun b o e=>Heap.get?_push_of_some _ e) (w0f _) (show ObjOk X.prog X.w _ _ _ (.tup ys)from⟨hz,its,r',IsTup.new _ _,_,Heap.get?_push_size _ rfl,rfl⟩)
  exact⟨.ref h'.objs.size,_,I2,rfl,q _ (I1.hok.fresh (w0f _))⟩
 ·obtain⟨its,r',pl,hz⟩:=I.tuple hq;exact call_tuple_same pl ⟨.ref p,H,I,rfl,q⟩
def tyV(K:PySem.W.Frag)(T:String)(x:V)(H:Hp):Prop:=match x with
 |.str _=>T="str"
 |.int _=>T="int"
 |.ref p=>(T="list" /\ ∃xs,SqL K H p xs)\/(T="tuple" /\ ∃o,K.lookup p=some o/\o.cls=.type "tuple" /\ o.dict=none) \/
   (T="dict" /\ ((∃kvs,H p=some (.dK kvs))\/∃sh kvs kas,H p=some (.dT sh kvs kas)))\/(T="set" /\ ∃S n,H p=some (.set S n))
 |_=>False
theorem x6s{T:String}{x:V}{v:Value}(I:Inv X pins σ H s)(r:RelV x v)(ty:tyV X.K T x H):
  s.TypeIs v T/\∀a,v=.ref a->∃ob,s.heap.get? a=some ob/\ob.dict=none:=by
 cases x with
 |str z=>
  obtain⟨t,rfl⟩:=r;cases(show T="str" from ty);exact⟨typeIs_str s z t,fun _ e=>nomatch e⟩
 |int i=>
  obtain⟨t,rfl⟩:=r;cases(show T="int" from ty);exact⟨typeIs_int s i t,fun _ e=>nomatch e⟩
 |ref p=>
  cases r;rcases ty with⟨rfl,xs,hq⟩|⟨rfl,o,hk,hc,hd⟩|⟨rfl,hk⟩|⟨rfl,S,n,hk⟩
  ·obtain⟨its,_,pl,_⟩:=I.list hq;refine⟨pl.isList.typeIs,fun a e=>?_⟩
   cases e;obtain⟨o,n,e,c,hd,_⟩:=pl;exact⟨o,e,hd⟩
  ·refine⟨⟨o,I.kIn p o hk,hc⟩,fun a e=>?_⟩
   cases e;exact⟨o,I.kIn _ o hk,hd⟩
  ·have z:∃o,s.heap.get? p=some o/\o.ExactDict:=by
    rcases hk with⟨kvs,hk⟩|⟨sh,kvs,kas,hk⟩
    ·obtain⟨_,_,_,_,o,_,_,e,ex,_⟩:=I.hok p _ hk;exact⟨o,e,ex⟩
    ·obtain⟨_,_,_,_,_,o,_,_,e,ex,_⟩:=I.hok p _ hk;exact⟨o,e,ex⟩
   obtain⟨o,e,ex⟩:=z;refine⟨⟨o,e,ex.1⟩,fun a e2=>?_⟩
   cases e2;exact⟨o,e,ex.2.1⟩
  ·obtain⟨o,_,_,_,e,ex,_⟩:=I.hok p _ hk;refine⟨⟨o,e,ex.1⟩,fun a e2=>?_⟩
   cases e2;exact⟨o,e,ex.2.1⟩
 |_=>exact False.elim ty
def tBM0(K:PySem.W.Frag)(T:String)(r:V->List V->Hp->VK->Prop)(to:TE):TE:=fun σ H Q=>to σ H fun x H1=>tyV K T x H1/\r x [] H1 Q
def tBM(K:PySem.W.Frag)(T:String)(r:V->List V->Hp->VK->Prop)(to:TE)(t:TA):TE:=fun σ H Q=>to σ H fun x H1=>tyV K T x H1/\t σ H1 fun xs H2=>r x xs H2 Q
variable{o e:Expr}{es:List Expr}{to:TE}{t:TA}{name:Str}{apos cpos:Pos}{T id:String}{r:V->List V->Hp->VK->Prop}
theorem x15(pa:PlainAttrs T)(slot:Slot T name id)(hty:typeOf (.builtin id)=pure (.type "method_descriptor"))(hm:MtR X id r)(ho:PE X o to)
  (hbase:attributeBase o name X.env (eval o X.env)=eval o X.env:=by rfl)(hline:(apos.endLine==cpos.line)=true:=by rfl):PE X (.Call (.Attribute o name apos) [] [] cpos) (tBM0 X.K T r to):=by
 intro pins s σ H Q I h;refine wpAny_Call_method0_late hbase hline (thn (ho pins s σ H _ I h) fun v s1 ⟨x,H1,I1,r1,ty,q1⟩=>?_)
 obtain⟨h1,h2⟩:=x6s I1 r1 ty;exact⟨T,id,pa,slot,hty,h1,h2,Calls.callWith_builtin rfl (PySem.evalArgs_none (hm pins s1 σ H1 x [] v [] Q I1 r1 .nil q1))⟩
theorem y2o(pa:PlainAttrs T)(slot:Slot T name id)(hty:typeOf (.builtin id)=pure (.type "method_descriptor"))(hm:MtR X id r)(ho:PE X o to)(ha:PA X (e::es) t)
  (hbase:attributeBase o name X.env (eval o X.env)=eval o X.env:=by rfl)
  (hfew:((backTo cpos (starEach (e::es) X.env)).all (fun x=>!x.1)&&(backToKw cpos (keywordEach [] X.env)).all (fun x=>x.1.isSome)
   && decide ((e::es).length+([]:List Keyword).length+(if([]:List Keyword).isEmpty then 0 else 1)<30))=true:=by rfl)
  (hline:(apos.endLine==cpos.line)=true:=by rfl)(hs:starEach (e::es) X.env=(false,eval e X.env)::starEach es X.env:=by rfl)(hplain:(backTo cpos (starEach es X.env)).any (·.1)=false:=by rfl):
  PE X (.Call (.Attribute o name apos) (e::es) [] cpos) (tBM X.K T r to t):=by
 intro pins s σ H Q I h;refine wpAny_Call_method_late hbase hfew hline rfl (thn (ho pins s σ H _ I h) fun v s1 ⟨x,H1,I1,r1,ty,q1⟩=>?_)
 obtain⟨h1,h2⟩:=x6s I1 r1 ty;refine⟨T,id,pa,slot,hty,h1,h2,?_⟩;have hA:=ha cpos pins s1 σ H1 _ I1 q1;rw[hs]at hA |-
 refine Calls.callWith_builtin (by show(false||(backTo cpos (starEach es X.env)).any (·.1))=false;rw[hplain]<;>rfl) (Calls.evalArgs_plain ?_);exact thn hA fun us s2 ⟨vs,H2,I2,r2,q2⟩=>hm pins s2 σ H2 x vs v us Q I2 r1 r2 q2
/- xs.append(e),list.index on a module's tuple .. are MtR facts of 06m -/
end
def MtM(X:Cx)(id:String)(r:V->List V->Hp->VK->Prop):Prop:=
 ∀(pins:List (Addr×Obj))(s:Shared)(σ:St)(H:Hp)(x:V)(xs:List V)(v:Value)(us:List Value)(Q:VK),Inv X pins σ H s->RelV x v->Vals xs us->r x xs H Q ->
  wpAny (model X.prog X.w) X.A (call (.builtin id) (v::us)) (EP X pins σ Q) X.xe s
theorem Vals.one{x:V}(h:Vals [x] us):∃u,us=[u]/\RelV x u:=vals1 h
theorem Vals.zero:∀{us:List Value},Vals [] us->us=[]
 |_,.nil=>rfl
theorem Vals.reverse(h:Vals xs us):Vals xs.reverse us.reverse:=by
 induction h with
 |nil=>exact .nil
 |cons r t ih=>rw[w1m,w1m];exact Vals.append ih (.cons r .nil)
section
variable{l b:Addr}{ys zs:List V}
theorem Inv.lset{its':List Value}{f:Array Value->Array Value}{t':Nat}(I:Inv X pins σ H s)(hH:H l=some (.lst xs))
  (e:s.heap.get? l=some {cls:=.type "list", data:=.seq its.toArray n})(hf:f its.toArray=its'.toArray)(hv:Vals ys its')(hz:ys.length<=sizeLine):
  Inv X pins σ (upd H l (.lst ys)) {s with heap:=s.heap.update l (Obj.mapSeq f),toks:=t'}:=by
 have q:=PySem.IsL.update e f;rw[hf]at q;refine I.write (x:=l) (e:=l) (by rw[hH];exact trivial) (.inl rfl) (fun b' u hb hu=>(Heap.get?_update_other s.heap (Obj.mapSeq f) (Ne.symm hb)).trans hu) ⟨_,q⟩ ?_
 exact⟨hz,its',_,hv,q⟩
theorem Inv.lnew{t':Nat}(I:Inv X pins σ H s)(hv:Vals ys its)(hz:ys.length<=sizeLine):
  Inv X pins σ (upd H s.heap.objs.size (.lst ys)) {s with heap:=s.heap.push {cls:=.type "list", data:=.seq its.toArray},toks:=t'}:=
 I.laid (fun _ _ q=>Heap.get?_push_of_some _ q) (w0f _) ⟨hz,its,0,hv,Heap.get?_push_size _ rfl⟩
theorem Inv.fresh(I:Inv X pins σ H s):H s.heap.objs.size=none:=I.hok.fresh (w0f _)
theorem Inv.lstM(I:Inv X pins σ H s)(hH:H l=some (.lst xs)):xs.length<=sizeLine/\∃(its:List Value)(n:Nat),Vals xs its/\xs.length=its.length/\s.heap.get? l=some {cls:=.type "list", data:=.seq its.toArray n}:=by
 obtain⟨z,its,n,r,e⟩:=I.hok l _ hH;exact⟨z,its,n,r,r.length,e⟩
end
def rAppend:V->List V->Hp->VK->Prop:=fun x vs H Q=>∃l xs y,x=.ref l/\vs=[y]/\H l=some (.lst xs)/\xs.length<sizeLine/\Q .non (upd H l (.lst (xs++[y])))
theorem x0j:MtM X "list.append" rAppend:=by
 intro pins s σ H x vs v us Q I rx rv h;obtain⟨l,xs,y,rfl,rfl,hH,hz,q⟩:=h;cases rx;obtain⟨u,rfl,ru⟩:=rv.one;obtain⟨z,its,n,r,hl,e⟩:=I.lstM hH;refine call_meets F.slot_list_append ⟨_,e,rfl⟩ F.entry_list_append (F.args_list_append_2 _ _) (PySem.list_append l its.toArray n u (by rw[w0e];omega)) ⟨e,?_⟩;refine⟨.non,_,I.lset (its':=its++[u]) hH e (by simp) (r.append (.cons ru .nil)) ?_,rfl,q⟩;rw[w0x,w3u];omega
def rReverse:V->List V->Hp->VK->Prop:=fun x vs H Q=>∃l xs,x=.ref l/\vs=[]/\H l=some (.lst xs)/\Q .non (upd H l (.lst xs.reverse))
theorem x5e:MtM X "list.reverse" rReverse:=by
 intro pins s σ H x vs v us Q I rx rv h;obtain⟨l,xs,rfl,rfl,hH,q⟩:=h;cases rx;have hus:=rv.zero;subst hus;obtain⟨z,its,n,r,hl,e⟩:=I.lstM hH;refine call_meets F.slot_list_reverse ⟨_,e,rfl⟩ F.entry_list_reverse (F.args_list_reverse_1 _) (AutoSeq1.list_reverse_list_0 l its.toArray n (by rw[w0e];omega)) ⟨e,?_⟩;refine⟨.non,_,I.lset (its':=its.reverse) hH e (by simp) r.reverse ?_,rfl,q⟩;rw[w2j];omega
def rClear:V->List V->Hp->VK->Prop:=fun x vs H Q=>∃l xs,x=.ref l/\vs=[]/\H l=some (.lst xs)/\Q .non (upd H l (.lst []))
theorem x16:MtM X "list.clear" rClear:=by
 intro pins s σ H x vs v us Q I rx rv h;obtain⟨l,xs,rfl,rfl,hH,q⟩:=h;cases rx;have hus:=rv.zero;subst hus;obtain⟨z,its,n,r,hl,e⟩:=I.lstM hH;refine call_meets F.slot_list_clear ⟨_,e,rfl⟩ F.entry_list_clear (F.args_list_clear_1 _) (AutoSeq1.list_clear_list_0 l its.toArray n (by rw[w0e];omega)) ⟨e,?_⟩;exact⟨.non,_,I.lset (its':=[]) (ys:=[]) hH e rfl .nil (w1a _),rfl,q⟩
end L2
namespace Att
open PySem PySem.W PySem.Calls PyProof.Rows
theorem q8w{P:Params}{h:Heap}:∀(ns:List Int)(vs:List Value),WellAll P h vs (ns.map WData.int)->IntsAre vs ns:=by
 intro ns
 induction ns with
 |nil=>
  intro vs w;rw[List.map_nil]at w;cases w;exact .nil
 |cons n ns ih=>
  intro vs w;rw[w0y]at w;cases w with
  |cons a b=>
   cases a;exact .cons _ _ (ih _ b)
theorem x6t{l:OpenLaw}{n:Nat}(hn:l.most=some n){P:Params}{h:Heap}{args:List WData}{vals:List Value}
  (hpre:l.row.toRowW.claim.pre args=true)(hwl:WellAll P h vals args):
  ∃a vs ns,vals=[Value.ref a]/\args=[WData.list (ns.map WData.int)]/\h.get? a=some {cls:=.type "list", data:=.seq vs.toArray}/\IntsAre vs ns/\ns.length<=n:=by
 have hsh:WShape.hasAll [] args [.list .int]=true:=(pre_splitW hpre).1;have hc:l.pre.holds [] {args:=args}=true:=(pre_splitW hpre).2;obtain⟨d,r,rfl,h1,h2⟩:=hasAllW_cons hsh;obtain rfl:=hasAllW_nil h2;obtain⟨xs,rfl,h3⟩:=hasW_list h1;obtain⟨ns,rfl⟩:=items_int h3
 have hlen:ns.length<=n:=by
  unfold OpenLaw.pre at hc
  have h4:(WTm.not (.lt (.lit (.int (n:Int))) (.len (.arg 0)))).holds [] {args:=[.list (ns.map .int)]}=true:=by
   have h4:=(holds_andW hc).1;rw[hn]at h4;exact h4
  have h5:=condW_of h4 (w_not (w_lt w_lit (w_len_list (w_arg rfl))));rw[w0a]at h5;refine Nat.le_of_not_lt fun q=>?_
  have q':(n:Int)<((ns.length:Nat):Int):=by omega
  first
   |(rw[decide_eq_true q']at h5;exact absurd h5 (by decide))
   |(simp at h5;omega)
 cases hwl with
 |cons w1 w2=>
  cases w2;cases w1 with
  |list ho hall=>exact⟨_,_,ns,rfl,rfl,ho,q8w ns _ hall,hlen⟩
theorem x6u(l:OpenLaw)(args:List WData):l.row.toRowW.claim.post args (.bool true) args=true:=
 postW_of (r:=l.row.toRowW) (X:=(true==true))
  (show WShape.has [] (.bool true) .bool=true by first|rfl|decide|simp[WShape.has,WShape.arms,WShape.armsAll])
  (show(WTm.eq .res (.lit (.bool true))).value [] {args:=args,res:=some (.bool true),after:=args}=some (.bool (true==true))from w_eq_bool (w_res rfl) w_lit) rfl
theorem attach_call{l:OpenLaw}{n:Nat}{q:Program}{loose:List Str}{XP:(Str->Option Value)->Heap->Prop}{YP:World->Heap->Prop}{d:DefRec}
  (hn:l.most=some n)(hdf:d.params.defaults=[])
  (call:∀(w:World)(s₀ s₁:Shared)(mg mb:Str->Option Value)(fa:Addr)(o:Obj)(pm cd doc:Value)(a:Addr)(vs:List Value)(ns:List Int),
   Ground q loose [] XP w s₀ mg mb s₁.heap->YP w s₁.heap ->
   s₁.heap.get? fa=some o->o.data=.func (docDef d.name d.params d.body d.scope pm cd doc)->s₁.heap.CodeRec cd d.name->mg d.name=some (.ref fa) ->
   s₁.heap.get? a=some {cls:=.type "list", data:=.seq vs.toArray}->IntsAre vs ns->ns.length<=n->s₁.gens=#[] ->
   codeAny (model l.prog w) callerA (.call (.ref fa) ⟨[.ref a],[]⟩) (fun r s'=>r=.ok (.ret (.bool true))/\OldK s₁.heap s'.heap/\s'.os=s₁.os/\AllBare s'.gens) s₁):
  WalkO q loose XP YP l.row.toRowW d [] (fun f vs=>PySem.call f vs):=by
 intro w s₀ s₁ mg mb G Y fa o pm cd doc dV kV ho hd hcd hD hmg hg args vals as hpre hlay hrd hwl hlo;obtain rfl:dV=.none:=Dflts.none hD hdf;obtain rfl:kV=.none:=Dflts.noKw hD;obtain⟨a,vs,ns,rfl,rfl,hobj,hints,hlen⟩:=x6t hn hpre hwl;refine enter_call (codeAny_mono (call w s₀ s₁ mg mb fa o pm cd doc a vs ns G Y ho (fd_plain hd) hcd hmg hobj hints hlen hg) fun r s' hq=>?_)
 obtain⟨rfl,h2,h3,h4⟩:=hq;exact⟨.inl ⟨.bool true,.bool true,[],rfl,fun _=>rfl,.bool true,x6u l _,fun _=>⟨List.Pairwise.nil,fun _ hm=>(nomatch hm)⟩⟩,h2,h3,h4⟩
section
variable{prog:Program}{w:World}{A:Around}{E:Value->Shared->Prop}{s:Shared}{K:Frag}
noncomputable def ledger(h:Heap)(L d:Addr):List (Addr×Obj):=(List.range h.objs.size).filterMap fun a=>if a=L\/a=d then none else(h.get? a).map fun o=>(a,o)
end
end Att
namespace L2
open PySem PySem.Spec PyProof.Rows
theorem q6u:∀{vs:List Value}{ns:List Int},IntsAre vs ns->Vals (ns.map V.int) vs
 |_,_,.nil=>.nil
 |_,_,.cons n t h=>.cons ⟨t,rfl⟩ (q6u h)
def Only(H:Hp):Prop:=∀b,H b=none\/∃o xs,H b=some (.frz o (.lst xs))
theorem x9q{P:Program}{w:World}{K:PySem.W.Frag}{mg mb:Str->Option Value}{CX:CXT}{k:Nat}{fa a:Addr}{fd:FuncData}{x:Str}{sp:Sp}{s₁:Shared}{vs:List Value}{ns:List Int}
  (KX:K.In s₁.heap)(hns:s₁.heap.Ns mainGlobals mg)(hb:s₁.heap.Ns builtinsNs mb)(hbb:∀x:Str,x≠"__name__"->mb x=bootBuiltins x)(hlim:s₁.heap.NoLimit)(hg:s₁.gens=#[])
  (ha:s₁.heap.get? a=some {cls:=.type "list", data:=.seq vs.toArray})(hi:IntsAre vs ns)(hl:ns.length<=sizeLine)(hr:Room k callerA)
  (F:∀base:Heap,K.In base->base.Ns mainGlobals mg->FnOk P w K mg base CX k fa fd [x] sp)(hbind:∀(s:Shared)(u:Value),BindsTo s fd ⟨[u],[]⟩ [(x,u)])
  (hsp:∀H:Hp,Only H->SqL K H a (ns.map V.int)->sp [.ref a] H (fun v _=>v=.bl true) fun _ _ _=>False)
  (hCX:∀H e s',CX [] H s₁ (fun _ _ _=>False) e s'->False)(hNM:noMark K=true):
  codeAny (model P w) callerA (.call (.ref fa) ⟨[.ref a],[]⟩) (fun r s'=>r=.ok (.ret (.bool true))/\OldK s₁.heap s'.heap/\s'.os=s₁.os/\AllBare s'.gens) s₁:=by
 have rv:=q6u hi;have lenV:=hi.length
 have core:∀H:Hp,Only H->SqL K H a (ns.map V.int)->HOk P w H s₁.heap->(∀b,H b≠none->b=a)->(H a≠none->K.lookup a=none) ->
   codeAny (model P w) callerA (.call (.ref fa) ⟨[.ref a],[]⟩) (fun r s'=>r=.ok (.ret (.bool true))/\OldK s₁.heap s'.heap/\s'.os=s₁.os/\AllBare s'.gens) s₁:=by
  intro H hO hS hok hA hK;have base_of:∀{b:Addr}{o:Obj},s₁.heap.get? b=some o->H b=none->(hidT s₁.heap H).get? b=some o:=fun e n=>x1v e n
  have noA:∀{b:Addr}{o:Obj}{es:Array DictEntry}{ep:Nat},s₁.heap.get? b=some o->o.data=.dict es ep->H b=none:=fun {b o es ep} e d=>by
   cases q:H b with
   |none=>rfl
   |some u=>
    have e':b=a:=hA b (by rw[q];simp);subst e';rw[ha]at e;cases e;have d':Data.seq vs.toArray _=Data.dict es ep:=d;cases d'
  have nsK:∀{b:Addr}{m:Str->Option Value},s₁.heap.Ns b m->(hidT s₁.heap H).Ns b m:=fun {b m} ⟨o,es,ep,e,d,r⟩=>⟨o,es,ep,base_of e (noA e d),d,r⟩
  have hKb:K.In (hidT s₁.heap H):=fun b o e=>base_of (KX b o e) (by
   cases q:H b with
   |none=>rfl
   |some u=>
    have e':b=a:=hA b (by rw[q];simp);subst e';rw[hK (by rw[q];simp)]at e;cases e)
  have hM:Mod K mg (hidT s₁.heap H):=⟨hKb,nsK hns,⟨mb,nsK hb,hbb⟩,let ⟨mc,h1,h2⟩:=hlim;⟨mc,nsK h1,h2⟩⟩;have e0:Env0 P w K mg (hidT s₁.heap H) callerA [] s₁ H:=⟨rfl,hM,fun b o e=>x32 e,Nat.le_of_eq (x0c _ _),trivial,fun b hb=>absurd (show b∈([]:List Addr)from hb) (by simp),hok,.of_eq hg,.vac hNM⟩
  refine codeAny_mono ((F _ hKb (nsK hns)).run callerA [] s₁ H ⟨[.ref a],[]⟩ [.ref a] [.ref a] _ _ hr e0 (hbind s₁ (.ref a)) (.cons rfl .nil) (hsp H hO hS)) fun r s' h=>?_
  cases r with
  |error e=>exact(hCX H e s' h).elim
  |ok fl=>
   cases fl with
   |next=>exact False.elim h
   |brk=>exact False.elim h
   |cont=>exact False.elim h
   |ret u=>
    obtain⟨v,H',os,bare,un,hok',r',q⟩:=h;have q':v=.bl true:=q;subst q';obtain rfl:u=Value.bool true:=r';refine⟨rfl,OldK.of_keep fun b o e=>?_,os,bare⟩
    cases q:H b with
    |none=>exact un.keep b o e q (by intro z;exact absurd (show b∈([]:List Addr)from z) (by simp)) (by simp)
    |some u=>
     rcases hO b with z|⟨ob,xs,z⟩
     ·rw[q]at z;cases z
     ·have z2:=un.frzs b ob _ z;obtain⟨e1,_⟩:=hok b _ z;obtain⟨e2,_⟩:=hok' b _ z2;rw[e]at e1;cases e1;exact e2
 cases hk:K.lookup a with
 |some o=>
  have e:=KX a o hk;rw[ha]at e;cases e;refine core (fun _=>none) (fun _=>.inl rfl) (.inr ⟨_,vs.toArray,_,hk,rfl,rfl,rfl,by rw[w0e,lenV];exact hl,by simpa using rv⟩) (fun b u z=>by have z':(none:Option HO)=some u:=z;cases z') (fun b z=>absurd rfl z) fun z=>absurd rfl z
 |none=>
  refine core (fun b=>if b=a then some (.frz {cls:=.type "list", data:=.seq vs.toArray} (.lst (ns.map V.int)))else none) (fun b=>?_) (.inl (.inr ⟨{cls:=.type "list", data:=.seq vs.toArray},if_pos rfl⟩)) (fun b u z=>?_) (fun b z=>?_) fun _=>hk
  ·by_cases hb:b=a
   ·exact .inr ⟨_,_,if_pos hb⟩
   ·exact .inl (if_neg hb)
  ·by_cases hb:b=a
   ·have z':=(if_pos hb).symm.trans z;cases z';subst hb;exact⟨ha,by rw[w0a];exact hl,vs,_,rv,ha⟩
   ·have z':=(if_neg hb).symm.trans z;cases z'
  ·by_cases hb:b=a
   ·exact hb
   ·exact absurd (if_neg hb) z
noncomputable abbrev KOf{K:PySem.W.Frag}{h:Heap}(_:K.In h):PySem.W.Frag:=K
theorem y3d{l:PySem.W.OpenLaw}{n k:Nat}{q:Program}{loose:List Str}{XP:(Str->Option Value)->Heap->Prop}{YP:World->Heap->Prop}{d:DefRec}{K:Params->PySem.W.Frag}{CX:World->CXT}{sp:World->Sp}{x:Str}
  (hn:l.most=some n)(hn2:n<=sizeLine)(hdf:d.params.defaults=[])(hr:Room k callerA)
  (hY:∀(w:World)(h:Heap),YP w h->(K w.params).In h)
  (F:∀(w:World)(mg:Str->Option Value)(fa:Addr)(h:Heap),(K w.params).In h->h.Ns mainGlobals mg->mg d.name=some (.ref fa) ->
   ∃fd:FuncData,(∀(s:Shared)(u:Value),BindsTo s fd ⟨[u],[]⟩ [(x,u)]) /\
    ∀base:Heap,(K w.params).In base->base.Ns mainGlobals mg->FnOk l.prog w (K w.params) mg base (CX w) k fa fd [x] (sp w))
  (hsp:∀(w:World)(H:Hp)(a:Addr)(ns:List Int),ns.length<=n->Only H->SqL (K w.params) H a (ns.map V.int)->sp w [.ref a] H (fun v _=>v=.bl true) fun _ _ _=>False)
  (hCX:∀(w:World)(H:Hp)(s:Shared)(e:Value)(s':Shared),CX w [] H s (fun _ _ _=>False) e s'->False)(hNM:∀w:World,noMark (K w.params)=true):
  PySem.W.WalkO q loose XP YP l.row.toRowW d [] (fun f vs=>PySem.call f vs):=by
 refine Att.attach_call hn hdf fun w s₀ s₁ mg mb fa o pm cd doc a vs ns G Y ho hd hcd hmg hobj hints hlen hg=>?_
 have KX:=hY w _ Y;obtain⟨fd,hb,hF⟩:=F w mg fa _ KX G.T.g hmg;exact x9q KX G.T.g G.T.b G.T.builtins G.T.nolimit hg hobj hints (w0r hlen hn2) hr hF hb (fun H hO hS=>hsp w H a ns hlen hO hS) (fun H e s'=>hCX w H s₁ e s') (hNM w)
end L2
/- THE LAST THEOREM (shape; LID, My.* are yours):
   My.Adr: a structure of the addresses that your layer names (classes, functions); My.Txt K t: a structure (Prop) of the equations over K;
   My.txt_mk : {K} {implicit addresses ..} (e1 : nsIn K mainGlobals "law" = some (some (.ref f))) (e2 : K.lookup f = some ⟨oc, od, .func (fnOf "law" "law" params body scope dV kV doc pm an cdv ct), sl⟩) (e3 : codeIn K cdv "law" = true) .. : ∃ t, My.Txt K t
set_option maxRecDepth 100000 in
set_option maxHeartbeats 0 in
theorem PySem.Challenge.cw_LID_holds : PySem.Challenge.rw_LID.Holds := by
 w_on; o_law; k_head; (case hw => w_witness2)
 k_fill
 refine L2.y3d (l := PySem.Challenge.rw_LID) (n := 63) (k := 40) (x := "script") (CX := fun w => ..) (sp := fun _ => My.sp_law) rfl (by decide) rfl ⟨rfl, by decide, by decide⟩ (fun w h Y => PySem.W.kIn_of Y) ?F ?S ?C
 case F =>
  intro w mg fa h KX G hmg
  have T : ∃ t, My.Txt (L2.KOf KX) t := by
   dsimp only [L2.KOf]                          -- K must stand as «<heap const> w.params» for k_is;refine' My.txt_mk ?e1 ?e2 ?e3 ..
   (case e1 => PySem.W.k_is)                    -- in the order: a name -> its address -> its object -> its parts
   (case e2 => PySem.W.k_is)
   ..
  obtain ⟨t, T⟩ := T;have e0 := hmg.symm.trans (mg_of KX G T.law);cases e0                                       -- fa is the law's own address;exact ⟨_, fun s u => .of_eq rfl, fun base kb nb => My.law_fn T kb nb⟩     -- if «.of_eq rfl» comes too early: refine' ⟨_, ?b, fun base kb nb => My.law_fn T kb nb⟩; exact fun s u => .of_eq rfl
 case S => exact fun w H a ns hl hO hS => ..
 case C => exact ..
(the tactic k_is has no namespace: write k_is) -/
namespace L2
open PySem PySem.Spec PyProof.Rows
variable{a f:Addr}{X:Cx}{env:Env}{e:Expr}{fd:FuncData}{h:Heap}{H H':Hp}{pins:List (Addr×Obj)}{es ifs:List Expr}{js:List Nat}{N ps:List Str}{k:Nat}{pos:Pos}{P:Program}{K:PySem.W.Frag}{s:Shared}{sp:Sp}{σ:St}{qual x:Str}{mg:Str->Option Value}{te:TE}{v:V}{w:World}
noncomputable def defArgs(s:Stmt):Arguments:=match s with
 |.FunctionDef _ a _ _ _ _ _ _ _ _=>a
 |_=>{posonlyargs:=[],args:=[],vararg:=none,kwonlyargs:=[],kw_defaults:=[],kwarg:=none,defaults:=[]}
noncomputable def defBody(s:Stmt):List Stmt:=match s with
 |.FunctionDef _ _ b _ _ _ _ _ _ _=>b
 |_=>[]
noncomputable def defScope(s:Stmt):Scope:=match s with
 |.FunctionDef _ _ _ _ _ _ sc _ _ _=>sc
 |_=>{kind:=.function,names:=[],isGenerator:=false,isCoroutine:=false}
noncomputable abbrev CX0:CXT:=fun _ _ _ _ _ _=>False
noncomputable abbrev E0:XK:=fun _ _ _=>False
structure Fun(K:PySem.W.Frag)(x qual:Str)(st:Stmt)(f:Addr)(fd:FuncData):Prop where
 ex:∃(oc:Value)(od:Option Addr)(kV doc pm:Value)(an:Option Addr)(cdv ct:Value)(osl:Array (Option Value)),
  fd=PySem.W.fnOf x qual (defArgs st) (defBody st) (defScope st) .none kV doc pm an cdv ct/\K.lookup f=some ⟨oc,od,.func fd,osl⟩/\PySem.W.codeIn K cdv qual=true
 kp:keepIn K (.ref f)=true
section
variable{base:Heap}
theorem Fun.binds{st:Stmt}{ps:List Str}(F:Fun K x qual st f fd)
  (h:∀(kV doc pm:Value)(an:Option Addr)(cdv ct:Value)(us:List Value),us.length=ps.length->bindArgs (PySem.W.fnOf x qual (defArgs st) (defBody st) (defScope st) .none kV doc pm an cdv ct) ⟨us,[]⟩=pure (ps.zip us)):Binds K fd ps []:=by
 obtain⟨oc,od,kV,doc,pm,an,cdv,ct,osl,rfl,lk,hcd⟩:=F.ex;exact .all (h kV doc pm an cdv ct)
theorem q0l{st:Stmt}{oc:Value}{od an:Option Addr}{osl:Array (Option Value)}{kV doc pm cdv ct:Value}(l:K.lookup f=some ⟨oc,od,.func (PySem.W.fnOf x qual (defArgs st) (defBody st) (defScope st) .none kV doc pm an cdv ct),osl⟩)
  (c:PySem.W.codeIn K cdv qual=true)(k:keepIn K (.ref f)=true):Fun K x qual st f (PySem.W.fnOf x qual (defArgs st) (defBody st) (defScope st) .none kV doc pm an cdv ct):=⟨⟨oc,od,kV,doc,pm,an,cdv,ct,osl,rfl,l,c⟩,k⟩
end
theorem pv(i:Nat)(hN:X.N[i]?=some x:=by rfl)(hv:Vis X.env.scope x:=by walk_at "1")(hd:(x==("__debug__":Str))=false:=by decide)
  (hcd:(x==("__classdict__":Str))=false:=by decide):PE X (.Name x pos) (tVar i):=y6y hN hv hd hcd
def Same(H H':Hp):Prop:=∀b o,H b=some o->H' b=some o
theorem Same.refl(H:Hp):Same H H:=fun _ _ h=>h
theorem Same.trans{H1 H2:Hp}(a:Same H H1)(b:Same H1 H2):Same H H2:=fun c o h=>b c o (a c o h)
theorem Same.free(e:Same H H'){l:Addr}(h:H' l=Option.none):H l=Option.none:=by
 cases q:H l with
 |none=>rfl
 |some o=>
  rw[e l o q]at h;cases h
theorem Same.seq{xs:List V}(e:Same H H')(h:SqL K H a xs):SqL K H' a xs:=by
 rcases h with(h|⟨o,h⟩)|h
 ·exact .inl (.inl (e _ _ h))
 ·exact .inl (.inr ⟨o,e _ _ h⟩)
 ·exact .inr h
set_option maxHeartbeats 4000000
theorem ObjOk.get{o:HO}(x:ObjOk P w H h a o):∃ob,h.get? a=some ob:=by
 cases o with
 |lst xs=>obtain⟨_,_,_,_,e⟩:=x;exact⟨_,e⟩
 |tup xs=>obtain⟨_,_,_,p,_⟩:=x;obtain⟨o,e,_⟩:=p;exact⟨o,e⟩
 |dK kvs=>obtain⟨_,_,_,_,o,_,_,e,_⟩:=x;exact⟨_,e⟩
 |dT sh kvs kas=>obtain⟨_,_,_,_,_,o,_,_,e,_⟩:=x;exact⟨_,e⟩
 |set S n=>obtain⟨o,_,_,_,e,_⟩:=x;exact⟨_,e⟩
 |ins C dx fs=>obtain⟨_,_,_,e,_⟩:=x;exact⟨_,e⟩
 |own y=>obtain⟨_,e⟩:=x;exact⟨_,e⟩
 |xd fs=>obtain⟨_,⟨_,_,_,e,_⟩,_⟩:=x;exact⟨_,e⟩
 |rng lo hi=>obtain⟨_,_,_,e⟩:=x;exact⟨_,e⟩
 |frz ob u=>obtain⟨e,_⟩:=x;exact⟨_,e⟩
 |tbl ps=>rcases x with⟨_,_,_,_,e,_⟩|⟨_,_,_,_,_,_,_,_,_,_,_,_,e⟩<;>exact⟨_,e⟩
 |met f y=>exact⟨_,(show h.get? a=some _ from x)⟩
 |ext φ=>obtain⟨_,⟨_,e⟩,_⟩:=x;exact⟨_,e⟩
structure Fly(outer:List Env)(H H':Hp)(h h':Heap)(e:Addr)(cls:Value)(B:Heap):Prop where
 fl:∃a0,Heap.FlyingW B outer e cls a0 h'
 old:∀b o,h.get? b=some o->H b=none->b∉frs outer->B.get? b=some o
 trk:∀b u o,H' b=some u->h'.get? b=some o->B.get? b=some o
 all:∀b o,h.get? b=some o->b∈frs outer\/∃o',B.get? b=some o'
 new:h.get? e=none
noncomputable def CX1(P:Program)(w:World):CXT:=fun outer H s E ev s'=>∃(e:Addr)(cls:Value)(H':Hp)(B:Heap),
 ev=.ref e/\s'.os=s.os/\AllBare s'.gens/\Un (frs outer) [] H H' s.heap s'.heap/\HOk P w H' s'.heap/\Fly outer H H' s.heap s'.heap e cls B/\E cls none H'
def PassX(CX:CXT)(X:Cx)(EE:L2.St->XK):Prop:=∀(pins:List (Addr×Obj))(σ:St)(H:Hp)(s:Shared)(e:Value)(s':Shared),Inv X pins σ H s->CX X.stack H s (EE σ) e s'->X.xe e s'
def RaisX(X:Cx)(EE:L2.St->XK):Prop:=∀(pins:List (Addr×Obj))(σ:St)(H:Hp)(s:Shared)(e:Addr)(cls:Value)(vs:List Value)(h':Heap),Inv X pins σ H s->Heap.MadeExcOf s.heap h' e cls vs->EE σ cls none H->X.xe (.ref e) {s with heap:=h'}
section
variable{CX:CXT}{base:Heap}{scope:Scope}{cd:Value}{A:Around}{outer:List Env}{s₀:Shared}{H₀:Hp}{E:XK}
theorem x36{s':Shared}{e:Addr}{cls:Value}{B h'':Heap}{a0:Value}
  (I:Inv (cxOf CX P w K mg base N qual scope f cd A outer s₀ H₀ E) pins σ H s)(J:Inv (cxOf CX P w K mg base N qual scope f cd A outer s₀ H₀ E) pins σ H' s')
  (old:∀b o,s.heap.get? b=some o->H b=none->b∉frs (envOfC qual scope s₀.heap.objs.size f cd::outer)->B.get? b=some o)
  (trk:∀b u o,H' b=some u->s'.heap.get? b=some o->B.get? b=some o)
  (all:∀b o,s.heap.get? b=some o->b∈frs (envOfC qual scope s₀.heap.objs.size f cd::outer)\/∃o',B.get? b=some o')
  (new:s.heap.get? e=none)
  (fl:Heap.FlyingW B outer e cls a0 h'')(up:s'.heap.UpToSlots h'')(hE:E cls none H'):
  CX1 P w outer H₀ s₀ E (.ref e) {s' with heap:=h''}:=by
 have neL:∀b o,s₀.heap.get? b=some o->b∉frs outer->b∉frs (envOfC qual scope s₀.heap.objs.size f cd::outer):=fun b o q nb hb=>by
  rcases w0j.mp (show b∈s₀.heap.objs.size::frs outer from hb)with z|z
  ·exact absurd (Heap.lt_size q) (by rw[z];exact w1x _)
  ·exact nb z
 have ex0:∀b:Addr,b∉([]:List Addr):=fun b z=>nomatch z
 have slot:∀b o,s₀.heap.get? b=some o->b∈frs outer->∃sl,h''.get? b=some {o with slots:=sl}:=fun b o q hb=>by
  obtain⟨sl,e1⟩:=J.base.slot b o q (J.ok.frf b hb) hb (ex0 b);obtain⟨_,o2,e2,nd⟩:=J.funs.mem hb
  rw[e1]at e2;cases e2;obtain⟨sl',e3⟩:=up b _ e1 nd;exact⟨sl',e3⟩
 refine⟨e,cls,H',B,rfl,J.os,J.bare,⟨fun b o q n hb hx=>?_,fun b o q n hb hx=>slot b o q hb,fun b o q n hx=>J.base.free b o q n hx,fun b o q hx=>?_,J.base.tups,J.base.frzs,J.base.tbls⟩,fun a o q=>?_,⟨⟨a0,fl⟩,fun b o q n hb=>?_,fun b u o q z=>?_,fun b o q=>?_,?_⟩,hE⟩
 ·exact fl.1 b o (old b o (I.base.keep b o q n hb hx) (I.base.free b o q n hx) (neL b o q hb))
 ·by_cases hb:b∈frs outer
  ·obtain⟨sl,z⟩:=slot b o q hb;exact⟨_,z⟩
  ·obtain⟨o1,e1⟩:=I.base.there b o q hx;rcases all b o1 e1 with z|⟨o',z⟩
   ·exact absurd z (neL b o q hb)
   ·exact⟨o',fl.1 b o' z⟩
 ·refine(J.hok a o q).stay (fun b u hb z=>?_) (fun _ z=>z) fun _ _ _ z=>z
  rcases hb with rfl|hb
  ·exact fl.1 _ _ (trk b o u q z)
  ·exact fl.1 _ _ (trk b _ u hb z)
 ·exact old b o (I.base.keep b o q n hb (ex0 b)) (I.base.free b o q n (ex0 b)) (neL b o q hb)
 ·obtain⟨o1,e1⟩:=(J.hok b u q).get;have e2:=trk b u o1 q e1;have e3:=fl.1 b o1 e2;rw[e3]at z;cases z;exact e2
 ·obtain⟨o1,e1⟩:=I.base.there b o q (ex0 b);rcases all b o1 e1 with z|z
  ·by_cases hb:b∈frs outer
   ·exact .inl hb
   ·exact absurd z (neL b o q hb)
  ·exact .inr z
 ·cases q:s₀.heap.get? e with
  |none=>rfl
  |some o=>
   obtain⟨o1,e1⟩:=I.base.there e o q (ex0 e);rw[new]at e1;cases e1
theorem pass1:PassX (CX1 P w) (cxOf (CX1 P w) P w K mg base N qual scope f cd A outer s₀ H₀ E) (fun _=>E):=by
 intro pins σ H s ev s' I hx;obtain⟨e,cls,H',B,rfl,hos,hg,un,hok,fly,hE⟩:=hx;have J:=I.call' (ch:=[]) hos un hok hg (fun b hb=>nomatch hb)
 obtain⟨a0,fl⟩:=fly.fl;refine wpAny_leaves_onW (base:=B) I.ok.frames rfl fl fun h'' fl2 up=>?_
 exact x36 I J fly.old fly.trk fly.all fly.new fl2 up hE
theorem rais1:RaisX (cxOf (CX1 P w) P w K mg base N qual scope f cd A outer s₀ H₀ E) (fun _=>E):=by
 intro pins σ H s e cls vs h' I hx hE;have J:Inv (cxOf (CX1 P w) P w K mg base N qual scope f cd A outer s₀ H₀ E) pins σ H {s with heap:=h'}:=I.kept (t':=s.toks) hx.keeps;have hin:∀env∈(envOfC qual scope s₀.heap.objs.size f cd::outer),∀b,env.frame=some b->b∈frs (envOfC qual scope s₀.heap.objs.size f cd::outer):=fun env he b hb=>w1q.mpr ⟨env,he,hb⟩
 refine wpAny_leaves_madeW (base:=PySem.W.hideAll s.heap (frs (envOfC qual scope s₀.heap.objs.size f cd::outer))) (h:=s.heap) I.ok.frames rfl (fun b o q=>PySem.W.of_hideAll _ q) (PySem.W.funFrames_hide I.stack hin) hx fun h'' t fl _ _ up=>?_
 refine x36 I J (fun b o q _ nb=>hideAll_get _ q nb) (fun b u o q z=>?_) (fun b o q=>?_) hx.new fl up hE
 ·obtain⟨o1,e1⟩:=(I.hok b u q).get;have e2:=hx.keeps b o1 e1;have z':h'.get? b=some o:=z;rw[e2]at z';cases z';refine hideAll_get _ e1 fun hb=>?_
  rw[I.stkFree b hb]at q;cases q
 ·by_cases hb:b∈frs (envOfC qual scope s₀.heap.objs.size f cd::outer)
  ·exact .inl hb
  ·exact .inr ⟨o,hideAll_get _ q hb⟩
end
theorem passE:PassX (CX1 P w) X (fun _=>E0):=fun _ _ _ _ _ _ _ h=>by
 obtain⟨_,_,_,_,_,_,_,_,_,_,z⟩:=h;exact False.elim z
def tCallX(sp:Sp)(dvs:List V)(EE:L2.St->XK)(t:TA):TE:=fun σ H Q=>t σ H fun vs H1=>sp (vs++dvs) H1 Q (EE σ)
section
variable{CX:CXT}{C:Addr}{dvs:List V}{ds:List Value}{EE:L2.St->XK}{m:Str}{p apos:Pos}{o:Expr}{ta:TE}{t:TA}
theorem y3e{Q:VK}{us:List Value}{vs:List V}(F:FnOk X.prog X.w X.K X.mg X.base CX k f fd ps sp)(hr:Room k X.A)(hb:Binds X.K fd ps ds)(hd:Vals dvs ds)(hx:PassX CX X EE)
  (I:Inv X pins σ H s)(r:Vals vs us)(h:sp (vs++dvs) H Q (EE σ)):wpAny (model X.prog X.w) X.A (call (.ref f) us) (EP X pins σ Q) X.xe s:=by
 have r2:Vals (vs++dvs) (us++ds):=r.append hd;have hl:(us++ds).length=ps.length:=by rw[<- r2.length];exact F.len _ _ _ _ h
 refine wpAny_call (codeAny_mono (F.run X.A X.stack s H ⟨us,[]⟩ (us++ds) (vs++dvs) Q (EE σ) hr I.env0 (hb s us I.kIn hl) r2 h) fun r s' hq=>?_)
 cases r with
 |error e=>exact hx pins σ H s e s' I hq
 |ok fl=>
  cases fl with
  |ret u=>exact I.after hq
  |next=>exact False.elim hq
  |brk=>exact False.elim hq
  |cont=>exact False.elim hq
theorem x9r(F:FnOk X.prog X.w X.K X.mg X.base CX k f fd ps sp)(hr:Room k X.A)(hg:Gl X x)(hm:X.mg x=some (.ref f))(hk:keepIn X.K (.ref f)=true)(hb:Binds X.K fd ps ds)(hd:Vals dvs ds)(hx:PassX CX X EE)
  (ha:PA X (e::es) t)(hdb:(x==("__debug__":Str))=false:=by decide)(he:starEach (e::es) X.env=(false,eval e X.env)::starEach es X.env:=by rfl)(hpl:(backTo pos (starEach es X.env)).any (·.1)=false:=by rfl):
  PE X (.Call (.Name x p) (e::es) [] pos) (tCallX sp dvs EE t):=by
 intro pins s σ H Q I h;refine wpAny_Call_Name_kw (q9o I hg hm ?_ hdb);refine PySem.W.callWith_K (h₀:=X.base) I.ok.mod.kin hk (thn (ha pos pins s σ H _ I h) fun us s1 ⟨vs,H1,I1,r,q⟩=>⟨I1.kIn,?_⟩) he hpl
 exact y3e F hr hb hd hx I1 r q
end
section
variable{base:Heap}
theorem Fun.okX{st:Stmt}(F:Fun K x qual st f fd)(S:FnScope N ps (defScope st))(len:∀vs H Q E,sp vs H Q E->vs.length=ps.length)
  (hbody:∀(cdv:Value)(A:Around)(outer:List Env)(s:Shared)(H:Hp)(vs:List V)(Q:VK)(E:XK),Room k (A.deeper (envOfC qual (defScope st) s.heap.objs.size f cdv))->sp vs H Q E ->
   ∃t,PSs (cxOf (CX1 P w) P w K mg base N qual (defScope st) f cdv A outer s H E) (defBody st) t/\t {nx:=fun _ H'=>Q .non H',rt:=Q} (start N vs) H):FnOk P w K mg base (CX1 P w) (k+1) f fd ps sp:=by
 obtain⟨oc,od,kV,doc,pm,an,cdv,ct,osl,rfl,lk,hcd⟩:=F.ex;exact y2n lk hcd S len fun A outer s H vs Q E hr hsp=>hbody cdv A outer s H vs Q E hr hsp
end
noncomputable def strKeysIn(K:PySem.W.Frag)(a:Addr):Bool:=match K.lookup a with
 |some ⟨_,_,.dict es _,_⟩=>es.toList.all fun e=>match e.key with|.str _ _=>true|_=>false
 |_=>false
noncomputable def noInitIn(K:PySem.W.Frag)(a:Addr):Bool:=strKeysIn K a&&PySem.W.nsIn K a "__init__"==some none
noncomputable abbrev veMro:List Value:=[.type "ValueError", .type "Exception", .type "BaseException", .type "object"]
noncomputable def excIn(K:PySem.W.Frag)(C A:Addr):Bool:=match K.lookup C,K.lookup A with
 |some ⟨.type "type", _,.cls cd,sl⟩,some ⟨_,_,.cls ca,_⟩=>(match sl.toList with
   |[_,_,_,_,some (.builtin n),_]=>n=="ValueError.__new__"&&cd.mro==(.ref C::.ref A::veMro)&&!cd.hasDel&&noInitIn K cd.ns&&noInitIn K ca.ns
   |_=>false)
 |_,_=>false
theorem x0k(X:K.In h)(q:noInitIn K a=true):∃m,h.Ns a m/\m "__init__"=none:=by
 unfold noInitIn at q;rw[w1b]at q;obtain⟨q1,q2⟩:=q;unfold strKeysIn at q1;split at q1
 ·rename_i c d es n sl hl
  have hs:StrKeys es:=fun e he=>by
   have:=w0v.mp q1 e (by simpa using he);split at this
   ·rename_i k t hk;exact⟨_,_,hk⟩
   ·cases this
  refine⟨nsFind es,⟨_,es,n,X _ _ hl,rfl,hs,fun _=>rfl⟩,?_⟩
  have q2:=beq_iff_eq.mp q2;unfold PySem.W.nsIn at q2;rw[hl]at q2;dsimp only at q2;unfold nsFind findBy;rw[<- Array.find?_toList];split at q2
  ·cases q2
  ·rename_i he;rw[he];rfl
 ·cases q1
theorem q6v{C A:Addr}(X:K.In h)(q:excIn K C A=true):
  ∃nm qn N bs hdct sn sub ab col dd k0 k1 k2 k3 k5 mN,h.get? C=some (excClassObj nm qn C N bs (.ref A::veMro) hdct sn sub ab col dd k0 k1 k2 k3 k5 "ValueError.__new__")/\h.Ns N mN/\mN "__init__"=none/\OwnTail h veMro (.ref A::veMro):=by
 unfold excIn at q;split at q
 ·rename_i dd cd sl ca0 cad ca csl hC hA;split at q
  ·rename_i k0 k1 k2 k3 n k5 hs;simp only[w1b,beq_iff_eq,Bool.not_eq_true']at q;obtain⟨⟨⟨⟨rfl,hm⟩,hdel⟩,hn⟩,hna⟩:=q;obtain⟨nm,bs,mro,ns,qn,hd,sn,sub,ab,col,del⟩:=cd;dsimp only at hm hdel hn;subst hm hdel
   have hsl:sl=#[k0,k1,k2,k3,some (.builtin "ValueError.__new__"),k5]:=by
    obtain⟨l⟩:=sl;simp only at hs;rw[hs]
   subst hsl;obtain⟨mN,hN,hi⟩:=x0k X hn;obtain⟨mA,hNA,hiA⟩:=x0k X hna;exact⟨nm,qn,ns,bs,hd,sn,sub,ab,col,dd,k0,k1,k2,k3,k5,mN,X _ _ hC,hN,hi,.own (X _ _ hA) hNA hiA .base⟩
  ·cases q
 ·cases q
def tRaise(C:Addr)(EE:L2.St->XK)(t:TA):TS:=fun _ σ H=>t σ H fun vs H1=>vs.length<=sizeLine/\EE σ (.ref C) none H1
section
variable{C Ac:Addr}{EE:L2.St->XK}{np cpos:Pos}{t:TA}
theorem x9s(hx:RaisX X EE)(hc:X.calm=true)(hg:Gl X x)(hm:X.mg x=some (.ref C))(hC:excIn X.K C Ac=true)(ha:PA X (e::es) t)
  (hdb:(x==("__debug__":Str))=false:=by decide)(he:starEach (e::es) X.env=(false,eval e X.env)::starEach es X.env:=by rfl)(hpl:(backTo cpos (starEach es X.env)).any (·.1)=false:=by rfl):
  PS X (.Raise (some (.Call (.Name x np) (e::es) [] cpos)) none pos) (tRaise C EE t):=by
 intro pins s σ H D I h;obtain⟨nm,qn,N,bs,hdct,sn,sub,ab,col,dd,k0,k1,k2,k3,k5,mN,hC1,hN,hi,T⟩:=q6v I.kIn hC
 have hpl2:(backTo cpos (starEach (e::es) X.env)).any (·.1)=false:=by
  rw[he];show(false||(backTo cpos (starEach es X.env)).any (·.1))=false;rw[hpl];rfl
 refine wpAny_Raise_call_subT (C:=C) (nm:=nm) (q:=qn) (N:=N) (bs:=bs) (bm:=.ref Ac::veMro) (hdct:=hdct) (sn:=sn) (sub:=sub) (ab:=ab) (col:=col) (dd:=dd) (k0:=k0) (k1:=k1) (k2:=k2) (k3:=k3) (k5:=k5)
  PySem.F.excBase_ValueError (mN:=mN) (by rfl) (I.ok.hd hc) hpl2 hi (q9o I hg hm ⟨rfl,?_⟩ hdb)
 have key:=ha cpos pins s σ H _ I h;rw[he]at key |-
 refine Calls.evalArgs_plain (wpAny_mono key (fun us s1 ⟨vs,H1,I1,r,hz,q⟩=>?_) fun _ _ y=>y)
 obtain⟨nm',qn',N',bs',hdct',sn',sub',ab',col',dd',k0',k1',k2',k3',k5',mN',hC1',hN',hi',T'⟩:=q6v I1.kIn hC;have kk:∀b o,X.base.get? b=some o->s1.heap.get? b=some o:=I1.bk
 have hCb:X.base.get? C=s1.heap.get? C:=by
  obtain⟨_,_,_,_,_,_,_,_,_,_,_,_,_,_,_,_,z,_⟩:=q6v I.ok.mod.kin hC;rw[z];exact(kk _ _ z).symm
 have hCs:s.heap.get? C=s1.heap.get? C:=by
  obtain⟨_,_,_,_,_,_,_,_,_,_,_,_,_,_,_,_,z,_⟩:=q6v I.ok.mod.kin hC;rw[I.bk _ _ z];exact(kk _ _ z).symm
 have hC2:s1.heap.get? C=some (excClassObj nm qn C N bs (.ref Ac::veMro) hdct sn sub ab col dd k0 k1 k2 k3 k5 "ValueError.__new__"):=hCs ▸ hC1;rw[hC2]at hC1';cases hC1';have em:mN' "__init__"=none:=hi'
 have hN2:s1.heap.Ns N mN:=by
  obtain⟨o1,es1,ep1,a1,a2,a3,a4⟩:=hN;obtain⟨_,_,N3,_,_,_,_,_,_,_,_,_,_,_,_,m3,z3,n3,_,_⟩:=q6v I.ok.mod.kin hC;have z4:=I.bk _ _ z3;rw[hC1]at z4;cases z4;obtain⟨o5,es5,ep5,b1,b2,b3,b4⟩:=n3;have c1:=I.bk _ _ b1;rw[a1]at c1;cases c1;exact⟨_,es1,ep1,I1.bk _ _ b1,a2,a3,a4⟩
 exact⟨rfl,by rw[<- r.length];exact hz,hC2,hN2,T',fun h' ea hme=>hx pins σ H1 s1 ea (.ref C) us h' I1 hme q⟩
end
noncomputable def excO(e:Addr)(cls:Value):HO:=.ext fun h=>∃o vs,h.get? e=some o/\o.cls=cls/\o.data=.fields vs
noncomputable abbrev Cx.hn(X:Cx)(e:Addr):Cx:={X with A:=X.A.mark (some (.ref e)),calm:=false,xe:=fun _ _=>False}
structure RoomH(k:Nat)(A:Around):Prop where
 dp:A.depth+3*k+5<recursionLimit
 un:A.units+16*k+200<cLine
 gd:A.guards=some []
structure FnOkH(P:Program)(w:World)(K:PySem.W.Frag)(mg:Str->Option Value)(base:Heap)(k:Nat)(f:Addr)(fd:FuncData)(ps:List Str)(sp:Sp):Prop where
 len:∀vs H Q E,sp vs H Q E->vs.length=ps.length
 run:∀(A:Around)(outer:List Env)(s:Shared)(H:Hp)(args:Args)(us:List Value)(vs:List V)(Q:VK),RoomH k A->Env0 P w K mg base A outer s H->BindsTo s fd args (ps.zip us)->Vals vs us->sp vs H Q E0 ->
  codeAny (model P w) A (.call (.ref f) args) (CR CX0 outer P w H s Q E0) s
noncomputable abbrev Cx.cp(X:Cx)(Nc:List Str)(scope:Scope)(cl:List (Str×Addr))(C:Addr)(s₀:Shared)(H₀:Hp)(ex:List Addr):Cx:=
 {X with N:=Nc,s₀:=s₀,H₀:=H₀,env:=compEnvC scope cl C X.env,outer:=X.stack,ex:=ex,fn:=fun _=>false,pn:=[],xe:=fun _ _=>False}
theorem q4y:∀(names:List (Str×NameKind))(acc:List (Str×Addr)),(∀x∈names,x.2=.free->∃c,env.cells.lookup x.1=some c) ->
  ∃cl,(forIn names acc fun(x:Str×NameKind) (r:List (Str×Addr))=>(if(x.2==NameKind.free)=true then(cellOf env x.1 >>= fun a=>pure (ForInStep.yield ((x.1,a)::r)))else pure (ForInStep.yield r):Sem (ForInStep (List (Str×Addr)))))=pure cl /\
   (∀x c,cl.lookup x=some c->acc.lookup x=some c\/env.cells.lookup x=some c)/\(∀x,((x,NameKind.free)∈names\/(acc.lookup x).isSome=true)->(cl.lookup x).isSome=true)
 |[],acc,_=>⟨acc,rfl,fun x c h=>.inl h,fun x h=>h.elim (fun z=>nomatch z) id⟩
 |(n,k)::r,acc,h=>by
  by_cases hk:k=.free
  ·subst hk;obtain⟨c,hc⟩:=h (n,.free) w0n rfl;obtain⟨cl,e1,e2,e3⟩:=q4y r ((n,c)::acc) fun x hx=>h x (w0k _ hx)
   refine⟨cl,?_,fun x d hd=>?_,fun x hx=>?_⟩
   ·rw[w2m];have:cellOf env n=pure c:=by unfold cellOf;rw[hc]
    simp only[beq_self_eq_true,if_true,this,pure_bind];exact e1
   ·rcases e2 x d hd with z|z
    ·rw[w0s]at z
     by_cases hx:(x==n)=true
     ·rw[hx]at z;have:x=n:=by simpa using hx
      subst this;cases z;exact .inr hc
     ·rw[w1l.mpr hx]at z;exact .inl z
    ·exact .inr z
   ·refine e3 x ?_;rcases hx with z|z
    ·rcases w0j.mp z with y|y
     ·cases y;exact .inr (by rw[w0s];simp)
     ·exact .inl y
    ·refine .inr ?_;rw[w0s]
     by_cases hx:(x==n)=true
     ·rw[hx];rfl
     ·rw[w1l.mpr hx];exact z
  ·obtain⟨cl,e1,e2,e3⟩:=q4y r acc fun x hx=>h x (w0k _ hx)
   refine⟨cl,?_,e2,fun x hx=>e3 x ?_⟩
   ·rw[w2m];have:(k==NameKind.free)=false:=by simpa using hk
    simp only[this,w1e,if_false,pure_bind];exact e1
   ·rcases hx with z|z
    ·rcases w0j.mp z with y|y
     ·cases y;exact absurd rfl hk
     ·exact .inl y
    ·exact .inr z
theorem q53{scope:Scope}(h:∀x∈scope.names,x.2=.free->∃c,env.cells.lookup x.1=some c):
  ∃cl,closureFor scope env=pure cl/\(∀x c,cl.lookup x=some c->env.cells.lookup x=some c)/\∀x,(x,NameKind.free)∈scope.names->∃c,cl.lookup x=some c:=by
 obtain⟨cl,e1,e2,e3⟩:=q4y scope.names [] h;refine⟨cl,?_,fun x c hc=>(e2 x c hc).resolve_left (fun z=>nomatch z),fun x hx=>w3f.mp (e3 x (.inl hx))⟩
 unfold closureFor
 first
  |exact e1
  |(rw[e1];rfl)
  |(simp only[e1];rfl)
theorem q6w{env : Env} : ∀ {names : List (Str × NameKind)} {x : Str}, (∀ y ∈ names, y.2 ≠ .cell) ->
    ((names.map fun (n, k) => if (k == NameKind.free && env.scope.kind == .function && env.kindOf n == some .cell) then (n, NameKind.cell) else (n, k)).lookup x = some .cell \/
     (names.map fun (n, k) => if (k == NameKind.free && env.scope.kind == .function && env.kindOf n == some .cell) then (n, NameKind.cell) else (n, k)).lookup x = some .free) -> (x, NameKind.free) ∈ names
  | [], x, _, h => by rcases h with h | h <;> cases h
  | (n, k) :: r, x, hc, h => by
    have ih := @q6w env r x fun y hy => hc y (w0k _ hy)
    rw [w0y] at h;dsimp only at h
    by_cases hx : (x == n) = true
    . have e : x = n := by simpa using hx
      subst e
      by_cases hk : k = .free
      . subst hk; exact w0n
      . exfalso
        have hb : (k == NameKind.free) = false := by simpa using hk
        simp only [hb, Bool.false_and, w1e, if_false, w0s, hx] at h;rcases h with h | h
        . exact hc (x, k) w0n (Option.some.inj h)
        . exact hk (Option.some.inj h)
    . refine w0k _ (ih ?_)
      have hb : (x == n) = false := w1l.mpr hx
      by_cases hq : (k == NameKind.free && env.scope.kind == .function && env.kindOf n == some .cell) = true
      . rw [if_pos hq] at h
        simpa only [w0s, hb] using h
      . rw [if_neg hq] at h
        simpa only [w0s, hb] using h
theorem x6v{prog:Program}{A:Around}{R:Result->Shared->Prop}{elt target iter:Expr}{scope:Scope}{it acc:Value}(I:Nat->Shared->Prop)
  (turn:∀n s,I n s->wpAny (model prog w) A (pyNext it) (fun r s1=>match r with
   |none=>R (.ok .next) s1
   |some v=>wpAny (model prog w) A (letOwnedTupleGo target it v) (fun _ s2=>wpAny (model prog w) A (assign target env v) (fun _ s3=>
     wpAny (model prog w) A (forIn ifs true fun c r=>if r=true then do let ok <- isTrue c env (eval c env);pure (ForInStep.yield ok)else pure (ForInStep.yield r)) (fun ok s4=>
      if ok=true then wpAny (model prog w) A (eval elt env) (fun x s5=>wpAny (model prog w) A (call (.builtin "list.append") [acc,x]) (fun _ s6=>∃m,m<n/\I m s6) (fun _ _=>False) s5) (fun _ _=>False) s4
      else ∃m,m<n/\I m s4) (fun _ _=>False) s3) (fun _ _=>False) s2) (fun _ _=>False) s1) (fun _ _=>False) s)
  (n:Nat)(h:I n s):codeAny (model prog w) A (.compLoop (.ListComp elt [⟨target,iter,ifs,0⟩] scope pos) 0 it acc env) R s:=by
 refine codeAny_loop rfl I (fun n s hI=>?_) n h
 show wpAny _ A ((compTurn (.ListComp elt [⟨target,iter,ifs,0⟩] scope pos) 0 it acc env).onRaise (fun x=>do noteFrame x env;theTreesLotGoes x)) _ _ s
 refine wpAny_noted ?_;rw[compTurn_list];refine wpAny_bind (wpAny_standAt (wpAny_bind (wpAny_mono (turn n s hI) (fun r s1 h1=>?_) fun _ _ z=>z.elim)))
 cases r with
 |none=>exact wpAny_pure h1
 |some v=>
  refine wpAny_bind (wpAny_mono h1 (fun _ s2 h2=>?_) fun _ _ z=>z.elim)
  refine wpAny_bind (wpAny_mono h2 (fun _ s3 h3=>?_) fun _ _ z=>z.elim)
  refine wpAny_bind (wpAny_mono h3 (fun ok s4 h4=>?_) fun _ _ z=>z.elim)
  cases ok with
  |false=>exact wpAny_pure ⟨rfl,h4⟩
  |true=>exact wpAny_bind (wpAny_bind (wpAny_mono h4 (fun x s5 h5=>wpAny_bind (wpAny_mono h5 (fun _ s6 h6=>wpAny_pure (wpAny_pure ⟨rfl,h6⟩)) fun _ _ z=>z.elim)) fun _ _ z=>z.elim))
noncomputable def pj(js:List Nat)(σ:St):St:=js.map fun j=>(σ[j]?).getD none
theorem y7h{i:Nat}(h:(pj js σ)[i]?=some (some v)):∃j,js[i]?=some j/\σ[j]?=some (some v):=by
 unfold pj at h;rw[w0g]at h;cases e:js[i]? with
 |none=>rw[e]at h;cases h
 |some j=>
  rw[e]at h;have h:(σ[j]?).getD none=some v:=Option.some.inj h;refine⟨j,rfl,?_⟩;cases e2:σ[j]? with
  |none=>rw[e2]at h;cases h
  |some z=>rw[e2]at h;rw[show z=some v from h]
def PTs(X:Cx)(ifs:List Expr)(t:TT):Prop:=
 ∀(pins:List (Addr×Obj))(s:Shared)(σ:St)(H:Hp)(Q:Bool->Hp->Prop),Inv X pins σ H s->t σ H Q ->
  wpAny (model X.prog X.w) X.A (forIn ifs true fun c r=>if r=true then do let ok <- isTrue c X.env (eval c X.env);pure (ForInStep.yield ok)else pure (ForInStep.yield r)) (TP X pins σ Q) X.xe s
def tYes:TT:=fun _ H Q=>Q true H
theorem y3f:PTs X [] tYes:=fun pins s σ H Q I h=>wpAny_tests_nil ⟨H,I,h⟩
theorem y3g{c:Expr}{t:TT}(h:PT X c t):PTs X [c] t:=fun pins s σ H Q I hq=>wpAny_tests_one (h pins s σ H Q I hq)
def Kp(σ σ':St):Prop:=∀(i:Nat) v,σ[i]?=some (some v)->σ'[i]?=some (some v)
theorem Kp.one:Kp (List.replicate 1 none++σ) (some v::σ):=fun i u h=>by
 cases i with
 |zero=>cases h
 |succ i=>exact h
theorem Kp.two{u:V}:Kp (List.replicate 2 none++σ) (some v::some u::σ):=fun i w h=>by
 match i,h with
 |0,h=>cases h
 |1,h=>cases h
 |i+2,h=>exact h
def tComp(wi:TI)(nl:Nat)(js:List Nat)(g:TG)(tc:TT)(te:TE):TE:=fun σ H Q=>wi σ H fun J H1=>∀D,H1 D=none->∃W:Nat->Nat->Hp->Prop,(∃m,W 0 m (upd H1 D (.lst [])))/\∀i m H2,W i m H2 ->
 (J.stop i H2/\Q (.ref D) H2)\/(J.go i H2/\∀x H3,J.yld i H2 x H3->g x (List.replicate nl none++pj js σ) H3 fun σ4 H4=>Kp (List.replicate nl none++pj js σ) σ4/\tc σ4 H4 fun b H5=>
  if b=true then te σ4 H5 fun y H6=>∃ys,H6 D=some (.lst ys)/\ys.length<sizeLine/\∃m',m'<m/\W (i+1) m' (upd H6 D (.lst (ys++[y])))else ∃m',m'<m/\W (i+1) m' H5)
section
variable{elt target iter:Expr}{scope:Scope}{wi:TI}{g:TG}{tc:TT}
theorem x9t{Nl Nf:List Str}{fp:List Addr}{cl:List (Str×Addr)}{h1:Heap}{tk:Nat}{mC:Str->Option Value}
  (I:Inv X pins σ H s)(hfp:∀b∈fp,FpOk X pins H b)(hob:∀b∈fp,∃o,s.heap.get? b=some o/\∀v,o.data≠.cell v)
  (hk:scope.kind=.function)(hcell:∀y∈scope.names,y.2≠.cell)(hcl:∀x c,cl.lookup x=some c->X.env.cells.lookup x=some c)(hcf:∀x,(x,NameKind.free)∈scope.names->∃c,cl.lookup x=some c)
  (hj:∀(i j:Nat) y,Nf[i]?=some y->js[i]?=some j->X.N[j]?=some y)(hlen:js.length=Nf.length)
  (hNf:∀y∈Nf,(y,NameKind.free)∈scope.names/\Vis X.env.scope y/\X.env.kindOf y≠some .local)
  (hvis:∀y∈Nf,(relabel scope X.env).names.lookup y=some .cell\/(relabel scope X.env).names.lookup y=some .free)
  (hn:h1.Ns (s.heap.objs.size+1) mC)(hs:Heap.SameBut (s.heap.objs.size+1) ((s.heap.push {cls:=.type "list", dict:=none,data:=.seq ([]:List Value).toArray}).push {cls:=.type "dict", data:=.dict #[]}) h1):
  Inv (X.cp (Nl++Nf) scope cl (s.heap.objs.size+1) {s with heap:=s.heap.push {cls:=.type "list", dict:=none,data:=.seq ([]:List Value).toArray}} (upd H s.heap.objs.size (.lst [])) fp) [] (List.replicate Nl.length none++pj js σ) (upd H s.heap.objs.size (.lst [])) {s with heap:=h1,toks:=tk}:=by
 have fD:H s.heap.objs.size=none:=I.hok.fresh (w0f _);have up1:∀b u,s.heap.get? b=some u->(s.heap.push {cls:=.type "list", dict:=none,data:=.seq ([]:List Value).toArray}).get? b=some u:=fun b u q=>Heap.get?_push_of_some _ q
 have szp:(s.heap.push {cls:=.type "list", dict:=none,data:=.seq ([]:List Value).toArray}).objs.size=s.heap.objs.size+1:=Heap.size_push ..
 have up2:∀b u,(s.heap.push {cls:=.type "list", dict:=none,data:=.seq ([]:List Value).toArray}).get? b=some u->h1.get? b=some u:=fun b u q=>by
  have hlt:=Heap.lt_size q;rw[szp]at hlt;exact(hs.2 b (w0p hlt)).trans (Heap.get?_push_of_some _ q)
 have up:∀b u,s.heap.get? b=some u->h1.get? b=some u:=fun b u q=>up2 b u (up1 b u q)
 have ltOf:∀b o,s.heap.get? b=some o->b≠s.heap.objs.size:=fun b o q=>w0p (Heap.lt_size q)
 have fr0:∀b o,s.heap.get? b=some o->H b=none->upd H s.heap.objs.size (.lst []) b=none:=fun b o q n=>by rw[q0d (ltOf b o q)];exact n
 have hasC:∀x,((relabel scope X.env).names.lookup x=some .cell\/(relabel scope X.env).names.lookup x=some .free)->∃c,cl.lookup x=some c:=fun x hx=>hcf x (q6w hcell hx)
 have hokD:HOk X.prog X.w (upd H s.heap.objs.size (.lst [])) (s.heap.push {cls:=.type "list", dict:=none,data:=.seq ([]:List Value).toArray}):=
  I.hok.laid up1 (w0f _) ⟨w1a _,[],_,.nil,Heap.get?_push_size _ rfl⟩
 have cellK:∀x c,cl.lookup x=some c->∃v,s.heap.IsCell c v:=fun x c e=>I.cell x c (hcl x c e)
 have cellUp:∀c v,s.heap.IsCell c v->h1.IsCell c v:=fun c v ⟨o,q,r⟩=>⟨o,up _ _ q,r⟩
 refine⟨⟨I.ok.mod,hk,I.ok.glob,I.ok.blt,(by show(s.heap.push _).objs.size<=_;rw[szp];exact w0f _),fun x y c e1 e2=>I.ok.inj x y c (hcl x c e1) (hcl y c e2),fun x hx=>hasC x hx,(fun x c z=>nomatch z),I.ok.hd,I.ok.frames,.inl rfl,fun b hb=>⟨?_,fun x c e=>?_⟩,fun b o q=>?_,?_,fun b o q hb=>?_,fun b hb hb2=>?_,?_,fun b hb=>?_,(I.ok.tab.un I.base).laid fD⟩,
  rfl,I.bare,Un.kept up2,⟨mC,hn,fun i y v e1 e2 e3=>?_⟩,fun x c e=>?_,?_,fun x c e=>?_,fun p hp=>(by cases hp),hokD.kept up2,?_⟩
 ·obtain⟨o,q,_⟩:=hob b hb;exact w0p (w1t (Heap.lt_size q))
 ·exact(hfp b hb).2.2.2.2.1 x c (hcl x c e)
 ·obtain⟨q1,q2⟩:=I.bs b o q;exact⟨up1 _ _ q1,fr0 b o q1 q2⟩
 ·show X.base.objs.size<=(s.heap.push _).objs.size;rw[szp];exact Nat.le_succ_of_le (w0r I.ok.bsz I.sz)
 ·rcases(hfp b hb).2.2.2.1 with z|z
  ·exact I.ok.noex b o q z
  ·obtain⟨q1,_⟩:=I.ok.bs b o q;exact absurd (Heap.lt_size q1) (w4o.mpr z)
 ·rcases w0j.mp (I.stkSub b hb2)with z|z
  ·exact(hfp b hb).2.1 z
  ·exact(hfp b hb).2.2.1 z
 ·exact I.stack.of_keeps fun b o q _=>⟨o,up1 _ _ q,rfl⟩
 ·obtain⟨_,o,q,_⟩:=I.stack.mem hb;exact fr0 b o q (I.stkFree b hb)
 ·-- the names
  have e2':(List.replicate Nl.length none++pj js σ)[i]?=some (some v):=e2;have e1':(Nl++Nf)[i]?=some y:=e1
  by_cases hi:i<Nl.length
  ·rw[w1z (by simpa using hi),w2n]at e2';split at e2'<;>cases e2'
  ·have hi':Nl.length<=i:=w4o.mp hi;rw[w2f (by simpa using hi')]at e2';rw[w2f hi']at e1';rw[w2r]at e2';obtain⟨j,ej,eσ⟩:=y7h e2';have hNy:=hj _ _ _ e1' ej;obtain⟨hfr,hv,hnl⟩:=hNf y (w0l e1');obtain⟨m,hm,hl⟩:=I.loc;obtain⟨u,r,l⟩:=hl j y v hNy eσ hv;refine⟨u,r,?_⟩;rcases l with⟨k,_⟩|⟨k,c,ec,z⟩
   ·exact absurd k hnl
   ·obtain⟨c',ec'⟩:=hcf y hfr;have:=hcl y c' ec';rw[ec]at this;cases this;exact .inr ⟨hvis y (w0l e1'),c,ec',cellUp _ _ z⟩
 ·obtain⟨v,z⟩:=cellK x c e;exact⟨v,cellUp _ _ z⟩
 ·show upd H s.heap.objs.size (.lst []) (s.heap.objs.size+1)=none;rw[q0d (Nat.succ_ne_self _)];exact I.hok.fresh (Nat.le_succ _)
 ·obtain⟨v,o,q,_⟩:=cellK x c e;exact fr0 c o q (I.freeC x c (hcl x c e))
 ·show(List.replicate Nl.length none++pj js σ).length=(Nl++Nf).length;rw[w0x,w0x,w2r];unfold pj;rw[w0a,hlen]
theorem y7i{σ':St}{s':Shared}{Nc:List Str}{fp:List Addr}{cl:List (Str×Addr)}{h':Heap}
  (I:Inv X pins σ H s)(hfp:∀b∈fp,FpOk X pins H b)
  (J:Inv (X.cp Nc scope cl (s.heap.objs.size+1) {s with heap:=s.heap.push {cls:=.type "list", dict:=none,data:=.seq ([]:List Value).toArray}} (upd H s.heap.objs.size (.lst [])) fp) [] σ' H' s')
  (hs:Heap.SameBut (s.heap.objs.size+1) s'.heap h'):Inv X pins σ H' {s' with heap:=h'}:=by
 have fD:H s.heap.objs.size=none:=I.hok.fresh (w0f _);have up1:∀b u,s.heap.get? b=some u->(s.heap.push {cls:=.type "list", dict:=none,data:=.seq ([]:List Value).toArray}).get? b=some u:=fun b u q=>Heap.get?_push_of_some _ q
 have neC:∀b o,s.heap.get? b=some o->b≠s.heap.objs.size+1:=fun b o q=>w0p (w1t (Heap.lt_size q))
 have fr0:∀b o,s.heap.get? b=some o->H b=none->upd H s.heap.objs.size (.lst []) b=none:=fun b o q n=>by rw[q0d (w0p (Heap.lt_size q))];exact n
 have old:∀b u,H b=some u->upd H s.heap.objs.size (.lst []) b=some u:=fun b u q=>by rw[q0d (q0p q fD)];exact q
 have B:Un (frs X.stack) fp (upd H s.heap.objs.size (.lst [])) H' (s.heap.push {cls:=.type "list", dict:=none,data:=.seq ([]:List Value).toArray}) s'.heap:=J.base;have hC:H' (s.heap.objs.size+1)=none:=J.free;refine I.call' (s':={s' with heap:=h'}) (ch:=fp) (J.os.trans rfl) ⟨fun b o q n hb hx=>?_,fun b o q n hb hx=>?_,fun b o q n hx=>B.free b o (up1 _ _ q) (fr0 b o q n) hx,fun b o q hx=>?_,fun b xs q=>B.tups b xs (old _ _ q),fun b o u q=>B.frzs b o u (old _ _ q),fun b ps q=>B.tbls b ps (old _ _ q)⟩ (fun a o q=>?_) J.bare fun b hb=>?_
 ·exact(hs.2 b (neC b o q)).trans (B.keep b o (up1 _ _ q) (fr0 b o q n) hb hx)
 ·obtain⟨sl,z⟩:=B.slot b o (up1 _ _ q) (fr0 b o q n) hb hx;exact⟨sl,(hs.2 b (neC b o q)).trans z⟩
 ·obtain⟨o',z⟩:=B.there b o (up1 _ _ q) hx;exact⟨o',(hs.2 b (neC b o q)).trans z⟩
 ·refine(J.hok a o q).stay (fun c v hc z=>(hs.2 c ?_).trans z) (fun _ z=>z) fun _ _ _ z=>z
  rintro rfl;rcases hc with rfl|hc
  ·rw[hC]at q;cases q
  ·rw[hC]at hc;cases hc
 ·obtain⟨_,f1,f2,f3,f4,f5⟩:=hfp b hb;exact⟨f3,f1,f4,f5⟩
theorem y3h{Nl Nf:List Str}(hc:X.calm=true)(hi:PI X target iter wi)
  (hk:scope.kind=.function)(hcell:∀y∈scope.names,y.2≠.cell)(hnames:∀x∈scope.names,x.2=.local->scope.names.lookup x.1=some .local)
  (hfree:∀x∈scope.names,x.2=.free->X.env.kindOf x.1=some .cell\/X.env.kindOf x.1=some .free)
  (hj:∀(i j:Nat) y,Nf[i]?=some y->js[i]?=some j->X.N[j]?=some y)(hlen:js.length=Nf.length)
  (hNf:∀y∈Nf,(y,NameKind.free)∈scope.names/\Vis X.env.scope y/\X.env.kindOf y≠some .local)
  (hvis:∀y∈Nf,(relabel scope X.env).names.lookup y=some .cell\/(relabel scope X.env).names.lookup y=some .free)
  (hg:∀cl C s₀ H₀ ex,PG (X.cp (Nl++Nf) scope cl C s₀ H₀ ex) target g)(ht:∀cl C s₀ H₀ ex,PTs (X.cp (Nl++Nf) scope cl C s₀ H₀ ex) ifs tc)(he:∀cl C s₀ H₀ ex,PE (X.cp (Nl++Nf) scope cl C s₀ H₀ ex) elt te)
  (hs:∀x,foldedSetIterable iter X.env x=pure x:=by intro _;rfl):
  PE X (.ListComp elt [⟨target,iter,ifs,0⟩] scope pos) (tComp wi Nl.length js g tc te):=by
 intro pins s σ H Q I h;obtain⟨cl,hclos,hcl,hcf⟩:=q53 (scope:=scope) (env:=X.env) fun x hx hf=>I.ok.has x.1 (hfree x hx hf)
 rw[eval_ListComp];refine wpAny_comprehension_free (use:=none) rfl hs hclos hk hnames (thn (hi pins s σ H _ I h) fun v s1 h1=>thn h1 fun itv s2 h2=>?_)
 obtain⟨it,fp,tn,J,H2,e,I2,T,st2,f2,rd⟩:=h2;subst e;refine wpAny_newObj_type (wpAny_newFunctionEnv hcell (by intro y hy;simp at hy) (fun h₁ hns₁ hsb₁=>?_) hk)
 dsimp only at hns₁ hsb₁ |-
 have szp:(s2.heap.push {cls:=.type "list", dict:=none,data:=.seq ([]:List Value).toArray}).objs.size=s2.heap.objs.size+1:=Heap.size_push ..;rw[szp]at hns₁ hsb₁ |-
 have fD:H2 s2.heap.objs.size=none:=I2.hok.fresh (w0f _);obtain⟨W,⟨m0,w0⟩,turn⟩:=rd s2.heap.objs.size fD;have obj2:=T.obj 0 s2.heap st2;have IS:=x9t (Nl:=Nl) (Nf:=Nf) (js:=js) (cl:=cl) (tk:=s2.toks+([]:List (Str×Value)).length) I2 f2 obj2 hk hcell hcl hcf hj hlen hNf hvis hns₁ hsb₁
 have upS:∀b u,s2.heap.get? b=some u->h₁.get? b=some u:=fun b u q=>by
  have hlt:=Heap.lt_size q;exact(hsb₁.2 b (w0p (w1t hlt))).trans (Heap.get?_push_of_some _ (Heap.get?_push_of_some _ q))
 have stS:tn 0 h₁:=T.keep 0 s2.heap h₁ st2 fun b hb o q=>upS b o q
 have noD:∀b∈fp,upd H2 s2.heap.objs.size (.lst []) b=none:=fun b hb=>by
  obtain⟨o,q,_⟩:=obj2 b hb;rw[q0d (w0p (Heap.lt_size q))];exact(f2 b hb).1
 have stat:∀{H':Hp},(∀b∈fp,H' b=none)->∀b∈fp,FpOk (X.cp (Nl++Nf) scope cl (s2.heap.objs.size+1) {s2 with heap:=s2.heap.push {cls:=.type "list", dict:=none,data:=.seq ([]:List Value).toArray}} (upd H2 s2.heap.objs.size (.lst [])) fp) [] H' b:=fun hn b hb=>by
  refine⟨hn b hb,(IS.ok.exf b hb).1,IS.ok.exfs b hb,.inl hb,(IS.ok.exf b hb).2,fun p hp=>(by cases hp)⟩
 have loop:∀s4:Shared,s4={s2 with heap:=h₁,toks:=s2.toks+([]:List (Str×Value)).length} ->
   codeAny (model X.prog X.w) X.A (.compLoop (.ListComp elt [⟨target,iter,ifs,0⟩] scope pos) 0 (.ref it) (.ref s2.heap.objs.size) (compEnvC scope cl (s2.heap.objs.size+1) X.env))
    (compPost (model X.prog X.w) X.A X.xe none (EP X pins σ Q) (.ref s2.heap.objs.size) (s2.heap.objs.size+1)) s4:=by
  rintro s4 rfl;refine x6v (fun n s'=>∃i H',Inv (X.cp (Nl++Nf) scope cl (s2.heap.objs.size+1) {s2 with heap:=s2.heap.push {cls:=.type "list", dict:=none,data:=.seq ([]:List Value).toArray}} (upd H2 s2.heap.objs.size (.lst [])) fp) [] (List.replicate Nl.length none++pj js σ) H' s'/\tn i s'.heap/\(∀b∈fp,H' b=none)/\W i n H') ?_ m0 ⟨0,_,IS,stS,noD,w0⟩
  rintro n s3 ⟨i,H3,I3,st3,fr3,w3⟩;rcases turn i n H3 w3 with⟨stop,qn⟩|⟨go,step⟩
  ·refine thn (T.done (X.cp (Nl++Nf) scope cl (s2.heap.objs.size+1) {s2 with heap:=s2.heap.push {cls:=.type "list", dict:=none,data:=.seq ([]:List Value).toArray}} (upd H2 s2.heap.objs.size (.lst [])) fp) rfl rfl rfl hc i [] s3 _ H3 _ I3 (stat fr3) st3 stop) fun r s5 ⟨hr,I5⟩=>?_
   subst hr;obtain⟨m5,hn5,_⟩:=I5.loc;refine⟨m5,hn5,fun h' hs'=>⟨.ref s2.heap.objs.size,H3,y7i I2 f2 I5 hs',rfl,qn⟩⟩
  ·refine thn (T.item (X.cp (Nl++Nf) scope cl (s2.heap.objs.size+1) {s2 with heap:=s2.heap.push {cls:=.type "list", dict:=none,data:=.seq ([]:List Value).toArray}} (upd H2 s2.heap.objs.size (.lst [])) fp) rfl rfl rfl hc i [] s3 _ H3 _ I3 (stat fr3) st3 go) fun r s5 ⟨u,hr,h5⟩=>?_
   subst hr;refine thn h5 fun _ s6 ⟨x,H6,I6,r6,y6,st6,fr6⟩=>?_
   have I6':=I6.pinned (stat fr6) (T.obj _ _ st6);refine thn (hg _ _ _ _ _ _ s6 _ H6 x u _ I6' r6 (step x H6 y6)) fun _ s7 ⟨σ7,H7,I7,kp,q7⟩=>?_
   refine thn (ht _ _ _ _ _ _ s7 σ7 H7 _ I7 q7) fun ok s8 ⟨H8,I8,q8⟩=>?_
   have again:∀{σ9:St}{H9:Hp}{s9:Shared},Inv (X.cp (Nl++Nf) scope cl (s2.heap.objs.size+1) {s2 with heap:=s2.heap.push {cls:=.type "list", dict:=none,data:=.seq ([]:List Value).toArray}} (upd H2 s2.heap.objs.size (.lst [])) fp) ([]++pinsAt fp s6.heap) σ9 H9 s9 ->
     Kp (List.replicate Nl.length none++pj js σ) σ9->(∃m',m'<n/\W (i+1) m' H9)->∃m,m<n/\∃i H',Inv (X.cp (Nl++Nf) scope cl (s2.heap.objs.size+1) {s2 with heap:=s2.heap.push {cls:=.type "list", dict:=none,data:=.seq ([]:List Value).toArray}} (upd H2 s2.heap.objs.size (.lst [])) fp) [] (List.replicate Nl.length none++pj js σ) H' s9/\tn i s9.heap/\(∀b∈fp,H' b=none)/\W i m H':=fun {σ9 H9 s9} I9 hw ⟨m',hm,w9⟩=>by
    refine⟨m',hm,i+1,H9,I9.unpinned.weak (by rw[I9.len,<- IS.len]) hw,T.keep _ _ _ st6 fun b hb o q=>(I9.pin (b,o) (w0t _ (w0t _ (q4s hb q)))).1,fun b hb=>?_,w9⟩
    obtain⟨o,q,d⟩:=T.obj _ _ st6 b hb;exact(I9.pin (b,o) (w0t _ (w0t _ (q4s hb q)))).2.1
   cases ok with
   |false=>exact again I8 kp (by simpa using q8)
   |true=>
    have q8':=by simpa only[if_true]using q8
    refine thn (he _ _ _ _ _ _ s8 σ7 H8 _ I8 q8') fun y s9 ⟨yv,H9,I9,r9,ys,hD,hz,q9⟩=>?_
    refine thn (x0j _ s9 σ7 H9 (.ref s2.heap.objs.size) [yv] (.ref s2.heap.objs.size) [y] (fun v H'=>v=.non/\H'=upd H9 s2.heap.objs.size (.lst (ys++[yv]))) I9 rfl (.cons r9 .nil) ⟨_,ys,yv,rfl,rfl,hD,hz,rfl,rfl⟩) fun _ s10 ⟨_,H10,I10,_,_,e10⟩=>?_
    subst e10;exact again I10 kp q9
 exact codeAny_compStart_list (loop _ rfl) (T.self X.A 0 _ _ _ stS (loop _ rfl))
end
theorem q6x{env:Env}:∀{names:List (Str×NameKind)}{x:Str},names.lookup x=some .free ->
  (names.map fun(n,k)=>if(k==NameKind.free&&env.scope.kind==.function&&env.kindOf n==some .cell)then(n,NameKind.cell)else(n,k)).lookup x=some .cell \/
  (names.map fun(n,k)=>if(k==NameKind.free&&env.scope.kind==.function&&env.kindOf n==some .cell)then(n,NameKind.cell)else(n,k)).lookup x=some .free
 |[],x,h=>by cases h
 |(n,k)::r,x,h=>by
  have ih:=@q6x env r x;rw[w0y];dsimp only
  by_cases hx:(x==n)=true
  ·simp only[w0s,hx]at h;cases h
   by_cases hq:(NameKind.free==NameKind.free&&env.scope.kind==.function&&env.kindOf n==some .cell)=true
   ·rw[if_pos hq];left;simp[w0s,hx]
   ·rw[if_neg hq];right;simp[w0s,hx]
  ·have hb:(x==n)=false:=w1l.mpr hx;simp only[w0s,hb]at h;have z:=ih h
   by_cases hq:(k==NameKind.free&&env.scope.kind==.function&&env.kindOf n==some .cell)=true
   ·rw[if_pos hq];simpa only[w0s,hb]using z
   ·rw[if_neg hq];simpa only[w0s,hb]using z
noncomputable def compOk(sc scope:Scope)(N Nf:List Str)(js:List Nat):Bool:=
 scope.kind==.function&&scope.names.all (fun y=>y.2 != .cell)&&scope.names.all (fun y=>y.2 != .local||scope.names.lookup y.1==some .local) &&
 scope.names.all (fun y=>y.2 != .free||sc.names.lookup y.1==some .cell||sc.names.lookup y.1==some .free)&&js.length==Nf.length &&
 (List.range js.length).all (fun i=>match js[i]?,Nf[i]? with|some j,some y=>N[j]?==some y|_,_=>true) &&
 Nf.all (fun y=>scope.names.lookup y==some .free&&(sc.names.lookup y==some .cell||sc.names.lookup y==some .free))
theorem q78{elt target iter:Expr}{scope sc:Scope}{wi:TI}{g:TG}{tc:TT}{Nl Nf:List Str}(hc:X.calm=true)(hi:PI X target iter wi)
  (ok:compOk sc scope N Nf js=true)
  (hg:∀cl C s₀ H₀ ex,PG (X.cp (Nl++Nf) scope cl C s₀ H₀ ex) target g)(ht:∀cl C s₀ H₀ ex,PTs (X.cp (Nl++Nf) scope cl C s₀ H₀ ex) ifs tc)(he:∀cl C s₀ H₀ ex,PE (X.cp (Nl++Nf) scope cl C s₀ H₀ ex) elt te)
  (hsc:X.env.scope=sc:=by rfl)(hN:X.N=N:=by rfl)(hs:∀x,foldedSetIterable iter X.env x=pure x:=by intro _;rfl):
  PE X (.ListComp elt [⟨target,iter,ifs,0⟩] scope pos) (tComp wi Nl.length js g tc te):=by
 unfold compOk at ok;simp only[w1b,w0v,beq_iff_eq,bne_iff_ne,w3v,w1o]at ok;obtain⟨⟨⟨⟨⟨⟨k1,k2⟩,k3⟩,k4⟩,k5⟩,k6⟩,k7⟩:=ok;have kind:∀x,X.env.kindOf x=sc.names.lookup x:=fun x=>by rw[<- hsc];rfl
 refine y3h hc hi k1 k2 (fun x hx hl=>(k3 x hx).resolve_left fun z=>z hl) (fun x hx hf=>?_) (fun i j y e1 e2=>?_) k5 (fun y hy=>?_) (fun y hy=>?_) hg ht he hs
 ·rw[kind];rcases k4 x hx with(z|z)|z
  ·exact absurd hf z
  ·exact .inl z
  ·exact .inr z
 ·have hlt:i<js.length:=(w0b.mp e2).1;have z:=k6 i hlt;rw[e1,e2]at z;rw[hN]
  simpa using z
 ·obtain⟨z1,z2⟩:=k7 y hy;refine⟨PySem.mem_of_lookup z1,?_,?_⟩
  ·rw[hsc];rcases z2 with z|z
   ·exact .inr (.inl z)
   ·exact .inr (.inr z)
  ·rw[kind];rcases z2 with z|z<;>(rw[z];decide)
 ·exact q6x (k7 y hy).1
abbrev TF:=Str->St->Hp->(Str->Hp->Prop)->Prop
def PF(X:Cx)(es:List Expr)(t:TF):Prop:=∀(acc:Str)(pins:List (Addr×Obj))(s:Shared)(σ:St)(H:Hp)(Q:Str->Hp->Prop),Inv X pins σ H s->t acc σ H Q ->
 Joins (model X.prog X.w) X.A X.xe (evalEach es X.env) acc (fun out s'=>out.length<=sizeLine/\∃H',Inv X pins σ H' s'/\Q out H') s
namespace RevT
variable{I c f:Addr}{A:Around}{X:Cx}{e:Expr}{h:Heap}{H H':Hp}{EE:L2.St->XK}{es:List Expr}{ps:List Str}{k:Nat}{p pos:Pos}{P prog:Program}{K:PySem.W.Frag}{s:Shared}{x:Str}{te:TE}{E:Value->Shared->Prop}{w:World}
theorem nolen:typeLookup (.type "list_reverseiterator") "__len__"=pure none:=by rw[typeLookup_type,builtinLookup_eq_fast];kernel_rfl
theorem hint:typeLookup (.type "list_reverseiterator") "__length_hint__"=pure (some (.builtin "list_reverseiterator.__length_hint__")):=by rw[typeLookup_type,builtinLookup_eq_fast];kernel_rfl
section
variable{fp wr:List Addr}{G:Array GenState->Array GenState->Prop}{n:Nat}{P:Nat->Value->Prop}{St:Nat->Shared->Prop}
theorem x3l{Q:List Value->Shared->Prop}(W:WalksS prog w A.in1 I fp wr G n P St)(hT:∀i s,St i s->s.TypeIs (.ref I) "list_reverseiterator")(hst:St 0 s)(hfp:∀b∈fp,b<s.heap.objs.size)(hI:I∈fp)
  (hQ:∀s' acc,Moved wr G s s'->ItemsOf P acc n->Q acc.toList s')(hn:n<=sizeLine):wpAny (model prog w) A (collect (.ref I)) Q E s:=by
 have hSf:s.heap.objs.size∉fp:=fun hm=>w1x _ (hfp _ hm)
 have hSI:s.heap.objs.size≠I:=fun e=>hSf (e ▸ hI)
 unfold collect;refine wpAny_bind (wpAny_runValue (codeAny_builtin F.entry_proto_collect ?_));rw[Around.under_plainId F.plain_proto_collect _];show wpAny _ A.in1 (newList [] >>= fun l=>again (.builtin "list.__iadd__" ⟨[l,.ref I],[]⟩)) _ _ s
 refine wpAny_bind (wpAny_newObj_type ?_);refine wpAny_pure ⟨plainId_quiet F.plain_list_iadd _,codeAny_builtin F.entry_list_iadd ?_⟩;rw[Around.under_plainId F.plain_list_iadd _];have hst1:=W.frame 0 s (s.heap.push {cls:=.type "list", data:=.seq ([]:List Value).toArray}) s.toks hst (w0f _) fun b _ o e=>Heap.get?_push_of_some _ e
 have hS1:(s.heap.push {cls:=.type "list", data:=.seq ([]:List Value).toArray}).get? s.heap.objs.size=some {cls:=.type "list", data:=.seq ([]:List Value).toArray}:=Heap.get?_push_size _ rfl;have h1:Builtin.List.listSameRef (.ref s.heap.objs.size) (.ref I)=false:=by simp[Builtin.List.listSameRef,hSI]
 show wpAny _ A.in1 (Builtin.List.listExtendWith (.ref s.heap.objs.size) (.ref I) (.ref s.heap.objs.size)) _ _ _;unfold Builtin.List.listExtendWith;refine wpAny_bind (wpAny_typeOf (hT 0 _ hst1) ?_);rw[if_neg (by rw[h1];decide)];refine wpAny_bind (W.self 0 _ _ _ hst1 ?_);refine wpAny_bind (wpAny_holding ?_);unfold Builtin.List.listLengthHint;refine wpAny_bind (wpAny_specialOf (hT 0 _ hst1) nolen ?_);show wpAny _ A.in1 (specialOf (Value.ref I) (Str.ofString "__length_hint__") >>= _) _ _ _;refine wpAny_bind (wpAny_specialOf (hT 0 _ hst1) hint ?_)
 (generalize hid:("list_reverseiterator.__length_hint__":String)=id0;(fail_if_success (clear hid id0));wp_delta;rw[show splitId id0=some ("list_reverseiterator", "__length_hint__")from by subst hid;decide +kernel];subst hid)
 refine wpAny_bind (wpAny_isInstance (b:=true) (hT 0 _ hst1) (by rw[isSubtype_type];kernel_rfl) ?_);refine wpAny_pure ?_;rw[if_neg (by decide)];refine wpAny_pure ⟨plainId_quiet F.plain_extend_loop _,codeAny_extend_loopS W hn _ hSf _ n 0 _ _ _ rfl (w1a _) hst1 hS1 (ItemsOf.nil P) fun s' acc' c' hm hS' hacc=>?_⟩
 show wpAny _ A (load s.heap.objs.size >>= _) _ _ s';refine wpAny_bind (wpAny_load hS' ?_);exact wpAny_pure (hQ s' acc' (Moved.drop_new (o:={cls:=.type "list", data:=.seq ([]:List Value).toArray}) (tk:=s.toks) hm (w0f _)) hacc)
end
open AutoSeq1 (wpAny_loadPart')
theorem x5f{l:Addr}{items:Array Value}{Q:List Value->Shared->Prop}(hh:A.handled=none)(hne:l≠I)(hit:s.heap.IsRevIter I l ((items.size:Int)-1))(hl:s.heap.IsList l items)(hsz:items.size<=sizeLine)
  (hQ:∀s' acc,Moved [I] (fun a b=>b=a) s s'->ItemsOf (fun i v=>items[items.size-1-i]?=some v) acc items.size->Q acc.toList s'):wpAny (model prog w) A (collect (.ref I)) Q E s:=by
 have hlt:∀b∈[I,l],b<s.heap.objs.size:=fun b hb=>by
  rcases w0j.mp hb with z|z
  ·rw[z];obtain⟨_,e,_⟩:=hit;exact Heap.lt_size e
  ·rw[w1f.mp z];obtain⟨_,e,_⟩:=hl;exact Heap.lt_size e
 exact x3l (Walks.listRev (A:=A.in1) hh I l hne items).toS (fun _ _ st=>st.2.1.typeIs) ⟨w1a _,by simpa using hit,hl⟩ hlt w0n hQ hsz
theorem x1f(I l:Addr)(items:Array Value)(hne:l≠I)(hsz:items.size<=sizeLine):
  Meets (Builtin.«tuple.__new__» ⟨[.type "tuple", .ref I],[]⟩)
   (fun A R s=>A.handled=none/\s.heap.IsRevIter I l ((items.size:Int)-1)/\s.heap.IsList l items/\∀(s':Shared)(acc:Array Value),Moved [I] (fun a b=>b=a) s s'->ItemsOf (fun i v=>items[items.size-1-i]?=some v) acc items.size ->
    R (.ok (.ret (.ref s'.heap.objs.size))) {s' with heap:=s'.heap.push {cls:=.type "tuple", data:=.seq acc}}):=
 .of_wp fun prog w A R s h=>by
  obtain⟨hh,hit,hl,h⟩:=h;have hsub:=sub_tuple_self;have hinit:=init_tuple_lookup;have hmh:=madeHere_tuple;have hT:s.TypeIs (.ref I) "list_reverseiterator":=hit.typeIs;have hh1:A.in1.handled=none:=hh
  wp_walk using wpAny_typeOf hT,x5f hh1 hne hit hl hsz
  intro s' acc hm hacc;show wpAny _ _ (Builtin.Tuple.tupleExact acc.toList.toArray >>= fun v=>ret v) _ _ _
  unfold Builtin.Tuple.tupleExact;refine wpAny_bind (wpAny_newObj_type ?_ (show acc.toList.toArray.size<=sizeLine by simp only[Array.toArray_toList];rw[hacc.1];exact hsz));refine wpAny_pure ⟨_,rfl,?_⟩;have e:acc.toList.toArray=acc:=by simp
  rw[e];exact h s' acc hm hacc
theorem call_rev{l:Addr}{items:Array Value}{Q:Value->Shared->Prop}(hh:A.handled=none)(hne:l≠I)(hit:s.heap.IsRevIter I l ((items.size:Int)-1))(hl:s.heap.IsList l items)(hsz:items.size<=sizeLine)
  (h:∀(h':Heap)(tk:Nat)(acc:Array Value),(∀b o,b≠I->s.heap.get? b=some o->h'.get? b=some o)->ItemsOf (fun i v=>items[items.size-1-i]?=some v) acc items.size->Q (.ref h'.objs.size) {s with heap:=h'.push {cls:=.type "tuple", data:=.seq acc},toks:=tk}):
  wpAny (model prog w) A (call (.type "tuple") [.ref I]) Q E s:=by
 refine callType_new F.called_tuple (by decide) (F.typeCall_tuple_1 _) (F.newCall_tuple_1 _) (fun obj=>F.args_object_init_2 obj _) F.entry_tuple_new
  (x1f I l items hne hsz) ⟨hh,hit,hl,fun s' acc hm hacc=>⟨⟨_,Heap.get?_push_size _ rfl,rfl⟩,?_⟩⟩
 rw[Moved.eq_with hm];exact h s'.heap s'.toks acc (fun b o hb e=>hm.heap b o (fun z=>hb (w1f.mp z)) e) hacc
end RevT
def tTupRev(K:PySem.W.Frag)(te:TE):TE:=fun σ H Q=>te σ H fun x H1=>∃p ys,x=.ref p/\SqL K H1 p ys/\∀l,H1 l=none->Q (.ref l) (upd H1 l (.tup ys.reverse))
theorem x6w{p1 p2 pos1 pos2:Pos}(hc:X.calm=true)(hm1:X.mg "tuple"=none)(hm2:X.mg "reversed"=none)(he:PE X e te)(hg1:Gl X "tuple":=by rfl)(hg2:Gl X "reversed":=by rfl)
  (hs1:starEach [.Call (.Name "reversed" p2) [e] [] pos2] X.env=(false,eval (.Call (.Name "reversed" p2) [e] [] pos2) X.env)::starEach [] X.env:=by rfl)(hs2:starEach [e] X.env=(false,eval e X.env)::starEach [] X.env:=by rfl):
  PE X (.Call (.Name "tuple" p1) [.Call (.Name "reversed" p2) [e] [] pos2] [] pos1) (tTupRev X.K te):=by
 intro pins s σ H Q I h;refine wpAny_Call_Name_kw (q4w I hg1 hm1 PyProof.Rows.Boot.«tuple» ?_ (by decide));refine PyProof.Rows.callWith_type1 ?_ hs1 rfl;rw[hs1];show wpAny _ _ (spliced ((false,eval (.Call (.Name "reversed" p2) [e] [] pos2) X.env)::backTo pos1 (starEach [] X.env))) _ _ s;refine Calls.spliced_cons ?_;refine wpAny_Call_Name_kw (q4w I hg2 hm2 PyProof.Rows.Boot.«reversed» ?_ (by decide));refine PyProof.Rows.callWith_type1 ?_ hs2 rfl;rw[hs2];show wpAny _ _ (spliced ((false,eval e X.env)::backTo pos2 (starEach [] X.env))) _ _ s;refine Calls.spliced_cons (thn (he pins s σ H _ I h) fun v s1 ⟨x,H1,I1,rx,p,ys,ex,hq,q⟩=>Calls.spliced_nil ?_)
 subst ex;cases rx;obtain⟨its,r',pl,hz⟩:=I1.list hq;have hl:=pl.isList;have hlt:p<s1.heap.objs.size:=by obtain⟨_,e,_⟩:=hl;exact Heap.lt_size e
 refine call_reversed_list hl ?_;refine Calls.spliced_nil ?_;have hh:X.A.handled=none:=I1.ok.hd hc;refine RevT.call_rev (items:=its.toArray) hh (w0p hlt) ⟨_,Heap.get?_push_size _ rfl,rfl,rfl⟩ (hl.push _) (by simp only[w0e];rw[<- r'.length];exact hz) fun h' tk acc kp hacc=>?_
 have up:∀b o,s1.heap.get? b=some o->h'.get? b=some o:=fun b o hbo=>kp b o (w0p (Heap.lt_size hbo)) (Heap.get?_push_of_some _ hbo)
 have I2:Inv X pins σ H1 {s1 with heap:=h',toks:=tk}:=I1.kept (t':=tk) up
 have ea:acc=its.reverse.toArray:=by
  obtain⟨n1,n2⟩:=hacc;apply Array.ext';apply List.ext_getElem?;intro i
  by_cases hi:i<its.length
  ·have hi':i<acc.size:=by rw[n1];simpa using hi
   have z:=n2 i acc[i] (by simp[hi']);simp only[w0e,w3w]at z;rw[List.getElem?_reverse hi,z];simp[hi']
  ·rw[w1w (by simp at n1 |-;omega),w1w (by simp;omega)]
 subst ea
 have I3:Inv X pins σ (upd H1 h'.objs.size (.tup ys.reverse)) {s1 with heap:=h'.push {cls:=.type "tuple", data:=.seq its.reverse.toArray},toks:=tk}:=
  I2.laid (t':=tk) (fun b o e=>Heap.get?_push_of_some _ e) (w0f _) (show ObjOk X.prog X.w _ _ _ (.tup ys.reverse)from⟨by rw[w2j];exact hz,its.reverse,r'.reverse,IsTup.new _ _,_,Heap.get?_push_size _ rfl,rfl⟩)
 exact⟨.ref h'.objs.size,_,I3,rfl,q _ (I2.hok.fresh (w0f _))⟩
open PySem PySem.Spec PyProof.Rows
structure ExcCls(K:PySem.W.Frag)(D:Addr):Prop where
 ga:findIn K (.ref D) "__getattribute__"=some (some (.builtin "BaseException.__getattribute__"))
 gt:findIn K (.ref D) "__getattr__"=some none
 cl:findIn K (.ref D) "__class__"=some (some (.builtin "object.__class__"))
 gs:specialIn K (.builtin "object.__class__") "__get__"=some (some (.builtin "getset_descriptor.__get__"))
 tk:takesIn K (.builtin "object.__class__")=some true
 mo:PySem.W.mroIn K D (.type "object")=some true
 mb:PySem.W.mroIn K D (.type "BaseException")=some true
 cd:(PySem.W.clsIn K D).isSome=true
noncomputable def excClsIn(K:PySem.W.Frag)(D:Addr):Bool:=
 findIn K (.ref D) "__getattribute__"==some (some (.builtin "BaseException.__getattribute__"))&&findIn K (.ref D) "__getattr__"==some none &&
 findIn K (.ref D) "__class__"==some (some (.builtin "object.__class__"))&&specialIn K (.builtin "object.__class__") "__get__"==some (some (.builtin "getset_descriptor.__get__")) &&
 takesIn K (.builtin "object.__class__")==some true&&PySem.W.mroIn K D (.type "object")==some true&&PySem.W.mroIn K D (.type "BaseException")==some true&&(PySem.W.clsIn K D).isSome
theorem ExcCls.of{D:Addr}(h:excClsIn K D=true):ExcCls K D:=by
 unfold excClsIn at h;simp only[w1b,beq_iff_eq]at h;obtain⟨⟨⟨⟨⟨⟨⟨h1,h2⟩,h3⟩,h4⟩,h5⟩,h6⟩,h7⟩,h8⟩:=h;exact⟨h1,h2,h3,h4,h5,h6,h7,h8⟩
def ExcAt(e D:Addr)(h:Heap):Prop:=∃o vs,h.get? e=some o/\o.cls=.ref D/\o.data=.fields vs
section
variable{e D:Addr}
open PySem.W Builtin Builtin.ObjectAttr Builtin.Getset_descriptor
theorem q8x{M:Model}(p:ExcAt e D h):Looks M h (typeOf (.ref e)) (.ref D):=by
 obtain⟨o,vs,h1,h2,h3⟩:=p;exact h2 ▸ (Looks.ld h1).andThen .now
theorem x9u{M:Model}(X:K.In h)(C:ExcCls K D):Looks M h (find (.ref e) (.ref D) "__class__") (.bind (.builtin "getset_descriptor.__get__") (.builtin "object.__class__")):=by
 have L1:=looks_findIn (M:=M) X C.cl;have L2:Looks M h (getOf (some (.builtin "object.__class__"))) (some (.builtin "getset_descriptor.__get__")):=looks_specialIn X C.gs;have L3:=looks_takesIn (M:=M) X C.tk;refine L1.andThen (L2.andThen ?_);exact(show Looks M h (dataDescriptor? (some (.builtin "object.__class__")) (some (.builtin "getset_descriptor.__get__"))) (some (.builtin "getset_descriptor.__get__", .builtin "object.__class__"))from L3.andThen .now).andThen (Looks.tag .now)
theorem y3i{tp:Value}{R:Result->Shared->Prop}(X:K.In s.heap)(p:ExcAt e D s.heap)(hm:mroIn K D (.type "object")=some true)
  (h:R (.ok (.ret (.ref D))) s):codeAny (model prog w) A (.call (.builtin "getset_descriptor.__get__") ⟨[.builtin "object.__class__", .ref e,tp],[]⟩) R s:=by
 obtain⟨hh,g,dr,t,os⟩:=s;have L0:=q8x (M:=model prog w) p;have L1:=looks_mroIn (M:=model prog w) X hm;refine codeAny_call_builtin KF.slot_gs.plain KF.entry_gs (KF.slot_gs.check _ _ _ _ _ _ _ _ KF.type_class (KF.args_gs _ _ _) ?_);unfold Builtin.«getset_descriptor.__get__» descrGet;rw[dga_obj];refine wpAny_bind (wpAny_pure ?_);unfold descrGetter descrCheckInstance descrNameAndClass isInstance;simp only[KF.owner_class]
 repeat lk
 refine⟨Code.quiet_builtin _ (by decide +kernel),codeAny_builtin KF.entry_class ?_⟩;unfold Builtin.«object.__class__» shownTypeOf
 repeat lk
 exact h
theorem x6x{M:Model}{nameV:Value}{Q:Unit->Shared->Prop}{g:Array GenState}{d:Drawn}{t:Nat}{os:OsState}(X:K.In h)(p:ExcAt e D h)(hm:mroIn K D (.type "BaseException")=some true)(hq:Q () ⟨h,g,d,t,os⟩):
  wpAny M A (checkBuiltinCall "BaseException.__getattribute__" ⟨[.ref e,nameV],[]⟩) Q E ⟨h,g,d,t,os⟩:=by
 have hk:builtinKind "BaseException.__getattribute__"=some .slot:=by decide +kernel
 have hsplit:splitId "BaseException.__getattribute__"=some ("BaseException", "__getattribute__"):=by decide +kernel
 have L0:=q8x (M:=M) p;have L1:=looks_mroIn (M:=M) X hm;have LI:Looks M h (isInstance (.ref e) (.type "BaseException")) true:=L0.andThen L1;have ha:=PySem.F.args_bexc_ga (.ref e) nameV;simp only[checkBuiltinCall,hk,hsplit];refine wpAny_bind (LI.at ?_);rw[if_neg (by decide)];unfold argsOk at ha;split
 ·rename_i sig hs;rw[hs]at ha;exact wpAny_of_eq ha hq
 ·exact wpAny_pure hq
theorem x6y{Q:Option Value->Shared->Prop}(X:K.In s.heap)(p:ExcAt e D s.heap)(C:ExcCls K D)(h:Q (some (.ref D)) {s with toks:=s.toks+1}):wpAny (model prog w) A (getAttr? (.ref e) "__class__") Q E s:=by
 obtain⟨hh,g,d,t,os⟩:=s;have L0:=q8x (M:=model prog w) p;have L1:=looks_findIn (M:=model prog w) X C.ga;have L2:=looks_findIn (M:=model prog w) X C.gt;have L3:=x9u (M:=model prog w) (e:=e) X C;unfold getAttr? getAttrBy? getAttrBy;refine wpAny_bind (wpAny_mkText (wpAny_bind (wpAny_attempt (wpAny_holding (wpAny_bind (L0.at (wpAny_bind (L1.at ?_))))))));have hx2:(Value.builtin "BaseException.__getattribute__"==Value.builtin "object.__getattribute__")=false:=by decide +kernel
 have hx1:(onTheHeap (Value.ref D)&&Value.builtin "BaseException.__getattribute__"==Value.builtin "object.__getattribute__")=false:=by rw[hx2];rfl
 dsimp only;rw[if_neg (by rw[hx1];decide)];unfold getAttrByItsOwn hookBefore;rw[if_pos (by rfl)];refine wpAny_bind (L2.at ?_);refine wpAny_bind (wpAny_attempt (wpAny_holding ?_));unfold callGetattribute;rw[if_neg (by decide)];unfold boundAndCalled;have f3:=PySem.F.excAttr_ValueError.ga.bind (.ref e);refine wpAny_bind (wpAny_of_eq f3 ?_);refine wpAny_call (codeAny_call_builtin PySem.F.excAttr_ValueError.ga.plain F.entry_bexc_ga (x6x (K:=K) (D:=D) X p C.mb ?_));unfold Builtin.«object.__getattribute__»;refine wpAny_bind (wpAny_of_eq (a:=(Value.ref e,[Value.str (Str.ofString "__class__") t])) (by rfl) ?_);dsimp only;refine wpAny_bind (wpAny_of_eq (a:=Str.ofString "__class__") (by rfl) ?_);refine wpAny_bind (L0.at (wpAny_bind (L3.at ?_)));dsimp only;unfold bindTo;refine wpAny_bind (wpAny_holding (wpAny_call (y3i (K:=K) (D:=D) X p C.mo ?_)));dsimp only;refine wpAny_pure ?_;dsimp only;refine wpAny_of_eq (a:=Value.ref D) (by rfl) ?_;exact wpAny_pure h
theorem x9v(C:ExcCls K D):KitX K (.ref e) (.ref D) (ExcAt e D) where
 ty:=fun _ _ _ p=>q8x p
 it:=fun M h X p=>by
  have hcD:=C.cd;unfold clsIn at hcD;split at hcD
  ·rename_i c' d' cd' sl' ho;intro A' Q' E' s' k q;unfold isType loadHead;exact wpAny_bind (wpAny_loadPart (k _ _ (X _ _ ho)) (wpAny_pure q))
  ·cases hcD
 ne:=fun h tp dd its n sl X htp=>by
  refine w1l.mpr fun q=>?_
  have e1:D=tp:=Value.ref.inj (beq_iff_eq.mp q);subst e1;have hcD:=C.cd;unfold clsIn at hcD;split at hcD
  ·rename_i c' d' cd' sl' ho;have z:=(X _ _ ho).symm.trans htp;cases z
  ·cases hcD
 ca:=fun X p k=>x6y X p C k
end
def ClsV:V->Value->Prop
 |.ty n,c=>c=.type n
 |.ref a,c=>c=.ref a
 |_,_=>False
structure Cal(P:Program)(w:World)(K:PySem.W.Frag)(mg:Str->Option Value)(base:Heap)(k:Nat)(x:Str)(ps:List Str)(sp:Sp):Prop where
 ex:∃f fd,FnOk P w K mg base (CX1 P w) k f fd ps sp/\mg x=some (.ref f)/\keepIn K (.ref f)=true/\Binds K fd ps []
structure CalH(P:Program)(w:World)(K:PySem.W.Frag)(mg:Str->Option Value)(base:Heap)(k:Nat)(x:Str)(ps:List Str)(sp:Sp):Prop where
 ex:∃f fd,FnOkH P w K mg base k f fd ps sp/\mg x=some (.ref f)/\keepIn K (.ref f)=true/\Binds K fd ps []
structure At(K:PySem.W.Frag)(mg:Str->Option Value)(x:Str)(st:Stmt)(ps:List Str):Prop where
 ex:∃f fd,Fun K x x st f fd/\mg x=some (.ref f)/\Binds K fd ps []
section
variable{mg:Str->Option Value}{base:Heap}
theorem At.cal{st:Stmt}{N:List Str}{sp:Sp}(F:At K mg x st ps)(S:FnScope N ps (defScope st))(len:∀vs H Q E,sp vs H Q E->vs.length=ps.length)
  (hbody:∀(f:Addr)(cdv:Value)(A:Around)(outer:List Env)(s:Shared)(H:Hp)(vs:List V)(Q:VK)(E:XK),Room k (A.deeper (envOfC x (defScope st) s.heap.objs.size f cdv))->sp vs H Q E ->
   ∃t,PSs (cxOf (CX1 P w) P w K mg base N x (defScope st) f cdv A outer s H E) (defBody st) t/\t {nx:=fun _ H'=>Q .non H',rt:=Q} (start N vs) H):Cal P w K mg base (k+1) x ps sp:=by
 obtain⟨f,fd,F,m,b⟩:=F.ex;exact⟨f,fd,F.okX S len (hbody f),m,F.kp,b⟩
end
section
variable{sp:Sp}{t:TA}
theorem x6z(C:Cal X.prog X.w X.K X.mg X.base k x ps sp)(hr:Room k X.A)(hx:PassX (CX1 X.prog X.w) X EE)(ha:PA X (e::es) t)(hg:Gl X x:=by rfl)
  (hdb:(x==("__debug__":Str))=false:=by decide)(he:starEach (e::es) X.env=(false,eval e X.env)::starEach es X.env:=by rfl)(hpl:(backTo pos (starEach es X.env)).any (·.1)=false:=by rfl):
  PE X (.Call (.Name x p) (e::es) [] pos) (tCallX sp [] EE t):=by
 obtain⟨f,fd,F,m,kp,b⟩:=C.ex;exact x9r F hr hg m kp b .nil hx ha hdb he hpl
end
section
variable{t:TA}{pos':Pos}
theorem q8y(i:Nat)(hN:X.N.Nodup)(he:PE X e te)(hi:X.N[i]?=some x:=by rfl)(hx:Loc X.env.scope x:=by walk_at "3")(hs:swapsWith e (some (.Name x pos')) pos.line X.env=pure false:=by rfl)(hf:X.fn x=true\/X.env.scope.names.lookup x=some .local:=by walk_at "2"):
  PS X (.Assign [.Name x pos'] e pos) (tAsg te (gName i)):=y68 hN hi hx he hs hf
theorem q17(i:Nat)(hN:X.N.Nodup)(hi:X.N[i]?=some x:=by rfl)(hx:Loc X.env.scope x:=by walk_at "3")(hf:X.fn x=true\/X.env.scope.names.lookup x=some .local:=by walk_at "2"):PG X (.Name x pos) (gName i):=y26 hN hi hx hf
theorem x60{o:Expr}{to:TE}{apos:Pos}(ho:PE X o to)(ha:PA X (e::es) t)(hbase:attributeBase o "append" X.env (eval o X.env)=eval o X.env:=by rfl)
  (hfew:((backTo pos (starEach (e::es) X.env)).all (fun x=>!x.1)&&(backToKw pos (keywordEach [] X.env)).all (fun x=>x.1.isSome)&&decide ((e::es).length+([]:List Keyword).length+(if([]:List Keyword).isEmpty then 0 else 1)<30))=true:=by rfl)
  (hline:(apos.endLine==pos.line)=true:=by rfl)(hs:starEach (e::es) X.env=(false,eval e X.env)::starEach es X.env:=by rfl)(hplain:(backTo pos (starEach es X.env)).any (·.1)=false:=by rfl):
  PE X (.Call (.Attribute o "append" apos) (e::es) [] pos) (tBM X.K "list" rAppend to t):=y2o PySem.F.plainAttrs_list PySem.F.slot_list_append PySem.F.type_list_append x0j ho ha hbase hfew hline hs hplain
end
theorem q20{p:Addr}(h:H p=none)(o:HO):Same H (upd H p o):=fun b u q=>by rw[q0d (q0p q h)];exact q
theorem Same.tup{a:Addr}{xs:List V}(e:Same H H')(h:SqT K H a xs):SqT K H' a xs:=by
 rcases h with(h|⟨o,h⟩)|h
 ·exact .inl (.inl (e _ _ h))
 ·exact .inl (.inr ⟨o,e _ _ h⟩)
 ·exact .inr h
noncomputable abbrev rawO(o:Obj):HO:=.frz o (.own 0)
noncomputable abbrev fnO(o:Obj)(q:Str)(c:Addr):HO:=.frz o (.tbl #[.bool false,.str q 0,.ref c])
noncomputable abbrev celO(o:Obj):HO:=.frz o (.ext fun _=>True)
noncomputable abbrev Cs:=List (Addr×Obj)
variable{cs:Cs}
noncomputable def rmC(H:Hp)(cs:Cs):Hp:=fun b=>match cs.lookup b with
 |some _=>none
 |none=>H b
noncomputable def addC(H:Hp)(cs:Cs):Hp:=fun b=>match cs.lookup b with
 |some o=>some (celO o)
 |none=>H b
section
variable{b:Addr}{o:Obj}{u:HO}
theorem q6y(h:cs.lookup b=some o):rmC H cs b=none:=by unfold rmC;rw[h]
theorem q1r(h:cs.lookup b=none):rmC H cs b=H b:=by unfold rmC;rw[h]
theorem q2g(h:cs.lookup b=some o):addC H cs b=some (celO o):=by unfold addC;rw[h]
theorem q0s(h:cs.lookup b=none):addC H cs b=H b:=by unfold addC;rw[h]
theorem q4z(h:H b=none):rmC H cs b=none:=by unfold rmC;split<;>first|rfl|exact h
def CelsIn(H:Hp)(cs:Cs):Prop:=∀b o,cs.lookup b=some o->H b=some (celO o)
theorem CelsIn.out(c:CelsIn H cs)(h:H b=none):cs.lookup b=none:=by
 cases q:cs.lookup b with
 |none=>rfl
 |some o=>rw[c b o q]at h;cases h
theorem CelsIn.out'(c:CelsIn H cs)(h:H b=some u)(n:∀o,u≠celO o):cs.lookup b=none:=by
 cases q:cs.lookup b with
 |none=>rfl
 |some o=>rw[c b o q]at h;cases h;exact absurd rfl (n o)
theorem CelsIn.rm_some(c:CelsIn H cs)(h:H b=some u)(n:∀o,u≠celO o):rmC H cs b=some u:=by rw[q1r (c.out' h n)];exact h
theorem x5g(h:rmC H cs b=some u):H b=some u/\cs.lookup b=none:=by
 unfold rmC at h;split at h
 ·cases h
 ·rename_i q;exact⟨h,q⟩
theorem q70(t:TupLike u):∀o,u≠celO o:=fun o z=>by subst z;exact t
end
section
variable{h':Heap}{fs ex:List Addr}
theorem HOk.rm(x:HOk P w H h)(c:CelsIn H cs):HOk P w (rmC H cs) h:=fun a u e=>by
 obtain⟨e1,_⟩:=x5g e;exact(x a u e1).stay (fun b v _ q=>q) (fun b q=>c.rm_some q fun o z=>nomatch z) fun b v t q=>c.rm_some q (q70 t)
theorem HOk.add(x:HOk P w H h)(hc:∀b o,cs.lookup b=some o->H b=none/\h.get? b=some o):HOk P w (addC H cs) h:=fun a u e=>by
 cases q:cs.lookup a with
 |some o=>
  rw[q2g q]at e;cases e;exact⟨(hc a o q).2,trivial,⟨o,(hc a o q).2⟩,fun _ _ _ _=>trivial⟩
 |none=>
  rw[q0s q]at e
  have out:∀b v,H b=some v->addC H cs b=some v:=fun b v z=>by
   cases q2:cs.lookup b with
   |some o=>rw[(hc b o q2).1]at z;cases z
   |none=>rw[q0s q2];exact z
  exact(x a u e).stay (fun b v _ q=>q) (fun b q=>out b _ q) fun b v t q=>out b v q
theorem y3j{o:Obj}{q:Str}(x:HOk P w H h)(e:H f=some (fnO o q c)):h.get? f=some o/\h.CodeRec (.ref c) q:=by
 obtain⟨h1,h2⟩:=(show h.get? f=some o/\ObjOk P w H h f (.tbl #[.bool false,.str q 0,.ref c])from x f _ e);refine⟨h1,?_⟩;rcases h2 with⟨_,_,p0,_⟩|⟨q',c',oc,ob,vs,t,_,p1,p2,h3,h4,h5,_⟩
 ·cases p0
 ·cases p1;cases p2;exact⟨c,oc,vs,t,rfl,(show h.get? c=some oc/\_ from x c _ h3).1,h4,h5⟩
theorem Un.cells(u:Un fs ex (rmC H cs) H' h h')(c:CelsIn H cs):Un fs ex H (addC H' cs) h h' where
 keep:=fun b o q n hb hx=>u.keep b o q (q4z n) hb hx
 slot:=fun b o q n hb hx=>u.slot b o q (q4z n) hb hx
 free:=fun b o q n hx=>by rw[q0s (c.out n)];exact u.free b o q (q4z n) hx
 there:=u.there
 tups:=fun b xs q=>by
  have z:=c.out' q fun o z=>nomatch z
  rw[q0s z];exact u.tups b xs (by rw[q1r z];exact q)
 frzs:=fun b o v q=>by
  cases z:cs.lookup b with
  |some o'=>
   rw[q2g z];rw[c b o' z]at q;exact q
  |none=>rw[q0s z];exact u.frzs b o v (by rw[q1r z];exact q)
 tbls:=fun b ps q=>by
  have z:=c.out' q fun o z=>nomatch z
  rw[q0s z];exact u.tbls b ps (by rw[q1r z];exact q)
theorem Un.nocells(u:Un fs ex (addC H cs) H' h h')(hok:HOk P w H' h')(hc:∀b o,cs.lookup b=some o->H b=none/\h.get? b=some o):Un fs ex H (rmC H' cs) h h':=by
 have inn:∀b o,cs.lookup b=some o->H' b=some (celO o)/\h'.get? b=some o:=fun b o z=>by
  have q:=u.frzs b o _ (q2g z);exact⟨q,(show h'.get? b=some o/\_ from hok b _ q).1⟩
 refine⟨fun b o q n hb hx=>?_,fun b o q n hb hx=>?_,fun b o q n hx=>?_,u.there,fun b xs q=>?_,fun b o v q=>?_,fun b ps q=>?_⟩
 ·cases z:cs.lookup b with
  |some o'=>
   have:=(hc b o' z).2;rw[q]at this;cases this;exact(inn b _ z).2
  |none=>exact u.keep b o q (by rw[q0s z];exact n) hb hx
 ·cases z:cs.lookup b with
  |some o'=>
   have:=(hc b o' z).2;rw[q]at this;cases this;exact⟨o.slots,(inn b _ z).2⟩
  |none=>exact u.slot b o q (by rw[q0s z];exact n) hb hx
 ·cases z:cs.lookup b with
  |some o'=>exact q6y z
  |none=>rw[q1r z];exact u.free b o q (by rw[q0s z];exact n) hx
 ·have z:cs.lookup b=none:=by
   cases z:cs.lookup b with
   |some o'=>rw[(hc b o' z).1]at q;cases q
   |none=>rfl
  rw[q1r z];exact u.tups b xs (by rw[q0s z];exact q)
 ·have z:cs.lookup b=none:=by
   cases z:cs.lookup b with
   |some o'=>rw[(hc b o' z).1]at q;cases q
   |none=>rfl
  rw[q1r z];exact u.frzs b o v (by rw[q0s z];exact q)
 ·have z:cs.lookup b=none:=by
   cases z:cs.lookup b with
   |some o'=>rw[(hc b o' z).1]at q;cases q
   |none=>rfl
  rw[q1r z];exact u.tbls b ps (by rw[q0s z];exact q)
end
noncomputable abbrev lamEnv(qual:Str)(scope:Scope)(f:Addr)(cd:Value)(cl:List (Str×Addr))(s:Shared):Env:=PySem.W.envX qual scope s.heap.objs.size f cd cl
noncomputable def cxLam(P:Program)(w:World)(K:PySem.W.Frag)(mg:Str->Option Value)(base:Heap)(N:List Str)(qual:Str)(scope:Scope)(f:Addr)(cd:Value)(cl:List (Str×Addr))(A:Around)(outer:List Env)(s:Shared)(H:Hp):Cx where
 prog:=P
 w:=w
 K:=K
 mg:=mg
 base:=base
 A:=A.deeper (lamEnv qual scope f cd cl s)
 N:=N
 s₀:=s
 H₀:=H
 env:=lamEnv qual scope f cd cl s
 outer:=outer
 stack:=lamEnv qual scope f cd cl s::outer
 ex:=[]
 calm:=true
 fn:=fun _=>false
 pn:=[]
 xe:=fun _ _=>False
structure LamScope(ps Nf:List Str)(sc:Scope):Prop where
 kind:sc.kind=.function
 co:sc.isCoroutine=false
 gen:sc.isGenerator=false
 nd:ps.Nodup
 nocell:∀y∈sc.names,y.2≠.cell
 par:∀x∈ps,sc.names.lookup x=some .local
 fr:∀y∈Nf,sc.names.lookup y=some .free
structure LamCells(cl:List (Str×Addr))(Nf:List Str)(sc:Scope)(zs:List V)(h:Heap)(cs:Cs):Prop where
 inj:∀x y c,cl.lookup x=some c->cl.lookup y=some c->x=y
 has:∀x,(x,NameKind.free)∈sc.names->∃c,cl.lookup x=some c
 all:∀x c,cl.lookup x=some c->∃o,cs.lookup c=some o
 cel:∀c o,cs.lookup c=some o->h.get? c=some o/\∃v,o.data=.cell v
 val:∀(i:Nat) y z,Nf[i]?=some y->zs[i]?=some z->∃c o u,cl.lookup y=some c/\cs.lookup c=some o/\o.data=.cell (some u)/\RelV z u
def FnV(P:Program)(w:World)(K:PySem.W.Frag)(mg:Str->Option Value)(base:Heap)(CX:CXT)(k:Nat)(sp:V->List V->Hp->VK->XK->Prop):Prop:=∀(x:V)(vs:List V)(H:Hp)(Q:VK)(E:XK),sp x vs H Q E ->
 ∃f oc od fd sl u,x=.ref f/\H f=some (.frz ⟨oc,od,.func fd,sl⟩ u)/\∀(A:Around)(outer:List Env)(s:Shared)(us:List Value),Room k A->Env0 P w K mg base A outer s H->Vals vs us ->
  codeAny (model P w) A (.call (.ref f) ⟨us,[]⟩) (CR CX outer P w H s Q E) s
def IsFn(H:Hp)(x:V):Prop:=∃f oc od fd sl u,x=.ref f/\H f=some (.frz ⟨oc,od,.func fd,sl⟩ u)
def tCallV(sp:V->List V->Hp->VK->XK->Prop)(EE:L2.St->XK)(tv:TE)(t:TA):TE:=fun σ H Q=>tv σ H fun x H1=>IsFn H1 x/\t σ H1 fun vs H2=>sp x vs H2 Q (EE σ)
section
variable{CX:CXT}{sp:V->List V->Hp->VK->XK->Prop}{tv:TE}{t:TA}
theorem x9w(F:FnV X.prog X.w X.K X.mg X.base CX k sp)(hr:Room k X.A)(hv:PE X (.Name x p) tv)(hx:PassX CX X EE)(ha:PA X (e::es) t)
  (he:starEach (e::es) X.env=(false,eval e X.env)::starEach es X.env:=by rfl)(hpl:(backTo pos (starEach es X.env)).any (·.1)=false:=by rfl):
  PE X (.Call (.Name x p) (e::es) [] pos) (tCallV sp EE tv t):=by
 intro pins s σ H Q I h;refine wpAny_Call_Name_kw (thn (hv pins s σ H _ I h) fun u s1 ⟨y,H1,I1,ry,⟨f,oc,od,fd,sl,uu,ey,ef⟩,q⟩=>?_)
 subst ey;obtain rfl:u=Value.ref f:=ry;refine PySem.W.callWith_F ⟨oc,od,fd,sl,(show s1.heap.get? f=some _/\_ from I1.hok f _ ef).1⟩ (thn (ha pos pins s1 σ H1 _ I1 q) fun us s2 ⟨vs,H2,I2,r,q2⟩=>?_) he hpl
 obtain⟨f',oc',od',fd',sl',u',ex',ef',run⟩:=F _ _ _ _ _ q2;cases ex';refine⟨⟨oc',od',fd',sl',(show s2.heap.get? f=some _/\_ from I2.hok f _ ef').1⟩,wpAny_call (codeAny_mono (run X.A X.stack s2 us hr I2.env0 r) fun r s' hq=>?_)⟩
 cases r with
 |error e=>exact hx pins σ H2 s2 e s' I2 hq
 |ok fl=>
  cases fl with
  |ret u=>exact I2.after hq
  |next=>exact False.elim hq
  |brk=>exact False.elim hq
  |cont=>exact False.elim hq
end
theorem x5h{pos':Pos}{a b:Int}{c cv:Value}(l:List Value)(h:TriplesOk l)(z:codeAmong pos' (l++[rawInt a,rawInt b,c])=some cv):codeAmong pos' l=some cv\/cv=c:=by
 fun_induction TriplesOk l with
 |case1=>
  simp only[List.nil_append,codeAmong,rawInt]at z;split at z
  ·cases z;exact .inr rfl
  ·cases z
 |case2 x t y u v rest ih=>
  simp only[List.cons_append,codeAmong]at z |-
  split at z
  ·rename_i hc;rw[if_pos hc];exact .inl z
  ·rename_i hc;rw[if_neg hc];exact ih h z
 |case3=>exact h.elim
def BMain(h:Heap)(mg:Str->Option Value):Prop:=∃bm ob,mg "__builtins__"=some (.ref bm)/\bm≠builtinsNs/\h.get? bm=some ob/\ob.cls=.type "module" /\ ob.dict=some builtinsNs/\ob.data=.plain
def LamAt(X:Cx)(params:Arguments)(body:Expr)(scope:Scope)(clos:List (Str×Addr))(f:Addr)(H H':Hp):Prop:=closureFor scope X.env=pure clos/\∃(H1:Hp)(pm ctv:Value)(c':Addr),(H1=H\/∃c oc,H c=none/\H1=upd H c (rawO oc))/\H1 f=none /\
 H'=upd H1 f (fnO (kla_obj "<lambda>" (X.env.qual++"<lambda>") params body scope clos pm c' ctv) (X.env.qual++"<lambda>") c')
def tLam(X:Cx)(params:Arguments)(body:Expr)(scope:Scope):TE:=fun _ H Q=>∀f clos H',LamAt X params body scope clos f H H'->Q (.ref f) H'
structure Maker(X:Cx):Prop where
 ex:∃c P a,X.env.code=.ref c/\codeHdIn X.K c P=true/\(a,markO P (X.env.qual++"<lambda>"))∈X.K
 bm:BMain X.base X.mg
section
variable{params:Arguments}{body:Expr}{scope:Scope}{lpos:Pos}
theorem y7j(M:Maker X)(hdef:defaultsOf params X.env=([],[]))(hfree:∀x∈scope.names,x.2=.free->X.env.kindOf x.1=some .cell\/X.env.kindOf x.1=some .free):
  PE X (.Lambda params body scope lpos) (tLam X params body scope):=by
 intro pins s σ H Q I h;obtain⟨clos,hclos,_,_⟩:=q53 (scope:=scope) (env:=X.env) fun x hx hf=>I.ok.has x.1 (hfree x hx hf)
 obtain⟨c,P,a,hcode,hch,hmk⟩:=M.ex;have hhd:=PySem.W.codeHd_of_K I.mod.kin hch;obtain⟨ps,hP,p0,p1⟩:=I.ok.tab a _ P hmk;obtain⟨more,eP⟩:=I.base.tbls P ps hP
 have q0:(ps++more)[0]?=some (.bool true):=by
  rw[w1k (by obtain⟨z,_⟩:=w1c.mp p0;exact z)];exact p0
 have q1:(ps++more)[1]?=some (.str (X.env.qual++"<lambda>") 0):=by
  rw[w1k (by obtain⟨z,_⟩:=w1c.mp p1;exact z)];exact p1
 have oP:ObjOk X.prog X.w H s.heap P (.tbl (ps++more)):=I.hok P _ eP;rcases oP with⟨q,qs,r0,r1,g1,tr,cd⟩|⟨_,_,_,_,_,_,r0,_⟩
 case inr=>rw[q0]at r0;cases r0
 rw[q1]at r1;cases r1;have nP:∀b,H b=none->b≠P:=fun b n z=>by rw[z,eP]at n;cases n
 have hgP:mainGlobals≠P:=by
  obtain⟨o,es,ep,e,_⟩:=I.mod.glob;exact nP _ (I.bs _ o e).2
 have hB:s.heap.BuiltinsAt X.mg P:=by
  obtain⟨bm,ob,b1,b2,b3,b4,b5,b6⟩:=M.bm;refine⟨bm,ob,b1,b2,fun z=>?_,nP _ (I.bs bm ob b3).2,(I.bs bm ob b3).1,b4,b5,b6⟩
  obtain⟨o,es,ep,e,d,_⟩:=I.mod.glob;rw[z,e]at b3;cases b3;rw[d]at b6;cases b6
 have hns:=I.mod.glob.keeps I.bk;refine PySem.W.kla_eval hdef ?_;cases hc:codeAmong lpos qs.toList with
 |some cv=>
  obtain⟨c',oc,vs,t,rfl,k1,k2,k3⟩:=cd lpos cv hc;refine PySem.W.kla_makeFunctionHit (mg:=X.mg) hclos I.ok.glob hns hcode (hhd.keeps I.bk) g1 tr hc hB fun ctv h' tk hk hsz=>?_
  have fr:H h'.objs.size=none:=I.hok.fresh hsz;refine⟨.ref h'.objs.size,_,I.laid (t':=tk) (fun b u e=>Heap.get?_push_of_some _ (hk b u e)) hsz ?_,rfl,h _ clos _ ⟨hclos,H,(X.mg "__name__").getD .none,ctv,c',.inl rfl,fr,rfl⟩⟩
  exact⟨Heap.get?_push_size _ rfl,.inr ⟨_,c',oc,_,vs,t,rfl,rfl,rfl,by rw[q0d (q0p k1 fr)];exact k1,k2,k3,Heap.get?_push_size _ rfl⟩⟩
 |none=>
  refine PySem.W.kla_makeFunction (mg:=X.mg) hclos I.ok.glob hns hcode (hhd.keeps I.bk) g1 tr hc hgP hB fun c' ctv h' tk hx hge hlt hrec htb=>?_
  obtain⟨c2,oc,vs,t,ec,hoc,hd,hv⟩:=hrec;cases ec;have fc:H c'=none:=I.hok.fresh hge;have hne:∀b u,H b=some u->b≠c':=fun b u z=>q0p z fc
  have kp:∀b o,H b=none->s.heap.get? b=some o->h'.get? b=some o:=fun b o n e=>hx b o (nP b n) e
  have hok1:HOk X.prog X.w (upd H c' (rawO oc)) h':=fun a u e=>by
   by_cases ha:a=c'
   ·subst ha;rw[q0g]at e;cases e;exact⟨hoc,oc,hoc⟩
   ·rw[q0d ha]at e
    by_cases haP:a=P
    ·subst haP;rw[eP]at e;cases e;refine .inl ⟨_,_,q0,q1,htb,?_,fun pos cv z=>?_⟩
     ·rw[w4c];exact TriplesOk_snoc _ _ _ _ tr
     ·rw[w4c]at z;rcases x5h _ tr z with z|z
      ·obtain⟨d,od,vd,td,k0,k1,k2,k3⟩:=cd pos cv z;exact⟨d,od,vd,td,k0,by rw[q0d (hne d _ k1)];exact k1,k2,k3⟩
      ·exact⟨c',oc,vs,t,z,q0g,hd,hv⟩
    ·refine(I.hok a u e).stay (fun b v hb q=>hx b v ?_ q) (fun b q=>by rw[q0d (hne b _ q)];exact q) fun b v _ q=>by rw[q0d (hne b _ q)];exact q
     rcases hb with rfl|hb
     ·exact haP
     ·rintro rfl;rw[eP]at hb;cases hb
  have un:Un X.fs [] H (upd H c' (rawO oc)) s.heap h':=by
   refine⟨fun b o q n _ _=>kp b o n q,fun b o q n _ _=>⟨o.slots,kp b o n q⟩,fun b o q n _=>?_,fun b o q _=>?_,fun b xs q=>by rw[q0d (hne b _ q)];exact q,fun b o u q=>by rw[q0d (hne b _ q)];exact q,fun b qs q=>⟨#[],by rw[q0d (hne b _ q),q];simp⟩⟩
   ·rw[q0d (w0p (w0o (Heap.lt_size q) hge))];exact n
   ·by_cases hb:b=P
    ·subst hb;exact⟨_,htb⟩
    ·exact⟨o,hx b o hb q⟩
  have I1:Inv X pins σ (upd H c' (rawO oc)) {s with heap:=h',toks:=tk}:=I.un un hok1;have f1:upd H c' (rawO oc) h'.objs.size=none:=I1.hok.fresh (w0f _);refine⟨.ref h'.objs.size,_,I1.laid (t':=tk) (fun b u e=>Heap.get?_push_of_some _ e) (w0f _) ?_,rfl,h _ clos _ ⟨hclos,_,(X.mg "__name__").getD .none,ctv,c',.inr ⟨c',oc,fc,rfl⟩,f1,rfl⟩⟩
  exact⟨Heap.get?_push_size _ rfl,.inr ⟨_,c',oc,_,vs,t,rfl,rfl,rfl,by rw[q0d (q0p q0g f1)];exact q0g,hd,hv,Heap.get?_push_size _ rfl⟩⟩
end
theorem q71{α:Type}{k:Addr}{v:α}:∀{l:List (Addr×α)},(k,v)∈l->∃v',l.lookup k=some v'
 |[],h=>nomatch h
 |(a,b)::l,h=>by
  rw[w0s]
  by_cases e:(k==a)=true
  ·rw[e];exact⟨b,rfl⟩
  ·rw[w1l.mpr e];rcases w0j.mp h with z|z
   ·cases z;simp at e
   ·exact q71 z
noncomputable def celsAt(clos:List (Str×Addr))(h:Heap):Cs:=(clos.map (·.1)).filterMap fun x=>(clos.lookup x).bind fun c=>(h.get? c).map fun o=>(c,o)
theorem q72{clos:List (Str×Addr)}{o:Obj}(e:(celsAt clos h).lookup c=some o):∃x,clos.lookup x=some c/\h.get? c=some o:=by
 obtain⟨x,_,hx⟩:=w1q.mp (PySem.W.mem_of_lookupK e);obtain⟨c',e1,e2⟩:=w2b.mp hx;obtain⟨o',e3,e4⟩:=w0c.mp e2;cases e4;exact⟨x,e1,e3⟩
theorem q8z{clos:List (Str×Addr)}{o:Obj}(e:clos.lookup x=some c)(g:h.get? c=some o):(celsAt clos h).lookup c=some o:=by
 have hm:(c,o)∈celsAt clos h:=w1q.mpr ⟨x,w0z.mpr ⟨(x,c),PySem.mem_of_lookup e,rfl⟩,by rw[e];show(h.get? c).map _=_;rw[g];rfl⟩;obtain⟨o',e'⟩:=q71 hm;obtain⟨_,_,g'⟩:=q72 e';rw[g]at g';cases g';exact e'
structure CellsOf(clos:List (Str×Addr))(Nf:List Str)(scope:Scope)(js:List Nat)(σ:St)(H:Hp)(cs:Cs):Prop where
 inj:∀x y c,clos.lookup x=some c->clos.lookup y=some c->x=y
 has:∀x,(x,NameKind.free)∈scope.names->∃c,clos.lookup x=some c
 all:∀x c,clos.lookup x=some c->∃o,cs.lookup c=some o
 cel:∀c o,cs.lookup c=some o->H c=none/\∃v,o.data=.cell v
 val:∀(i:Nat) y j z,Nf[i]?=some y->js[i]?=some j->σ[j]?=some (some z)->∃c o u,clos.lookup y=some c/\cs.lookup c=some o/\o.data=.cell (some u)/\RelV z u
theorem x3m{outer:List Env}{s':Shared}{E:XK}{e:Value}(hc:∀b o,cs.lookup b=some o->H b=none/\s.heap.get? b=some o)
  (x:CX1 P w outer (addC H cs) s (fun c o H'=>E c o (rmC H' cs)) e s'):CX1 P w outer H s E e s':=by
 obtain⟨e,cls,H',B,rfl,hos,hg,un,hok,fly,hE⟩:=x;have CI:CelsIn H' cs:=fun b o z=>un.frzs b o _ (q2g z)
 refine⟨e,cls,rmC H' cs,B,rfl,hos,hg,un.nocells hok hc,hok.rm CI,⟨fly.fl,fun b o q n nb=>?_,fun b u o q z=>fly.trk b u o (x5g q).1 z,fly.all,fly.new⟩,hE⟩
 cases z:cs.lookup b with
 |some o'=>
  have:=(hc b o' z).2;rw[q]at this;cases this;exact fly.trk b _ o (CI b o z) ((show s'.heap.get? b=some o/\_ from hok b _ (CI b o z)).1)
 |none=>exact fly.old b o q (by rw[q0s z];exact n) nb
theorem pure_inj{α:Type}{a b:α}(h:(pure a:Sem α)=pure b):a=b:=by
 first
  |exact PySem.Sem.pure_inj h
  |(injection h)
  |(cases h;rfl)
section
variable{fd:FuncData}{sp:Sp}
theorem y3k{pins:List (Addr×Obj)}{σ:St}{Q:VK}{us:List Value}{vs:List V}{cs:Cs}(F:FnOk X.prog X.w X.K X.mg X.base (CX1 X.prog X.w) k f fd ps sp)(hr:Room k X.A)(hb:Binds X.K fd ps [])(hx:PassX (CX1 X.prog X.w) X EE)
  (I:Inv X pins σ H s)(hc:∀b o,cs.lookup b=some o->H b=none/\s.heap.get? b=some o)(hv:∀b o,cs.lookup b=some o->b∉frs X.stack)(hn:∀b o,cs.lookup b=some o->X.base.get? b=none)(r:Vals vs us)
  (h:sp vs (addC H cs) (fun v H'=>Q v (rmC H' cs)) fun c o H'=>EE σ c o (rmC H' cs)):wpAny (model X.prog X.w) X.A (call (.ref f) us) (EP X pins σ Q) X.xe s:=by
 have hl:us.length=ps.length:=by rw[<- r.length];exact F.len _ _ _ _ h
 have e0:=I.env0
 have out:∀b,H b=none->(∀o,cs.lookup b≠some o)->addC H cs b=none:=fun b n z=>by
  cases q:cs.lookup b with
  |some o=>exact absurd q (z o)
  |none=>rw[q0s q];exact n
 have e1:Env0 X.prog X.w X.K X.mg X.base X.A X.stack s (addC H cs):=by
  refine⟨e0.frames,e0.mod,fun b o q=>⟨(e0.bs b o q).1,out b (e0.bs b o q).2 fun o' z=>?_⟩,e0.bsz,e0.funs,fun b hb=>out b (e0.frf b hb) fun o z=>?_,e0.hok.add hc,e0.bare,fun a q P m=>?_⟩
  ·rw[hn b o' z]at q;cases q
  ·exact hv b o z hb
  ·obtain⟨ps,e,p⟩:=e0.tab a q P m;refine⟨ps,?_,p⟩;cases z:cs.lookup P with
   |some o=>rw[(hc P o z).1]at e;cases e
   |none=>rw[q0s z];exact e
 have hbb:=hb s us I.kIn (by rw[w1i];exact hl);rw[w1i]at hbb;refine wpAny_call (codeAny_mono (F.run X.A X.stack s (addC H cs) ⟨us,[]⟩ us vs _ _ hr e1 hbb r h) fun r s' hq=>?_)
 cases r with
 |error e=>exact hx pins σ H s e s' I (x3m hc hq)
 |ok fl=>
  cases fl with
  |ret u=>
   obtain⟨v,H',os,bare,un,hok,rv,q⟩:=hq;have CI:CelsIn H' cs:=fun b o z=>un.frzs b o _ (q2g z)
   exact I.after ⟨v,rmC H' cs,os,bare,un.nocells hok hc,hok.rm CI,rv,q⟩
  |next=>exact False.elim hq
  |brk=>exact False.elim hq
  |cont=>exact False.elim hq
def LamQ(sp:Sp)(X:Cx)(scope:Scope)(Nf:List Str)(js:List Nat)(E:XK)(σ:St)(Q:VK)(vs:List V)(H2:Hp):Prop:=∃clos,closureFor scope X.env=pure clos/\∀cs,CellsOf clos Nf scope js σ H2 cs ->
 sp vs (addC H2 cs) (fun v H'=>Q v (rmC H' cs)) fun c o H'=>E c o (rmC H' cs)
def tLamCall(sp:Sp)(X:Cx)(params:Arguments)(body:Expr)(scope:Scope)(Nf:List Str)(js:List Nat)(EE:L2.St->XK)(te:TE):TE:=fun σ H Q=>te σ H fun v1 H1=>∀f clos H2,LamAt X params body scope clos f H1 H2->LamQ sp X scope Nf js (EE σ) σ Q [v1,.ref f] H2
theorem x5i{params:Arguments}{body:Expr}{scope:Scope}{lpos:Pos}{Nf:List Str}{js:List Nat}(F:FnOk X.prog X.w X.K X.mg X.base (CX1 X.prog X.w) k f fd ps sp)(hr:Room k X.A)(hg:Gl X x)(hm:X.mg x=some (.ref f))(hk:keepIn X.K (.ref f)=true)
  (hb:Binds X.K fd ps [])(hx:PassX (CX1 X.prog X.w) X EE)(M:Maker X)(hfn:∀y,X.fn y=true)(he:PE X e te)(hdef:defaultsOf params X.env=([],[]))
  (hfree:∀x∈scope.names,x.2=.free->X.env.kindOf x.1=some .cell\/X.env.kindOf x.1=some .free)
  (hNf:∀(i j:Nat) y,Nf[i]?=some y->js[i]?=some j->X.N[j]?=some y/\(y,NameKind.free)∈scope.names/\Vis X.env.scope y/\X.env.kindOf y≠some .local)
  (hdb:(x==("__debug__":Str))=false:=by decide)(hst:starEach [e,.Lambda params body scope lpos] X.env=(false,eval e X.env)::starEach [.Lambda params body scope lpos] X.env:=by rfl)
  (hst2:starEach [.Lambda params body scope lpos] X.env=(false,eval (.Lambda params body scope lpos) X.env)::starEach [] X.env:=by rfl)(hpl:(backTo pos (starEach [.Lambda params body scope lpos] X.env)).any (·.1)=false:=by rfl):
  PE X (.Call (.Name x p) [e,.Lambda params body scope lpos] [] pos) (tLamCall sp X params body scope Nf js EE te):=by
 intro pins s σ H Q I h;have ha:PA X [e,.Lambda params body scope lpos] (tCons te (tCons (tLam X params body scope) tNil)):=q3b he (q3b (y7j M hdef hfree) q4j hst2) hst;refine wpAny_Call_Name_kw (q9o I hg hm ?_ hdb);refine PySem.W.callWith_K (h₀:=X.base) I.ok.mod.kin hk (thn (ha pos pins s σ H (LamQ sp X scope Nf js (EE σ) σ Q) I h) fun us s1 ⟨vs,H2,I2,r,clos,hclos,q⟩=>⟨I2.kIn,?_⟩) hst hpl
 obtain⟨clos',hclos',hcl,hcf⟩:=q53 (scope:=scope) (env:=X.env) fun x hx hf=>I.ok.has x.1 (hfree x hx hf)
 obtain rfl:clos'=clos:=pure_inj (hclos'.symm.trans hclos)
 have look:∀b o,(celsAt clos' s1.heap).lookup b=some o->∃x,X.env.cells.lookup x=some b/\s1.heap.get? b=some o:=fun b o z=>by
  obtain⟨x,h1,h2⟩:=q72 z;exact⟨x,hcl x b h1,h2⟩
 have hnone:∀b o,(celsAt clos' s1.heap).lookup b=some o->H2 b=none/\s1.heap.get? b=some o:=fun b o z=>by
  obtain⟨x,h1,h2⟩:=look b o z;exact⟨I2.freeC x b h1,h2⟩
 have hab:∀b o,(celsAt clos' s1.heap).lookup b=some o->X.s₀.heap.objs.size<=b:=fun b o z=>by
  obtain⟨x,h1,h2⟩:=look b o z;exact I2.ok.cab x b (hfn x) h1
 refine y3k (cs:=celsAt clos' s1.heap) F hr hb hx I2 hnone (fun b o z hb=>?_) (fun b o z=>Heap.get?_none_of_le (w0r I2.ok.bsz (hab b o z))) r (q _ ⟨fun x y c e1 e2=>I2.ok.inj x y c (hcl x c e1) (hcl y c e2),hcf,fun x c e=>?_,fun c o e=>⟨(hnone c o e).1,?_⟩,fun i y j z e1 e2 e3=>?_⟩)
 ·rcases w0j.mp (I2.stkSub b hb)with e|hb2
  ·obtain⟨x,h1,_⟩:=look b o z;exact I2.cne x b h1 e
  ·obtain⟨_,o',q',_⟩:=I2.ok.funs.mem hb2
   exact absurd (Heap.lt_size q') (w4o.mpr (hab b o z))
 ·obtain⟨v,o,g,_⟩:=I2.cell x c (hcl x c e);exact⟨o,q8z e g⟩
 ·obtain⟨x,h1,h2⟩:=look c o e;obtain⟨v,o',g,d⟩:=I2.cell x c h1;rw[h2]at g;cases g;exact⟨v,d⟩
 ·obtain⟨n1,n2,n3,n4⟩:=hNf i j y e1 e2;obtain⟨m,hm,hl⟩:=I2.loc;obtain⟨u,ru,l⟩:=hl j y z n1 e3 n3;rcases l with⟨k1,_⟩|⟨k1,c,ec,o,g,d⟩
  ·exact absurd k1 n4
  ·obtain⟨c',ec'⟩:=hcf y n2;have e4:=hcl y c' ec';rw[ec]at e4;cases e4;exact⟨c,o,u,ec',q8z ec' g,d,ru⟩
end
set_option maxHeartbeats 1000000
noncomputable def Sh.isN:Sh->Bool
 |.many .int=>true
 |_=>false
noncomputable def Sh.isI:Sh->Bool
 |.int=>true
 |_=>false
end L2
namespace D
open PySem L2
variable{a:Addr}{X:Cx}{G G' G1 H H' H1:Hp}{EE:L2.St->XK}{kvs:List (Kx×V)}{kas:List Addr}{es:List Expr}{ks:List Kx}{vs xs:List V}{r:List V->Hp->VK->Prop}{i k:Nat}{b:Option Nat}{p pos pos':Pos}{K:PySem.W.Frag}{sh:Sh}{σ:St}{st:Stmt}{x:Str}{α:Type}{v:V}
noncomputable abbrev Sv:=Int ⊕ Bool
inductive Dd where
 |k (kvs:List (Key×Sv))
structure Lm where
 qual:Str
 params:Arguments
 body:Expr
 scope:Scope
 nf:List Str
set_option genInjectivity true in
inductive W where
 |non|bl (b:Bool)|int (i:Int)|str (x:Str)|tup (xs:List W)|lst (xs:List W)|exc (c:Value)|dic (kvs:Dd)|dw (fz:Bool) (sh:Sh) (ks:List Kx) (ws:List W)|fn (i:Nat) (l:Lm) (ws:List W)
variable{ws:List W}{w:W}{f:W->W->Option W}
inductive SK where
 |old (w:W)|new (w:W)|acc (ws:List W)|thro (us ws vs:List W)|tn (us:List W) (wss:List (List W))|pt (us ws:List W) (w:W)|fz (w:W)|fzo (w:W)
inductive S where
 |no|fr (w:W)|own (io:Option Nat) (ws:List W)|dic (kvs:Dd)|thr (us ws vs:List W)|nest (wss:List (List W))|dw (sh:Sh) (ks:List Kx) (ws:List W)|x (k:SK)
variable{e e1:List S}{E:Value->List S->Prop}
noncomputable def SK.plain:SK->Option W
 |.old w=>some w
 |.new w=>some w
 |_=>none
noncomputable def SK.look:SK->Option W
 |.old w=>some w
 |.new w=>some w
 |.acc ws=>some (.lst ws)
 |_=>none
noncomputable def sV:Sv->V
 |.inl i=>.int i
 |.inr b=>.bl b
noncomputable def kvV{κ:Type}(kvs:List (κ×Sv)):List (κ×V):=kvs.map fun p=>(p.1,sV p.2)
noncomputable def dO:Dd->HO
 |.k kvs=>.dK (kvV kvs)
noncomputable def isDic:HO->Bool
 |.dK _=>true
 |_=>false
theorem q4g{d:Dd}{u:HO}(h:isDic u=false):dO d≠u:=fun z=>by
 subst z;cases d<;>cases h
def KeysG(G:Hp):List Kx->List Addr->Prop
 |[],[]=>True
 |k::ks,b::bs=>KRep G k (.ref b)/\KeysG G ks bs
 |[],_::_=>False
 |_::_,[]=>False
theorem KeysG.mono(e:Same G G'):∀{ks:List Kx}{bs:List Addr},KeysG G ks bs->KeysG G' ks bs
 |[],[],_=>trivial
 |k::ks,b::bs,h=>⟨KRep.keeps (fun _ _ _ z=>e _ _ z) k h.1,KeysG.mono e h.2⟩
 |[],_::_,h=>h.elim
 |_::_,[],h=>h.elim
noncomputable def kxK:Kx->Key
 |.int i=>.inl i
 |_=>.inl 0
noncomputable def dwO(sh:Sh)(kvs:List (Kx×V))(kas:List Addr):HO:=if sh.isI=true then .dK (kvs.map fun p=>(kxK p.1,p.2))else .dT sh kvs kas
noncomputable def isDT:HO->Bool
 |.dK _=>true
 |.dT _ _ _=>true
 |_=>false
theorem q2s{u:HO}(h:isDT u=false):dwO sh kvs kas≠u:=fun z=>by
 subst z;unfold dwO at h;split at h<;>cases h
theorem x1p(h:sh.isI=false):dwO sh kvs kas=.dT sh kvs kas:=if_neg (by rw[h];exact w1p)
def KeysS(sh:Sh)(G:Hp)(ks:List Kx)(kas:List Addr):Prop:=if sh.isI=true then ∀k∈ks,∃i,k=.int i else KeysG G ks kas
theorem KeysS.mono(e:Same G G'){bs:List Addr}(h:KeysS sh G ks bs):KeysS sh G' ks bs:=by
 unfold KeysS at h |-
 split at h
 ·rename_i hi;rw[if_pos hi];exact h
 ·rename_i hi;rw[if_neg hi];exact h.mono e
theorem KeysS.g{bs:List Addr}(h:KeysS sh G ks bs)(hi:sh.isI=false):KeysG G ks bs:=by
 unfold KeysS at h
 rwa [if_neg (by rw[hi];exact w1p)]at h
theorem KeysS.of{bs:List Addr}(h:KeysG G ks bs)(hi:sh.isI=false):KeysS sh G ks bs:=by
 unfold KeysS
 rwa [if_neg (by rw[hi];exact w1p)]
def DAt(fz:Bool)(G:Hp)(a:Addr)(sh:Sh)(kvs:List (Kx×V))(kas:List Addr):Prop:=if fz=true then ∃o,G a=some (.frz o (dwO sh kvs kas))else G a=some (dwO sh kvs kas)
theorem DAt.ex{fz:Bool}(h:DAt fz G a sh kvs kas):∃o,G a=some o:=by
 unfold DAt at h;split at h
 ·obtain⟨o,h⟩:=h;exact⟨_,h⟩
 ·exact⟨_,h⟩
theorem DAt.mono{fz:Bool}(e:Same G G')(h:DAt fz G a sh kvs kas):DAt fz G' a sh kvs kas:=by
 cases fz with
 |true=>obtain⟨o,h⟩:=h;exact⟨o,e _ _ h⟩
 |false=>exact e _ _ h
structure FnCells(G:Hp)(cl:List (Str×Addr))(l:Lm)(zs:List V)(cs:Cs):Prop where
 inj:∀x y c,cl.lookup x=some c->cl.lookup y=some c->x=y
 has:∀x,(x,NameKind.free)∈l.scope.names->∃c,cl.lookup x=some c
 all:∀x c,cl.lookup x=some c->∃o,cs.lookup c=some o
 cel:∀c o,cs.lookup c=some o->G c=some (celO o)/\∃v,o.data=.cell v
 val:∀(i:Nat) y z,l.nf[i]?=some y->zs[i]?=some z->∃c o u,cl.lookup y=some c/\cs.lookup c=some o/\o.data=.cell (some u)/\RelV z u
 len:zs.length=l.nf.length
theorem FnCells.mono{cl:List (Str×Addr)}{l:Lm}{zs:List V}{cs:Cs}(e:Same G G')(h:FnCells G cl l zs cs):FnCells G' cl l zs cs:=⟨h.inj,h.has,h.all,fun c o q=>⟨e _ _ (h.cel c o q).1,(h.cel c o q).2⟩,h.val,h.len⟩
def FnAtG(G:Hp)(l:Lm)(cl:List (Str×Addr))(f:Addr):Prop:=∃pm c' ctv,G f=some (fnO (kla_obj "<lambda>" l.qual l.params l.body l.scope cl pm c' ctv) l.qual c')
inductive RefTo(v:V)(P Q:Addr->List V->Prop):Prop where
 |mk (a:Addr) (xs:List V) (h:v=.ref a) (p:P a xs) (q:Q a xs):RefTo v P Q
inductive ConsOf(xs:List V)(P:V->Prop)(Q:List V->Prop):Prop where
 |mk (x:V) (r:List V) (h:xs=x::r) (p:P x) (q:Q r):ConsOf xs P Q
mutual
def Rep(K:PySem.W.Frag)(G:Hp):W->V->Prop
 |.non,v=>v=.non
 |.bl b,v=>v=.bl b
 |.int i,v=>v=.int i
 |.str x,v=>v=.str x
 |.tup ws,v=>RefTo v (SqT K G) fun _ xs=>Reps K G ws xs
 |.lst ws,v=>RefTo v (SqL K G) fun _ xs=>Reps K G ws xs
 |.exc c,v=>∃e,v=.ref e/\G e=some (excO e c)
 |.dic kvs,v=>∃e,v=.ref e/\G e=some (dO kvs)
 |.dw fz sh ks ws,v=>∃a kvs kas,v=.ref a/\DAt fz G a sh kvs kas/\kvs.map (·.1)=ks/\KeysS sh G ks kas/\Reps K G ws (kvs.map (·.2))
 |.fn _ l ws,v=>∃f cl zs cs,v=.ref f/\FnAtG G l cl f/\FnCells G cl l zs cs/\Reps K G ws zs
def Reps(K:PySem.W.Frag)(G:Hp):List W->List V->Prop
 |[],xs=>xs=[]
 |w::ws,xs=>ConsOf xs (Rep K G w) (Reps K G ws)
end
mutual
theorem Rep.mono{K:PySem.W.Frag}{G G':Hp}(e:Same G G'):∀(w:W){v:V},Rep K G w v->Rep K G' w v
 |.non,v,h=>h
 |.bl b,v,h=>h
 |.int i,v,h=>h
 |.str x,v,h=>h
 |.tup ws,v,h=>by
  obtain⟨a,xs,rfl,q,r⟩:=h;exact⟨a,xs,rfl,e.tup q,Reps.mono e ws r⟩
 |.lst ws,v,h=>by
  obtain⟨a,xs,rfl,q,r⟩:=h;exact⟨a,xs,rfl,e.seq q,Reps.mono e ws r⟩
 |.exc c,v,h=>by
  obtain⟨a,rfl,q⟩:=h;exact⟨a,rfl,e _ _ q⟩
 |.dic kvs,v,h=>by
  obtain⟨a,rfl,q⟩:=h;exact⟨a,rfl,e _ _ q⟩
 |.dw fz sh ks ws,v,h=>by
  obtain⟨a,kvs,kas,rfl,h1,h2,h3,h4⟩:=h;exact⟨a,kvs,kas,rfl,h1.mono e,h2,h3.mono e,Reps.mono e ws h4⟩
 |.fn i l ws,v,h=>by
  obtain⟨f,cl,zs,cs,rfl,⟨pm,c',ctv,h1⟩,h2,h3⟩:=h;exact⟨f,cl,zs,cs,rfl,⟨pm,c',ctv,e _ _ h1⟩,h2.mono e,Reps.mono e ws h3⟩
theorem Reps.mono{K:PySem.W.Frag}{G G':Hp}(e:Same G G'):∀(ws:List W){xs:List V},Reps K G ws xs->Reps K G' ws xs
 |[],xs,h=>h
 |w::ws,xs,h=>by
  obtain⟨x,r,rfl,h1,h2⟩:=h;exact⟨x,r,rfl,Rep.mono e w h1,Reps.mono e ws h2⟩
end
theorem Reps.length:∀{ws:List W}{xs:List V},Reps K G ws xs->xs.length=ws.length
 |[],xs,h=>by cases h;rfl
 |w::ws,xs,h=>by
  obtain⟨x,r,rfl,_,h2⟩:=h;simp[Reps.length h2]
theorem Reps.get:∀{ws:List W}{xs:List V}{i:Nat}{w:W},Reps K G ws xs->ws[i]?=some w->∃x,xs[i]?=some x/\Rep K G w x
 |[],xs,i,w,h,e=>by simp at e
 |w'::ws,xs,0,w,h,e=>by
  obtain⟨x,r,rfl,h1,h2⟩:=h;simp at e;subst e;exact⟨x,rfl,h1⟩
 |w'::ws,xs,i+1,w,h,e=>by
  obtain⟨x,r,rfl,h1,h2⟩:=h;obtain⟨y,e1,e2⟩:=Reps.get (i:=i) h2 (by simpa using e);exact⟨y,by simpa using e1,e2⟩
theorem Reps.getV:∀{ws:List W}{xs:List V}{i:Nat}{x:V},Reps K G ws xs->xs[i]?=some x->∃w,ws[i]?=some w/\Rep K G w x:=fun {ws xs i x} h e=>by
 have hl:=h.length;have hi:i<xs.length:=(w0b.mp e).1;have e2:ws[i]?=some ws[i]:=w0d (by omega);obtain⟨y,e3,r⟩:=h.get e2;rw[e]at e3;cases e3;exact⟨_,e2,r⟩
theorem Reps.append:∀{ws ws':List W}{xs xs':List V},Reps K G ws xs->Reps K G ws' xs'->Reps K G (ws++ws') (xs++xs')
 |[],ws',xs,xs',h,h'=>by cases h;exact h'
 |w::ws,ws',xs,xs',h,h'=>by
  obtain⟨x,r,rfl,h1,h2⟩:=h;exact⟨x,r++xs',rfl,h1,Reps.append h2 h'⟩
theorem Reps.one{x:V}(h:Rep K G w x):Reps K G [w] [x]:=⟨x,[],rfl,h,rfl⟩
theorem Reps.take:∀(n:Nat){ws:List W}{xs:List V},Reps K G ws xs->Reps K G (ws.take n) (xs.take n)
 |0,_,_,_=>rfl
 |n+1,[],_,h=>by cases h;rfl
 |n+1,w::ws,_,h=>by
  obtain⟨x,r,rfl,h1,h2⟩:=h;exact⟨x,r.take n,rfl,h1,Reps.take n h2⟩
theorem Reps.drop:∀(n:Nat){ws:List W}{xs:List V},Reps K G ws xs->Reps K G (ws.drop n) (xs.drop n)
 |0,_,_,h=>h
 |n+1,[],_,h=>by cases h;rfl
 |n+1,w::ws,_,h=>by
  obtain⟨x,r,rfl,h1,h2⟩:=h;exact Reps.drop n h2
theorem Reps.reverse:∀{ws:List W}{xs:List V},Reps K G ws xs->Reps K G ws.reverse xs.reverse
 |[],_,h=>by cases h;rfl
 |w::ws,_,h=>by
  obtain⟨x,r,rfl,h1,h2⟩:=h;rw[w1m,w1m];exact(Reps.reverse h2).append (.one h1)
theorem Reps.set:∀(i:Nat){ws:List W}{xs:List V}{w:W}{x:V},Reps K G ws xs->Rep K G w x->Reps K G (ws.set i w) (xs.set i x)
 |_,[],_,_,_,h,_=>by cases h;rfl
 |0,w'::ws,_,w,x,h,q=>by
  obtain⟨y,r,rfl,h1,h2⟩:=h;exact⟨x,r,rfl,q,h2⟩
 |i+1,w'::ws,_,w,x,h,q=>by
  obtain⟨y,r,rfl,h1,h2⟩:=h;exact⟨y,r.set i x,rfl,h1,Reps.set i h2 q⟩
structure Zt where
 H:Hp
 G:Hp
 io:List Addr
variable{Z Z':Zt}
def FzAt(Z:Zt)(G H:Hp)(l:Addr)(o:Obj)(ys:List V):Prop:=H l=some (.frz o (.lst ys))/\G l=none/\Z.H l=none
def NestIn(K:PySem.W.Frag)(Z:Zt)(G H:Hp):List Addr->List (List W)->Prop
 |[],[]=>True
 |l::ls,ws::wss=>(∃o ys,FzAt Z G H l o ys/\Reps K G ws ys)/\NestIn K Z G H ls wss
 |[],_::_=>False
 |_::_,[]=>False
inductive NestOk(K:PySem.W.Frag)(Z:Zt)(G H:Hp)(wss:List (List W))(v:Option V):Prop where
 |mk (a:Addr) (ls:List Addr) (h1:v=some (.ref a)) (h2:G a=some (.lst (ls.map V.ref))) (h3:ls.Nodup) (h4:NestIn K Z G H ls wss):NestOk K Z G H wss v
theorem NestIn.move{K:PySem.W.Frag}(sg:Same G G')(hf:∀l o ys,H l=some (.frz o (.lst ys))->G l=none->Z.H l=none->H' l=some (.frz o (.lst ys))/\G' l=none/\Z'.H l=none):∀{ls:List Addr}{wss:List (List W)},NestIn K Z G H ls wss->NestIn K Z' G' H' ls wss
 |[],[],_=>trivial
 |l::ls,ws::wss,⟨⟨o,ys,⟨h1,h2,h3⟩,h4⟩,h⟩=>⟨⟨o,ys,hf l o ys h1 h2 h3,Reps.mono sg ws h4⟩,h.move sg hf⟩
 |[],_::_,h=>h.elim
 |_::_,[],h=>h.elim
theorem NestOk.move{K:PySem.W.Frag}{wss:List (List W)}{v:Option V}(q:NestOk K Z G H wss v)(sg:Same G G')(hf:∀l o ys,H l=some (.frz o (.lst ys))->G l=none->Z.H l=none->H' l=some (.frz o (.lst ys))/\G' l=none/\Z'.H l=none):NestOk K Z' G' H' wss v:=by
 obtain⟨a,ls,h1,h2,h3,h4⟩:=q;exact⟨a,ls,h1,sg _ _ h2,h3,h4.move sg hf⟩
def LNd(ws:List W)(xs:List V):Prop:=(∀w∈ws,∃us,w=.lst us)->xs.Nodup
mutual
def RepN(K:PySem.W.Frag)(Z:Zt)(G:Hp):W->V->Prop
 |.non,v=>v=.non
 |.bl b,v=>v=.bl b
 |.int i,v=>v=.int i
 |.str x,v=>v=.str x
 |.tup ws,v=>RefTo v (SqT K G) fun _ xs=>RepNs K Z G ws xs
 |.lst ws,v=>RefTo v (fun a xs=>G a=some (.lst xs)) fun a xs=>Z.H a=none/\RepNs K Z G ws xs/\LNd ws xs
 |.exc _,_=>False
 |.dic _,_=>False
 |.dw fz sh ks ws,v=>∃a kvs kas,v=.ref a/\DAt fz G a sh kvs kas/\Z.H a=none/\kvs.map (·.1)=ks/\KeysS sh G ks kas/\RepNs K Z G ws (kvs.map (·.2))
 |.fn _ _ _,_=>False
def RepNs(K:PySem.W.Frag)(Z:Zt)(G:Hp):List W->List V->Prop
 |[],xs=>xs=[]
 |w::ws,xs=>ConsOf xs (RepN K Z G w) (RepNs K Z G ws)
end
mutual
theorem RepN.rep{K:PySem.W.Frag}{Z:Zt}{G:Hp}:∀(w:W){v:V},RepN K Z G w v->Rep K G w v
 |.non,_,h=>h
 |.bl _,_,h=>h
 |.int _,_,h=>h
 |.str _,_,h=>h
 |.tup ws,_,⟨a,xs,e,q,r⟩=>⟨a,xs,e,q,RepNs.reps ws r⟩
 |.lst ws,_,⟨a,xs,e,q,_,r,_⟩=>⟨a,xs,e,.inl (.inl q),RepNs.reps ws r⟩
 |.exc _,_,h=>h.elim
 |.dic _,_,h=>h.elim
 |.dw _ _ _ ws,_,⟨a,kvs,kas,e,q,_,h1,h2,r⟩=>⟨a,kvs,kas,e,q,h1,h2,RepNs.reps ws r⟩
 |.fn _ _ _,_,h=>h.elim
theorem RepNs.reps{K:PySem.W.Frag}{Z:Zt}{G:Hp}:∀(ws:List W){vs:List V},RepNs K Z G ws vs->Reps K G ws vs
 |[],_,h=>h
 |w::ws,_,⟨x,r,e,p,q⟩=>⟨x,r,e,RepN.rep w p,RepNs.reps ws q⟩
end
mutual
theorem RepN.move{K:PySem.W.Frag}{Z Z':Zt}{G G':Hp}(sg:Same G G')(hz:∀a o,G a=some o->Z.H a=none->Z'.H a=none):∀(w:W){v:V},RepN K Z G w v->RepN K Z' G' w v
 |.non,_,h=>h
 |.bl _,_,h=>h
 |.int _,_,h=>h
 |.str _,_,h=>h
 |.tup ws,_,⟨a,xs,e,q,r⟩=>⟨a,xs,e,sg.tup q,RepNs.move sg hz ws r⟩
 |.lst ws,_,⟨a,xs,e,q,n,r,nd⟩=>⟨a,xs,e,sg _ _ q,hz _ _ q n,RepNs.move sg hz ws r,nd⟩
 |.exc _,_,h=>h.elim
 |.dic _,_,h=>h.elim
 |.dw _ _ _ ws,_,⟨a,kvs,kas,e,q,n,h1,h2,r⟩=>⟨a,kvs,kas,e,q.mono sg,(let ⟨_,z⟩:=q.ex;hz _ _ z n),h1,h2.mono sg,RepNs.move sg hz ws r⟩
 |.fn _ _ _,_,h=>h.elim
theorem RepNs.move{K:PySem.W.Frag}{Z Z':Zt}{G G':Hp}(sg:Same G G')(hz:∀a o,G a=some o->Z.H a=none->Z'.H a=none):∀(ws:List W){vs:List V},RepNs K Z G ws vs->RepNs K Z' G' ws vs
 |[],_,h=>h
 |w::ws,_,⟨x,r,e,p,q⟩=>⟨x,r,e,RepN.move sg hz w p,RepNs.move sg hz ws q⟩
end
def RepsX(K:PySem.W.Frag)(Z:Zt)(G:Hp)(sh:Sh)(ws:List W)(vs:List V):Prop:=if sh.isN=true then RepNs K Z G ws vs else Reps K G ws vs
theorem RepsX.reps(h:RepsX K Z G sh ws vs):Reps K G ws vs:=by
 unfold RepsX at h;split at h
 ·exact RepNs.reps ws h
 ·exact h
theorem RepsX.of(hs:sh.isN=false)(h:Reps K G ws vs):RepsX K Z G sh ws vs:=by
 unfold RepsX;rw[if_neg (by rw[hs];exact w1p)];exact h
theorem RepsX.move{K:PySem.W.Frag}(h:RepsX K Z G sh ws vs)(sg:Same G G')(hz:∀a o,G a=some o->Z.H a=none->Z'.H a=none):RepsX K Z' G' sh ws vs:=by
 unfold RepsX at h |-
 split at h
 ·rename_i q;rw[if_pos q];exact RepNs.move sg hz ws h
 ·rename_i q;rw[if_neg q];exact Reps.mono sg ws h
inductive DwOk(K:PySem.W.Frag)(Z:Zt)(G H:Hp)(sh:Sh)(ks:List Kx)(ws:List W)(v:Option V):Prop where
 |mk (a:Addr) (kvs:List (Kx×V)) (kas:List Addr) (h1:v=some (.ref a)) (h2:H a=some (dwO sh kvs kas)) (h3:G a=none) (h4:Z.H a=none) (h5:kvs.map (·.1)=ks) (h6:KeysS sh G ks kas) (h7:RepsX K Z G sh ws (kvs.map (·.2))):DwOk K Z G H sh ks ws v
theorem DwOk.move{K:PySem.W.Frag}{v:Option V}(q:DwOk K Z G H sh ks ws v)(sg:Same G G')(hf:∀a kvs kas,H a=some (dwO sh kvs kas)->G a=none->Z.H a=none->H' a=some (dwO sh kvs kas)/\G' a=none/\Z'.H a=none)(hz:∀a o,G a=some o->Z.H a=none->Z'.H a=none:=by intro _ _ _ z;exact z):DwOk K Z' G' H' sh ks ws v:=by
 obtain⟨a,kvs,kas,h1,h2,h3,h4,h5,h6,h7⟩:=q;obtain⟨k1,k2,k3⟩:=hf a kvs kas h2 h3 h4;exact⟨a,kvs,kas,h1,k1,k2,k3,h5,h6.mono sg,h7.move sg hz⟩
inductive AccOk(K:PySem.W.Frag)(Z:Zt)(G H:Hp)(ws:List W)(v:Option V):Prop where
 |mk (a:Addr) (o:Obj) (xs:List V) (h1:v=some (.ref a)) (h2:FzAt Z G H a o xs) (h3:RepNs K Z G ws xs) (h4:LNd ws xs):AccOk K Z G H ws v
inductive ThroOk(K:PySem.W.Frag)(Z:Zt)(G H:Hp)(us ws vs:List W)(v:Option V):Prop where
 |mk (t l:Addr) (o:Obj) (xs ys zs:List V) (h1:v=some (.ref t)) (h2:Z.G t=some (.tup (xs++.ref l::zs))) (h3:G t=some (.tup (xs++.ref l::zs))) (h4:FzAt Z G H l o ys) (h5:Reps K Z.G us xs/\Reps K Z.G ws ys/\Reps K Z.G vs zs) (h6:Reps K G us xs/\Reps K G ws ys/\Reps K G vs zs):ThroOk K Z G H us ws vs v
inductive TnOk(K:PySem.W.Frag)(Z:Zt)(G H:Hp)(us:List W)(wss:List (List W))(v:Option V):Prop where
 |mk (t l:Addr) (o:Obj) (ls:List Addr) (xs:List V) (h1:v=some (.ref t)) (h2:G t=some (.tup (xs++[.ref l]))) (h3:FzAt Z G H l o (ls.map V.ref)) (h4:ls.Nodup/\l∉ls) (h5:Reps K G us xs) (h6:NestIn K Z G H ls wss):TnOk K Z G H us wss v
inductive PtOk(K:PySem.W.Frag)(Z:Zt)(G H:Hp)(us ws:List W)(w:W)(v:Option V):Prop where
 |mk (p t l:Addr) (o:Obj) (xs ys:List V) (x:V) (h1:v=some (.ref p)) (h2:G p=some (.tup [.ref t,x])) (h3:G t=some (.tup (xs++[.ref l]))) (h4:FzAt Z G H l o ys) (h5:Reps K G us xs) (h6:Reps K G ws ys) (h7:Rep K G w x):PtOk K Z G H us ws w v
inductive ConsF(xs:List V)(as:List Addr)(P:V->List Addr->Prop)(Q:List V->List Addr->Prop):Prop where
 |mk (x:V) (r:List V) (b c:List Addr) (h:xs=x::r) (h':as=b++c) (p:P x b) (q:Q r c):ConsF xs as P Q
inductive LstF(as:List Addr)(a:Addr)(Q:List Addr->Prop):Prop where
 |mk (bs:List Addr) (h:as=a::bs) (q:Q bs):LstF as a Q
mutual
def RepF(K:PySem.W.Frag)(Z:Zt)(G H:Hp):W->V->List Addr->Prop
 |.non,v,as=>v=.non/\as=[]
 |.bl b,v,as=>v=.bl b/\as=[]
 |.int i,v,as=>v=.int i/\as=[]
 |.str x,v,as=>v=.str x/\as=[]
 |.tup ws,v,as=>RefTo v (SqT K G) fun _ xs=>RepFs K Z G H ws xs as
 |.lst ws,v,as=>RefTo v (fun a xs=>∃o,FzAt Z G H a o xs) fun a xs=>LstF as a (RepFs K Z G H ws xs)
 |.exc _,_,_=>False
 |.dic _,_,_=>False
 |.dw _ _ _ _,_,_=>False
 |.fn _ _ _,_,_=>False
def RepFs(K:PySem.W.Frag)(Z:Zt)(G H:Hp):List W->List V->List Addr->Prop
 |[],xs,as=>xs=[]/\as=[]
 |w::ws,xs,as=>ConsF xs as (RepF K Z G H w) (RepFs K Z G H ws)
end
mutual
theorem RepF.move{K:PySem.W.Frag}{Z Z':Zt}{G G' H H':Hp}(sg:Same G G'):∀(w:W){v:V}{as:List Addr},(∀l o ys,l∈as->FzAt Z G H l o ys->FzAt Z' G' H' l o ys)->RepF K Z G H w v as->RepF K Z' G' H' w v as
 |.non,_,_,_,h=>h
 |.bl _,_,_,_,h=>h
 |.int _,_,_,_,h=>h
 |.str _,_,_,_,h=>h
 |.tup ws,_,_,hf,⟨a,xs,e,q,r⟩=>⟨a,xs,e,sg.tup q,RepFs.move sg ws hf r⟩
 |.lst ws,_,_,hf,⟨a,xs,e,⟨o,q⟩,⟨bs,e2,r⟩⟩=>by
  subst e2;exact⟨a,xs,e,⟨o,hf _ _ _ (w0n ..) q⟩,bs,rfl,RepFs.move sg ws (fun l o ys z=>hf l o ys (w0k _ z)) r⟩
 |.exc _,_,_,_,h=>h.elim
 |.dic _,_,_,_,h=>h.elim
 |.dw _ _ _ _,_,_,_,h=>h.elim
 |.fn _ _ _,_,_,_,h=>h.elim
theorem RepFs.move{K:PySem.W.Frag}{Z Z':Zt}{G G' H H':Hp}(sg:Same G G'):∀(ws:List W){vs:List V}{as:List Addr},(∀l o ys,l∈as->FzAt Z G H l o ys->FzAt Z' G' H' l o ys)->RepFs K Z G H ws vs as->RepFs K Z' G' H' ws vs as
 |[],_,_,_,h=>h
 |w::ws,_,_,hf,⟨x,r,b,c,e,e2,p,q⟩=>by
  subst e2;exact⟨x,r,b,c,e,rfl,RepF.move sg w (fun l o ys z=>hf l o ys (w1r _ z)) p,RepFs.move sg ws (fun l o ys z=>hf l o ys (w0t _ z)) q⟩
end
mutual
theorem RepF.rep{K:PySem.W.Frag}{Z:Zt}{G G' H:Hp}(sg:Same G G')(hf:∀l o ys,FzAt Z G H l o ys->G' l=some (.frz o (.lst ys))):∀(w:W){v:V}{as:List Addr},RepF K Z G H w v as->Rep K G' w v
 |.non,_,_,h=>h.1
 |.bl _,_,_,h=>h.1
 |.int _,_,_,h=>h.1
 |.str _,_,_,h=>h.1
 |.tup ws,_,_,⟨a,xs,e,q,r⟩=>⟨a,xs,e,sg.tup q,RepFs.reps sg hf ws r⟩
 |.lst ws,_,_,⟨a,xs,e,⟨o,q⟩,⟨bs,_,r⟩⟩=>⟨a,xs,e,.inl (.inr ⟨o,hf _ _ _ q⟩),RepFs.reps sg hf ws r⟩
 |.exc _,_,_,h=>h.elim
 |.dic _,_,_,h=>h.elim
 |.dw _ _ _ _,_,_,h=>h.elim
 |.fn _ _ _,_,_,h=>h.elim
theorem RepFs.reps{K:PySem.W.Frag}{Z:Zt}{G G' H:Hp}(sg:Same G G')(hf:∀l o ys,FzAt Z G H l o ys->G' l=some (.frz o (.lst ys))):∀(ws:List W){vs:List V}{as:List Addr},RepFs K Z G H ws vs as->Reps K G' ws vs
 |[],_,_,h=>h.1
 |w::ws,_,_,⟨x,r,b,c,e,_,p,q⟩=>⟨x,r,e,RepF.rep sg hf w p,RepFs.reps sg hf ws q⟩
end
mutual
theorem RepF.fzs{K:PySem.W.Frag}{Z:Zt}{G H:Hp}:∀(w:W){v:V}{as:List Addr},RepF K Z G H w v as->∀{l:Addr},l∈as->∃o ys,FzAt Z G H l o ys
 |.non,_,_,h,_,m=>by rw[h.2]at m;cases m
 |.bl _,_,_,h,_,m=>by rw[h.2]at m;cases m
 |.int _,_,_,h,_,m=>by rw[h.2]at m;cases m
 |.str _,_,_,h,_,m=>by rw[h.2]at m;cases m
 |.tup ws,_,_,⟨a,xs,e,q,r⟩,_,m=>RepFs.fzs ws r m
 |.lst ws,_,_,⟨a,xs,e,⟨o,q⟩,⟨bs,e2,r⟩⟩,l,m=>by
  subst e2;rcases w0j.mp m with rfl|m
  ·exact⟨o,xs,q⟩
  ·exact RepFs.fzs ws r m
 |.exc _,_,_,h,_,_=>h.elim
 |.dic _,_,_,h,_,_=>h.elim
 |.dw _ _ _ _,_,_,h,_,_=>h.elim
 |.fn _ _ _,_,_,h,_,_=>h.elim
theorem RepFs.fzs{K:PySem.W.Frag}{Z:Zt}{G H:Hp}:∀(ws:List W){vs:List V}{as:List Addr},RepFs K Z G H ws vs as->∀{l:Addr},l∈as->∃o ys,FzAt Z G H l o ys
 |[],_,_,h,_,m=>by rw[h.2]at m;cases m
 |w::ws,_,_,⟨x,r,b,c,e,e2,p,q⟩,l,m=>by
  subst e2;rcases w1h.mp m with m|m
  ·exact RepF.fzs w p m
  ·exact RepFs.fzs ws q m
end
inductive FzOk(K:PySem.W.Frag)(Z:Zt)(G H:Hp)(w:W)(v:Option V):Prop where
 |mk (u:V) (as:List Addr) (h1:v=some u) (h2:as.Nodup) (h3:RepF K Z G H w u as):FzOk K Z G H w v
inductive FzoOk(K:PySem.W.Frag)(Z:Zt)(G H:Hp)(w:W)(v:Option V):Prop where
 |mk (u:V) (as:List Addr) (h1:v=some u) (h2:as.Nodup) (h3:RepF K Z Z.G H w u as) (h4:RepF K Z G H w u as):FzoOk K Z G H w v
def XOk(K:PySem.W.Frag)(Z:Zt)(G H:Hp):SK->Option V->Prop
 |.old w,v=>∃u,v=some u/\Rep K Z.G w u/\Rep K G w u
 |.new w,v=>∃u,v=some u/\RepN K Z G w u
 |.acc ws,v=>AccOk K Z G H ws v
 |.thro us ws vs,v=>ThroOk K Z G H us ws vs v
 |.tn us wss,v=>TnOk K Z G H us wss v
 |.pt us ws w,v=>PtOk K Z G H us ws w v
 |.fz w,v=>FzOk K Z G H w v
 |.fzo w,v=>FzoOk K Z G H w v
theorem XOk.move{K:PySem.W.Frag}{k:SK}{v:Option V}(q:XOk K Z G H k v)(sg:Same G G')(hf:∀l o ys,H l=some (.frz o (.lst ys))->G l=none->Z.H l=none->H' l=some (.frz o (.lst ys))/\G' l=none/\Z.H l=none):XOk K Z G' H' k v:=by
 cases k with
 |old w=>obtain⟨u,h1,h2,h3⟩:=q;exact⟨u,h1,h2,Rep.mono sg w h3⟩
 |new w=>obtain⟨u,h1,h2⟩:=q;exact⟨u,h1,RepN.move sg (fun _ _ _ z=>z) w h2⟩
 |acc ws=>obtain⟨a,o,xs,h1,⟨h2,h3,h4⟩,h5,h6⟩:=q;exact⟨a,o,xs,h1,hf _ _ _ h2 h3 h4,RepNs.move sg (fun _ _ _ z=>z) ws h5,h6⟩
 |tn us wss=>obtain⟨t,l,o,ls,xs,h1,h2,⟨h3,h4,h5⟩,h6,h7,h8⟩:=q;exact⟨t,l,o,ls,xs,h1,sg _ _ h2,hf _ _ _ h3 h4 h5,h6,Reps.mono sg us h7,h8.move sg hf⟩
 |pt us ws w=>obtain⟨p,t,l,o,xs,ys,x,h1,h2,h3,⟨h4,h5,h6⟩,h7,h8,h9⟩:=q;exact⟨p,t,l,o,xs,ys,x,h1,sg _ _ h2,sg _ _ h3,hf _ _ _ h4 h5 h6,Reps.mono sg us h7,Reps.mono sg ws h8,Rep.mono sg w h9⟩
 |fz w=>obtain⟨u,as,h1,h2,h3⟩:=q;exact⟨u,as,h1,h2,RepF.move sg w (fun l o ys _ ⟨k1,k2,k3⟩=>hf l o ys k1 k2 k3) h3⟩
 |fzo w=>obtain⟨u,as,h1,h2,h3,h4⟩:=q;exact⟨u,as,h1,h2,RepF.move (.refl _) w (fun l o ys hm k=>⟨(hf l o ys k.1 (let ⟨_,_,z⟩:=RepF.fzs w h4 hm;z.2.1) k.2.2).1,k.2.1,k.2.2⟩) h3,RepF.move sg w (fun l o ys _ ⟨k1,k2,k3⟩=>hf l o ys k1 k2 k3) h4⟩
 |thro us ws vs=>obtain⟨t,l,o,xs,ys,zs,h1,h2,h3,⟨h4,h5,h6⟩,h7,h8,h9,h10⟩:=q;exact⟨t,l,o,xs,ys,zs,h1,h2,sg _ _ h3,hf _ _ _ h4 h5 h6,h7,Reps.mono sg us h8,Reps.mono sg ws h9,Reps.mono sg vs h10⟩
def IoOk(Z:Zt):Option Nat->Addr->Prop
 |none,a=>Z.H a=none
 |some j,a=>Z.io[j]?=some a
theorem IoOk.io(h:IoOk Z b a):a∈Z.io\/Z.H a=none:=by
 cases b with
 |none=>exact .inr h
 |some j=>exact .inl (w0l h)
inductive OwnOk(K:PySem.W.Frag)(Z:Zt)(G H:Hp)(b:Option Nat)(ws:List W)(v:Option V):Prop where
 |mk (a:Addr) (xs:List V) (h1:v=some (.ref a)) (h2:H a=some (.lst xs)) (h3:G a=none) (h4:IoOk Z b a) (h5:Reps K G ws xs):OwnOk K Z G H b ws v
inductive DicOk(Z:Zt)(G H:Hp)(kvs:Dd)(v:Option V):Prop where
 |mk (a:Addr) (h1:v=some (.ref a)) (h2:H a=some (dO kvs)) (h3:G a=none) (h4:Z.H a=none):DicOk Z G H kvs v
inductive ThrOk(K:PySem.W.Frag)(Z:Zt)(G H:Hp)(us ws vs:List W)(v:Option V):Prop where
 |mk (t l:Addr) (o:Obj) (xs ys zs:List V) (h1:v=some (.ref t)) (h2:G t=some (.tup (xs++.ref l::zs))) (h3:H l=some (.frz o (.lst ys))) (h4:G l=none) (h5:Z.H l=none) (h6:Reps K G us xs/\Reps K G ws ys/\Reps K G vs zs):ThrOk K Z G H us ws vs v
def SlotOk(K:PySem.W.Frag)(Z:Zt)(G H:Hp):S->Option V->Prop
 |.no,_=>True
 |.fr w,v=>∃u,v=some u/\Rep K G w u
 |.own b ws,v=>OwnOk K Z G H b ws v
 |.dic kvs,v=>DicOk Z G H kvs v
 |.thr us ws vs,v=>ThrOk K Z G H us ws vs v
 |.nest wss,v=>NestOk K Z G H wss v
 |.dw sh ks ws,v=>DwOk K Z G H sh ks ws v
 |.x k,v=>XOk K Z G H k v
structure Rel(K:PySem.W.Frag)(Z:Zt)(G:Hp)(σ:St)(H:Hp)(e:List S):Prop where
 sub:Same G H
 slot:∀(i:Nat)(s:S),e[i]?=some s->SlotOk K Z G H s (σ[i]?.getD none)
 len:e.length=σ.length
 dis:∀(i j:Nat)(b b':Option Nat)(ws ws':List W)(a:Addr),e[i]?=some (.own b ws)->e[j]?=some (.own b' ws')->σ[i]?=some (some (.ref a))->σ[j]?=some (some (.ref a))->i=j
 ent:∀a o,Z.H a=some o->a∉Z.io->H a=some o
 ion:∀a∈Z.io,H a≠none
 gen:∀a,Z.H a≠none->G a=Z.G a
inductive AtG(K:PySem.W.Frag)(Z:Zt)(σ:St)(H:Hp)(P:Hp->List S->Prop):Prop where
 |mk (G:Hp) (e:List S) (r:Rel K Z G σ H e) (h:P G e):AtG K Z σ H P
structure Grow(G H G' H':Hp):Prop where
 hh:Same H H'
 gg:Same G G'
 sub:Same G' H'
 new:∀a,H a≠none->G' a=G a
theorem Grow.refl(s:Same G H):Grow G H G H:=⟨.refl _,.refl _,s,fun _ _=>rfl⟩
theorem x61(e:Same H H')(h:H a≠none):H' a≠none:=by
 cases q:H a with
 |none=>exact absurd q h
 |some o=>rw[e a o q];simp
theorem Grow.laid(s:Same G H){D:Addr}(h:H D=none)(o:HO):Grow G H (upd G D o) (upd H D o) where
 hh:=q20 h o
 gg:=q20 (s.free h) o
 sub:=fun b u e=>by
  by_cases hb:b=D
  ·subst hb;rw[q0g]at e |-;exact e
  ·rw[q0d hb]at e |-;exact s b u e
 new:=fun a ha=>by rw[q0d (fun z=>ha (by rw[z];exact h))]
theorem Grow.hid(s:Same G H){D:Addr}(h:H D=none)(o:HO):Grow G H G (upd H D o) where
 hh:=q20 h o
 gg:=.refl _
 sub:=fun b u e=>by
  have:=s b u e;rw[q0d (q0p this h)];exact this
 new:=fun a ha=>rfl
theorem Rel.grow(r:Rel K Z G σ H e)(g:Grow G H G' H'):Rel K Z G' σ H' e where
 sub:=g.sub
 slot:=fun i s h=>by
  have q:=r.slot i s h;cases s with
  |no=>trivial
  |fr w=>
   obtain⟨u,h1,h2⟩:=q;exact⟨u,h1,Rep.mono g.gg w h2⟩
  |own b ws=>
   obtain⟨a,xs,h1,h2,h3,h4,h5⟩:=q;exact⟨a,xs,h1,g.hh _ _ h2,by rw[g.new a (by rw[h2];simp)];exact h3,h4,Reps.mono g.gg ws h5⟩
  |dic kvs=>
   obtain⟨a,h1,h2,h3,h4⟩:=q;exact⟨a,h1,g.hh _ _ h2,by rw[g.new a (by rw[h2];simp)];exact h3,h4⟩
  |thr us ws vs=>
   obtain⟨t,l,o,xs,ys,zs,h1,h2,h3,h4,h5,h6,h7,h8⟩:=q;exact⟨t,l,o,xs,ys,zs,h1,g.gg _ _ h2,g.hh _ _ h3,by rw[g.new l (by rw[h3];simp)];exact h4,h5,Reps.mono g.gg us h6,Reps.mono g.gg ws h7,Reps.mono g.gg vs h8⟩
  |nest wss=>exact NestOk.move q g.gg fun l o ys h1 h2 h3=>⟨g.hh _ _ h1,by rw[g.new l (by rw[h1];simp)];exact h2,h3⟩
  |x k=>exact XOk.move q g.gg fun l o ys h1 h2 h3=>⟨g.hh _ _ h1,by rw[g.new l (by rw[h1];simp)];exact h2,h3⟩
  |dw sh ks ws=>exact DwOk.move q g.gg fun l o ys h1 h2 h3=>⟨g.hh _ _ h1,by rw[g.new l (by rw[h1];simp)];exact h2,h3⟩
 len:=r.len
 dis:=r.dis
 ent:=fun a o h n=>g.hh _ _ (r.ent a o h n)
 ion:=fun a h=>x61 g.hh (r.ion a h)
 gen:=fun a h=>by
  have:H a≠none:=by
   cases q:Z.H a with
   |none=>exact absurd q h
   |some o=>
    by_cases hi:a∈Z.io
    ·exact r.ion a hi
    ·rw[r.ent a o q hi];simp
  rw[g.new a this];exact r.gen a h
theorem Rel.own(r:Rel K Z G σ H e)(h:e[i]?=some (.own b ws)):∃a xs,σ[i]?=some (some (.ref a))/\H a=some (.lst xs)/\G a=none/\(IoOk Z b a)/\Reps K G ws xs:=by
 obtain⟨a,xs,h1,h2,h3,h4,h5⟩:=r.slot i _ h;refine⟨a,xs,?_,h2,h3,h4,h5⟩;cases q:σ[i]? with
 |none=>rw[q]at h1;cases h1
 |some z=>rw[q]at h1;rw[show z=some (V.ref a)from h1]
theorem Rel.fr(r:Rel K Z G σ H e)(h:e[i]?=some (.fr w)):∃v,σ[i]?=some (some v)/\Rep K G w v:=by
 obtain⟨v,h1,h2⟩:=r.slot i _ h;refine⟨v,?_,h2⟩;cases q:σ[i]? with
 |none=>rw[q]at h1;cases h1
 |some z=>rw[q]at h1;rw[show z=some v from h1]
theorem Rel.at(r:Rel K Z G σ H e){s:S}(h:e[i]?=some s)(hs:SlotOk K Z G H s (σ[i]?.getD none)->σ[i]?.getD none=some v):σ[i]?=some (some v):=by
 have h1:=hs (r.slot i _ h);cases q:σ[i]? with
 |none=>rw[q]at h1;cases h1
 |some z=>rw[q]at h1;rw[show z=some v from h1]
theorem Rel.plain(r:Rel K Z G σ H e){k:SK}(h:e[i]?=some (.x k))(hk:k.plain=some w):∃v,σ[i]?=some (some v)/\Rep K G w v:=by
 have q:=r.slot i _ h;cases k with
 |old w'=>cases hk;obtain⟨v,h1,_,h2⟩:=q;exact⟨v,r.at h fun _=>h1,h2⟩
 |new w'=>cases hk;obtain⟨v,h1,h2⟩:=q;exact⟨v,r.at h fun _=>h1,RepN.rep _ h2⟩
 |_=>cases hk
theorem Rel.mut(r:Rel K Z G σ H e){ws':List W}{xs':List V}(h:e[i]?=some (.own b ws))(ha:σ[i]?=some (some (.ref a)))(q:Reps K G ws' xs'):Rel K Z G σ (upd H a (.lst xs')) (e.set i (.own b ws')):=by
 obtain⟨a',xs,h1,h2,h3,h4,h5⟩:=r.own h;rw[ha]at h1;cases h1;have hi:i<e.length:=(w0b.mp h).1;refine⟨fun c o z=>?_,fun j s z=>?_,by simpa using r.len,fun j k b1 b2 w1 w2 c z1 z2 z3 z4=>?_,fun c o z n=>?_,fun c z=>?_,r.gen⟩
 ·rw[q0d (q0p z h3)];exact r.sub c o z
 ·by_cases hj:j=i
  ·subst hj;rw[w0i hi]at z;cases z;exact⟨a,xs',by rw[ha];rfl,q0g,h3,h4,q⟩
  ·rw[w0h (fun z=>hj z.symm)]at z
   have y:=r.slot j s z;cases s with
   |no=>trivial
   |fr w=>exact y
   |own b2 w2=>
    obtain⟨c,ys,y1,y2,y3,y4,y5⟩:=y;refine⟨c,ys,y1,?_,y3,y4,y5⟩;rw[q0d];exact y2;rintro rfl;obtain⟨c',_,z1,_⟩:=r.own z;rw[z1]at y1;cases y1;exact hj (r.dis j i _ _ _ _ _ z h z1 ha)
   |dic kvs=>
    obtain⟨c,y1,y2,y3,y4⟩:=y;refine⟨c,y1,?_,y3,y4⟩;rw[q0d (q0t y2 h2 (q4g rfl))];exact y2
   |thr us w2 vs=>
    obtain⟨t,l,o,xs2,ys,zs,y1,y2,y3,y4,y5,y6⟩:=y;refine⟨t,l,o,xs2,ys,zs,y1,y2,?_,y4,y5,y6⟩;rw[q0d (q0t y3 h2 (fun z=>nomatch z))];exact y3
   |nest wss=>exact NestOk.move y (.refl _) fun l o ys k1 k2 k3=>⟨by rw[q0d (q0t k1 h2 (fun z=>nomatch z))];exact k1,k2,k3⟩
   |x k=>exact XOk.move y (.refl _) fun l o ys k1 k2 k3=>⟨by rw[q0d (q0t k1 h2 (fun z=>nomatch z))];exact k1,k2,k3⟩
   |dw sh ks ws=>exact DwOk.move y (.refl _) fun l o ys k1 k2 k3=>⟨by rw[q0d (q0t k1 h2 (q2s rfl))];exact k1,k2,k3⟩
 ·have old:∀(k:Nat)(bb:Option Nat)(ww:List W),(e.set i (S.own b ws'))[k]?=some (.own bb ww)->∃b' w',e[k]?=some (.own b' w'):=fun k bb ww z=>by
   by_cases hk:k=i
   ·subst hk;exact⟨_,_,h⟩
   ·rw[w0h (fun z=>hk z.symm)]at z;exact⟨_,_,z⟩
  obtain⟨_,_,q1⟩:=old _ _ _ z1;obtain⟨_,_,q2⟩:=old _ _ _ z2;exact r.dis _ _ _ _ _ _ _ q1 q2 z3 z4
 ·by_cases hc:c=a
  ·subst hc;exfalso;rcases h4.io with h4|h4
   ·exact n h4
   ·rw[h4]at z;cases z
  ·rw[q0d hc];exact r.ent c o z n
 ·by_cases hc:c=a
  ·subst hc;rw[q0g];simp
  ·rw[q0d hc];exact r.ion c z
theorem Rel.freeze(r:Rel K Z G σ H e)(h:e[i]?=some (.own none ws)):∃v G',σ[i]?=some (some v)/\Same G G'/\Rep K G' (.lst ws) v/\Rel K Z G' σ H (e.set i (.fr (.lst ws))):=by
 obtain⟨a,xs,h1,h2,h3,h4,h5⟩:=r.own h;have h4:Z.H a=none:=h4;have sg:Same G (upd G a (.lst xs)):=q20 h3 _;have hi:i<e.length:=(w0b.mp h).1;have rp:Rep K (upd G a (.lst xs)) (.lst ws) (.ref a):=⟨a,xs,rfl,SqL.of q0g,Reps.mono sg ws h5⟩;refine⟨.ref a,upd G a (.lst xs),h1,sg,rp,⟨fun c o z=>?_,fun j s z=>?_,by simpa using r.len,fun j k b1 b2 w1 w2 c z1 z2 z3 z4=>?_,r.ent,r.ion,fun c z=>?_⟩⟩
 ·by_cases hc:c=a
  ·subst hc;rw[q0g]at z;cases z;exact h2
  ·rw[q0d hc]at z;exact r.sub c o z
 ·by_cases hj:j=i
  ·subst hj;rw[w0i hi]at z;cases z;exact⟨.ref a,by rw[h1];rfl,rp⟩
  ·rw[w0h (fun z=>hj z.symm)]at z
   have y:=r.slot j s z;cases s with
   |no=>trivial
   |fr w=>
    obtain⟨u,y1,y2⟩:=y;exact⟨u,y1,Rep.mono sg w y2⟩
   |own b2 w2=>
    obtain⟨c,ys,y1,y2,y3,y4,y5⟩:=y;refine⟨c,ys,y1,y2,?_,y4,Reps.mono sg w2 y5⟩;rw[q0d];exact y3;rintro rfl;obtain⟨c',_,z1,_⟩:=r.own z;rw[z1]at y1;cases y1;exact hj (r.dis j i _ _ _ _ _ z h z1 h1)
   |dic kvs=>
    obtain⟨c,y1,y2,y3,y4⟩:=y;refine⟨c,y1,y2,?_,y4⟩;rw[q0d (q0t y2 h2 (q4g rfl))];exact y3
   |thr us w2 vs=>
    obtain⟨t,l,o,xs2,ys,zs,y1,y2,y3,y4,y5,y6,y7,y8⟩:=y;refine⟨t,l,o,xs2,ys,zs,y1,sg _ _ y2,y3,?_,y5,Reps.mono sg us y6,Reps.mono sg w2 y7,Reps.mono sg vs y8⟩;rw[q0d (q0t y3 h2 (fun z=>nomatch z))];exact y4
   |nest wss=>exact NestOk.move y sg fun l o ys k1 k2 k3=>⟨k1,by rw[q0d (q0t k1 h2 (fun z=>nomatch z))];exact k2,k3⟩
   |x k=>exact XOk.move y sg fun l o ys k1 k2 k3=>⟨k1,by rw[q0d (q0t k1 h2 (fun z=>nomatch z))];exact k2,k3⟩
   |dw sh ks ws=>exact DwOk.move y sg fun l o ys k1 k2 k3=>⟨k1,by rw[q0d (q0t k1 h2 (q2s rfl))];exact k2,k3⟩
 ·have old:∀(k:Nat)(bb:Option Nat)(ww:List W),(e.set i (S.fr (W.lst ws)))[k]?=some (.own bb ww)->e[k]?=some (.own bb ww):=fun k bb ww z=>by
   by_cases hk:k=i
   ·subst hk;rw[w0i hi]at z;cases z
   ·rw[w0h (fun z=>hk z.symm)]at z;exact z
  exact r.dis _ _ _ _ _ _ _ (old _ _ _ z1) (old _ _ _ z2) z3 z4
 ·by_cases hc:c=a
  ·subst hc;exact absurd h4 z
  ·rw[q0d hc];exact r.gen c z
def Free(σ:St)(e:List S)(a:Addr):Prop:=∀(j:Nat)(b:Option Nat)(ws:List W),e[j]?=some (.own b ws)->σ[j]?≠some (some (.ref a))
theorem Rel.set(r:Rel K Z G σ H e)(q:Rep K G w v):Rel K Z G (σ.set i (some v)) H (e.set i (.fr w)):=by
 refine⟨r.sub,fun j s z=>?_,by simpa using r.len,fun j k b1 b2 w1 w2 c z1 z2 z3 z4=>?_,r.ent,r.ion,r.gen⟩
 ·by_cases hj:j=i
  ·subst hj
   have hi:j<e.length:=by
    have:=(w0b.mp z).1;simpa using this
   rw[w0i hi]at z;cases z;rw[w0i (by rw[<- r.len];exact hi)];exact⟨v,rfl,q⟩
  ·rw[w0h (fun z=>hj z.symm)]at z |-
   exact r.slot j s z
 ·have old:∀(k:Nat)(bb:Option Nat)(ww:List W),(e.set i (S.fr w))[k]?=some (.own bb ww)->k≠i/\e[k]?=some (.own bb ww):=fun k bb ww z=>by
   by_cases hk:k=i
   ·subst hk
    have hi:k<e.length:=by
     have:=(w0b.mp z).1;simpa using this
    rw[w0i hi]at z;cases z
   ·rw[w0h (fun z=>hk z.symm)]at z;exact⟨hk,z⟩
  obtain⟨n1,q1⟩:=old _ _ _ z1;obtain⟨n2,q2⟩:=old _ _ _ z2;rw[w0h (fun z=>n1 z.symm)]at z3
  rw[w0h (fun z=>n2 z.symm)]at z4
  exact r.dis _ _ _ _ _ _ _ q1 q2 z3 z4
theorem Rel.setOwn(r:Rel K Z G σ H e)(h2:H a=some (.lst xs))(h3:G a=none)(h4:Z.H a=none)(hf:Free σ e a)(q:Reps K G ws xs):Rel K Z G (σ.set i (some (.ref a))) H (e.set i (.own none ws)):=by
 refine⟨r.sub,fun j s z=>?_,by simpa using r.len,fun j k b1 b2 w1 w2 c z1 z2 z3 z4=>?_,r.ent,r.ion,r.gen⟩
 ·by_cases hj:j=i
  ·subst hj
   have hi:j<e.length:=by
    have:=(w0b.mp z).1;simpa using this
   rw[w0i hi]at z;cases z;rw[w0i (by rw[<- r.len];exact hi)];exact⟨a,xs,rfl,h2,h3,h4,q⟩
  ·rw[w0h (fun z=>hj z.symm)]at z |-
   exact r.slot j s z
 ·have both:∀(k:Nat)(bb:Option Nat)(ww:List W),(e.set i (S.own none ws))[k]?=some (.own bb ww)->(σ.set i (some (.ref a)))[k]?=some (some (.ref c))->(k=i/\c=a)\/(k≠i/\e[k]?=some (.own bb ww)/\σ[k]?=some (some (.ref c))/\c≠a):=fun k bb ww z y=>by
   by_cases hk:k=i
   ·subst hk
    have hi:k<e.length:=by
     have:=(w0b.mp z).1;simpa using this
    rw[w0i (by rw[<- r.len];exact hi)]at y;cases y;exact .inl ⟨rfl,rfl⟩
   ·rw[w0h (fun z=>hk z.symm)]at z y
    exact .inr ⟨hk,z,y,fun e=>hf k bb ww z (by rw[y,e])⟩
  rcases both _ _ _ z1 z3 with⟨e1,c1⟩|⟨n1,q1,p1,c1⟩<;>rcases both _ _ _ z2 z4 with⟨e2,c2⟩|⟨n2,q2,p2,c2⟩
  ·rw[e1,e2]
  ·exact absurd c1 c2
  ·exact absurd c2 c1
  ·exact r.dis _ _ _ _ _ _ _ q1 q2 p1 p2
theorem Rel.forget(r:Rel K Z G σ H e){e':List S}(hl:e'.length=e.length)(h:∀(i:Nat)(s:S),e'[i]?=some s->s=.no\/e[i]?=some s):Rel K Z G σ H e':=by
 refine⟨r.sub,fun j s z=>?_,by rw[hl];exact r.len,fun j k b1 b2 w1 w2 c z1 z2 z3 z4=>?_,r.ent,r.ion,r.gen⟩
 ·rcases h j s z with rfl|q
  ·trivial
  ·exact r.slot j s q
 ·rcases h _ _ z1 with q1|q1
  ·cases q1
  ·rcases h _ _ z2 with q2|q2
   ·cases q2
   ·exact r.dis _ _ _ _ _ _ _ q1 q2 z3 z4
inductive R(α:Type) where
 |ok (a:α) (e:List S)|ex (c:Value) (e:List S)|no
noncomputable abbrev Den(α:Type):=List S->R α
variable{dA:Den (List W)}
noncomputable def R.bind{β:Type}:R α->(α->List S->R β)->R β
 |.ok a e,k=>k a e
 |.ex c e,_=>.ex c e
 |.no,_=>.no
def R.holds(r:R α)(P:α->List S->Prop)(E:Value->List S->Prop):Prop:=match r with
 |.ok a e=>P a e
 |.ex c e=>E c e
 |.no=>False
theorem R.holds_bind{β:Type}{r:R α}{k:α->List S->R β}{P:β->List S->Prop}:(r.bind k).holds P E↔r.holds (fun a e=>(k a e).holds P E) E:=by
 cases r<;>rfl
theorem R.holds.imp{r:R α}{P P':α->List S->Prop}{E':Value->List S->Prop}(h:r.holds P E)(p:∀a e,P a e->P' a e)(x:∀c e,E c e->E' c e):r.holds P' E':=by
 cases r with
 |ok a e=>exact p a e h
 |ex c e=>exact x c e h
 |no=>exact h
noncomputable def ofOpt(o:Option α)(e:List S):R α:=match o with
 |some a=>.ok a e
 |none=>.no
theorem ofOpt_holds{o:Option α}{P:α->List S->Prop}:(ofOpt o e).holds P E↔∃a,o=some a/\P a e:=by
 cases o with
 |none=>exact⟨fun h=>h.elim,fun⟨_,h,_⟩=>nomatch h⟩
 |some a=>exact⟨fun h=>⟨a,rfl,h⟩,fun⟨_,h,q⟩=>by cases h;exact q⟩
inductive SR where
 |nx (e:List S)|rt (s:S) (e:List S)|bk (e:List S)|ct (e:List S)|ex (c:Value) (e:List S)|no
section
variable(K:PySem.W.Frag)(Z:Zt)(EE:L2.St->XK)
abbrev XH(σ:St)(G:Hp):Value->List S->Prop:=fun c e'=>∀G' H',Rel K Z G' σ H' e'->Same G G'->EE σ c none H'
def liftE(d:Den W):TE:=fun σ H Q=>AtG K Z σ H fun G e=>(d e).holds (fun w e'=>∀G' v H',Rel K Z G' σ H' e'->Same G G'->Rep K G' w v->Q v H') (XH K Z EE σ G)
def liftA(d:Den (List W)):TA:=fun σ H Q=>AtG K Z σ H fun G e=>(d e).holds (fun ws e'=>∀G' vs H',Rel K Z G' σ H' e'->Same G G'->Reps K G' ws vs->Q vs H') (XH K Z EE σ G)
def liftT(d:Den Bool):TT:=fun σ H Q=>AtG K Z σ H fun G e=>(d e).holds (fun b e'=>∀G' H',Rel K Z G' σ H' e'->Same G G'->Q b H') (XH K Z EE σ G)
def liftF(d:Den (List W)):TE:=fun σ H Q=>AtG K Z σ H fun G e=>(d e).holds (fun ws e'=>∀G' a xs H',Rel K Z G' σ H' e'->Same G G'->H' a=some (.lst xs)->G' a=none->Z.H a=none->Free σ e' a->Reps K G' ws xs->Q (.ref a) H') (XH K Z EE σ G)
def PostS(D:Ends)(G:Hp):SR->Prop
 |.nx e'=>∀G' σ' H',Rel K Z G' σ' H' e'->Same G G'->D.nx σ' H'
 |.bk e'=>∀G' σ' H',Rel K Z G' σ' H' e'->Same G G'->D.bk σ' H'
 |.ct e'=>∀G' σ' H',Rel K Z G' σ' H' e'->Same G G'->D.ct σ' H'
 |.rt s e'=>∀G' σ' v H',Rel K Z G' σ' H' e'->Same G G'->SlotOk K Z G' H' s (some v)->D.rt v H'
 |.ex c e'=>∀G' σ' H',Rel K Z G' σ' H' e'->Same G G'->EE σ' c none H'
 |.no=>False
def liftS(d:List S->SR):TS:=fun D σ H=>AtG K Z σ H fun G e=>PostS K Z EE D G (d e)
end
section
variable(Z:Zt)(X:Cx)(EE:L2.St->XK)
def DE(e:Expr)(d:Den W):Prop:=PE X e (liftE X.K Z EE d)
def DF(e:Expr)(d:Den (List W)):Prop:=PE X e (liftF X.K Z EE d)
def DT(e:Expr)(d:Den Bool):Prop:=PT X e (liftT X.K Z EE d)
def DW(e:Expr)(d:Den Bool):Prop:=PW X e (liftT X.K Z EE d)
def DA(es:List Expr)(d:Den (List W)):Prop:=PA X es (liftA X.K Z EE d)
def DS(st:Stmt)(d:List S->SR):Prop:=PS X st (liftS X.K Z EE d)
def DSs(sts:List Stmt)(d:List S->SR):Prop:=PSs X sts (liftS X.K Z EE d)
end
theorem PE.mono{e:Expr}{t t':TE}(h:PE X e t)(i:∀σ H Q,t' σ H Q->t σ H Q):PE X e t':=fun pins s σ H Q I q=>h pins s σ H Q I (i σ H Q q)
theorem PT.mono{e:Expr}{t t':TT}(h:PT X e t)(i:∀σ H Q,t' σ H Q->t σ H Q):PT X e t':=fun pins s σ H Q I q=>h pins s σ H Q I (i σ H Q q)
theorem PW.mono{e:Expr}{t t':TT}(h:PW X e t)(i:∀σ H Q,t' σ H Q->t σ H Q):PW X e t':=fun wh pins s σ H Q I q=>h wh pins s σ H Q I (i σ H Q q)
theorem PA.mono{t t':TA}(h:PA X es t)(i:∀σ H Q,t' σ H Q->t σ H Q):PA X es t':=fun p pins s σ H Q I q=>h p pins s σ H Q I (i σ H Q q)
theorem PS.mono{t t':TS}(h:PS X st t)(i:∀D σ H,t' D σ H->t D σ H):PS X st t':=fun pins s σ H D I q=>h pins s σ H D I (i D σ H q)
theorem PSs.mono{st:List Stmt}{t t':TS}(h:PSs X st t)(i:∀D σ H,t' D σ H->t D σ H):PSs X st t':=fun pins s σ H D I q=>h pins s σ H D I (i D σ H q)
section
variable(K:PySem.W.Frag)
def Op2(r:R2)(f:W->W->Option W):Prop:=∀(G H:Hp)(x y:V)(wx wy w:W)(Q:VK),Same G H->Rep K G wx x->Rep K G wy y->f wx wy=some w->(∀G' v H',Grow G H G' H'->Rep K G' w v->Q v H')->r x y H Q
def Op1(r:V->Hp->VK->Prop)(f:W->Option W):Prop:=∀(G H:Hp)(x:V)(wx w:W)(Q:VK),Same G H->Rep K G wx x->f wx=some w->(∀G' v H',Grow G H G' H'->Rep K G' w v->Q v H')->r x H Q
def OpN(r:List V->Hp->VK->Prop)(f:List W->Option W):Prop:=∀(G H:Hp)(xs:List V)(ws:List W)(w:W)(Q:VK),Same G H->Reps K G ws xs->f ws=some w->(∀G' v H',Grow G H G' H'->Rep K G' w v->Q v H')->r xs H Q
end
noncomputable def dC(w:W):Den W:=fun e=>.ok w e
noncomputable def dVar(i:Nat):Den W:=fun e=>match e[i]? with
 |some (.fr w)=>.ok w e
 |some (.own none ws)=>.ok (.lst ws) (e.set i (.fr (.lst ws)))
 |some (.x k)=>match k.plain with
  |some w=>.ok w e
  |none=>.no
 |_=>.no
noncomputable def dOp(f:W->W->Option W)(da db:Den W):Den W:=fun e=>(da e).bind fun x e1=>(db e1).bind fun y e2=>ofOpt (f x y) e2
noncomputable def dUn(f:W->Option W)(da:Den W):Den W:=fun e=>(da e).bind fun x e1=>ofOpt (f x) e1
noncomputable def dTest(da:Den W):Den Bool:=fun e=>(da e).bind fun x e1=>match x with
 |.bl k=>.ok k e1
 |_=>.no
noncomputable def truW:W->Option Bool
 |.non=>some false
 |.bl b=>some b
 |.int i=>some (i != 0)
 |.str x=>if x.length<=16777216 then some ((x.length:Int) != 0)else none
 |.tup xs=>some (!xs.isEmpty)
 |.lst xs=>some (!xs.isEmpty)
 |.exc _=>none
 |.dic _=>none
 |.dw _ _ _ _=>none
 |.fn _ _ _=>none
noncomputable def dTru(da:Den W):Den Bool:=fun e=>(da e).bind fun x e1=>ofOpt (truW x) e1
noncomputable def dAnd(a b:Den Bool):Den Bool:=fun e=>(a e).bind fun x e1=>if x=true then b e1 else .ok false e1
noncomputable def dOr(a b:Den Bool):Den Bool:=fun e=>(a e).bind fun x e1=>if x=true then .ok true e1 else b e1
noncomputable def dNot(a:Den Bool):Den Bool:=fun e=>(a e).bind fun x e1=>.ok (!x) e1
noncomputable def dAndV(a b:Den W):Den W:=fun e=>(a e).bind fun x e1=>match x with
 |.bl true=>b e1
 |.bl false=>.ok (.bl false) e1
 |_=>.no
noncomputable def dOrV(a b:Den W):Den W:=fun e=>(a e).bind fun x e1=>match x with
 |.bl true=>.ok (.bl true) e1
 |.bl false=>b e1
 |_=>.no
noncomputable def dNotV(a:Den W):Den W:=fun e=>(a e).bind fun x e1=>match x with
 |.bl k=>.ok (.bl (!k)) e1
 |_=>.no
noncomputable def dNil:Den (List W):=fun e=>.ok [] e
noncomputable def dCons(a:Den W)(r:Den (List W)):Den (List W):=fun e=>(a e).bind fun x e1=>(r e1).bind fun xs e2=>.ok (x::xs) e2
noncomputable def dTup(a:Den (List W)):Den W:=fun e=>(a e).bind fun xs e1=>if xs.length<=16777216 then .ok (.tup xs) e1 else .no
noncomputable def dLst(a:Den (List W)):Den (List W):=fun e=>(a e).bind fun xs e1=>if xs.length<=16777216 then .ok xs e1 else .no
noncomputable def dFz(a:Den (List W)):Den W:=fun e=>(a e).bind fun xs e1=>.ok (.lst xs) e1
noncomputable def dFn(f:List W->Option W)(a:Den (List W)):Den W:=fun e=>(a e).bind fun xs e1=>ofOpt (f xs) e1
section
variable{a b c e:Expr}{da db:Den W}{dc ta tb:Den Bool}
theorem XH.trans(s:Same G G1){c:Value}{e:List S}(h:XH K Z EE σ G c e):XH K Z EE σ G1 c e:=fun G' H' r q=>h G' H' r (s.trans q)
theorem q0c{i:Int}{j pos}:DE Z X EE (.Constant (.int i) j pos) (dC (.int i)):=PE.mono q6t fun σ H Q ⟨G,e,r,h⟩=>h G (.int i) H r (.refl _) rfl
theorem q21{i:Bool}{j pos}:DE Z X EE (.Constant (.bool i) j pos) (dC (.bl i)):=PE.mono y96 fun σ H Q ⟨G,e,r,h⟩=>h G (.bl i) H r (.refl _) rfl
theorem q0u{i:Str}{j pos}:DE Z X EE (.Constant (.str i) j pos) (dC (.str i)):=PE.mono y6z fun σ H Q ⟨G,e,r,h⟩=>h G (.str i) H r (.refl _) rfl
theorem x9x:∀σ H Q,liftE K Z EE (dVar i) σ H Q->tVar i σ H Q:=by
 rintro σ H Q ⟨G,e,r,h⟩;unfold dVar at h;split at h
 ·rename_i w hw;obtain⟨v,h1,h2⟩:=r.fr hw;exact⟨v,h1,h G v H r (.refl _) h2⟩
 ·rename_i ws hw;obtain⟨v,G',h1,h2,h3,h4⟩:=r.freeze hw;exact⟨v,h1,h G' v H h4 h2 h3⟩
 ·rename_i k hw;cases q:k.plain with
  |some w=>
   rw[q]at h;obtain⟨v,h1,h2⟩:=r.plain hw q;exact⟨v,h1,h G v H r (.refl _) h2⟩
  |none=>rw[q]at h;exact h.elim
 ·exact h.elim
theorem dv(i:Nat)(hN:X.N[i]?=some x:=by rfl)(hv:Vis X.env.scope x:=by walk_at "1")(hd:(x==("__debug__":Str))=false:=by decide)
  (hcd:(x==("__classdict__":Str))=false:=by decide):DE Z X EE (.Name x pos) (dVar i):=PE.mono (pv i hN hv hd hcd) x9x
theorem q4u{r:R2}(hf:Op2 K r f):∀σ H Q,liftE K Z EE (dOp f da db) σ H Q->tOp r (liftE K Z EE da) (liftE K Z EE db) σ H Q:=by
 rintro σ H Q ⟨G,e,rel,h⟩;simp only[dOp,R.holds_bind,ofOpt_holds]at h;refine⟨G,e,rel,h.imp (fun x e1 h G1 v1 H1 r1 s1 p1=>?_) fun _ _ h=>h⟩
 refine⟨G1,e1,r1,h.imp (fun y e2 h G2 v2 H2 r2 s2 p2=>?_) fun _ _ h=>XH.trans s1 h⟩
 obtain⟨w,hw,h⟩:=h;exact hf G2 H2 v1 v2 x y w Q r2.sub (Rep.mono s2 x p1) p2 hw fun G' v H' g p=>h G' v H' (r2.grow g) ((s1.trans s2).trans g.gg) p
theorem q80{op:Operator}{r:R2}(ho:OpR X (binaryOp op) r)(hf:Op2 X.K r f)(ha:DE Z X EE a da)(hb:DE Z X EE b db):DE Z X EE (.BinOp a op b pos) (dOp f da db):=PE.mono (z0a ho ha hb) (q4u hf)
theorem x62{op:CmpOp}{r:R2}(ho:OpR X (compareOp op) r)(hf:Op2 X.K r f)(ha:DE Z X EE a da)(hb:DE Z X EE b db)(hm:behindInMarks op b=false):DE Z X EE (.Compare a [op] [b] pos) (dOp f da db):=PE.mono (y29 ho ha hb hm) (q4u hf)
theorem x0l{Q:Bool->Hp->Prop}(h:liftT K Z EE (dTest da) σ H Q):liftE K Z EE da σ H (fun x H'=>∃k,x=.bl k/\Q k H'):=by
 obtain⟨G,e,rel,h⟩:=h;simp only[dTest,R.holds_bind]at h;refine⟨G,e,rel,h.imp (fun x e1 h G1 v1 H1 r1 s1 p1=>?_) fun _ _ h=>h⟩
 cases x with
 |bl k=>
  cases(show v1=V.bl k from p1);exact⟨k,rfl,h G1 H1 r1 s1⟩
 |_=>exact h.elim
theorem q5i{op:CmpOp}{r:R2}(ho:OpR X (compareOp op) r)(hf:Op2 X.K r f)(ha:DE Z X EE a da)(hb:DE Z X EE b db)(hm:behindInMarks op b=false):DT Z X EE (.Compare a [op] [b] pos) (dTest (dOp f da db)):=
 PT.mono (y3a ho ha hb hm) fun σ H Q h=>q4u hf σ H _ (x0l h)
theorem y3l{r:V->Hp->VK->Prop}{f:W->Option W}(hf:Op1 K r f):∀σ H Q,liftE K Z EE (dUn f da) σ H Q->tUn r (liftE K Z EE da) σ H Q:=by
 rintro σ H Q ⟨G,e,rel,h⟩;simp only[dUn,R.holds_bind,ofOpt_holds]at h;refine⟨G,e,rel,h.imp (fun x e1 h G1 v1 H1 r1 s1 p1=>?_) fun _ _ h=>h⟩
 obtain⟨w,hw,h⟩:=h;exact hf G1 H1 v1 x w Q r1.sub p1 hw fun G' v H' g p=>h G' v H' (r1.grow g) (s1.trans g.gg) p
theorem y7k(s:Same G H){k:Bool}(h:Rep K G w v)(e:truW w=some k):TruV K v H k:=by
 cases w with
 |non=>cases(show v=.non from h);cases e;rfl
 |bl b=>cases(show v=.bl b from h);cases e;rfl
 |int i=>cases(show v=.int i from h);cases e;rfl
 |str x=>
  cases(show v=.str x from h);simp only[truW]at e;split at e
  ·cases e;exact⟨by rw[sizeLine_eq];assumption,rfl⟩
  ·cases e
 |tup ws=>
  obtain⟨p,xs,rfl,q,r⟩:=h;cases e;refine .inr (.inl ⟨xs,s.tup q,?_⟩);have:=r.length;cases ws<;>cases xs<;>simp_all
 |lst ws=>
  obtain⟨p,xs,rfl,q,r⟩:=h;cases e;refine .inl ⟨xs,s.seq q,?_⟩;have:=r.length;cases ws<;>cases xs<;>simp_all
 |exc _=>cases e
 |dic _=>cases e
 |dw _ _ _ _=>cases e
 |fn _ _ _=>cases e
theorem q5j(ha:DE Z X EE a da)(he:∀whole,isTrue a X.env whole=(do let v <- whole;standAt a.pos;holding [v] (truthy v)):=by intro _;rfl):DT Z X EE a (dTru da):=by
 refine PT.mono (x9m ha he) ?_;rintro σ H Q ⟨G,e,rel,h⟩;simp only[dTru,R.holds_bind,ofOpt_holds]at h;refine⟨G,e,rel,h.imp (fun x e1 h G1 v1 H1 r1 s1 p1=>?_) fun _ _ h=>h⟩
 obtain⟨k,hk,h⟩:=h;exact⟨k,y7k r1.sub p1 hk,h G1 H1 r1 s1⟩
theorem x9y:∀σ H Q,liftT K Z EE (dAnd ta tb) σ H Q->tAnd (liftT K Z EE ta) (liftT K Z EE tb) σ H Q:=by
 rintro σ H Q ⟨G,e,rel,h⟩;simp only[dAnd,R.holds_bind]at h;refine⟨G,e,rel,h.imp (fun x e1 h G1 H1 r1 s1=>?_) fun _ _ h=>h⟩
 cases x with
 |true=>exact⟨G1,e1,r1,R.holds.imp (show(tb e1).holds _ _ from h) (fun y e2 h G2 H2 r2 s2=>h G2 H2 r2 (s1.trans s2)) fun _ _ h=>XH.trans s1 h⟩
 |false=>exact(show ∀G' H',_->_->Q false H' from h) G1 H1 r1 s1
theorem y3m:∀σ H Q,liftT K Z EE (dOr ta tb) σ H Q->tOr (liftT K Z EE ta) (liftT K Z EE tb) σ H Q:=by
 rintro σ H Q ⟨G,e,rel,h⟩;simp only[dOr,R.holds_bind]at h;refine⟨G,e,rel,h.imp (fun x e1 h G1 H1 r1 s1=>?_) fun _ _ h=>h⟩
 cases x with
 |false=>exact⟨G1,e1,r1,R.holds.imp (show(tb e1).holds _ _ from h) (fun y e2 h G2 H2 r2 s2=>h G2 H2 r2 (s1.trans s2)) fun _ _ h=>XH.trans s1 h⟩
 |true=>exact(show ∀G' H',_->_->Q true H' from h) G1 H1 r1 s1
theorem q9q(ha:DT Z X EE a ta):DW Z X EE (.BoolOp .And [a] pos) ta:=y24 ha
theorem q3k(ha:DT Z X EE a ta):DW Z X EE (.BoolOp .Or [a] pos) ta:=y61 ha
theorem q6z{rest:List Expr}(ha:DT Z X EE a ta)(hb:DW Z X EE (.BoolOp .And (b::rest) pos) tb):DW Z X EE (.BoolOp .And (a::b::rest) pos) (dAnd ta tb):=PW.mono (y62 ha hb) x9y
theorem q3g{rest:List Expr}(ha:DT Z X EE a ta)(hb:DW Z X EE (.BoolOp .Or (b::rest) pos) tb):DW Z X EE (.BoolOp .Or (a::b::rest) pos) (dOr ta tb):=PW.mono (y97 ha hb) y3m
theorem dt_w(h:DW Z X EE a ta):DT Z X EE a ta:=PW.pt h
theorem q5k(ha:DT Z X EE a ta):DT Z X EE (.UnaryOp .Not a pos) (dNot ta):=by
 refine PT.mono (y63 ha) ?_;rintro σ H Q ⟨G,e,rel,h⟩;simp only[dNot,R.holds_bind]at h;exact⟨G,e,rel,h.imp (fun x e1 h G1 H1 r1 s1=>h G1 H1 r1 s1) fun _ _ h=>h⟩
theorem q60{op}(h:DE Z X EE a da):DE Z X EE (.BoolOp op [a] pos) da:=y64 h
theorem x17{rest:List Expr}(ha:DE Z X EE a da)(hb:DE Z X EE (.BoolOp .And (b::rest) pos) db):DE Z X EE (.BoolOp .And (a::b::rest) pos) (dAndV da db):=by
 refine PE.mono (y65 ha hb) ?_;rintro σ H Q ⟨G,e,rel,h⟩;simp only[dAndV,R.holds_bind]at h;refine⟨G,e,rel,h.imp (fun x e1 h G1 v1 H1 r1 s1 p1=>?_) fun _ _ h=>h⟩
 cases x with
 |bl k=>
  cases(show v1=V.bl k from p1);cases k with
  |true=>exact⟨true,rfl,⟨G1,e1,r1,R.holds.imp (show(db e1).holds _ _ from h) (fun y e2 h G2 v2 H2 r2 s2 p2=>h G2 v2 H2 r2 (s1.trans s2) p2) fun _ _ h=>XH.trans s1 h⟩⟩
  |false=>exact⟨false,rfl,(show ∀G' v H',_->_->v=V.bl false->Q v H' from h) G1 _ H1 r1 s1 rfl⟩
 |_=>exact h.elim
theorem y2p{rest:List Expr}(ha:DE Z X EE a da)(hb:DE Z X EE (.BoolOp .Or (b::rest) pos) db):DE Z X EE (.BoolOp .Or (a::b::rest) pos) (dOrV da db):=by
 refine PE.mono (y98 ha hb) ?_;rintro σ H Q ⟨G,e,rel,h⟩;simp only[dOrV,R.holds_bind]at h;refine⟨G,e,rel,h.imp (fun x e1 h G1 v1 H1 r1 s1 p1=>?_) fun _ _ h=>h⟩
 cases x with
 |bl k=>
  cases(show v1=V.bl k from p1);cases k with
  |false=>exact⟨false,rfl,⟨G1,e1,r1,R.holds.imp (show(db e1).holds _ _ from h) (fun y e2 h G2 v2 H2 r2 s2 p2=>h G2 v2 H2 r2 (s1.trans s2) p2) fun _ _ h=>XH.trans s1 h⟩⟩
  |true=>exact⟨true,rfl,(show ∀G' v H',_->_->v=V.bl true->Q v H' from h) G1 _ H1 r1 s1 rfl⟩
 |_=>exact h.elim
theorem x63(ha:DE Z X EE a da):DE Z X EE (.UnaryOp .Not a pos) (dNotV da):=by
 refine PE.mono (y66 ha) ?_;rintro σ H Q ⟨G,e,rel,h⟩;simp only[dNotV,R.holds_bind]at h;refine⟨G,e,rel,h.imp (fun x e1 h G1 v1 H1 r1 s1 p1=>?_) fun _ _ h=>h⟩
 cases x with
 |bl k=>
  cases(show v1=V.bl k from p1);exact⟨k,rfl,(show ∀G' v H',_->_->v=V.bl (!k)->Q v H' from h) G1 _ H1 r1 s1 rfl⟩
 |_=>exact h.elim
theorem q0b:DA Z X EE [] dNil:=PA.mono q4j fun σ H Q ⟨G,e,r,h⟩=>h G [] H r (.refl _) rfl
theorem q0a(ha:DE Z X EE e da)(hr:DA Z X EE es dA)(hs:starEach (e::es) X.env=(false,eval e X.env)::starEach es X.env:=by rfl):DA Z X EE (e::es) (dCons da dA):=by
 refine PA.mono (q3b ha hr hs) ?_;rintro σ H Q ⟨G,e,rel,h⟩;simp only[dCons,R.holds_bind]at h;refine⟨G,e,rel,h.imp (fun x e1 h G1 v1 H1 r1 s1 p1=>?_) fun _ _ h=>h⟩
 refine⟨G1,e1,r1,h.imp (fun xs e2 h G2 vs H2 r2 s2 p2=>?_) fun _ _ h=>XH.trans s1 h⟩
 exact h G2 (v1::vs) H2 r2 (s1.trans s2) ⟨v1,vs,rfl,Rep.mono s2 x p1,p2⟩
theorem q0v{x1}(h:DA Z X EE es dA):DE Z X EE (.Tuple es x1 pos) (dTup dA):=by
 refine PE.mono (x6q h) ?_;rintro σ H Q ⟨G,e,rel,h⟩;simp only[dTup,R.holds_bind]at h;refine⟨G,e,rel,h.imp (fun ws e1 h G1 vs H1 r1 s1 p1=>?_) fun _ _ h=>h⟩
 split at h
 ·rename_i hl;refine⟨by rw[p1.length,sizeLine_eq];exact hl,fun p hp=>?_⟩
  have g:=Grow.laid r1.sub hp (.tup vs);exact(show ∀G' v H',_->_->Rep X.K G' (.tup ws) v->Q v H' from h) _ (.ref p) _ (r1.grow g) (s1.trans g.gg) ⟨p,vs,rfl,SqT.of q0g,Reps.mono g.gg ws p1⟩
 ·exact h.elim
theorem q54{e:List S}(r:Rel K Z G σ H e){p:Addr}(hp:H p=none):Free σ e p:=fun j b ws h q=>by
 obtain⟨a,xs,h1,h2,_⟩:=r.own h;rw[q]at h1;cases h1;rw[hp]at h2;cases h2
theorem q34{e:List S}(r:Rel K Z G σ H e){p:Addr}(hp:H p=none):Z.H p=none:=by
 cases q:Z.H p with
 |none=>rfl
 |some o=>
  by_cases hi:p∈Z.io
  ·exact absurd hp (r.ion p hi)
  ·rw[r.ent p o q hi]at hp;cases hp
theorem x9z{e:List S}{Q:VK}{G0:Hp}(r:Rel K Z G σ H e)(s:Same G0 G)(p1:Reps K G ws vs)
  (h:∀G' a xs H',Rel K Z G' σ H' e->Same G0 G'->H' a=some (.lst xs)->G' a=none->Z.H a=none->Free σ e a->Reps K G' ws xs->Q (.ref a) H'):∀p,H p=none->Q (.ref p) (upd H p (.lst vs)):=fun p hp=>by
 have g:=Grow.hid r.sub hp (.lst vs);exact h G p vs _ (r.grow g) s q0g (r.sub.free hp) (q34 r hp) (q54 r hp) p1
theorem q2t(h:DA Z X EE es dA):DF Z X EE (.List es pos) (dLst dA):=by
 refine PE.mono (y7d h) ?_;rintro σ H Q ⟨G,e,rel,h⟩;simp only[dLst,R.holds_bind]at h;refine⟨G,e,rel,h.imp (fun ws e1 h G1 vs H1 r1 s1 p1=>?_) fun _ _ h=>h⟩
 split at h
 ·rename_i hl;exact⟨by rw[p1.length,sizeLine_eq];exact hl,x9z r1 s1 p1 h⟩
 ·exact h.elim
theorem Rel.seen{e:List S}(r:Rel K Z G σ H e){a:Addr}(h:H a=some (.lst xs))(hg:G a=none)(hz:Z.H a=none)(hf:Free σ e a):Same G (upd G a (.lst xs))/\Rel K Z (upd G a (.lst xs)) σ H e:=by
 have sg:Same G (upd G a (.lst xs)):=q20 hg _;refine⟨sg,⟨fun c o z=>?_,fun j s z=>?_,r.len,r.dis,r.ent,r.ion,fun c z=>?_⟩⟩
 ·by_cases hc:c=a
  ·subst hc;rw[q0g]at z;cases z;exact h
  ·rw[q0d hc]at z;exact r.sub c o z
 ·have y:=r.slot j s z;cases s with
  |no=>trivial
  |fr w=>
   obtain⟨u,y1,y2⟩:=y;exact⟨u,y1,Rep.mono sg w y2⟩
  |own b2 w2=>
   obtain⟨c,ys,y1,y2,y3,y4,y5⟩:=y;refine⟨c,ys,y1,y2,?_,y4,Reps.mono sg w2 y5⟩;rw[q0d];exact y3;rintro rfl;obtain⟨c',_,z1,_⟩:=r.own z;rw[z1]at y1;cases y1;exact hf j b2 w2 z z1
  |dic kvs=>
   obtain⟨c,y1,y2,y3,y4⟩:=y;refine⟨c,y1,y2,?_,y4⟩;rw[q0d (q0t y2 h (q4g rfl))];exact y3
  |thr us w2 vs=>
   obtain⟨t,l,o,xs2,ys,zs,y1,y2,y3,y4,y5,y6,y7,y8⟩:=y;refine⟨t,l,o,xs2,ys,zs,y1,sg _ _ y2,y3,?_,y5,Reps.mono sg us y6,Reps.mono sg w2 y7,Reps.mono sg vs y8⟩;rw[q0d (q0t y3 h (fun z=>nomatch z))];exact y4
  |nest wss=>exact NestOk.move y sg fun l o ys k1 k2 k3=>⟨k1,by rw[q0d (q0t k1 h (fun z=>nomatch z))];exact k2,k3⟩
  |x k=>exact XOk.move y sg fun l o ys k1 k2 k3=>⟨k1,by rw[q0d (q0t k1 h (fun z=>nomatch z))];exact k2,k3⟩
  |dw sh ks ws=>exact DwOk.move y sg fun l o ys k1 k2 k3=>⟨k1,by rw[q0d (q0t k1 h (q2s rfl))];exact k2,k3⟩
 ·by_cases hc:c=a
  ·subst hc;exact absurd hz z
  ·rw[q0d hc];exact r.gen c z
theorem q3h(h:DF Z X EE e dA):DE Z X EE e (dFz dA):=by
 refine PE.mono h ?_;rintro σ H Q ⟨G,e,rel,h⟩;simp only[dFz,R.holds_bind]at h;refine⟨G,e,rel,h.imp (fun ws e1 h G1 a xs H1 r1 s1 q1 q2 q3 q4 p1=>?_) fun _ _ h=>h⟩
 obtain⟨sg,rg⟩:=r1.seen q1 q2 q3 q4;exact(show ∀G' v H',_->_->Rep X.K G' (.lst ws) v->Q v H' from h) _ (.ref a) _ rg (s1.trans sg) ⟨a,xs,rfl,SqL.of q0g,Reps.mono sg ws p1⟩
theorem x37{f:List W->Option W}(hf:OpN K r f):∀σ H Q,liftE K Z EE (dFn f dA) σ H Q->tCB r (liftA K Z EE dA) σ H Q:=by
 rintro σ H Q ⟨G,e,rel,h⟩;simp only[dFn,R.holds_bind,ofOpt_holds]at h;refine⟨G,e,rel,h.imp (fun ws e1 h G1 vs H1 r1 s1 p1=>?_) fun _ _ h=>h⟩
 obtain⟨w,hw,h⟩:=h;exact hf G1 H1 vs ws w Q r1.sub p1 hw fun G' v H' g p=>h G' v H' (r1.grow g) (s1.trans g.gg) p
theorem x18{id:String}{f:List W->Option W}(hc:CallR X (.builtin id) r)(hf:OpN X.K r f)(hv:bootBuiltins x=some (.builtin id))(hm:X.mg x=none)(ha:DA Z X EE (e::es) dA)(hg:Gl X x:=by rfl)(hn:x≠"__name__":=by decide)(hdb:(x==("__debug__":Str))=false:=by decide)
  (he:starEach (e::es) X.env=(false,eval e X.env)::starEach es X.env:=by rfl)(hpl:(backTo pos (starEach es X.env)).any (·.1)=false:=by rfl):DE Z X EE (.Call (.Name x p) (e::es) [] pos) (dFn f dA):=
 PE.mono (q52 hc hg hm hv ha hn hdb he hpl) (x37 hf)
theorem y7l{T:String}{f:List W->Option W}(hc:CallR X (.type T) r)(hf:OpN X.K r f)(hv:bootBuiltins x=some (.type T))(hm:X.mg x=none)(ha:DA Z X EE (e::es) dA)(hg:Gl X x:=by rfl)(hn:x≠"__name__":=by decide)(hdb:(x==("__debug__":Str))=false:=by decide)
  (he:starEach (e::es) X.env=(false,eval e X.env)::starEach es X.env:=by rfl)(hpl:(backTo pos (starEach es X.env)).any (·.1)=false:=by rfl):DE Z X EE (.Call (.Name x p) (e::es) [] pos) (dFn f dA):=
 PE.mono (x0i hc hg hm hv ha hn hdb he hpl) (x37 hf)
end
noncomputable def dNx:List S->SR:=fun e=>.nx e
noncomputable def dSeq(a b:List S->SR):List S->SR:=fun e=>match a e with
 |.nx e'=>b e'
 |r=>r
noncomputable def R.stm(r:R α)(k:α->List S->SR):SR:=match r with
 |.ok a e=>k a e
 |.ex c e=>.ex c e
 |.no=>.no
noncomputable def dDrop(d:Den W):List S->SR:=fun e=>(d e).stm fun _ e'=>.nx e'
noncomputable def dRet(d:Den W):List S->SR:=fun e=>(d e).stm fun w e'=>.rt (.fr w) e'
noncomputable def dRetF(d:Den (List W)):List S->SR:=fun e=>(d e).stm fun ws e'=>.rt (.own none ws) e'
noncomputable def dIfS(c:Den Bool)(a b:List S->SR):List S->SR:=fun e=>(c e).stm fun x e1=>if x=true then a e1 else b e1
noncomputable def dSet(i:Nat)(d:Den W):List S->SR:=fun e=>(d e).stm fun w e'=>.nx (e'.set i (.fr w))
noncomputable def dSetO(i:Nat)(d:Den (List W)):List S->SR:=fun e=>(d e).stm fun ws e'=>.nx (e'.set i (.own none ws))
noncomputable def forD(i:Nat)(b:List S->SR):List W->List S->SR
 |[],e=>.nx e
 |w::ws,e=>match b (e.set i (.fr w))with
  |.nx e'=>forD i b ws e'
  |.ct e'=>forD i b ws e'
  |.bk e'=>.nx e'
  |.rt s e'=>.rt s e'
  |.ex c e'=>.ex c e'
  |.no=>.no
noncomputable def whileD(c:Den Bool)(b:List S->SR):Nat->List S->SR
 |0,_=>.no
 |n+1,e=>(c e).stm fun x e1=>if x=true then(match b e1 with
  |.nx e'=>whileD c b n e'
  |.ct e'=>whileD c b n e'
  |.bk e'=>.nx e'
  |.rt s e'=>.rt s e'
  |.ex c e'=>.ex c e'
  |.no=>.no)else .nx e1
noncomputable def seqW:W->Option (List W)
 |.tup ws=>some ws
 |.lst ws=>some ws
 |_=>none
noncomputable def dFor(i:Nat)(d:Den W)(b:List S->SR):List S->SR:=fun e=>(d e).stm fun w e1=>match seqW w with
 |some ws=>forD i b ws e1
 |none=>.no
noncomputable def rangeW(lo hi:Int):List W:=(List.range (hi-lo).toNat).map fun k=>.int (lo+(k:Nat))
noncomputable def okI(j:Int):Bool:=Nat.ble j.natAbs 4611686018427387903
theorem q4k{j:Int}(h:okI j=true):-(2^62)<=j/\j<2^62:=by
 have z:j.natAbs<=4611686018427387903:=Nat.le_of_ble_eq_true h;have e:(2:Int)^62=4611686018427387904:=by decide
 rw[e];omega
theorem q27{j:Int}(h1:-1000000000<=j)(h2:j<=1000000000):okI j=true:=Nat.ble_eq_true_of_le (by omega)
noncomputable def rng1:List W->Option (List W)
 |[.int j]=>if okI j=true then some (rangeW 0 j)else none
 |_=>none
noncomputable def rng2:List W->Option (List W)
 |[.int i,.int j]=>if okI i=true/\okI j=true then some (rangeW i j)else none
 |_=>none
noncomputable def dForR(i:Nat)(g:List W->Option (List W))(d:Den (List W))(b:List S->SR):List S->SR:=fun e=>(d e).stm fun w e1=>match g w with
 |some ws=>forD i b ws e1
 |none=>.no
section
variable{a c e tg:Expr}{rest body:List Stmt}{d:Den W}{dc:Den Bool}{s1 s2:List S->SR}
theorem PostS.trans{D:Ends}(s:Same G G1):∀{r:SR},PostS K Z EE D G r->PostS K Z EE D G1 r
 |.nx e',h=>fun G' σ' H' r q=>h G' σ' H' r (s.trans q)
 |.bk e',h=>fun G' σ' H' r q=>h G' σ' H' r (s.trans q)
 |.ct e',h=>fun G' σ' H' r q=>h G' σ' H' r (s.trans q)
 |.rt w e',h=>fun G' σ' v H' r q=>h G' σ' v H' r (s.trans q)
 |.ex c e',h=>fun G' σ' H' r q=>h G' σ' H' r (s.trans q)
 |.no,h=>h
theorem q0w{D:Ends}{r:R α}{k:α->List S->SR}(h:PostS K Z EE D G (r.stm k)):r.holds (fun a e'=>PostS K Z EE D G (k a e')) (XH K Z EE σ G):=by
 cases r with
 |ok a e=>exact h
 |ex c e=>exact fun G' H' r q=>h G' σ H' r q
 |no=>exact h
theorem q0r:DSs Z X EE [] dNx:=PSs.mono y25 fun D σ H ⟨G,e,r,h⟩=>h G σ H r (.refl _)
theorem x90:∀D σ H,liftS K Z EE (dSeq s1 s2) D σ H->tSeq (liftS K Z EE s1) (liftS K Z EE s2) D σ H:=by
 rintro D σ H ⟨G,e,rel,h⟩;refine⟨G,e,rel,?_⟩;unfold dSeq at h;cases q:s1 e with
 |nx e'=>rw[q]at h;exact fun G' σ' H' r s=>⟨G',e',r,PostS.trans s h⟩
 |bk e'=>rw[q]at h;exact h
 |ct e'=>rw[q]at h;exact h
 |rt w e'=>rw[q]at h;exact h
 |ex c e'=>rw[q]at h;exact h
 |no=>rw[q]at h;exact h
theorem q0e(h1:DS Z X EE st s1)(h2:DSs Z X EE rest s2):DSs Z X EE (st::rest) (dSeq s1 s2):=PSs.mono (q51 h1 h2) x90
theorem q0f(h1:DS Z X EE st s1):DSs Z X EE [st] s1:=x33 h1
theorem x38(he:DE Z X EE e d)(hs:swapsWith e none pos.line X.env=pure false:=by rfl):DS Z X EE (.Expr e pos) (dDrop d):=by
 refine PS.mono (q4t he hs) ?_;rintro D σ H ⟨G,e,rel,h⟩;exact⟨G,e,rel,(q0w h).imp (fun w e1 h G1 v1 H1 r1 s1 p1=>h G1 σ H1 r1 s1) fun _ _ h=>h⟩
theorem q0m(he:DE Z X EE e d):DS Z X EE (.Return (some e) pos) (dRet d):=by
 refine PS.mono (x1y he) ?_;rintro D σ H ⟨G,e,rel,h⟩;exact⟨G,e,rel,(q0w h).imp (fun w e1 h G1 v1 H1 r1 s1 p1=>h G1 σ v1 H1 r1 s1 ⟨v1,rfl,p1⟩) fun _ _ h=>h⟩
theorem x39(he:DF Z X EE e dA):DS Z X EE (.Return (some e) pos) (dRetF dA):=by
 refine PS.mono (x1y he) ?_;rintro D σ H ⟨G,e,rel,h⟩;exact⟨G,e,rel,(q0w h).imp (fun w e1 h G1 a xs H1 r1 s1 q1 q2 q3 q4 p1=>h G1 σ (.ref a) H1 r1 s1 ⟨a,xs,rfl,q1,q2,q3,p1⟩) fun _ _ h=>h⟩
theorem x91:∀D σ H,liftS K Z EE (dIfS dc s1 s2) D σ H->tIfS (liftT K Z EE dc) (liftS K Z EE s1) (liftS K Z EE s2) D σ H:=by
 rintro D σ H ⟨G,e,rel,h⟩;refine⟨G,e,rel,(q0w h).imp (fun x e1 h G1 H1 r1 q1=>?_) fun _ _ h=>h⟩
 cases x with
 |true=>exact⟨G1,e1,r1,PostS.trans q1 h⟩
 |false=>exact⟨G1,e1,r1,PostS.trans q1 h⟩
theorem q00{p q:List Stmt}(hc:DT Z X EE c dc)(ha:DSs Z X EE p s1)(hb:DSs Z X EE q s2):DS Z X EE (.If c p q pos) (dIfS dc s1 s2):=PS.mono (y99 hc ha hb) x91
theorem q0q(i:Nat)(hN:X.N.Nodup)(he:DE Z X EE e d)(hi:X.N[i]?=some x:=by rfl)(hx:Loc X.env.scope x:=by walk_at "3")(hs:swapsWith e (some (.Name x pos')) pos.line X.env=pure false:=by rfl)(hf:X.fn x=true\/X.env.scope.names.lookup x=some .local:=by walk_at "2"):
  DS Z X EE (.Assign [.Name x pos'] e pos) (dSet i d):=by
 refine PS.mono (q8y i hN he hi hx hs hf) ?_;rintro D σ H ⟨G,e,rel,h⟩;exact⟨G,e,rel,(q0w h).imp (fun w e1 h G1 v1 H1 r1 q1 p1=>h G1 _ H1 (r1.set p1) q1) fun _ _ h=>h⟩
theorem q5l(i:Nat)(hN:X.N.Nodup)(he:DF Z X EE e dA)(hi:X.N[i]?=some x:=by rfl)(hx:Loc X.env.scope x:=by walk_at "3")(hs:swapsWith e (some (.Name x pos')) pos.line X.env=pure false:=by rfl)(hf:X.fn x=true\/X.env.scope.names.lookup x=some .local:=by walk_at "2"):
  DS Z X EE (.Assign [.Name x pos'] e pos) (dSetO i dA):=by
 refine PS.mono (q8y i hN he hi hx hs hf) ?_;rintro D σ H ⟨G,e,rel,h⟩;exact⟨G,e,rel,(q0w h).imp (fun w e1 h G1 a xs H1 r1 s1 q1 q2 q3 q4 p1=>h G1 _ H1 (r1.setOwn q1 q2 q3 q4 p1) s1) fun _ _ h=>h⟩
theorem x92(n:Nat)(hp:PassesOwn (model X.prog X.w) X.A X.env X.xe)(hc:DT Z X EE c dc)(hb:DSs Z X EE body s1):DS Z X EE (.While c body [] pos) (whileD dc s1 n):=by
 refine PS.mono (x9k hp hc hb) ?_;rintro D σ H ⟨G,e,rel,h⟩;refine⟨fun m σ' H'=>∃G' e',Rel X.K Z G' σ' H' e'/\Same G G'/\PostS X.K Z EE D G (whileD dc s1 m e'),⟨n,G,e,rel,.refl _,h⟩,?_⟩
 rintro m σ1 H1 ⟨G1,e1,r1,q1,h⟩;cases m with
 |zero=>exact h.elim
 |succ m=>
  refine⟨G1,e1,r1,(q0w (σ:=σ1) h).imp (fun x e2 h G2 H2 r2 q2=>?_) fun _ _ h=>XH.trans q1 h⟩
  cases x with
  |false=>exact h G2 σ1 H2 r2 (q1.trans q2)
  |true=>
   refine⟨fun σ' H'=>∃G' e',Rel X.K Z G' σ' H' e'/\Same G G'/\PostS X.K Z EE D G (whileD dc s1 m e'),fun σ' H' q=>⟨m,w3n _,q⟩,⟨G2,e2,r2,?_⟩⟩
   have sg:=q1.trans q2;have h:PostS X.K Z EE D G (match s1 e2 with|.nx e'=>whileD dc s1 m e'|.ct e'=>whileD dc s1 m e'|.bk e'=>.nx e'|.rt s e'=>.rt s e'|.ex c e'=>.ex c e'|.no=>.no):=h;cases q:s1 e2 with
   |nx e'=>rw[q]at h;exact fun G' σ' H' r s=>⟨G',e',r,sg.trans s,h⟩
   |ct e'=>rw[q]at h;exact fun G' σ' H' r s=>⟨G',e',r,sg.trans s,h⟩
   |bk e'=>rw[q]at h;exact fun G' σ' H' r s=>h G' σ' H' r (sg.trans s)
   |rt w e'=>rw[q]at h;exact fun G' σ' v H' r s=>h G' σ' v H' r (sg.trans s)
   |ex c e'=>rw[q]at h;exact fun G' σ' H' r s=>h G' σ' H' r (sg.trans s)
   |no=>rw[q]at h;exact h
theorem x93{D:Ends}{x:V}{N:St->Hp->Prop}(r1:Rel K Z G1 σ H e1)(q1:Same G G1)(p:Rep K G1 w x)(h:PostS K Z EE D G (forD i s1 (w::ws) e1))
  (hN:∀G' σ' H' e',Rel K Z G' σ' H' e'->Same G G'->PostS K Z EE D G (forD i s1 ws e')->N σ' H'):gName i x σ H fun σ2 H2=>liftS K Z EE s1 {D with nx:=N,ct:=N,bk:=D.nx} σ2 H2:=by
 refine⟨G1,e1.set i (.fr w),r1.set p,?_⟩;unfold forD at h;cases q:s1 (e1.set i (.fr w))with
 |nx e'=>rw[q]at h;exact fun G' σ' H' r s=>hN G' σ' H' e' r (q1.trans s) h
 |ct e'=>rw[q]at h;exact fun G' σ' H' r s=>hN G' σ' H' e' r (q1.trans s) h
 |bk e'=>rw[q]at h;exact fun G' σ' H' r s=>h G' σ' H' r (q1.trans s)
 |rt w e'=>rw[q]at h;exact fun G' σ' v H' r s=>h G' σ' v H' r (q1.trans s)
 |ex c e'=>rw[q]at h;exact fun G' σ' H' r s=>h G' σ' H' r (q1.trans s)
 |no=>rw[q]at h;exact h
def iSeq(K:PySem.W.Frag)(tl:TE):TI:=fun σ H R=>tl σ H fun x H1=>∃a,x=.ref a/\(((∃xs,SqL K H1 a xs)/\R (Itl K a) H1)\/((∃xs,SqT K H1 a xs)/\R (Itt K a) H1))
theorem x19{l:Expr}{tl:TE}(hl:PE X l tl):PI X tg l (iSeq X.K tl):=by
 intro pins s σ H R I h;refine thn (hl pins s σ H _ I h) fun v s1 ⟨x,H1,I1,r1,q1⟩=>?_
 obtain⟨a,e,q⟩:=q1;subst e;cases r1;rcases q with⟨⟨xs,hq⟩,q⟩|⟨⟨xs,hq⟩,q⟩
 ·obtain⟨its,rv,p,hz⟩:=I1.list hq;refine wpAny_pyIter_list p.isList ?_;refine⟨s1.heap.objs.size,[s1.heap.objs.size],_,_,H1,rfl,I1.kept (t':=s1.toks) fun b o e=>Heap.get?_push_of_some _ e,x6l a _,⟨_,Heap.get?_push_size _ rfl,rfl,rfl⟩,fun b hb=>?_,q⟩
  have e:b=s1.heap.objs.size:=by simpa using hb
  subst e;exact I1.fpOk (w0f _) (I1.hok.fresh (w0f _))
 ·obtain⟨its,rv,p,hz⟩:=I1.tuple hq;refine wpAny_pyIter_tuple (show s1.heap.IsTuple a its.toArray from p) ?_;refine⟨s1.heap.objs.size,[s1.heap.objs.size],_,_,H1,rfl,I1.kept (t':=s1.toks) fun b o e=>Heap.get?_push_of_some _ e,x48 a _,⟨_,Heap.get?_push_size _ rfl,rfl,rfl⟩,fun b hb=>?_,q⟩
  have e:b=s1.heap.objs.size:=by simpa using hb
  subst e;exact I1.fpOk (w0f _) (I1.hok.fresh (w0f _))
theorem x0m{ws:List α}{w:α}(h:ws[k]?=some w):ws.drop k=w::ws.drop (k+1):=by
 obtain⟨hk,rfl⟩:=w0b.mp h;exact w3c hk
theorem x4a{i:Nat}{D:Ends}(r1:Rel K Z G1 σ H1 e1)(rp:Reps K G1 ws xs)(h:PostS K Z EE D G1 (forD i s1 ws e1))(SQ:Hp->Prop)(hSQ:∀G' H',Same G1 G'->Same G' H'->SQ H'):
  ∃Pv:Nat->St->Hp->Prop,Pv 0 σ H1/\(∀j σ H,j<=xs.length->Pv j σ H->SQ H)/\(∀(j:Nat) x σ H,xs[j]?=some x->Pv j σ H->gName i x σ H fun σ2 H2=>liftS K Z EE s1 {D with nx:=Pv (j+1),ct:=Pv (j+1),bk:=D.nx} σ2 H2)/\∀σ H,Pv xs.length σ H->D.nx σ H:=by
 refine⟨fun j σ' H'=>∃G' e',Rel K Z G' σ' H' e'/\Same G1 G'/\PostS K Z EE D G1 (forD i s1 (ws.drop j) e'),⟨G1,e1,r1,.refl _,h⟩,?_,?_,?_⟩
 ·rintro j σ' H' _ ⟨G',e',r',s',_⟩;exact hSQ G' H' s' r'.sub
 ·rintro j x σ' H' hx ⟨G',e',r',s',h⟩;obtain⟨w,hw,pw⟩:=rp.getV hx;rw[x0m hw]at h;exact x93 r' s' (Rep.mono s' w pw) h fun G'' σ'' H'' e'' r'' s'' h''=>⟨G'',e'',r'',s'',h''⟩
 ·rintro σ' H' ⟨G',e',r',s',h⟩;rw[rp.length,w2s]at h;exact h G' σ' H' r' s'
theorem y7m(i:Nat)(hN:X.N.Nodup)(hp:PassesOwn (model X.prog X.w) X.A X.env X.xe)(hc:X.calm=true)(hl:DE Z X EE e d)(hb:DSs Z X EE body s1)
  (hi:X.N[i]?=some x:=by rfl)(hx:Loc X.env.scope x:=by walk_at "3")(hf:X.fn x=true\/X.env.scope.names.lookup x=some .local:=by walk_at "2")(hs:∀x,foldedSetIterable e X.env x=pure x:=by intro _;rfl):
  DS Z X EE (.For (.Name x pos') e body [] pos) (dFor i d s1):=by
 refine PS.mono (q8s hp hc (x19 hl) (q17 i hN hi hx hf) hb hs) ?_;rintro D σ H ⟨G,e,rel,h⟩;refine⟨G,e,rel,(q0w h).imp (fun w e1 h G1 v1 H1 r1 q1 p1=>?_) fun _ _ h=>h⟩
 have key:=fun ws xs (rp:Reps X.K G1 ws xs) (h:PostS X.K Z EE D G (forD i s1 ws e1))=>x4a (i:=i) (D:=D) r1 rp (PostS.trans q1 h)
 cases w with
 |tup ws=>
  obtain⟨a,xs,rfl,hq,rp⟩:=p1;refine⟨a,rfl,.inr ⟨⟨xs,r1.sub.tup hq⟩,?_⟩⟩;obtain⟨Pv,h0,h1,h2,h3⟩:=key ws xs rp h (fun H'=>SqT X.K H' a xs) (fun G' H' s s'=>Same.tup s' (Same.tup s hq))
  exact y27 Pv h0 h1 h2 h3
 |lst ws=>
  obtain⟨a,xs,rfl,hq,rp⟩:=p1;refine⟨a,rfl,.inl ⟨⟨xs,r1.sub.seq hq⟩,?_⟩⟩;obtain⟨Pv,h0,h1,h2,h3⟩:=key ws xs rp h (fun H'=>SqL X.K H' a xs) (fun G' H' s s'=>Same.seq s' (Same.seq s hq))
  exact x9l Pv h0 h1 h2 h3
 |_=>exact h.elim
theorem q81{lo hi:Int}:Reps K G (rangeW lo hi) ((List.range (hi-lo).toNat).map fun k=>V.int (lo+(k:Nat))):=by
 unfold rangeW;generalize List.range (hi-lo).toNat=l
 induction l with
 |nil=>rfl
 |cons k l ih=>exact⟨_,_,rfl,rfl,ih⟩
theorem x4b{i:Nat}{D:Ends}{lo hi:Int}(r1:Rel K Z G1 σ H1 e1)(h:PostS K Z EE D G1 (forD i s1 (rangeW lo hi) e1)):
  ∃W:Nat->Nat->St->Hp->Prop,(∃m,W 0 m σ H1)/\∀j m σ H,W j m σ H ->
   ((Itr lo (hi-lo).toNat).stop j H/\D.nx σ H)\/((Itr lo (hi-lo).toNat).go j H/\∃N:St->Hp->Prop,(∀σ' H',N σ' H'->∃m',m'<m/\W (j+1) m' σ' H')/\∀x H',(Itr lo (hi-lo).toNat).yld j H x H'->gName i x σ H' fun σ2 H2=>liftS K Z EE s1 {D with nx:=N,ct:=N,bk:=D.nx} σ2 H2):=by
 obtain⟨Pv,h0,h1,h2,h3⟩:=x4a (i:=i) (D:=D) r1 (q81 (lo:=lo) (hi:=hi)) h (fun _=>True) (fun _ _ _ _=>trivial)
 refine x6o Pv h0 (fun j σ' H' hj p=>h2 j _ σ' H' ?_ p) (fun σ' H' p=>h3 σ' H' (by simpa using p))
 simp[hj]
theorem q3u(i:Nat){p1 p2:Pos}(hN:X.N.Nodup)(hp:PassesOwn (model X.prog X.w) X.A X.env X.xe)(hc:X.calm=true)(hm:X.mg "range"=none)(ha:DA Z X EE [a] dA)(hb:DSs Z X EE body s1)
  (hi:X.N[i]?=some x:=by rfl)(hx:Loc X.env.scope x:=by walk_at "3")(hf:X.fn x=true\/X.env.scope.names.lookup x=some .local:=by walk_at "2")(hg:Gl X "range":=by rfl)(hs1:starEach [a] X.env=[(false,eval a X.env)]:=by rfl)(hs:∀x,foldedSetIterable (.Call (.Name "range" p1) [a] [] p2) X.env x=pure x:=by intro _;rfl):
  DS Z X EE (.For (.Name x p) (.Call (.Name "range" p1) [a] [] p2) body [] pos) (dForR i rng1 dA s1):=by
 refine PS.mono (q8s hp hc (x0d hg hm ha hs1) (q17 i hN hi hx hf) hb hs) ?_;rintro D σ H ⟨G,e,rel,h⟩;refine⟨G,e,rel,(q0w h).imp (fun ws e1 h G1 vs H1 r1 q1 p1=>?_) fun _ _ h=>h⟩
 unfold rng1 at h;split at h
 ·rename_i hh;split at hh
  ·rename_i j;split at hh
   ·rename_i hj;cases hh;obtain⟨y,r,rfl,e1,e2⟩:=p1;cases(show y=V.int j from e1);cases(show r=[]from e2);refine⟨j,rfl,(q4k hj).1,(q4k hj).2,?_⟩;have z:=x4b (i:=i) (D:=D) r1 (PostS.trans q1 h)
    rwa [w4q]at z
   ·cases hh
  ·cases hh
 ·exact h.elim
theorem y3n(i:Nat){p1 p2:Pos}(hN:X.N.Nodup)(hp:PassesOwn (model X.prog X.w) X.A X.env X.xe)(hc:X.calm=true)(hm:X.mg "range"=none)(ha:DA Z X EE [a,c] dA)(hb:DSs Z X EE body s1)
  (hi:X.N[i]?=some x:=by rfl)(hx:Loc X.env.scope x:=by walk_at "3")(hf:X.fn x=true\/X.env.scope.names.lookup x=some .local:=by walk_at "2")(hg:Gl X "range":=by rfl)(hs1:starEach [a,c] X.env=[(false,eval a X.env),(false,eval c X.env)]:=by rfl)(hs2:starEach [c] X.env=[(false,eval c X.env)]:=by rfl)(hs:∀x,foldedSetIterable (.Call (.Name "range" p1) [a,c] [] p2) X.env x=pure x:=by intro _;rfl):
  DS Z X EE (.For (.Name x p) (.Call (.Name "range" p1) [a,c] [] p2) body [] pos) (dForR i rng2 dA s1):=by
 refine PS.mono (q8s hp hc (x6m hg hm ha hs1 hs2) (q17 i hN hi hx hf) hb hs) ?_;rintro D σ H ⟨G,e,rel,h⟩;refine⟨G,e,rel,(q0w h).imp (fun ws e1 h G1 vs H1 r1 q1 p1=>?_) fun _ _ h=>h⟩
 unfold rng2 at h;split at h
 ·rename_i hh;split at hh
  ·rename_i j k;split at hh
   ·rename_i hj;cases hh;obtain⟨y,r,rfl,e1,y2,r2,rfl,e2,e3⟩:=p1;cases(show y=V.int j from e1);cases(show y2=V.int k from e2);cases(show r2=[]from e3);exact⟨j,k,rfl,⟨(q4k hj.1).1,(q4k hj.1).2,(q4k hj.2).1,(q4k hj.2).2⟩,x4b (i:=i) (D:=D) r1 (PostS.trans q1 h)⟩
   ·cases hh
  ·cases hh
 ·exact h.elim
end
open PyProof.Rows (envOfC)
inductive FR where
 |ok (s:S)|ex (c:Value)|no
noncomputable def spF(K:PySem.W.Frag)(F:List W->FR):Sp:=fun vs H Q E=>∃G ws,Same G H/\Reps K G ws vs/\match F ws with
 |.ok s=>∀G' H' v,Grow G H G' H'->SlotOk K ⟨H,G,[]⟩ G' H' s (some v)->Q v H'
 |.ex c=>∀H',Same H H'->E c none H'
 |.no=>False
noncomputable def SR.fn:SR->FR
 |.nx _=>.ok (.fr .non)
 |.rt s _=>.ok s
 |.ex c _=>.ex c
 |_=>.no
noncomputable def init(n:Nat)(ws:List W):List S:=ws.map .fr++List.replicate (n-ws.length) .no
theorem q40{N:List Str}(s:Same G H)(r:Reps K G ws vs):Rel K ⟨H,G,[]⟩ G (L2.start N vs) H (init N.length ws):=by
 have hl:=r.length
 have hfr:∀(i:Nat)(s:S),(init N.length ws)[i]?=some s->(s=.no)\/∃w,s=.fr w/\ws[i]?=some w:=fun i s h=>by
  unfold init at h;rw[List.getElem?_append]at h;split at h
  ·rw[w0g]at h;obtain⟨w,h1,rfl⟩:=w0c.mp h;exact .inr ⟨w,rfl,h1⟩
  ·rw[w2n]at h;split at h
   ·cases h;exact .inl rfl
   ·cases h
 refine⟨s,fun i t h=>?_,?_,fun i j b b' w1 w2 a h1 h2 _ _=>?_,fun a o h _=>h,(fun a h=>nomatch h),fun a _=>rfl⟩
 ·rcases hfr i t h with rfl|⟨w,rfl,h1⟩
  ·trivial
  ·obtain⟨v,h2,h3⟩:=r.get h1;refine⟨v,?_,h3⟩;have hi:i<vs.length:=(w0b.mp h2).1;unfold L2.start;rw[w1z (by simpa using hi),w0g,h2];rfl
 ·unfold init L2.start;simp[hl]
 ·rcases hfr i _ h1 with z|⟨w,z,_⟩<;>cases z
theorem Rel.toGrow(r:Rel K ⟨H,G,[]⟩ G' σ H' e)(s:Same G G'):Grow G H G' H':=
 ⟨fun a o h=>r.ent a o h (by simp),s,r.sub,fun a h=>r.gen a h⟩
section
variable{P:Program}{w:World}{mg:Str->Option Value}{base:Heap}
theorem q61{F:List W->FR}{Q:VK}{E:XK}(h:spF K F vs H Q E):∃G ws,F ws≠.no/\Reps K G ws vs:=by
 obtain⟨G,ws,_,r,h⟩:=h;refine⟨G,ws,fun z=>?_,r⟩
 rw[z]at h;exact h
theorem q7p{F:List W->FR}{Q:VK}{E:XK}{r:SR}(he:r.fn=F ws)(h:match F ws with
  |.ok s=>∀G' H' v,Grow G H G' H'->SlotOk K ⟨H,G,[]⟩ G' H' s (some v)->Q v H'
  |.ex c=>∀H',Same H H'->E c none H'
  |.no=>False):PostS K ⟨H,G,[]⟩ (fun _=>E) {nx:=fun _ H'=>Q .non H',rt:=Q} G r:=by
 rw[<- he]at h;cases r with
 |nx e=>exact fun G' σ' H' r s=>h G' H' .non (r.toGrow s) ⟨.non,rfl,rfl⟩
 |rt s e=>exact fun G' σ' v H' r q p=>h G' H' v (r.toGrow q) p
 |ex c e=>exact fun G' σ' H' r s=>h H' (r.toGrow s).hh
 |bk e=>exact h.elim
 |ct e=>exact h.elim
 |no=>exact h.elim
theorem con{N ps:List Str}{F:List W->FR}(A:At K mg x st ps)(sc:FnScope N ps (defScope st))(len:∀ws,F ws≠.no->ws.length=ps.length)
  (hb:∀ws,F ws≠.no->∀(f:Addr)(cdv:Value)(A:Around)(outer:List Env)(s:Shared)(H:Hp)(E:XK)(Z:Zt),Room k (A.deeper (envOfC x (defScope st) s.heap.objs.size f cdv)) ->
   ∃d,DSs Z (cxOf (CX1 P w) P w K mg base N x (defScope st) f cdv A outer s H E) (fun _=>E) (defBody st) d/\(d (init N.length ws)).fn=F ws):Cal P w K mg base (k+1) x ps (spF K F):=by
 refine A.cal sc (fun vs H Q E h=>?_) (fun f cdv A outer s H vs Q E hr h=>?_)
 ·obtain⟨G,ws,hn,r⟩:=q61 h;rw[r.length];exact len ws hn
 ·have hn0:=h;obtain⟨G,ws,sg,rp,h⟩:=h;have hn:F ws≠.no:=fun z=>by rw[z]at h;exact h
  obtain⟨d,hd,he⟩:=hb ws hn f cdv A outer s H E ⟨H,G,[]⟩ hr;exact⟨_,hd,G,init N.length ws,q40 sg rp,q7p he h⟩
end
noncomputable def dCall(F:List W->FR)(dA:Den (List W)):Den W:=fun e=>(dA e).bind fun ws e1=>match F ws with
 |.ok (.fr w)=>.ok w e1
 |.ok (.own none ws')=>.ok (.lst ws') e1
 |.ok (.dic kvs)=>.ok (.dic kvs) e1
 |.ok (.thr us ws vs)=>.ok (.tup (us++.lst ws::vs)) e1
 |.ok (.x (.new w))=>.ok w e1
 |.ok (.x (.tn us wss))=>.ok (.tup (us++[.lst (wss.map .lst)])) e1
 |.ex c=>.ex c e1
 |_=>.no
section
variable{e:Expr}{ps:List Str}{F:List W->FR}
theorem x2a{s:S}(r1:Rel K Z G1 σ H1 e1)(g:Grow G1 H1 G' H')(q:SlotOk K ⟨H1,G1,[]⟩ G' H' s (some v))(hs:s=.fr w\/∃ws,s=.own none ws/\w=.lst ws):
  ∃G'',Rel K Z G'' σ H' e1/\Same G1 G''/\Rep K G'' w v:=by
 rcases hs with rfl|⟨ws,rfl,rfl⟩
 ·obtain⟨u,h1,h2⟩:=q;cases h1;exact⟨G',r1.grow g,g.gg,h2⟩
 ·obtain⟨a,xs,h1,h2,h3,h4,h5⟩:=q;cases h1;have hn:H1 a=none:=h4;obtain⟨sg,rg⟩:=(r1.grow g).seen h2 h3 (q34 r1 hn) (q54 r1 hn);exact⟨_,rg,g.gg.trans sg,⟨a,xs,rfl,SqL.of q0g,Reps.mono sg ws h5⟩⟩
theorem x64{kvs:Dd}(r1:Rel K Z G1 σ H1 e1)(g:Grow G1 H1 G' H')(q:SlotOk K ⟨H1,G1,[]⟩ G' H' (.dic kvs) (some v)):
  ∃G'',Rel K Z G'' σ H' e1/\Same G1 G''/\Rep K G'' (.dic kvs) v:=by
 obtain⟨a,h1,h2,h3,h4⟩:=q;cases h1;have hn:H1 a=none:=h4;have r:=r1.grow g;have sg:Same G' (upd G' a (dO kvs)):=q20 h3 _;refine⟨upd G' a (dO kvs),⟨fun c o z=>?_,fun j s z=>?_,r.len,r.dis,r.ent,r.ion,fun c z=>?_⟩,g.gg.trans sg,⟨a,rfl,q0g⟩⟩
 ·by_cases hc:c=a
  ·subst hc;rw[q0g]at z;cases z;exact h2
  ·rw[q0d hc]at z;exact r.sub c o z
 ·have y:=r.slot j s z;have y1:=r1.slot j s z;cases s with
  |no=>trivial
  |fr w=>
   obtain⟨u,y1,y2⟩:=y;exact⟨u,y1,Rep.mono sg w y2⟩
  |own b2 w2=>
   obtain⟨c,ys,x1,x2,x3,x4,x5⟩:=y;refine⟨c,ys,x1,x2,?_,x4,Reps.mono sg w2 x5⟩;rw[q0d (q0t x2 h2 (fun z=>q4g rfl z.symm))];exact x3
  |dic kv=>
   obtain⟨c,x1,x2,x3,x4⟩:=y;obtain⟨c',w1,w2,_⟩:=y1;rw[x1]at w1;cases w1;refine⟨c,x1,x2,?_,x4⟩;rw[q0d (q0p w2 hn)];exact x3
  |thr us w2 vs=>
   obtain⟨t,l,o,xs2,ys,zs,x1,x2,x3,x4,x5,x6,x7,x8⟩:=y;refine⟨t,l,o,xs2,ys,zs,x1,sg _ _ x2,x3,?_,x5,Reps.mono sg us x6,Reps.mono sg w2 x7,Reps.mono sg vs x8⟩;rw[q0d (q0t x3 h2 (fun z=>q4g rfl z.symm))];exact x4
  |nest wss=>exact NestOk.move y sg fun l o ys k1 k2 k3=>⟨k1,by rw[q0d (q0t k1 h2 (fun z=>q4g rfl z.symm))];exact k2,k3⟩
  |x k=>exact XOk.move y sg fun l o ys k1 k2 k3=>⟨k1,by rw[q0d (q0t k1 h2 (fun z=>q4g rfl z.symm))];exact k2,k3⟩
  |dw sh ks ws=>
   obtain⟨c,kv,ka,x1,x2,x3,x4,x5,x6,x7⟩:=y;obtain⟨c',kv',ka',w1,w2,_⟩:=y1;rw[x1]at w1;cases w1;refine⟨c,kv,ka,x1,x2,?_,x4,x5,x6.mono sg,x7.move sg fun _ _ _ z=>z⟩
   rw[q0d (q0p w2 hn)];exact x3
 ·by_cases hc:c=a
  ·subst hc;exact absurd (q34 r1 hn) z
  ·rw[q0d hc];exact r.gen c z
theorem x65{us vs:List W}(r1:Rel K Z G1 σ H1 e1)(g:Grow G1 H1 G' H')(q:SlotOk K ⟨H1,G1,[]⟩ G' H' (.thr us ws vs) (some v)):
  ∃G'',Rel K Z G'' σ H' e1/\Same G1 G''/\Rep K G'' (.tup (us++.lst ws::vs)) v:=by
 obtain⟨t,l,o,xs,ys,zs,h1,h2,h3,h4,h5,h6,h7,h8⟩:=q;cases h1;have hn:H1 l=none:=h5;have r:=r1.grow g;have sg:Same G' (upd G' l (.frz o (.lst ys))):=q20 h4 _;refine⟨upd G' l (.frz o (.lst ys)),⟨fun c u z=>?_,fun j s z=>?_,r.len,r.dis,r.ent,r.ion,fun c z=>?_⟩,g.gg.trans sg,⟨t,_,rfl,SqT.of (sg _ _ h2),(Reps.mono sg us h6).append ⟨.ref l,zs,rfl,⟨l,ys,rfl,.inl (.inr ⟨o,q0g⟩),Reps.mono sg ws h7⟩,Reps.mono sg vs h8⟩⟩⟩
 ·by_cases hc:c=l
  ·subst hc;rw[q0g]at z;cases z;exact h3
  ·rw[q0d hc]at z;exact r.sub c u z
 ·have y:=r.slot j s z;have y1:=r1.slot j s z;cases s with
  |no=>trivial
  |fr w=>
   obtain⟨u,y1,y2⟩:=y;exact⟨u,y1,Rep.mono sg w y2⟩
  |own b2 w2=>
   obtain⟨c,ys,x1,x2,x3,x4,x5⟩:=y;refine⟨c,ys,x1,x2,?_,x4,Reps.mono sg w2 x5⟩;rw[q0d (q0t x2 h3 (fun z=>nomatch z))];exact x3
  |dic kv=>
   obtain⟨c,x1,x2,x3,x4⟩:=y;refine⟨c,x1,x2,?_,x4⟩;rw[q0d (q0t x2 h3 (q4g rfl))];exact x3
  |thr us w2 vs=>
   obtain⟨t1,l1,o1,xs1,ys1,zs1,w1,w2',w3,w4,w5,w6,w7,w8⟩:=y1;have sg2:=g.gg.trans sg;refine⟨t1,l1,o1,xs1,ys1,zs1,w1,sg2 _ _ w2',g.hh _ _ w3,?_,w5,Reps.mono sg2 us w6,Reps.mono sg2 w2 w7,Reps.mono sg2 vs w8⟩;rw[q0d (q0p w3 hn),g.new l1 (by rw[w3];simp)];exact w4
  |nest wss=>exact NestOk.move y1 (g.gg.trans sg) fun l1 o ys k1 k2 k3=>⟨g.hh _ _ k1,by rw[q0d (q0p k1 hn),g.new l1 (by rw[k1];simp)];exact k2,k3⟩
  |x k=>exact XOk.move y1 (g.gg.trans sg) fun l1 o ys k1 k2 k3=>⟨g.hh _ _ k1,by rw[q0d (q0p k1 hn),g.new l1 (by rw[k1];simp)];exact k2,k3⟩
  |dw sh ks ws=>exact DwOk.move y1 (g.gg.trans sg) fun l1 o ys k1 k2 k3=>⟨g.hh _ _ k1,by rw[q0d (q0p k1 hn),g.new l1 (by rw[k1];simp)];exact k2,k3⟩
 ·by_cases hc:c=l
  ·subst hc;exact absurd (q34 r1 hn) z
  ·rw[q0d hc];exact r.gen c z
theorem NestIn.mem0:∀{ls:List Addr}{wss:List (List W)},NestIn K Z G H ls wss->∀l∈ls,∃o ys,FzAt Z G H l o ys
 |[],_,_,_,hl=>nomatch hl
 |l::ls,ws::wss,⟨⟨o,ys,h1,_⟩,h⟩,c,hc=>by
  rcases w0j.mp hc with rfl|hc
  ·exact⟨o,ys,h1⟩
  ·exact h.mem0 c hc
 |_::_,[],h,_,_=>h.elim
theorem NestIn.reps0(sg:Same G G'):∀{ls:List Addr}{wss:List (List W)},(∀l∈ls,G' l=H l)->NestIn K Z G H ls wss->Reps K G' (wss.map W.lst) (ls.map V.ref)
 |[],[],_,_=>rfl
 |l::ls,ws::wss,hf,⟨⟨o,ys,h1,h4⟩,h⟩=>⟨.ref l,ls.map V.ref,rfl,⟨l,ys,rfl,.inl (.inr ⟨o,by rw[hf l (by simp)];exact h1.1⟩),Reps.mono sg ws h4⟩,h.reps0 sg fun c hc=>hf c (by simp[hc])⟩
 |[],_::_,_,h=>h.elim
 |_::_,[],_,h=>h.elim
theorem Rel.addNew(r1:Rel K Z G1 σ H1 e1)(g:Grow G1 H1 G' H')(As:List Addr) [DecidablePred (·∈As)](hA:∀c∈As,(∃o ys,H' c=some (.frz o (.lst ys)))/\G' c=none/\H1 c=none):
  Same G' (fun c=>if c∈As then H' c else G' c)/\Rel K Z (fun c=>if c∈As then H' c else G' c) σ H' e1:=by
 have sg:Same G' (fun c=>if c∈As then H' c else G' c):=fun c o z=>by
  show(if c∈As then H' c else G' c)=some o;rw[if_neg (fun m=>by rw[(hA c m).2.1]at z;cases z)];exact z
 refine⟨sg,r1.grow ⟨g.hh,g.gg.trans sg,fun c o z=>?_,fun c hc=>?_⟩⟩
 ·have z:(if c∈As then H' c else G' c)=some o:=z;split at z
  ·exact z
  ·exact g.sub c o z
 ·show(if c∈As then H' c else G' c)=G1 c;rw[if_neg (fun m=>hc (hA c m).2.2)];exact g.new c hc
theorem x94{us:List W}{wss:List (List W)}(r1:Rel K Z G1 σ H1 e1)(g:Grow G1 H1 G' H')(q:SlotOk K ⟨H1,G1,[]⟩ G' H' (.x (.tn us wss)) (some v)):
  ∃G'',Rel K Z G'' σ H' e1/\Same G1 G''/\Rep K G'' (.tup (us++[.lst (wss.map .lst)])) v:=by
 classical
 obtain⟨t,l,o,ls,xs,h1,h2,⟨h3,h4,h5⟩,⟨h6,h7⟩,h8,h9⟩:=q;cases h1
 obtain⟨sg,r2⟩:=r1.addNew g (l::ls) fun c hc=>by
  rcases w0j.mp hc with rfl|hc
  ·exact⟨⟨o,_,h3⟩,h4,h5⟩
  ·obtain⟨o',ys,k1,k2,k3⟩:=h9.mem0 c hc;exact⟨⟨o',ys,k1⟩,k2,k3⟩
 refine⟨_,r2,g.gg.trans sg,t,_,rfl,SqT.of (sg _ _ h2),(Reps.mono sg us h8).append ⟨.ref l,[],rfl,⟨l,_,rfl,.inl (.inr ⟨o,?_⟩),h9.reps0 sg fun c hc=>if_pos (w0k _ hc)⟩,rfl⟩⟩
 show(if l∈l::ls then H' l else G' l)=_;rw[if_pos (w0n ..)];exact h3
theorem x5j{c:Value}(r1:Rel K Z G1 σ H1 e1)(s1:Same G G1)(h:XH K Z EE σ G c e1):∀H',Same H1 H'->EE σ c none H':=fun H' sh=>
 h G1 H' (r1.grow ⟨sh,.refl _,r1.sub.trans sh,fun _ _=>rfl⟩) s1
theorem q0n(C:Cal X.prog X.w X.K X.mg X.base k x ps (spF X.K F))(hr:Room k X.A)(hx:PassX (CX1 X.prog X.w) X EE)(ha:DA Z X EE (e::es) dA)(hg:Gl X x:=by rfl)
  (hdb:(x==("__debug__":Str))=false:=by decide)(he:starEach (e::es) X.env=(false,eval e X.env)::starEach es X.env:=by rfl)(hpl:(backTo pos (starEach es X.env)).any (·.1)=false:=by rfl):
  DE Z X EE (.Call (.Name x p) (e::es) [] pos) (dCall F dA):=by
 refine PE.mono (x6z C hr hx ha hg hdb he hpl) ?_;rintro σ H Q ⟨G,e,rel,h⟩;simp only[dCall,R.holds_bind]at h;refine⟨G,e,rel,h.imp (fun ws e1 h G1 vs H1 r1 s1 p1=>?_) fun _ _ h=>h⟩
 refine⟨G1,ws,r1.sub,by rw[w1i];exact p1,?_⟩;cases q:F ws with
 |ok s=>
  rw[q]at h;intro G' H' v g sl;cases s with
  |no=>exact h.elim
  |fr w=>
   obtain⟨G'',r2,s2,p2⟩:=x2a r1 g sl (.inl rfl);exact(show ∀G' v H',_->_->Rep X.K G' w v->Q v H' from h) G'' v H' r2 (s1.trans s2) p2
  |own b ws'=>
   cases b with
   |some _=>exact h.elim
   |none=>
    obtain⟨G'',r2,s2,p2⟩:=x2a r1 g sl (.inr ⟨ws',rfl,rfl⟩);exact(show ∀G' v H',_->_->Rep X.K G' (.lst ws') v->Q v H' from h) G'' v H' r2 (s1.trans s2) p2
  |dic kvs=>
   obtain⟨G'',r2,s2,p2⟩:=x64 r1 g sl;exact(show ∀G' v H',_->_->Rep X.K G' (.dic kvs) v->Q v H' from h) G'' v H' r2 (s1.trans s2) p2
  |thr us ws' vs'=>
   obtain⟨G'',r2,s2,p2⟩:=x65 r1 g sl;exact(show ∀G' v H',_->_->Rep X.K G' (.tup (us++.lst ws'::vs')) v->Q v H' from h) G'' v H' r2 (s1.trans s2) p2
  |nest _=>exact h.elim
  |x k=>
   cases k with
   |new w=>
    obtain⟨u,h1,h2⟩:=sl;cases h1;exact(show ∀G' v H',_->_->Rep X.K G' w v->Q v H' from h) G' _ H' (r1.grow g) (s1.trans g.gg) (RepN.rep _ h2)
   |tn us wss=>
    obtain⟨G'',r2,s2,p2⟩:=x94 r1 g sl;exact(show ∀G' v H',_->_->Rep X.K G' (.tup (us++[.lst (wss.map .lst)])) v->Q v H' from h) G'' v H' r2 (s1.trans s2) p2
   |_=>exact h.elim
  |dw _ _ _=>exact h.elim
 |ex c=>
  rw[q]at h;exact x5j r1 s1 h
 |no=>rw[q]at h;exact h.elim
noncomputable def dRaise(C:Addr)(d:Den (List W)):List S->SR:=fun e=>(d e).stm fun ws e1=>if ws.length<=16777216 then .ex (.ref C) e1 else .no
theorem x2b{C Ac:Addr}{np cpos:Pos}(hx:RaisX X EE)(hC:excIn X.K C Ac=true)(hm:X.mg x=some (.ref C))(hc:X.calm=true)(ha:DA Z X EE (e::es) dA)(hg:Gl X x:=by rfl)
  (hdb:(x==("__debug__":Str))=false:=by decide)(he:starEach (e::es) X.env=(false,eval e X.env)::starEach es X.env:=by rfl)(hpl:(backTo cpos (starEach es X.env)).any (·.1)=false:=by rfl):
  DS Z X EE (.Raise (some (.Call (.Name x np) (e::es) [] cpos)) none pos) (dRaise C dA):=by
 refine PS.mono (x9s hx hc hg hm hC ha hdb he hpl) ?_;rintro D σ H ⟨G,e,rel,h⟩;refine⟨G,e,rel,(q0w h).imp (fun ws e1 h G1 vs H1 r1 s1 p1=>?_) fun _ _ h=>h⟩
 split at h
 ·rename_i hl;exact⟨by rw[p1.length,sizeLine_eq];exact hl,h G1 σ H1 r1 s1⟩
 ·exact h.elim
end
end D
namespace L2
open PySem PySem.Spec PyProof.Rows
def rCatS(K:PySem.W.Frag):R2:=fun x y H Q=>∃l b xs zs,x=.ref l/\y=.ref b/\SqL K H l xs/\SqL K H b zs/\xs.length+zs.length<=sizeLine/\∀p,H p=none->Q (.ref p) (upd H p (.lst (xs++zs)))
theorem y3o{X:Cx}:OpR X (binaryOp .Add) (rCatS X.K):=by
 intro pins s σ H x y v u Q I rx ry h;obtain⟨l,b,xs,zs,rfl,rfl,h1,h2,hz,q⟩:=h;cases rx;cases ry;obtain⟨its,r1,p1,_⟩:=I.list h1;obtain⟨its2,r2,p2,_⟩:=I.list h2;obtain⟨⟨cls,dd,data,sl⟩,ho,hc,n,hd⟩:=id p1.isList;obtain⟨⟨cls2,dd2,data2,sl2⟩,ho2,hc2,n2,hd2⟩:=id p2.isList;simp only at hc hd hc2 hd2;subst hc hd hc2 hd2;have l1:=r1.length;have l2:=r2.length;refine concat_meets ⟨_,ho,rfl⟩ ⟨_,ho2,rfl⟩ noFill_list_add seq_list_add PySem.F.slot_list_add PySem.F.entry_list_add (PySem.F.args_list_add_2 _ _) (list_addW l b its.toArray its2.toArray n n2 dd dd2 sl sl2 (by simp only[w0e];omega)) ⟨ho,ho2,?_⟩;have ea:its.toArray++its2.toArray=(its++its2).toArray:=by simp
 rw[ea];exact⟨.ref _,_,I.lnew (t':=s.toks) (r1.append r2) (by rw[w0x];omega),rfl,q _ I.fresh⟩
end L2
namespace D
open PySem L2
variable{a:Addr}{A:Around}{k:Bool}{X:Cx}{dA p:Den (List W)}{c cc:Den Bool}{d da db dk:Den W}{G G' G1 H:Hp}{lo:Int}{EE:L2.St->XK}{ps:List (W×W)}{es:List Expr}{js:List Nat}{e pe:List S}{q s1:List S->SR}{xs:List V}{us ws:List W}{f:List W->Option W}{i j kt n:Nat}{b:Option Nat}{apos cpos p1 p2 pn pos:Pos}{K:PySem.W.Frag}{s:Shared}{σ:St}{x y:Str}{T:String}{α:Type}{v v':V}{cv u u':Value}{w w':W}{Z:Zt}
noncomputable def addW:W->W->Option W
 |.int i,.int j=>some (.int (i+j))
 |.str x,.str y=>if x.length+y.length<=16777216 then some (.str (x++y))else none
 |.tup xs,.tup ys=>if xs≠[]/\xs.length+ys.length<=16777216 then some (.tup (xs++ys))else none
 |.lst xs,.lst ys=>if xs.length+ys.length<=16777216 then some (.lst (xs++ys))else none
 |_,_=>none
noncomputable def subW:W->W->Option W
 |.int i,.int j=>some (.int (i-j))
 |_,_=>none
noncomputable def mulW:W->W->Option W
 |.int i,.int j=>if(-(2^64)<i/\i<2^64)\/(-(2^64)<j/\j<2^64)then some (.int (i*j))else none
 |_,_=>none
noncomputable def fdivW:W->W->Option W
 |.int i,.int j=>if 0<j/\j<1073741824 then some (.int (i / j))else none
 |_,_=>none
noncomputable def modW:W->W->Option W
 |.int i,.int j=>if 0<j then some (.int (i%j))else none
 |_,_=>none
noncomputable def ltW:W->W->Option W
 |.int i,.int j=>some (.bl (decide (i<j)))
 |_,_=>none
noncomputable def gtW:W->W->Option W
 |.int i,.int j=>some (.bl (decide (j<i)))
 |_,_=>none
noncomputable def geW:W->W->Option W
 |.int i,.int j=>some (.bl (decide (j<=i)))
 |_,_=>none
theorem x66:Op2 K (fun x y H Q=>rI0 (fun i j=>.int (i+j)) x y H Q\/((∃i j,x=.str i/\y=.str j/\i.length+j.length<=sizeLine/\Q (.str (i++j)) H)\/(rCatT K x y H Q\/rCatS K x y H Q))) addW:=by
 intro G H x y wx wy w Q s px py hf h;unfold addW at hf;split at hf
 ·cases hf;cases px;cases py;exact .inl ⟨_,_,rfl,rfl,h G _ H (.refl s) rfl⟩
 ·split at hf
  ·rename_i hl;cases hf;cases px;cases py;exact .inr (.inl ⟨_,_,rfl,rfl,by rw[sizeLine_eq];exact hl,h G _ H (.refl s) rfl⟩)
  ·cases hf
 ·rename_i us ws;split at hf
  ·rename_i hl;cases hf;obtain⟨a,xs,rfl,ha,ra⟩:=px;obtain⟨b,ys,rfl,hb,rb⟩:=py;have l1:=ra.length;have l2:=rb.length;refine .inr (.inr (.inl ⟨a,b,xs,ys,rfl,rfl,s.tup ha,s.tup hb,fun z=>hl.1 ?_,by rw[l1,l2,sizeLine_eq];exact hl.2,fun z=>?_,fun z p hp=>?_⟩))
   ·subst z;cases us with
    |nil=>rfl
    |cons _ _=>simp at l1
   ·subst z
    have:ws=[]:=by cases ws with
     |nil=>rfl
     |cons _ _=>simp at l2
    subst this;exact h G _ H (.refl s) ⟨a,xs,rfl,ha,by simpa using ra⟩
   ·have g:=Grow.laid s hp (.tup (xs++ys));exact h _ _ _ g ⟨p,_,rfl,SqT.of q0g,Reps.append (Reps.mono g.gg _ ra) (Reps.mono g.gg _ rb)⟩
  ·cases hf
 ·split at hf
  ·rename_i hl;cases hf;obtain⟨a,xs,rfl,ha,ra⟩:=px;obtain⟨b,ys,rfl,hb,rb⟩:=py;have l1:=ra.length;have l2:=rb.length;refine .inr (.inr (.inr ⟨a,b,xs,ys,rfl,rfl,s.seq ha,s.seq hb,by rw[l1,l2,sizeLine_eq];exact hl,fun p hp=>?_⟩))
   have g:=Grow.laid s hp (.lst (xs++ys));exact h _ _ _ g ⟨p,_,rfl,SqL.of q0g,Reps.append (Reps.mono g.gg _ ra) (Reps.mono g.gg _ rb)⟩
  ·cases hf
 ·cases hf
theorem y7n:Op2 K (rI0 fun i j=>.int (i-j)) subW:=by
 intro G H x y wx wy w Q s px py hf h;unfold subW at hf;split at hf
 ·cases hf;cases px;cases py;exact⟨_,_,rfl,rfl,h G _ H (.refl s) rfl⟩
 ·cases hf
theorem y7o:Op2 K (rI CMul fun i j=>.int (i*j)) mulW:=by
 intro G H x y wx wy w Q s px py hf h;unfold mulW at hf;split at hf
 ·split at hf
  ·rename_i hc;cases hf;cases px;cases py;exact⟨_,_,rfl,rfl,hc,h G _ H (.refl s) rfl⟩
  ·cases hf
 ·cases hf
theorem y3p:Op2 K (rI CDiv fun i j=>.int (i / j)) fdivW:=by
 intro G H x y wx wy w Q s px py hf h;unfold fdivW at hf;split at hf
 ·split at hf
  ·rename_i hc;cases hf;cases px;cases py;exact⟨_,_,rfl,rfl,hc,h G _ H (.refl s) rfl⟩
  ·cases hf
 ·cases hf
theorem y7p:Op2 K (rI (fun _ j=>0<j) fun i j=>.int (i%j)) modW:=by
 intro G H x y wx wy w Q s px py hf h;unfold modW at hf;split at hf
 ·split at hf
  ·rename_i hc;cases hf;cases px;cases py;exact⟨_,_,rfl,rfl,hc,h G _ H (.refl s) rfl⟩
  ·cases hf
 ·cases hf
theorem z0e:Op2 K (rI0 fun i j=>.bl (decide (i<j))) ltW:=by
 intro G H x y wx wy w Q s px py hf h;unfold ltW at hf;split at hf
 ·cases hf;cases px;cases py;exact⟨_,_,rfl,rfl,h G _ H (.refl s) rfl⟩
 ·cases hf
theorem z0f:Op2 K (rI0 fun i j=>.bl (decide (j<i))) gtW:=by
 intro G H x y wx wy w Q s px py hf h;unfold gtW at hf;split at hf
 ·cases hf;cases px;cases py;exact⟨_,_,rfl,rfl,h G _ H (.refl s) rfl⟩
 ·cases hf
theorem z0g:Op2 K (rI0 fun i j=>.bl (decide (j<=i))) geW:=by
 intro G H x y wx wy w Q s px py hf h;unfold geW at hf;split at hf
 ·cases hf;cases px;cases py;exact⟨_,_,rfl,rfl,h G _ H (.refl s) rfl⟩
 ·cases hf
mutual
noncomputable def eqW:W->W->Option Bool
 |.non,.non=>some true
 |.non,.bl _=>some false|.non,.int _=>some false|.non,.str _=>some false|.non,.tup _=>some false|.non,.lst _=>some false
 |.bl a,.bl b=>some (a==b)
 |.bl a,.int b=>some ((if a then 1 else 0)==b)
 |.bl _,.non=>some false|.bl _,.str _=>some false|.bl _,.tup _=>some false|.bl _,.lst _=>some false
 |.int a,.int b=>some (a==b)
 |.int a,.bl b=>some (a==(if b then 1 else 0))
 |.int _,.non=>some false|.int _,.str _=>some false|.int _,.tup _=>some false|.int _,.lst _=>some false
 |.str a,.str b=>some (a==b)
 |.str _,.non=>some false|.str _,.bl _=>some false|.str _,.int _=>some false|.str _,.tup _=>some false|.str _,.lst _=>some false
 |.tup _,.non=>some false|.tup _,.bl _=>some false|.tup _,.int _=>some false|.tup _,.str _=>some false|.tup _,.lst _=>some false
 |.lst _,.non=>some false|.lst _,.bl _=>some false|.lst _,.int _=>some false|.lst _,.str _=>some false|.lst _,.tup _=>some false
 |.tup xs,.tup ys=>eqWs xs ys
 |.lst xs,.lst ys=>eqWs xs ys
 |.exc _,_=>none
 |_,.exc _=>none
 |.dic _,_=>none
 |_,.dic _=>none
 |.dw _ _ _ _,_=>none
 |.fn _ _ _,_=>none
 |_,.dw _ _ _ _=>none
 |_,.fn _ _ _=>none
noncomputable def eqWs:List W->List W->Option Bool
 |[],[]=>some true
 |[],_::_=>some false
 |_::_,[]=>some false
 |x::xs,y::ys=>match eqW x y,eqWs xs ys with
  |some a,some b=>some (a&&b)
  |_,_=>none
end
noncomputable def ixW:W->W->Option W
 |.tup ws,.int i=>atI ws i
 |.lst ws,.int i=>atI ws i
 |.str z,.int i=>if z.length<=16777216 then(atI z.cps.toList i).map fun c=>.str ⟨#[c]⟩else none
 |_,_=>none
theorem Reps.atI{i:Int}(r:Reps K G ws xs)(h:L2.atI ws i=some w):∃x,L2.atI xs i=some x/\Rep K G w x:=by
 unfold L2.atI at h |-
 rw[r.length];cases q:ixN ws.length i with
 |none=>rw[q]at h;cases h
 |some j=>
  rw[q]at h;exact r.get h
theorem y2q:Op2 K (rIx K) ixW:=by
 intro G H x y wx wy w Q s px py hf h;unfold ixW at hf;split at hf
 ·obtain⟨a,xs,rfl,ha,ra⟩:=px;cases py;obtain⟨v,hv,rv⟩:=ra.atI hf;exact .inr (.inl ⟨a,xs,_,v,rfl,rfl,s.tup ha,hv,h G v H (.refl s) rv⟩)
 ·obtain⟨a,xs,rfl,ha,ra⟩:=px;cases py;obtain⟨v,hv,rv⟩:=ra.atI hf;exact .inl ⟨a,xs,_,v,rfl,rfl,s.seq ha,hv,h G v H (.refl s) rv⟩
 ·cases px;cases py;split at hf
  ·rename_i hl;obtain⟨c,hc,rfl⟩:=w0c.mp hf;exact .inr (.inr ⟨_,_,c,rfl,rfl,by rw[sizeLine_eq];exact hl,hc,h G _ H (.refl s) rfl⟩)
  ·cases hf
 ·cases hf
noncomputable def S.look:S->Option W
 |.fr w=>some w
 |.own _ ws=>some (.lst ws)
 |.no=>none
 |.dic _=>none
 |.thr _ _ _=>none
 |.nest _=>none
 |.x k=>k.look
 |.dw _ _ _=>none
noncomputable def dIxV(i:Nat)(d:Den W):Den W:=fun e=>match e[i]?.bind S.look with
 |none=>.no
 |some _=>(d e).bind fun k e1=>match e1[i]?.bind S.look with
  |none=>.no
  |some w=>ofOpt (ixW w k) e1
noncomputable def lenW:W->Option W
 |.str z=>if z.length<=16777216 then some (.int z.length)else none
 |.tup ws=>some (.int ws.length)
 |.lst ws=>some (.int ws.length)
 |_=>none
noncomputable def len1:List W->Option W
 |[w]=>lenW w
 |_=>none
theorem x67:OpN K (fun xs H Q=>∃x n,xs=[x]/\LenV K x H n/\Q (.int n) H) len1:=by
 intro G H xs ws w Q s pr hf h;unfold len1 at hf;split at hf
 ·obtain⟨x,r,rfl,px,pr⟩:=pr;cases(show r=[]from pr);unfold lenW at hf;split at hf
  ·split at hf
   ·rename_i hl;cases hf;cases px;exact⟨_,_,rfl,⟨by rw[sizeLine_eq];exact hl,rfl⟩,h G _ H (.refl s) rfl⟩
   ·cases hf
  ·cases hf;obtain⟨a,xs,rfl,ha,ra⟩:=px;exact⟨_,_,rfl,.inr ⟨xs,s.tup ha,rfl⟩,h G _ H (.refl s) (by rw[ra.length];rfl)⟩
  ·cases hf;obtain⟨a,xs,rfl,ha,ra⟩:=px;exact⟨_,_,rfl,.inl ⟨xs,s.seq ha,rfl⟩,h G _ H (.refl s) (by rw[ra.length];rfl)⟩
  ·cases hf
 ·cases hf
noncomputable def scalW:W->Bool
 |.non=>true|.bl _=>true|.int _=>true|.str _=>true|_=>false
theorem x95(h:scalW w=true)(p:Rep K G w v):Rep K G' w v:=by
 cases w with
 |non=>exact p
 |bl b=>exact p
 |int i=>exact p
 |str x=>exact p
 |_=>cases h
noncomputable def dFnV(i:Nat)(f:List W->Option W):Den W:=fun e=>match e[i]?.bind S.look with
 |none=>.no
 |some w=>match f [w]with
  |none=>.no
  |some v=>match e[i]? with
   |some (.fr _)=>.ok v e
   |_=>if scalW v=true then .ok v e else .no
section
variable{a b e:Expr}{p:Pos}
theorem q0k(ha:DE Z X EE a d)(hb:DE Z X EE b db)(hs:PlainIx b:=by intro _ _;rfl):DE Z X EE (.Subscript a b pos) (dOp ixW d db):=PE.mono (q8v x13 ha hb hs) (q4u y2q)
theorem Rel.look{e:List S}(r:Rel K Z G σ H e)(h:e[i]?.bind S.look=some w):∃v,σ[i]?=some (some v) /\
  (Rep K G w v\/∃ws a xs u,(∀z,e[i]?≠some (.fr z))/\w=.lst ws/\v=.ref a/\H a=some u/\(u=.lst xs\/∃o,u=.frz o (.lst xs))/\G a=none/\Reps K G ws xs):=by
 obtain⟨s,h1,h2⟩:=w2b.mp h;cases s with
 |no=>cases h2
 |dic _=>cases h2
 |thr _ _ _=>cases h2
 |nest _=>cases h2
 |dw _ _ _=>cases h2
 |fr w'=>
  cases h2;obtain⟨v,h3,h4⟩:=r.fr h1;exact⟨v,h3,.inl h4⟩
 |x k=>
  have q:=r.slot i _ h1;cases k with
  |old w'=>cases h2;obtain⟨v,h1',h3⟩:=r.plain h1 rfl;exact⟨v,h1',.inl h3⟩
  |new w'=>cases h2;obtain⟨v,h1',h3⟩:=r.plain h1 rfl;exact⟨v,h1',.inl h3⟩
  |acc ws=>cases h2;obtain⟨a,o,xs,k1,⟨k2,k3,_⟩,k5⟩:=q;exact⟨.ref a,r.at h1 fun _=>k1,.inr ⟨ws,a,xs,_,(fun z y=>by rw[h1]at y;cases y),rfl,rfl,k2,.inr ⟨o,rfl⟩,k3,RepNs.reps _ k5⟩⟩
  |_=>cases h2
 |own b ws=>
  cases h2;obtain⟨a,xs,h3,h4,h5,h6,h7⟩:=r.own h1;exact⟨.ref a,h3,.inr ⟨ws,a,xs,_,(fun z y=>by rw[h1]at y;cases y),rfl,rfl,h4,.inl rfl,h5,h7⟩⟩
theorem x68{K:PySem.W.Frag}{a:Addr}{u:HO}(s:Same G H)(h:H a=some u)(hg:G a=none):Same G (upd G a u)/\Same (upd G a u) H:=
 ⟨q20 hg _,fun c o z=>by
  by_cases hc:c=a
  ·subst hc;rw[q0g]at z;cases z;exact h
  ·rw[q0d hc]at z;exact s c o z⟩
theorem x2c(i:Nat)(hb:DE Z X EE b d)(hN:X.N[i]?=some x:=by rfl)(hv:Vis X.env.scope x:=by walk_at "1")(hd:(x==("__debug__":Str))=false:=by decide)
  (hcd:(x==("__classdict__":Str))=false:=by decide)(hs:PlainIx b:=by intro _ _;rfl):DE Z X EE (.Subscript (.Name x p) b pos) (dIxV i d):=by
 refine PE.mono (q8v x13 (pv i hN hv hd hcd) hb hs) ?_;rintro σ H Q ⟨G,e,rel,h⟩;unfold dIxV at h;split at h
 ·exact h.elim
 ·rename_i w0 hw0;obtain⟨v,hv,_⟩:=rel.look hw0;refine⟨v,hv,G,e,rel,(R.holds_bind.mp h).imp (fun k e1 h G1 u H1 r1 s1 p1=>?_) fun _ _ h=>h⟩
  split at h
  ·exact h.elim
  ·rename_i w hw;obtain⟨w',hf,h2⟩:=ofOpt_holds.mp h;obtain⟨v',hv',q⟩:=r1.look hw;rw[hv]at hv';cases hv';rcases q with q|⟨ws,a,xs,u,he,rfl,rfl,q1,qu,q2,q3⟩
   ·exact y2q G1 H1 v u w k w' Q r1.sub q p1 hf fun G' v H' g p=>h2 G' v H' (r1.grow g) (s1.trans g.gg) p
   ·-- an item of one's own list
    unfold ixW at hf;split at hf
    ·rename_i heq;cases heq
    ·rename_i heq;cases heq;cases p1;obtain⟨y,hy,ry⟩:=q3.atI hf;refine .inl ⟨a,xs,_,y,rfl,rfl,?_,hy,h2 G1 y H1 r1 s1 ry⟩;rcases qu with rfl|⟨o,rfl⟩
     ·exact SqL.of q1
     ·exact .inl (.inr ⟨o,q1⟩)
    ·rename_i heq;cases heq
    ·cases hf
theorem y7q{r:List V->Hp->VK->Prop}(i:Nat){id:String}{fn:Str}(hc:CallR X (.builtin id) r)(hf:OpN X.K r f)(hv:bootBuiltins fn=some (.builtin id))(hm:X.mg fn=none)
  (hN:X.N[i]?=some x:=by rfl)(hvis:Vis X.env.scope x:=by walk_at "1")(hd:(x==("__debug__":Str))=false:=by decide)(hcd:(x==("__classdict__":Str))=false:=by decide)
  (hg:Gl X fn:=by rfl)(hn:fn≠"__name__":=by decide)(hdb:(fn==("__debug__":Str))=false:=by decide)(hs:starEach [.Name x p] X.env=(false,eval (.Name x p) X.env)::starEach [] X.env:=by rfl)(hpl:(backTo pos (starEach [] X.env)).any (·.1)=false:=by rfl):
  DE Z X EE (.Call (.Name fn pn) [.Name x p] [] pos) (dFnV i f):=by
 refine PE.mono (q52 hc hg hm hv (q3b (pv i hN hvis hd hcd) q4j hs) hn hdb hs hpl) ?_;rintro σ H Q ⟨G,e,rel,h⟩;unfold dFnV at h;split at h
 ·exact h.elim
 ·rename_i w hw;split at h
  ·exact h.elim
  ·rename_i y hy;obtain⟨v,hv,q⟩:=rel.look hw;refine⟨v,hv,?_⟩;rcases q with q|⟨ws,a,xs,u,he,rfl,rfl,q1,qu,q2,q3⟩
   ·refine hf G H [v] [w] y Q rel.sub (.one q) hy fun G' v H' g p=>?_
    split at h
    ·exact h G' v H' (rel.grow g) g.gg p
    ·split at h
     ·exact h G' v H' (rel.grow g) g.gg p
     ·exact h.elim
   ·split at h
    ·rename_i hz;exact absurd hz (he _)
    split at h
    ·rename_i hsc;obtain⟨s1,s2⟩:=x68 (K:=X.K) rel.sub q1 q2
     have hsq:SqL X.K (upd G a u) a xs:=by
      rcases qu with rfl|⟨o,rfl⟩
      ·exact SqL.of q0g
      ·exact .inl (.inr ⟨o,q0g⟩)
     refine hf (upd G a u) H [.ref a] [.lst ws] y Q s2 (.one ⟨a,xs,rfl,hsq,Reps.mono s1 ws q3⟩) hy fun G' v H' g p=>?_
     have g':Grow G H G H':=⟨g.hh,.refl _,rel.sub.trans g.hh,fun _ _=>rfl⟩
     exact(show ∀G' v H',_->_->Rep X.K G' y v->Q v H' from h) G v H' (rel.grow g') (.refl _) (x95 hsc p)
    ·exact h.elim
noncomputable def dApp(i:Nat)(d:Den (List W)):List S->SR:=fun e=>match e[i]? with
 |some (.own _ _)=>(d e).stm fun ws e1=>match ws,e1[i]? with
  |[w],some (.own b xs)=>if xs.length<16777216 then .nx (e1.set i (.own b (xs++[w])))else .no
  |_,_=>.no
 |_=>.no
theorem q5m(i:Nat)(ha:DA Z X EE (e::es) dA)(hN:X.N[i]?=some x:=by rfl)(hv:Vis X.env.scope x:=by walk_at "1")(hd:(x==("__debug__":Str))=false:=by decide)(hcd:(x==("__classdict__":Str))=false:=by decide)
  (hbase:attributeBase (.Name x p) "append" X.env (eval (.Name x p) X.env)=eval (.Name x p) X.env:=by rfl)
  (hfew:((backTo cpos (starEach (e::es) X.env)).all (fun x=>!x.1)&&(backToKw cpos (keywordEach [] X.env)).all (fun x=>x.1.isSome)&&decide ((e::es).length+([]:List Keyword).length+(if([]:List Keyword).isEmpty then 0 else 1)<30))=true:=by rfl)
  (hline:(apos.endLine==cpos.line)=true:=by rfl)(hs:starEach (e::es) X.env=(false,eval e X.env)::starEach es X.env:=by rfl)(hplain:(backTo cpos (starEach es X.env)).any (·.1)=false:=by rfl)
  (hsw:swapsWith (.Call (.Attribute (.Name x p) "append" apos) (e::es) [] cpos) none pos.line X.env=pure false:=by rfl):
  DS Z X EE (.Expr (.Call (.Attribute (.Name x p) "append" apos) (e::es) [] cpos) pos) (dApp i dA):=by
 refine PS.mono (q4t (x60 (pv i hN hv hd hcd) ha hbase hfew hline hs hplain) hsw) ?_;rintro D σ H ⟨G,e,rel,h⟩;unfold dApp at h;split at h
 ·rename_i b0 ws0 he0;obtain⟨a,xs,h1,h2,h3,h4,h5⟩:=rel.own he0;refine⟨.ref a,h1,.inl ⟨rfl,xs,SqL.of h2⟩,G,e,rel,(q0w h).imp (fun ws e1 h G1 vs H1 r1 s1 p1=>?_) fun _ _ h=>h⟩
  split at h
  ·rename_i w b ys he1;obtain⟨a',zs,g1,g2,g3,g4,g5⟩:=r1.own he1;rw[h1]at g1;cases g1;obtain⟨y,r,rfl,py,pr⟩:=p1;cases(show r=[]from pr);split at h
   ·rename_i hl;refine⟨a,zs,y,rfl,rfl,g2,by rw[g5.length,sizeLine_eq];exact hl,?_⟩;exact h G1 σ _ (r1.mut he1 h1 (g5.append (.one py))) s1
   ·exact h.elim
  ·exact h.elim
 ·exact h.elim
end
noncomputable def compD(c:Den Bool)(d:Den W)(pe:List S):List W->Option (List W)
 |[]=>some []
 |w::ws=>match c (.fr w::pe)with
  |.ok true e1=>match d e1 with
   |.ok y _=>(compD c d pe ws).map (y::·)
   |_=>none
  |.ok false _=>compD c d pe ws
  |_=>none
noncomputable def frz1(e:List S)(j:Nat):List S:=match e[j]? with
 |some (.own none ws)=>e.set j (.fr (.lst ws))
 |_=>e
noncomputable def frzs(js:List Nat)(e:List S):List S:=js.foldl frz1 e
noncomputable def pj1(e:List S)(j:Nat):S:=match e[j]? with
 |some (.fr w)=>.fr w
 |_=>.no
noncomputable def pjS(js:List Nat)(e:List S):List S:=js.map (pj1 e)
noncomputable def compK(js:List Nat)(c:Den Bool)(d:Den W)(ws:List W)(e1:List S):R (List W):=
 if ws.length<=16777216 then(match compD c d (pjS js (frzs js e1)) ws with
  |some out=>.ok out (frzs js e1)
  |none=>.no)else .no
noncomputable def dComp(js:List Nat)(di:Den W)(c:Den Bool)(d:Den W):Den (List W):=fun e=>(di e).bind fun w e1=>match seqW w with
 |some ws=>compK js c d ws e1
 |none=>.no
noncomputable def dCompR(g:List W->Option (List W))(js:List Nat)(di:Den (List W))(c:Den Bool)(d:Den W):Den (List W):=fun e=>(di e).bind fun w e1=>match g w with
 |some ws=>compK js c d ws e1
 |none=>.no
noncomputable def dYes:Den Bool:=fun e=>.ok true e
section
variable{H1:Hp}{e1:List S}
theorem Rel.frzs(r:Rel K Z G σ H e):∀(js:List Nat),∃G',Same G G'/\Rel K Z G' σ H (frzs js e):=by
 intro js
 induction js generalizing G e with
 |nil=>exact⟨G,.refl _,r⟩
 |cons j js ih=>
  have one:∃G',Same G G'/\Rel K Z G' σ H (frz1 e j):=by
   unfold frz1;split
   ·rename_i ws hw;obtain⟨v,G',_,s,_,r'⟩:=r.freeze hw;exact⟨G',s,r'⟩
   ·exact⟨G,.refl _,r⟩
  obtain⟨G1,s1,r1⟩:=one;obtain⟨G2,s2,r2⟩:=ih r1;exact⟨G2,s1.trans s2,r2⟩
theorem Rel.block(r:Rel K Z G σ H e)(js:List Nat){x:V}(p:Rep K G w x):Rel K ⟨H,G,[]⟩ G (some x::pj js σ) H (.fr w::pjS js e):=by
 have hfr:∀(i:Nat)(s:S),(S.fr w::pjS js e)[i]?=some s->s=.no\/∃u,s=.fr u/\((i=0/\u=w)\/∃k j,i=k+1/\js[k]?=some j/\e[j]?=some (.fr u)):=fun i s h=>by
  cases i with
  |zero=>cases h;exact .inr ⟨w,rfl,.inl ⟨rfl,rfl⟩⟩
  |succ k=>
   rw[w0m]at h;unfold pjS at h;rw[w0g]at h;obtain⟨j,h1,h2⟩:=w0c.mp h;unfold pj1 at h2;split at h2
   ·rename_i u hu;subst h2;exact .inr ⟨u,rfl,.inr ⟨k,j,rfl,h1,hu⟩⟩
   ·subst h2;exact .inl rfl
 refine⟨r.sub,fun i s h=>?_,?_,fun i j b b' w1 w2 a h1 h2 _ _=>?_,fun a o h _=>h,(fun a h=>nomatch h),fun a _=>rfl⟩
 ·rcases hfr i s h with rfl|⟨u,rfl,⟨rfl,rfl⟩|⟨k,j,rfl,h1,h2⟩⟩
  ·trivial
  ·exact⟨x,rfl,p⟩
  ·obtain⟨v,h3,h4⟩:=r.fr h2;refine⟨v,?_,h4⟩;rw[w0m];unfold pj;rw[w0g,h1];simp[h3]
 ·simp[pjS,pj]
 ·rcases hfr i _ h1 with z|⟨u,z,_⟩<;>cases z
theorem Rel.mutFree(r:Rel K Z G σ H e){o:HO}(hg:G a=none)(hz:Z.H a=none)(hi:a∉Z.io)(hf:Free σ e a){ls:List V}(hls:H a=some (.lst ls)):Rel K Z G σ (upd H a o) e:=by
 refine⟨fun c u z=>?_,fun j s z=>?_,r.len,r.dis,fun c u z n=>?_,fun c z=>?_,r.gen⟩
 ·rw[q0d (q0p z hg)];exact r.sub c u z
 ·have y:=r.slot j s z;cases s with
  |no=>trivial
  |fr w=>exact y
  |own b2 w2=>
   obtain⟨c,ys,y1,y2,y3,y4,y5⟩:=y;refine⟨c,ys,y1,?_,y3,y4,y5⟩;rw[q0d];exact y2;rintro rfl;obtain⟨c',_,z1,_⟩:=r.own z;rw[z1]at y1;cases y1;exact hf j b2 w2 z z1
  |dic kvs=>
   obtain⟨c,y1,y2,y3,y4⟩:=y;refine⟨c,y1,?_,y3,y4⟩;rw[q0d (q0t y2 hls (q4g rfl))];exact y2
  |thr us w2 vs=>
   obtain⟨t,l,o,xs2,ys,zs,y1,y2,y3,y4,y5,y6⟩:=y;refine⟨t,l,o,xs2,ys,zs,y1,y2,?_,y4,y5,y6⟩;rw[q0d (q0t y3 hls (fun z=>nomatch z))];exact y3
  |nest wss=>exact NestOk.move y (.refl _) fun l o ys k1 k2 k3=>⟨by rw[q0d (q0t k1 hls (fun z=>nomatch z))];exact k1,k2,k3⟩
  |x k=>exact XOk.move y (.refl _) fun l o ys k1 k2 k3=>⟨by rw[q0d (q0t k1 hls (fun z=>nomatch z))];exact k1,k2,k3⟩
  |dw sh ks ws=>exact DwOk.move y (.refl _) fun l o ys k1 k2 k3=>⟨by rw[q0d (q0t k1 hls (q2s rfl))];exact k1,k2,k3⟩
 ·rw[q0d (q0p z hz)];exact r.ent c u z n
 ·by_cases hc:c=a
  ·subst hc;exact absurd z hi
  ·rw[q0d hc];exact r.ion c z
structure Walk(J:It)(xs:List V)(SQ:Hp->Prop):Prop where
 go:∀i H,SQ H->i<xs.length->J.go i H
 yld:∀i H x H',SQ H->J.yld i H x H'->i<xs.length->H'=H/\xs[i]?=some x
 stop:∀i H,SQ H->xs.length<=i->J.stop i H
theorem x69:Walk (Itl K a) xs (fun H=>SqL K H a xs):=
 ⟨fun i H q h=>⟨xs,xs[i],q,by simp[h]⟩,fun i H x H' q ⟨e,y⟩ h=>⟨e,y xs q⟩,fun i H q h=>⟨xs,q,h⟩⟩
theorem x7a:Walk (Itt K a) xs (fun H=>SqT K H a xs):=
 ⟨fun i H q h=>⟨xs,xs[i],q,by simp[h]⟩,fun i H x H' q ⟨e,y⟩ h=>⟨e,y xs q⟩,fun i H q h=>⟨xs,q,h⟩⟩
theorem y7r:Walk (Itr lo n) ((List.range n).map fun k=>V.int (lo+(k:Nat))) (fun _=>True):=
 ⟨fun i H q h=>show i<n by simpa using h,fun i H x H' q ⟨e,y⟩ h=>⟨e,by simp at h;simp[h,y]⟩,fun i H q h=>show n<=i by simpa using h⟩
theorem q9r{J:It}{SQ:Hp->Prop}{out:List W}{Q:VK}{G0:Hp}(W0:Walk J xs SQ)(r1:Rel K Z G1 σ H1 e1)(s1:Same G0 G1)(rp:Reps K G1 ws xs)(hSQ:∀G' H',Same G1 G'->Same G' H'->SQ H')(hl:ws.length<=16777216)
  (hz:∀p,H1 p=none->p∉Z.io)(hc:compD c d (pjS js e1) ws=some out)
  (h:∀G' a xs H',Rel K Z G' σ H' e1->Same G0 G'->H' a=some (.lst xs)->G' a=none->Z.H a=none->Free σ e1 a->Reps K G' out xs->Q (.ref a) H'):
  ∀D,H1 D=none->∃W:Nat->Nat->Hp->Prop,(∃m,W 0 m (upd H1 D (.lst [])))/\∀i m H2,W i m H2 ->
   (J.stop i H2/\Q (.ref D) H2)\/(J.go i H2/\∀x H3,J.yld i H2 x H3->gName 0 x (List.replicate 1 none++pj js σ) H3 fun σ4 H4=>Kp (List.replicate 1 none++pj js σ) σ4/\(fun σ H Q=>∃Z',liftT K Z' (fun _=>E0) c σ H Q) σ4 H4 fun b H5=>
    if b=true then(fun σ H Q=>∃Z',AtG K Z' σ H fun G e=>(d e).holds (fun w e'=>∀G' v H',Rel K Z' G' σ H' e'->Same G G'->Rep K G' w v->Q v H') (XH K Z' (fun _=>E0) σ G)) σ4 H5 fun y H6=>∃ys,H6 D=some (.lst ys)/\ys.length<sizeLine/\∃m',m'<m/\W (i+1) m' (upd H6 D (.lst (ys++[y])))else ∃m',m'<m/\W (i+1) m' H5):=by
 intro D hD;have hlen:=rp.length
 refine⟨fun i m H2=>m=ws.length-i/\i<=ws.length/\∃G2 ys done rest,Rel K Z G2 σ H2 e1/\Same G1 G2/\H2 D=some (.lst ys)/\G2 D=none/\Reps K G2 done ys/\done.length<=i/\compD c d (pjS js e1) (ws.drop i)=some rest/\done++rest=out,
  ⟨ws.length,by omega,w1a _,G1,[],[],out,r1.grow (Grow.hid r1.sub hD _),.refl _,q0g,r1.sub.free hD,rfl,w0f _,hc,rfl⟩,?_⟩
 rintro i m H2 ⟨rfl,hi,G2,ys,done,rest,r2,s2,hd2,hg2,rp2,hdl,hc2,ho⟩;have hfree:Free σ e1 D:=q54 r1 hD;have hzh:Z.H D=none:=q34 r1 hD
 by_cases hlt:i<ws.length
 ·refine .inr ⟨W0.go i H2 (hSQ G2 H2 s2 r2.sub) (by omega),fun x H3 hy=>?_⟩
  obtain⟨rfl,hx⟩:=W0.yld i H2 x H3 (hSQ G2 H2 s2 r2.sub) hy (by omega);obtain⟨w,hw,pw⟩:=rp.getV hx;rw[x0m hw]at hc2;refine⟨Kp.one,⟨H3,G2,[]⟩,G2,.fr w::pjS js e1,r2.block js (Rep.mono s2 w pw),?_⟩;unfold compD at hc2;cases qc:c (.fr w::pjS js e1)with
  |no=>rw[qc]at hc2;cases hc2
  |ex _ _=>rw[qc]at hc2;cases hc2
  |ok k e2=>
   rw[qc]at hc2;intro G3 H5 r3 s3;have g3:=r3.toGrow s3;cases k with
   |false=>
    exact⟨ws.length-(i+1),by omega,rfl,hlt,G3,ys,done,rest,r2.grow g3,s2.trans s3,g3.hh _ _ hd2,by rw[g3.new D (by rw[hd2];simp)];exact hg2,Reps.mono s3 _ rp2,by omega,hc2,ho⟩
   |true=>
    refine⟨⟨H3,G2,[]⟩,G3,e2,r3,?_⟩;dsimp only at hc2;cases qd:d e2 with
    |no=>rw[qd]at hc2;cases hc2
    |ex _ _=>rw[qd]at hc2;cases hc2
    |ok y e3=>
     rw[qd]at hc2;intro G4 v H6 r4 s4 p4;have g4:=r4.toGrow (s3.trans s4);obtain⟨rest',hr,rfl⟩:=w0c.mp hc2;have hd6:H6 D=some (.lst ys):=g4.hh _ _ hd2;have hg6:G4 D=none:=by rw[g4.new D (by rw[hd2];simp)];exact hg2
     refine⟨ys,hd6,?_,ws.length-(i+1),by omega,rfl,hlt,G4,ys++[v],done++[y],rest',(r2.grow g4).mutFree hg6 hzh (hz D hD) hfree hd6,s2.trans (s3.trans s4),q0g,hg6,(Reps.mono (s3.trans s4) _ rp2).append (.one p4),by simp;omega,hr,by rw[w1u];exact ho⟩;rw[rp2.length,sizeLine_eq];omega
 ·have:i=ws.length:=by omega
  subst this;rw[w2s]at hc2;cases hc2;rw[w1i]at ho;subst ho;exact .inl ⟨W0.stop _ H2 (hSQ G2 H2 s2 r2.sub) (by omega),h G2 D ys H2 r2 (s1.trans s2) hd2 hg2 hzh hfree rp2⟩
end
section
variable{elt iter a b:Expr}{ifs:List Expr}{scope sc:Scope}{pt:Pos}{Nf N:List Str}{di:Den W}
def DTs(Z:Zt)(X:Cx)(EE:L2.St->XK)(ifs:List Expr)(c:Den Bool):Prop:=PTs X ifs (liftT X.K Z EE c)
theorem q3v:DTs Z X EE [] dYes:=fun pins s σ H Q I ⟨G,e,r,h⟩=>y3f pins s σ H Q I (h G H r (.refl _))
theorem y3q(h:DT Z X EE a c):DTs Z X EE [a] c:=y3g h
def cT(K:PySem.W.Frag)(c:Den Bool):TT:=fun σ H Q=>∃Z',liftT K Z' (fun _=>E0) c σ H Q
def cE(K:PySem.W.Frag)(d:Den W):TE:=fun σ H Q=>∃Z',AtG K Z' σ H fun G e=>(d e).holds (fun w e'=>∀G' v H',Rel K Z' G' σ H' e'->Same G G'->Rep K G' w v->Q v H') (XH K Z' (fun _=>E0) σ G)
theorem x5k{Y:List Str}(ht:∀Z' cl C s₀ H₀ ex,DTs Z' (X.cp Y scope cl C s₀ H₀ ex) (fun _=>E0) ifs c):∀cl C s₀ H₀ ex,PTs (X.cp Y scope cl C s₀ H₀ ex) ifs (cT X.K c):=fun cl C s₀ H₀ ex pins s σ H Q I ⟨Z',h⟩=>ht Z' cl C s₀ H₀ ex pins s σ H Q I h
theorem x5l{Y:List Str}(he:∀Z' cl C s₀ H₀ ex,DE Z' (X.cp Y scope cl C s₀ H₀ ex) (fun _=>E0) elt d):∀cl C s₀ H₀ ex,PE (X.cp Y scope cl C s₀ H₀ ex) elt (cE X.K d):=fun cl C s₀ H₀ ex pins s σ H Q I ⟨Z',h⟩=>he Z' cl C s₀ H₀ ex pins s σ H Q I h
theorem ionone(r:Rel K Z G σ H e):∀p,H p=none->p∉Z.io:=fun p hp hi=>r.ion p hi hp
theorem x7b:∀σ H Q,liftF K Z EE (dComp js di c d) σ H Q->tComp (iSeq K (liftE K Z EE di)) 1 js (gName 0) (cT K c) (cE K d) σ H Q:=by
 rintro σ H Q ⟨G,e,rel,h⟩;simp only[dComp,R.holds_bind]at h;refine⟨G,e,rel,h.imp (fun w e1 h G1 v1 H1 r1 s1 p1=>?_) fun _ _ h=>h⟩
 split at h
 ·rename_i ws hw;unfold compK at h;split at h
  ·rename_i hl;split at h
   ·rename_i out ho;obtain⟨G2,s2,r2⟩:=r1.frzs js;have p2:=Rep.mono s2 w p1;have io:=ionone r2;cases w with
    |tup us=>
     cases hw;obtain⟨a,xs,rfl,hq,rp⟩:=p2;exact⟨a,rfl,.inr ⟨⟨xs,r2.sub.tup hq⟩,q9r x7a r2 (s1.trans s2) rp (fun G' H' s s'=>Same.tup s' (Same.tup s hq)) hl io ho h⟩⟩
    |lst us=>
     cases hw;obtain⟨a,xs,rfl,hq,rp⟩:=p2;exact⟨a,rfl,.inl ⟨⟨xs,r2.sub.seq hq⟩,q9r x69 r2 (s1.trans s2) rp (fun G' H' s s'=>Same.seq s' (Same.seq s hq)) hl io ho h⟩⟩
    |_=>cases hw
   ·exact h.elim
  ·exact h.elim
 ·exact h.elim
theorem q4c(hc:X.calm=true)(hi:DE Z X EE iter di)(ok:compOk sc scope N Nf js=true)
  (ht:∀Z' cl C s₀ H₀ ex,DTs Z' (X.cp ([x]++Nf) scope cl C s₀ H₀ ex) (fun _=>E0) ifs c)(he:∀Z' cl C s₀ H₀ ex,DE Z' (X.cp ([x]++Nf) scope cl C s₀ H₀ ex) (fun _=>E0) elt d)
  (hg:∀cl C s₀ H₀ ex,PG (X.cp ([x]++Nf) scope cl C s₀ H₀ ex) (.Name x pt) (gName 0))
  (hsc:X.env.scope=sc:=by rfl)(hN:X.N=N:=by rfl)(hs:∀x,foldedSetIterable iter X.env x=pure x:=by intro _;rfl):
  DF Z X EE (.ListComp elt [⟨.Name x pt,iter,ifs,0⟩] scope pos) (dComp js di c d):=by
 exact PE.mono (q78 (Nl:=[x]) (tc:=cT X.K c) (te:=cE X.K d) hc (x19 hi) ok hg (x5k ht) (x5l he) hsc hN hs) x7b
theorem x5m:∀σ H Q,liftF K Z EE (dCompR rng1 js dA c d) σ H Q->tComp (iRng1 (liftA K Z EE dA)) 1 js (gName 0) (cT K c) (cE K d) σ H Q:=by
 rintro σ H Q ⟨G,e,rel,h⟩;simp only[dCompR,R.holds_bind]at h;refine⟨G,e,rel,h.imp (fun ws e1 h G1 vs H1 r1 s1 p1=>?_) fun _ _ h=>h⟩
 unfold rng1 at h;split at h
 ·rename_i us hh;split at hh
  ·rename_i j;split at hh
   ·rename_i hj;cases hh;obtain⟨y,r,rfl,e1,e2⟩:=p1;cases(show y=V.int j from e1);cases(show r=[]from e2);refine⟨j,rfl,(q4k hj).1,(q4k hj).2,?_⟩;unfold compK at h;split at h
    ·rename_i hl;split at h
     ·rename_i out ho;obtain⟨G2,s2,r2⟩:=r1.frzs js;have z:=q9r (J:=Itr 0 (j-0).toNat) y7r r2 (s1.trans s2) (q81 (lo:=0) (hi:=j)) (fun _ _ _ _=>trivial) hl (ionone r2) ho h
      rwa [w4q]at z
     ·exact h.elim
    ·exact h.elim
   ·cases hh
  ·cases hh
 ·exact h.elim
theorem x96(hc:X.calm=true)(hm:X.mg "range"=none)(ha:DA Z X EE [a] dA)(ok:compOk sc scope N Nf js=true)
  (ht:∀Z' cl C s₀ H₀ ex,DTs Z' (X.cp ([x]++Nf) scope cl C s₀ H₀ ex) (fun _=>E0) ifs c)(he:∀Z' cl C s₀ H₀ ex,DE Z' (X.cp ([x]++Nf) scope cl C s₀ H₀ ex) (fun _=>E0) elt d)
  (hg:∀cl C s₀ H₀ ex,PG (X.cp ([x]++Nf) scope cl C s₀ H₀ ex) (.Name x pt) (gName 0))
  (hgr:Gl X "range":=by rfl)(hs1:starEach [a] X.env=[(false,eval a X.env)]:=by rfl)(hsc:X.env.scope=sc:=by rfl)(hN:X.N=N:=by rfl)(hs:∀x,foldedSetIterable (.Call (.Name "range" p1) [a] [] p2) X.env x=pure x:=by intro _;rfl):
  DF Z X EE (.ListComp elt [⟨.Name x pt,.Call (.Name "range" p1) [a] [] p2,ifs,0⟩] scope pos) (dCompR rng1 js dA c d):=by
 exact PE.mono (q78 (Nl:=[x]) (tc:=cT X.K c) (te:=cE X.K d) hc (x0d hgr hm ha hs1) ok hg (x5k ht) (x5l he) hsc hN hs) x5m
end
mutual
noncomputable def depW:W->Nat
 |.tup ws=>depWs ws+1
 |.lst ws=>depWs ws+1
 |_=>0
noncomputable def depWs:List W->Nat
 |[]=>0
 |w::ws=>max (depW w) (depWs ws)
end
section
variable{pins:List (Addr×Obj)}
mutual
theorem q5n(I:Inv X pins σ H s)(sg:Same G H):∀(w:W){w':W}{v:V}{k:Bool},Rep X.K G w v->Rep X.K G w' v->eqW w w'=some k->k=true
 |.non,w',v,k,h,h',e=>by
  cases(show v=.non from h);cases w'<;>first|(cases e;done)|(cases h';cases e;rfl)|(exfalso;obtain⟨_,_,z,_⟩:=h';first|done|cases z)|(exfalso;obtain⟨_,z,_⟩:=h';first|done|cases z)
 |.bl b,w',v,k,h,h',e=>by
  cases(show v=.bl b from h);cases w'<;>first|(cases e;done)|(cases h';cases e;exact beq_self_eq_true _)|(exfalso;obtain⟨_,_,z,_⟩:=h';first|done|cases z)|(exfalso;obtain⟨_,z,_⟩:=h';first|done|cases z)
 |.int b,w',v,k,h,h',e=>by
  cases(show v=.int b from h);cases w'<;>first|(cases e;done)|(cases h';cases e;exact beq_self_eq_true _)|(exfalso;obtain⟨_,_,z,_⟩:=h';first|done|cases z)|(exfalso;obtain⟨_,z,_⟩:=h';first|done|cases z)
 |.str b,w',v,k,h,h',e=>by
  cases(show v=.str b from h);cases w'<;>first|(cases e;done)|(cases h';cases e;exact beq_self_eq_true _)|(exfalso;obtain⟨_,_,z,_⟩:=h';first|done|cases z)|(exfalso;obtain⟨_,z,_⟩:=h';first|done|cases z)
 |.tup ws,w',v,k,h,h',e=>by
  obtain⟨a,xs,rfl,q,r⟩:=h;cases w' with
  |tup ws'=>
   obtain⟨a',xs',z,q',r'⟩:=h';cases z;have:=I.tuple_inj (sg.tup q) (sg.tup q');subst this;exact q79 I sg ws r r' (e)
  |lst ws'=>
   obtain⟨a',xs',z,q',r'⟩:=h';cases z;obtain⟨its,_,p1,_⟩:=I.tuple (sg.tup q);obtain⟨its2,_,p2,_⟩:=I.list (sg.seq q');exact absurd rfl (SeqAt.ne_of_list_tuple p2.isList (show s.heap.IsTuple a _ from p1))
  |non=>cases h'
  |bl _=>cases h'
  |int _=>cases h'
  |str _=>cases h'
  |exc _=>cases e
  |dic _=>cases e
  |dw _ _ _ _=>cases e
  |fn _ _ _=>cases e
 |.lst ws,w',v,k,h,h',e=>by
  obtain⟨a,xs,rfl,q,r⟩:=h;cases w' with
  |lst ws'=>
   obtain⟨a',xs',z,q',r'⟩:=h';cases z;have:=I.list_inj (sg.seq q) (sg.seq q');subst this;exact q79 I sg ws r r' (e)
  |tup ws'=>
   obtain⟨a',xs',z,q',r'⟩:=h';cases z;obtain⟨its,_,p1,_⟩:=I.tuple (sg.tup q');obtain⟨its2,_,p2,_⟩:=I.list (sg.seq q);exact absurd rfl (SeqAt.ne_of_list_tuple p2.isList (show s.heap.IsTuple a _ from p1))
  |non=>cases h'
  |bl _=>cases h'
  |int _=>cases h'
  |str _=>cases h'
  |exc _=>cases e
  |dic _=>cases e
  |dw _ _ _ _=>cases e
  |fn _ _ _=>cases e
 |.exc c,w',v,k,h,h',e=>by cases w'<;>cases e
 |.dic c,w',v,k,h,h',e=>by cases w'<;>cases e
 |.dw _ _ _ _,w',v,k,h,h',e=>by cases w'<;>cases e
 |.fn _ _ _,w',v,k,h,h',e=>by cases w'<;>cases e
theorem q79(I:Inv X pins σ H s)(sg:Same G H):∀(ws:List W){ws':List W}{vs:List V}{k:Bool},Reps X.K G ws vs->Reps X.K G ws' vs->eqWs ws ws'=some k->k=true
 |[],ws',vs,k,h,h',e=>by
  cases h;cases ws' with
  |nil=>cases e;rfl
  |cons _ _=>obtain⟨_,_,z,_⟩:=h';cases z
 |w::ws,ws',vs,k,h,h',e=>by
  obtain⟨x,r,rfl,h1,h2⟩:=h;cases ws' with
  |nil=>cases h'
  |cons w' ws'=>
   obtain⟨x',r',z,h1',h2'⟩:=h';cases z;have e:(match eqW w w',eqWs ws ws' with|some a,some b=>some (a&&b)|_,_=>none)=some k:=e;cases q1:eqW w w' with
   |none=>rw[q1]at e;cases e
   |some b1=>
    cases q2:eqWs ws ws' with
    |none=>rw[q1,q2]at e;cases e
    |some b2=>
     rw[q1,q2]at e;rw[q5n I sg w h1 h1' q1,q79 I sg ws h2 h2' q2]at e;cases e;rfl
end
theorem q4d:∀{xs ys:List W}{b:Bool},eqWs xs ys=some b->(∀(j:Nat) x y,xs[j]?=some x->ys[j]?=some y->∃k,eqW x y=some k)/\b=((List.range (min xs.length ys.length)).all (fun j=>((eqW (xs.getD j .non) (ys.getD j .non)).getD false))&&xs.length==ys.length):=by
 intro xs
 induction xs with
 |nil=>
  intro ys b h;refine⟨fun j x y hx=>by simp at hx,?_⟩
  cases ys<;>(cases h;simp)
 |cons x xs ih=>
  intro ys b h;cases ys with
  |nil=>refine⟨fun j x y hx hy=>by simp at hy,?_⟩;cases h;simp
  |cons y ys=>
   have h:(match eqW x y,eqWs xs ys with|some a,some b=>some (a&&b)|_,_=>none)=some b:=h;cases q1:eqW x y with
   |none=>rw[q1]at h;cases h
   |some b1=>
    cases q2:eqWs xs ys with
    |none=>rw[q1,q2]at h;cases h
    |some b2=>
     rw[q1,q2]at h;cases h;obtain⟨h1,h2⟩:=ih q2;refine⟨fun j x' y' hx hy=>?_,?_⟩
     ·cases j with
      |zero=>simp at hx hy;subst hx hy;exact⟨_,q1⟩
      |succ j=>exact h1 j x' y' (by simpa using hx) (by simpa using hy)
     ·rw[h2];simp only[w0u,Nat.succ_min_succ,List.range_succ_eq_map,w2v,w3x]
      have e0:(eqW ((x::xs).getD 0 .non) ((y::ys).getD 0 .non)).getD false=b1:=by
       show(eqW x y).getD false=b1;rw[q1];rfl
      rw[e0,Bool.and_assoc];congr 1;congr 1;simp
theorem q62:∀{xs:List W}{j:Nat}{x:W},xs[j]?=some x->depW x<=depWs xs
 |[],_,_,h=>by simp at h
 |y::ys,0,x,h=>by simp at h;subst h;simp only[depWs];omega
 |y::ys,j+1,x,h=>by
  have:=q62 (xs:=ys) (j:=j) (by simpa using h);simp only[depWs];omega
theorem q7q{xs:List α}{x d:α}(h:xs[j]?=some x):xs.getD j d=x:=by
 simp[List.getD,h]
theorem x2d(I:Inv X pins σ H s)(sg:Same G H){b:Bool}(hu:A.units<cLine)(n1:∀ws,w=.tup ws->∀ws',w'≠.tup ws')(n2:∀ws,w=.lst ws->∀ws',w'≠.lst ws')(h:Rep X.K G w v)(h':Rep X.K G w' v')(r:RelV v u)(r':RelV v' u')(e:eqW w w'=some b):SeqAt.RcAt A s u u' b:=by
 have tl:∀{ws:List W}{v:V}{u:Value},Rep X.K G (.lst ws) v->RelV v u->∃l items,u=.ref l/\s.heap.IsList l items:=fun h r=>by
  obtain⟨a,xs,rfl,q,_⟩:=h;cases r;obtain⟨its,_,p,_⟩:=I.list (sg.seq q);exact⟨a,_,rfl,p.isList⟩
 have tt:∀{ws:List W}{v:V}{u:Value},Rep X.K G (.tup ws) v->RelV v u->∃l items,u=.ref l/\s.heap.IsTuple l items:=fun h r=>by
  obtain⟨a,xs,rfl,q,_⟩:=h;cases r;obtain⟨its,_,p,_⟩:=I.tuple (sg.tup q);exact⟨a,_,rfl,p⟩
 have tn:∀{v:V}{u:Value},Rep X.K G .non v->RelV v u->u=.none:=fun h r=>by cases h;exact r
 have tb:∀{k:Bool}{v:V}{u:Value},Rep X.K G (.bl k) v->RelV v u->u=.bool k:=fun h r=>by cases h;exact r
 have ti:∀{k:Int}{v:V}{u:Value},Rep X.K G (.int k) v->RelV v u->∃t,u=.int k t:=fun h r=>by cases h;exact r
 have ts:∀{k:Str}{v:V}{u:Value},Rep X.K G (.str k) v->RelV v u->∃t,u=.str k t:=fun h r=>by cases h;exact r
 cases w with
 |non=>
  obtain rfl:=tn h r;cases w' with
  |non=>obtain rfl:=tn h' r';cases e;exact .none_none
  |bl k=>obtain rfl:=tb h' r';cases e;exact .none_bool k
  |int k=>obtain⟨t,rfl⟩:=ti h' r';cases e;exact .none_int k t
  |str k=>obtain⟨t,rfl⟩:=ts h' r';cases e;exact .none_str k t
  |tup k=>obtain⟨l,it,rfl,p⟩:=tt h' r';cases e;exact .none_tuple p hu
  |lst k=>obtain⟨l,it,rfl,p⟩:=tl h' r';cases e;exact .none_list p hu
  |exc k=>cases e
  |dic k=>cases e
  |dw _ _ _ _=>cases e
  |fn _ _ _=>cases e
 |bl j=>
  obtain rfl:=tb h r;cases w' with
  |non=>obtain rfl:=tn h' r';cases e;exact .bool_none j
  |bl k=>obtain rfl:=tb h' r';cases e;exact .bool_bool j k
  |int k=>obtain⟨t,rfl⟩:=ti h' r';cases e;exact .bool_int j k t
  |str k=>obtain⟨t,rfl⟩:=ts h' r';cases e;exact .bool_str j k t
  |tup k=>obtain⟨l,it,rfl,p⟩:=tt h' r';cases e;exact .bool_tuple j p hu
  |lst k=>obtain⟨l,it,rfl,p⟩:=tl h' r';cases e;exact .bool_list j p hu
  |exc k=>cases e
  |dic k=>cases e
  |dw _ _ _ _=>cases e
  |fn _ _ _=>cases e
 |int j=>
  obtain⟨t1,rfl⟩:=ti h r;cases w' with
  |non=>obtain rfl:=tn h' r';cases e;exact .int_none j t1
  |bl k=>obtain rfl:=tb h' r';cases e;exact .int_bool j t1 k
  |int k=>obtain⟨t,rfl⟩:=ti h' r';cases e;exact .int_int j t1 k t
  |str k=>obtain⟨t,rfl⟩:=ts h' r';cases e;exact .int_str j t1 k t
  |tup k=>obtain⟨l,it,rfl,p⟩:=tt h' r';cases e;exact .int_tuple j t1 p hu
  |lst k=>obtain⟨l,it,rfl,p⟩:=tl h' r';cases e;exact .int_list j t1 p hu
  |exc k=>cases e
  |dic k=>cases e
  |dw _ _ _ _=>cases e
  |fn _ _ _=>cases e
 |str j=>
  obtain⟨t1,rfl⟩:=ts h r;cases w' with
  |non=>obtain rfl:=tn h' r';cases e;exact .str_none j t1
  |bl k=>obtain rfl:=tb h' r';cases e;exact .str_bool j t1 k
  |int k=>obtain⟨t,rfl⟩:=ti h' r';cases e;exact .str_int j t1 k t
  |str k=>obtain⟨t,rfl⟩:=ts h' r';cases e;exact .str_str j t1 k t
  |tup k=>obtain⟨l,it,rfl,p⟩:=tt h' r';cases e;exact .str_tuple j t1 p hu
  |lst k=>obtain⟨l,it,rfl,p⟩:=tl h' r';cases e;exact .str_list j t1 p hu
  |exc k=>cases e
  |dic k=>cases e
  |dw _ _ _ _=>cases e
  |fn _ _ _=>cases e
 |tup j=>
  obtain⟨l1,it1,rfl,p1⟩:=tt h r;cases w' with
  |non=>obtain rfl:=tn h' r';cases e;exact .tuple_none p1 hu
  |bl k=>obtain rfl:=tb h' r';cases e;exact .tuple_bool k p1 hu
  |int k=>obtain⟨t,rfl⟩:=ti h' r';cases e;exact .tuple_int k t p1 hu
  |str k=>obtain⟨t,rfl⟩:=ts h' r';cases e;exact .tuple_str k t p1 hu
  |tup k=>exact absurd rfl (n1 j rfl k)
  |lst k=>obtain⟨l,it,rfl,p⟩:=tl h' r';cases e;exact .tuple_list p1 p hu
  |exc k=>cases e
  |dic k=>cases e
  |dw _ _ _ _=>cases e
  |fn _ _ _=>cases e
 |lst j=>
  obtain⟨l1,it1,rfl,p1⟩:=tl h r;cases w' with
  |non=>obtain rfl:=tn h' r';cases e;exact .list_none p1 hu
  |bl k=>obtain rfl:=tb h' r';cases e;exact .list_bool k p1 hu
  |int k=>obtain⟨t,rfl⟩:=ti h' r';cases e;exact .list_int k t p1 hu
  |str k=>obtain⟨t,rfl⟩:=ts h' r';cases e;exact .list_str k t p1 hu
  |lst k=>exact absurd rfl (n2 j rfl k)
  |tup k=>obtain⟨l,it,rfl,p⟩:=tt h' r';cases e;exact .list_tuple p1 p hu
  |exc k=>cases e
  |dic k=>cases e
  |dw _ _ _ _=>cases e
  |fn _ _ _=>cases e
 |exc j=>cases w'<;>cases e
 |dic j=>cases w'<;>cases e
 |dw _ _ _ _=>cases w'<;>cases e
 |fn _ _ _=>cases w'<;>cases e
theorem x4c(I:Inv X pins σ H s)(sg:Same G H){b:Bool}(hd:depW w<=0)(hu:A.units<cLine)(h:Rep X.K G w v)(h':Rep X.K G w' v')(r:RelV v u)(r':RelV v' u')(e:eqW w w'=some b):SeqAt.RcAt A s u u' b:=
 x2d I sg hu (fun ws z=>by subst z;simp[depW]at hd) (fun ws z=>by subst z;simp[depW]at hd) h h' r r' e
theorem q8a(h:Rep K G w v):∀x,v≠.flt x:=fun x z=>by
 subst z;cases w with
 |tup ws=>obtain⟨_,_,z,_⟩:=h;cases z
 |lst ws=>obtain⟨_,_,z,_⟩:=h;cases z
 |exc c=>obtain⟨_,z,_⟩:=h;cases z
 |dic c=>obtain⟨_,z,_⟩:=h;cases z
 |dw _ _ _ _=>obtain⟨_,_,_,z,_⟩:=h;cases z
 |fn _ _ _=>obtain⟨_,_,_,_,z,_⟩:=h;cases z
 |_=>cases h
theorem q8b{b:Bool}(rv:RelV v u)(hf:∀x,v≠.flt x)(h:SeqAt.RcAt A s u u' b)(hs:u=u'->b=true):SeqAt.EqAt A s u u' b:=fun prog w E Q hq=>by
 unfold eqBool;refine wpAny_holding ?_;refine wpAny_ite_split (fun hab=>?_) (fun _=>?_)
 ·have hb:=hs (eq_of_beq hab);subst hb;exact wpAny_bind (wpAny_rule (wpAny_pure hq))
 ·have z:=wpAny_bind (h prog w E (fun a s'=>wpAny (model prog w) A (truthOfDropped a) Q E s') (wpAny_truthy_bool hq))
  cases v with
  |flt x=>exact absurd rfl (hf x)
  |non=>cases rv;exact z
  |bl _=>cases rv;exact z
  |int _=>obtain⟨t,rfl⟩:=rv;exact z
  |str _=>obtain⟨t,rfl⟩:=rv;exact z
  |byt _=>obtain⟨t,rfl⟩:=rv;exact z
  |ref _=>cases rv;exact z
  |ty _=>cases rv;exact z
theorem x5n(I:Inv X pins σ H s)(sg:Same G H):∀(n:Nat){w w':W}{v v':V}{u u':Value}{b:Bool}{A:Around},depW w<=n->A.units+n<cLine->Rep X.K G w v->Rep X.K G w' v'->RelV v u->RelV v' u'->eqW w w'=some b->SeqAt.RcAt A s u u' b:=by
 intro n
 induction n with
 |zero=>
  intro w w' v v' u u' b A hd hu h h' r r' e;exact x4c I sg hd (by omega) h h' r r' e
 |succ n ih=>
  intro w w' v v' u u' b A hd hu h h' r r' e
  have items:∀{ws ws':List W}{xs xs':List V}{its its':List Value}{k:Bool},depWs ws<=n->Reps X.K G ws xs->Reps X.K G ws' xs'->Vals xs its->Vals xs' its'->eqWs ws ws'=some k ->
    ∀j (h1:j<its.toArray.size) (h2:j<its'.toArray.size),SeqAt.EqAt A.in1 s its.toArray[j] its'.toArray[j] ((eqW (ws.getD j .non) (ws'.getD j .non)).getD false):=by
   intro ws ws' xs xs' its its' k hd r1 r2 v1 v2 he j h1 h2;have l1:=r1.length;have l2:=r2.length;have m1:=v1.length;have m2:=v2.length;have i1:j<xs.length:=by rw[m1];simpa using h1
   have i2:j<xs'.length:=by rw[m2];simpa using h2
   obtain⟨u1,e1,ru1⟩:=v1.get (w0d i1);obtain⟨u2,e2,ru2⟩:=v2.get (w0d i2);obtain⟨w1,f1,p1⟩:=r1.getV (w0d i1);obtain⟨w2,f2,p2⟩:=r2.getV (w0d i2);obtain⟨b',hb'⟩:=(q4d he).1 j w1 w2 f1 f2;rw[q7q f1,q7q f2,hb']
   have g1:its.toArray[j]=u1:=by
    obtain⟨_,z⟩:=w0b.mp e1
    simpa using z
   have g2:its'.toArray[j]=u2:=by
    obtain⟨_,z⟩:=w0b.mp e2
    simpa using z
   rw[g1,g2];have hdw:depW w1<=n:=w0r (q62 f1) hd
   have hun:A.in1.units+n<cLine:=by
    have:A.in1.units=A.units+1:=rfl;omega
   refine q8b ru1 (q8a p1) (ih hdw hun p1 p2 ru1 ru2 hb') fun z=>?_
   subst z;have:=ru1.inj ru2;rw[this]at p1;exact q5n I sg w1 p1 p2 hb'
  cases w with
  |tup ws=>
   cases w' with
   |tup ws'=>
    obtain⟨a,xs,rfl,q1,r1⟩:=h;obtain⟨a',xs',rfl,q2,r2⟩:=h';cases r;cases r';obtain⟨its,v1,p1,_⟩:=I.tuple (sg.tup q1);obtain⟨its',v2,p2,_⟩:=I.tuple (sg.tup q2);have e:eqWs ws ws'=some b:=e;have z:=SeqAt.RcAt.tuples (show s.heap.IsTuple a _ from p1) (show s.heap.IsTuple a' _ from p2) (show A.units<cLine by omega) (items (by simp only[depW]at hd;omega) r1 r2 v1 v2 e);have l1:=r1.length;have l2:=r2.length;have m1:=v1.length;have m2:=v2.length;have eb:=(q4d e).2;have n1:its.length=ws.length:=by omega
    have n2:its'.length=ws'.length:=by omega
    rw[eb];simp only[w0e,n1,n2]at z;exact z
   |_=>exact x2d I sg (by omega) (by intro ws';simp) (by intro ws';simp) h h' r r' e
  |lst ws=>
   cases w' with
   |lst ws'=>
    obtain⟨a,xs,rfl,q1,r1⟩:=h;obtain⟨a',xs',rfl,q2,r2⟩:=h';cases r;cases r';obtain⟨its,v1,p1,_⟩:=I.list (sg.seq q1);obtain⟨its',v2,p2,_⟩:=I.list (sg.seq q2);have e:eqWs ws ws'=some b:=e;have l1:=r1.length;have l2:=r2.length;have m1:=v1.length;have m2:=v2.length;have eb:=(q4d e).2;have n1:its.length=ws.length:=by omega
    have n2:its'.length=ws'.length:=by omega
    by_cases hl:ws.length=ws'.length
    ·have z:=SeqAt.RcAt.lists p1.isList p2.isList (by simp only[w0e];omega) (show A.units<cLine by omega) (items (by simp only[depW]at hd;omega) r1 r2 v1 v2 e);rw[eb,hl];simp only[w0e,n1,hl,Nat.min_self,beq_self_eq_true,Bool.and_true]at z |-
     exact z
    ·have z:=SeqAt.RcAt.lists_lengths (A:=A) p1.isList p2.isList (by simp only[w0e,bne_iff_ne];omega) (show A.units<cLine by omega)
     have:b=false:=by
      rw[eb];have:(ws.length==ws'.length)=false:=by simp[hl]
      rw[this,w4b]
     rw[this];exact z
   |_=>exact x2d I sg (by omega) (by intro ws';simp) (by intro ws';simp) h h' r r' e
  |_=>exact x4c I sg (by simp[depW]) (by omega) h h' r r' e
theorem q8c(I:Inv X pins σ H s)(sg:Same G H){b:Bool}(hu:A.units<cLine)(n1:∀ws,w=.tup ws->∀ws',w'≠.tup ws')(n2:∀ws,w=.lst ws->∀ws',w'≠.lst ws')(h:Rep X.K G w v)(h':Rep X.K G w' v')(r:RelV v u)(r':RelV v' u')(e:eqW w w'=some b):SeqAt.RcNeAt A s u u' (!b):=by
 have tl:∀{ws:List W}{v:V}{u:Value},Rep X.K G (.lst ws) v->RelV v u->∃l items,u=.ref l/\s.heap.IsList l items:=fun h r=>by
  obtain⟨a,xs,rfl,q,_⟩:=h;cases r;obtain⟨its,_,p,_⟩:=I.list (sg.seq q);exact⟨a,_,rfl,p.isList⟩
 have tt:∀{ws:List W}{v:V}{u:Value},Rep X.K G (.tup ws) v->RelV v u->∃l items,u=.ref l/\s.heap.IsTuple l items:=fun h r=>by
  obtain⟨a,xs,rfl,q,_⟩:=h;cases r;obtain⟨its,_,p,_⟩:=I.tuple (sg.tup q);exact⟨a,_,rfl,p⟩
 have tn:∀{v:V}{u:Value},Rep X.K G .non v->RelV v u->u=.none:=fun h r=>by cases h;exact r
 have tb:∀{k:Bool}{v:V}{u:Value},Rep X.K G (.bl k) v->RelV v u->u=.bool k:=fun h r=>by cases h;exact r
 have ti:∀{k:Int}{v:V}{u:Value},Rep X.K G (.int k) v->RelV v u->∃t,u=.int k t:=fun h r=>by cases h;exact r
 have ts:∀{k:Str}{v:V}{u:Value},Rep X.K G (.str k) v->RelV v u->∃t,u=.str k t:=fun h r=>by cases h;exact r
 cases w with
 |non=>
  obtain rfl:=tn h r;cases w' with
  |non=>obtain rfl:=tn h' r';cases e;exact .none_none
  |bl k=>obtain rfl:=tb h' r';cases e;exact .none_bool k
  |int k=>obtain⟨t,rfl⟩:=ti h' r';cases e;exact .none_int k t
  |str k=>obtain⟨t,rfl⟩:=ts h' r';cases e;exact .none_str k t
  |tup k=>obtain⟨l,it,rfl,p⟩:=tt h' r';cases e;exact .none_tuple p hu
  |lst k=>obtain⟨l,it,rfl,p⟩:=tl h' r';cases e;exact .none_list p hu
  |exc k=>cases e
  |dic k=>cases e
  |dw _ _ _ _=>cases e
  |fn _ _ _=>cases e
 |bl j=>
  obtain rfl:=tb h r;cases w' with
  |non=>obtain rfl:=tn h' r';cases e;exact .bool_none j
  |bl k=>obtain rfl:=tb h' r';cases e;exact .bool_bool j k
  |int k=>obtain⟨t,rfl⟩:=ti h' r';cases e;exact .bool_int j k t
  |str k=>obtain⟨t,rfl⟩:=ts h' r';cases e;exact .bool_str j k t
  |tup k=>obtain⟨l,it,rfl,p⟩:=tt h' r';cases e;exact .bool_tuple j p hu
  |lst k=>obtain⟨l,it,rfl,p⟩:=tl h' r';cases e;exact .bool_list j p hu
  |exc k=>cases e
  |dic k=>cases e
  |dw _ _ _ _=>cases e
  |fn _ _ _=>cases e
 |int j=>
  obtain⟨t1,rfl⟩:=ti h r;cases w' with
  |non=>obtain rfl:=tn h' r';cases e;exact .int_none j t1
  |bl k=>obtain rfl:=tb h' r';cases e;exact .int_bool j t1 k
  |int k=>obtain⟨t,rfl⟩:=ti h' r';cases e;exact .int_int j t1 k t
  |str k=>obtain⟨t,rfl⟩:=ts h' r';cases e;exact .int_str j t1 k t
  |tup k=>obtain⟨l,it,rfl,p⟩:=tt h' r';cases e;exact .int_tuple j t1 p hu
  |lst k=>obtain⟨l,it,rfl,p⟩:=tl h' r';cases e;exact .int_list j t1 p hu
  |exc k=>cases e
  |dic k=>cases e
  |dw _ _ _ _=>cases e
  |fn _ _ _=>cases e
 |str j=>
  obtain⟨t1,rfl⟩:=ts h r;cases w' with
  |non=>obtain rfl:=tn h' r';cases e;exact .str_none j t1
  |bl k=>obtain rfl:=tb h' r';cases e;exact .str_bool j t1 k
  |int k=>obtain⟨t,rfl⟩:=ti h' r';cases e;exact .str_int j t1 k t
  |str k=>obtain⟨t,rfl⟩:=ts h' r';cases e;exact .str_str j t1 k t
  |tup k=>obtain⟨l,it,rfl,p⟩:=tt h' r';cases e;exact .str_tuple j t1 p hu
  |lst k=>obtain⟨l,it,rfl,p⟩:=tl h' r';cases e;exact .str_list j t1 p hu
  |exc k=>cases e
  |dic k=>cases e
  |dw _ _ _ _=>cases e
  |fn _ _ _=>cases e
 |tup j=>
  obtain⟨l1,it1,rfl,p1⟩:=tt h r;cases w' with
  |non=>obtain rfl:=tn h' r';cases e;exact .tuple_none p1 hu
  |bl k=>obtain rfl:=tb h' r';cases e;exact .tuple_bool k p1 hu
  |int k=>obtain⟨t,rfl⟩:=ti h' r';cases e;exact .tuple_int k t p1 hu
  |str k=>obtain⟨t,rfl⟩:=ts h' r';cases e;exact .tuple_str k t p1 hu
  |tup k=>exact absurd rfl (n1 j rfl k)
  |lst k=>obtain⟨l,it,rfl,p⟩:=tl h' r';cases e;exact .tuple_list p1 p hu
  |exc k=>cases e
  |dic k=>cases e
  |dw _ _ _ _=>cases e
  |fn _ _ _=>cases e
 |lst j=>
  obtain⟨l1,it1,rfl,p1⟩:=tl h r;cases w' with
  |non=>obtain rfl:=tn h' r';cases e;exact .list_none p1 hu
  |bl k=>obtain rfl:=tb h' r';cases e;exact .list_bool k p1 hu
  |int k=>obtain⟨t,rfl⟩:=ti h' r';cases e;exact .list_int k t p1 hu
  |str k=>obtain⟨t,rfl⟩:=ts h' r';cases e;exact .list_str k t p1 hu
  |lst k=>exact absurd rfl (n2 j rfl k)
  |tup k=>obtain⟨l,it,rfl,p⟩:=tt h' r';cases e;exact .list_tuple p1 p hu
  |exc k=>cases e
  |dic k=>cases e
  |dw _ _ _ _=>cases e
  |fn _ _ _=>cases e
 |exc j=>cases w'<;>cases e
 |dic j=>cases w'<;>cases e
 |dw _ _ _ _=>cases w'<;>cases e
 |fn _ _ _=>cases w'<;>cases e
theorem x7c(I:Inv X pins σ H s)(sg:Same G H){b:Bool}(hd:depW w<=0)(hu:A.units<cLine)(h:Rep X.K G w v)(h':Rep X.K G w' v')(r:RelV v u)(r':RelV v' u')(e:eqW w w'=some b):SeqAt.RcNeAt A s u u' (!b):=
 q8c I sg hu (fun ws z=>by subst z;simp[depW]at hd) (fun ws z=>by subst z;simp[depW]at hd) h h' r r' e
theorem x2e(I:Inv X pins σ H s)(sg:Same G H)(hu:A.units+(n+1)<cLine){ws':List W}{xs':List V}{its its':List Value}(hd:depWs ws<=n)(r1:Reps X.K G ws xs)(r2:Reps X.K G ws' xs')(v1:Vals xs its)(v2:Vals xs' its')(he:eqWs ws ws'=some k):
  ∀j (h1:j<its.toArray.size) (h2:j<its'.toArray.size),SeqAt.EqAt A.in1 s its.toArray[j] its'.toArray[j] ((eqW (ws.getD j .non) (ws'.getD j .non)).getD false):=by
 intro j h1 h2;have l1:=r1.length;have l2:=r2.length;have m1:=v1.length;have m2:=v2.length;have i1:j<xs.length:=by rw[m1];simpa using h1
 have i2:j<xs'.length:=by rw[m2];simpa using h2
 obtain⟨u1,e1,ru1⟩:=v1.get (w0d i1);obtain⟨u2,e2,ru2⟩:=v2.get (w0d i2);obtain⟨w1,f1,p1⟩:=r1.getV (w0d i1);obtain⟨w2,f2,p2⟩:=r2.getV (w0d i2);obtain⟨b',hb'⟩:=(q4d he).1 j w1 w2 f1 f2;rw[q7q f1,q7q f2,hb']
 have g1:its.toArray[j]=u1:=by
  obtain⟨_,z⟩:=w0b.mp e1
  simpa using z
 have g2:its'.toArray[j]=u2:=by
  obtain⟨_,z⟩:=w0b.mp e2
  simpa using z
 rw[g1,g2];have hdw:depW w1<=n:=w0r (q62 f1) hd
 have hun:A.in1.units+n<cLine:=by
  have:A.in1.units=A.units+1:=rfl;omega
 refine q8b ru1 (q8a p1) (x5n I sg n hdw hun p1 p2 ru1 ru2 hb') fun z=>?_
 subst z;have:=ru1.inj ru2;rw[this]at p1;exact q5n I sg w1 p1 p2 hb'
theorem y3r(I:Inv X pins σ H s)(sg:Same G H)(n:Nat){b:Bool}(hd:depW w<=n+1)(hu:A.units+(n+1)<cLine)(h:Rep X.K G w v)(h':Rep X.K G w' v')(r:RelV v u)(r':RelV v' u')(e:eqW w w'=some b):SeqAt.RcNeAt A s u u' (!b):=by
 cases w with
 |tup ws=>
  cases w' with
  |tup ws'=>
   obtain⟨a,xs,rfl,q1,r1⟩:=h;obtain⟨a',xs',rfl,q2,r2⟩:=h';cases r;cases r';obtain⟨its,v1,p1,_⟩:=I.tuple (sg.tup q1);obtain⟨its',v2,p2,_⟩:=I.tuple (sg.tup q2);have e:eqWs ws ws'=some b:=e;have z:=SeqAt.RcNeAt.tuples (show s.heap.IsTuple a _ from p1) (show s.heap.IsTuple a' _ from p2) (show A.units<cLine by omega) (x2e I sg hu (by simp only[depW]at hd;omega) r1 r2 v1 v2 e);have l1:=r1.length;have l2:=r2.length;have m1:=v1.length;have m2:=v2.length;have eb:=(q4d e).2;have n1:its.length=ws.length:=by omega
   have n2:its'.length=ws'.length:=by omega
   rw[eb];simp only[w0e,n1,n2]at z;exact z
  |_=>exact q8c I sg (by omega) (by intro ws';simp) (by intro ws';simp) h h' r r' e
 |lst ws=>
  cases w' with
  |lst ws'=>
   obtain⟨a,xs,rfl,q1,r1⟩:=h;obtain⟨a',xs',rfl,q2,r2⟩:=h';cases r;cases r';obtain⟨its,v1,p1,_⟩:=I.list (sg.seq q1);obtain⟨its',v2,p2,_⟩:=I.list (sg.seq q2);have e:eqWs ws ws'=some b:=e;have l1:=r1.length;have l2:=r2.length;have m1:=v1.length;have m2:=v2.length;have eb:=(q4d e).2;have n1:its.length=ws.length:=by omega
   have n2:its'.length=ws'.length:=by omega
   by_cases hl:ws.length=ws'.length
   ·have z:=SeqAt.RcNeAt.lists p1.isList p2.isList (by simp only[w0e];omega) (show A.units<cLine by omega) (x2e I sg hu (by simp only[depW]at hd;omega) r1 r2 v1 v2 e);rw[eb,hl];simp only[w0e,n1,hl,Nat.min_self,beq_self_eq_true,Bool.and_true]at z |-
    exact z
   ·have z:=SeqAt.RcNeAt.lists_lengths (A:=A) p1.isList p2.isList (by simp only[w0e,bne_iff_ne];omega) (show A.units<cLine by omega)
    have:b=false:=by
     rw[eb];have:(ws.length==ws'.length)=false:=by simp[hl]
     rw[this,w4b]
    rw[this];exact z
  |_=>exact q8c I sg (by omega) (by intro ws';simp) (by intro ws';simp) h h' r r' e
 |_=>exact x7c I sg (by simp[depW]) (by omega) h h' r r' e
noncomputable def eq2(x y:W):Option W:=if depW x<=150 then(eqW x y).map .bl else none
def rEqD(K:PySem.W.Frag):R2:=fun x y H Q=>∃G wx wy b,Same G H/\depW wx<=150/\Rep K G wx x/\Rep K G wy y/\eqW wx wy=some b/\Q (.bl b) H
theorem x7d(hu:X.A.units+150<cLine):OpR X (compareOp .Eq) (rEqD X.K):=by
 intro pins s σ H x y v u Q I rx ry h;obtain⟨G,wx,wy,b,sg,hd,hx,hy,e,q⟩:=h;exact x5n I sg 150 hd hu hx hy rx ry e _ _ _ _ ⟨.bl b,H,I,rfl,q⟩
theorem y2r:Op2 K (rEqD K) eq2:=by
 intro G H x y wx wy w Q s px py hf h;unfold eq2 at hf;split at hf
 ·rename_i hd;obtain⟨b,hb,rfl⟩:=w0c.mp hf;exact⟨G,wx,wy,b,s,hd,px,py,hb,h G _ H (.refl s) rfl⟩
 ·cases hf
noncomputable def ne2(x y:W):Option W:=if depW x<=150 then(eqW x y).map fun b=>.bl (!b)else none
def rNeD(K:PySem.W.Frag):R2:=fun x y H Q=>∃G wx wy b,Same G H/\depW wx<=150/\Rep K G wx x/\Rep K G wy y/\eqW wx wy=some b/\Q (.bl (!b)) H
theorem x7e(hu:X.A.units+150<cLine):OpR X (compareOp .NotEq) (rNeD X.K):=by
 intro pins s σ H x y v u Q I rx ry h;obtain⟨G,wx,wy,b,sg,hd,hx,hy,e,q⟩:=h;exact y3r I sg 149 hd hu hx hy rx ry e _ _ _ _ ⟨.bl (!b),H,I,rfl,q⟩
theorem y2s:Op2 K (rNeD K) ne2:=by
 intro G H x y wx wy w Q s px py hf h;unfold ne2 at hf;split at hf
 ·rename_i hd;obtain⟨b,hb,rfl⟩:=w0c.mp hf;exact⟨G,wx,wy,b,s,hd,px,py,hb,h G _ H (.refl s) rfl⟩
 ·cases hf
end
section
variable{a b c e:Expr}{p:Pos}
theorem x2f(ha:DE Z X EE a da)(hb:DE Z X EE b db):DE Z X EE (.BinOp a .Sub b pos) (dOp subW da db):=q80 y69 y7n ha hb
theorem q63(ha:DE Z X EE a da)(hb:DE Z X EE b db):DE Z X EE (.BinOp a .Mult b pos) (dOp mulW da db):=q80 y7a y7o ha hb
theorem q15(ha:DE Z X EE a da)(hb:DE Z X EE b db):DE Z X EE (.BinOp a .FloorDiv b pos) (dOp fdivW da db):=q80 y28 y3p ha hb
theorem q05(ha:DE Z X EE a da)(hb:DE Z X EE b db):DE Z X EE (.BinOp a .Mod b pos) (dOp modW da db):=q80 y7b y7p ha hb
theorem q55(hu:X.A.units+150<cLine)(ha:DE Z X EE a da)(hb:DE Z X EE b db):DE Z X EE (.Compare a [.Eq] [b] pos) (dOp eq2 da db):=x62 (x7d hu) y2r ha hb (nomark _)
theorem y2t(hu:X.A.units+150<cLine)(ha:DE Z X EE a da)(hb:DE Z X EE b db):DE Z X EE (.Compare a [.NotEq] [b] pos) (dOp ne2 da db):=x62 (x7e hu) y2s ha hb (nomark _)
theorem q7r(ha:DE Z X EE a da)(hb:DE Z X EE b db):DT Z X EE (.Compare a [.Lt] [b] pos) (dTest (dOp ltW da db)):=q5i z0b z0e ha hb (nomark _)
theorem x1q(ha:DE Z X EE a da)(hb:DE Z X EE b db):DT Z X EE (.Compare a [.Gt] [b] pos) (dTest (dOp gtW da db)):=q5i z0c z0f ha hb (nomark _)
theorem y2u(ha:DE Z X EE a da)(hb:DE Z X EE b db):DT Z X EE (.Compare a [.GtE] [b] pos) (dTest (dOp geW da db)):=q5i z0d z0g ha hb (nomark _)
theorem q1z(hu:X.A.units+150<cLine)(ha:DE Z X EE a da)(hb:DE Z X EE b db):DT Z X EE (.Compare a [.Eq] [b] pos) (dTest (dOp eq2 da db)):=q5i (x7d hu) y2r ha hb (nomark _)
theorem q3w(hu:X.A.units+150<cLine)(ha:DE Z X EE a da)(hb:DE Z X EE b db):DT Z X EE (.Compare a [.NotEq] [b] pos) (dTest (dOp ne2 da db)):=q5i (x7e hu) y2s ha hb (nomark _)
theorem q0h{k:Nat}(h:Room k A):A.units+150<cLine:=by have:=h.un;omega
noncomputable def cutW(xs:List W)(lo hi:Option Int):List W:=(xs.drop (HT.sIx xs.length 0 lo)).take (HT.sIx xs.length xs.length hi-HT.sIx xs.length 0 lo)
theorem Reps.cut(r:Reps K G ws xs)(lo hi:Option Int):Reps K G (cutW ws lo hi) (cutV xs lo hi):=by
 unfold cutW cutV;rw[r.length];exact(r.drop _).take _
def DO(Z:Zt)(X:Cx)(EE:L2.St->XK)(e:Option Expr)(d:Den (Option Int)):Prop:=PO X e (fun σ H Q=>∃G e,Rel X.K Z G σ H e/\(d e).holds (fun o e'=>∀G' H',Rel X.K Z G' σ H' e'->Same G G'->Q o H') (XH X.K Z EE σ G))
noncomputable def dNoPart:Den (Option Int):=fun e=>.ok none e
noncomputable def dPart(d:Den W):Den (Option Int):=fun e=>(d e).bind fun w e1=>match w with
 |.int i=>.ok (some i) e1
 |_=>.no
theorem PO.mono{e:Option Expr}{t t':TO}(h:PO X e t)(i:∀σ H Q,t' σ H Q->t σ H Q):PO X e t':=fun pins s σ H Q I q=>h pins s σ H Q I (i σ H Q q)
theorem q9s:DO Z X EE none dNoPart:=PO.mono y3b fun σ H Q ⟨G,e,r,h⟩=>h G H r (.refl _)
theorem q9t(h:DE Z X EE e da):DO Z X EE (some e) (dPart da):=by
 refine PO.mono (y3c h) ?_;rintro σ H Q ⟨G,e,rel,h⟩;simp only[dPart,R.holds_bind]at h;refine⟨G,e,rel,h.imp (fun x e1 h G1 v1 H1 r1 s1 p1=>?_) fun _ _ h=>h⟩
 cases x with
 |int i=>cases(show v1=V.int i from p1);exact⟨i,rfl,h G1 H1 r1 s1⟩
 |_=>exact h.elim
noncomputable def slW:W->Option Int->Option Int->Option W
 |.lst ws,lo,hi=>some (.lst (cutW ws lo hi))
 |.tup ws,lo,hi=>if ¬(HT.sIx ws.length 0 lo=0/\HT.sIx ws.length ws.length hi=ws.length)then some (.tup (cutW ws lo hi))else none
 |_,_,_=>none
noncomputable def tyW:W->Value
 |.non=>.type "NoneType"
 |.bl _=>.type "bool"
 |.int _=>.type "int"
 |.str _=>.type "str"
 |.tup _=>.type "tuple"
 |.lst _=>.type "list"
 |.exc c=>c
 |.dic _=>.type "dict"
 |.dw _ _ _ _=>.type "dict"
 |.fn _ _ _=>.type "dict"
noncomputable def isiW(K:PySem.W.Frag)(cv:Value):W->Option W
 |.exc (.ref D)=>if excClsIn K D=true then(kitOne K (.ref D) cv).map .bl else none
 |.exc _=>none
 |.dic _=>none
 |.dw _ _ _ _=>none
 |.fn _ _ _=>none
 |w=>(kitOne K (tyW w) cv).map .bl
theorem y3s{pins:List (Addr×Obj)}{b:Bool}{Q:VK}(I:Inv X pins σ H s)(sg:Same G H)(p:Rep X.K G w v)(r:RelV v u)(h:isiW X.K cv w=some (.bl b))(q:Q (.bl b) H):
  wpAny (model X.prog X.w) X.A (call (.builtin "isinstance") [u,cv]) (EP X pins σ Q) X.xe s:=by
 have fin:∀tk,EP X pins σ Q (.bool b) {s with toks:=tk}:=fun tk=>⟨.bl b,H,I.tok _,rfl,q⟩
 have kit:∀{t:Value},(kitOne X.K t cv).map W.bl=some (.bl b)->kitOne X.K t cv=some b:=fun z=>by
  obtain⟨y,h1,h2⟩:=w0c.mp z;cases h2;exact h1
 cases w with
 |non=>cases p;cases r;exact kia_one PySem.W.kitx_none I.kIn True.intro (kit h) (fun z=>nomatch z) fin
 |bl y=>cases p;cases r;exact kia_one PySem.W.kitx_bool I.kIn True.intro (kit h) (fun z=>nomatch z) fin
 |int y=>cases p;obtain⟨t,rfl⟩:=r;exact kia_one PySem.W.kitx_int I.kIn True.intro (kit h) (fun z=>nomatch z) fin
 |str y=>cases p;obtain⟨t,rfl⟩:=r;exact kia_one PySem.W.kitx_str I.kIn True.intro (kit h) (fun z=>nomatch z) fin
 |tup ws=>
  obtain⟨a,xs,rfl,hq,_⟩:=p;cases r;obtain⟨its,_,⟨o,h1,h2,_⟩,_⟩:=I.tuple (sg.tup hq);exact kia_one PySem.W.kitx_tuple I.kIn ⟨o,h1,h2⟩ (kit h) (fun z=>nomatch z) fin
 |lst ws=>
  obtain⟨a,xs,rfl,hq,_⟩:=p;cases r;obtain⟨its,_,⟨o,n,h1,h2,_⟩,_⟩:=I.list (sg.seq hq);exact kia_one PySem.W.kitx_list I.kIn ⟨o,h1,h2⟩ (kit h) (fun z=>nomatch z) fin
 |dic c=>simp[isiW]at h
 |dw _ _ _ _=>simp[isiW]at h
 |fn _ _ _=>simp[isiW]at h
 |exc c=>
  obtain⟨e,rfl,he⟩:=p;cases r;unfold isiW at h;split at h
  ·rename_i D heq;cases heq;split at h
   ·rename_i hC;obtain⟨⟨o,vs,h1,h2,h3⟩,_⟩:=(show ObjOk X.prog X.w H s.heap e (excO e (.ref D))from I.hok e _ (sg _ _ he));exact kia_one (x9v (ExcCls.of hC)) I.kIn ⟨o,vs,h1,h2,h3⟩ (kit h) (fun z=>nomatch z) fin
   ·cases h
  all_goals first|(cases h;done)|(rename_i h1 h2 h3 h4 h5;exact absurd rfl (h2 c))|(rename_i h1 h2 h3 h4;exact absurd rfl (h2 c))|(rename_i h1 h2 h3;exact absurd rfl (h2 c))|(rename_i h1 h2;exact absurd rfl (h2 c))
noncomputable def dIsi(K:PySem.W.Frag)(cv:Value)(d:Den W):Den W:=fun e=>(d e).bind fun w e1=>match isiW K cv w with
 |some (.bl b)=>.ok (.bl b) e1
 |_=>.no
theorem x7f{c:V}(hc:ClsV c cv):CallR X (.builtin "isinstance") (fun xs H Q=>∃x G w b,xs=[x,c]/\Same G H/\Rep X.K G w x/\isiW X.K cv w=some (.bl b)/\Q (.bl b) H):=by
 intro pins s σ H xs us Q I r h;obtain⟨x,G,w,b,rfl,sg,p,hi,q⟩:=h;obtain⟨u,u2,rfl,rx,rc⟩:=vals2 r
 have ec:u2=cv:=by
  cases c with
  |ty n=>exact(show u2=Value.type n from rc).trans (show cv=Value.type n from hc).symm
  |ref a=>exact(show u2=Value.ref a from rc).trans (show cv=Value.ref a from hc).symm
  |_=>exact hc.elim
 subst ec;exact y3s I sg p rx hi q
theorem q64{c0:V}(hc:ClsV c0 cv)(hcl:PE X c (tC c0))(hm:X.mg "isinstance"=none)(he:DE Z X EE e da)(hg:Gl X "isinstance":=by rfl)(hs:starEach [e,c] X.env=(false,eval e X.env)::starEach [c] X.env:=by rfl)(hs2:starEach [c] X.env=(false,eval c X.env)::starEach [] X.env:=by rfl)(hpl:(backTo pos (starEach [c] X.env)).any (·.1)=false:=by rfl):
  DE Z X EE (.Call (.Name "isinstance" p) [e,c] [] pos) (dIsi X.K cv da):=by
 refine PE.mono (q52 (x7f hc) hg hm PyProof.Rows.Boot.«isinstance» (q3b he (q3b hcl q4j hs2) hs) (by decide) (by decide) hs hpl) ?_;rintro σ H Q ⟨G,e,rel,h⟩;simp only[dIsi,R.holds_bind]at h;refine⟨G,e,rel,h.imp (fun w e1 h G1 v1 H1 r1 s1 p1=>?_) fun _ _ h=>h⟩
 split at h
 ·rename_i b hb;exact⟨v1,G1,w,b,rfl,r1.sub,p1,hb,h G1 _ H1 r1 s1 rfl⟩
 ·exact h.elim
theorem q5o{n:Str}(hv:bootBuiltins n=some (.type T))(hm:X.mg n=none)(hg:Gl X n:=by rfl)(hn:n≠"__name__":=by decide)(hd:(n==("__debug__":Str))=false:=by decide):PE X (.Name n pos) (tC (.ty T)):=y23 (v:=.ty T) hg hm hv rfl hn hd
noncomputable def tup1:List W->Option W
 |[.lst ws]=>some (.tup ws)
 |[.tup ws]=>some (.tup ws)
 |_=>none
theorem y7s:OpN K (fun xs H Q=>∃p ys,xs=[.ref p]/\((SqL K H p ys/\∀l,H l=none->Q (.ref l) (upd H l (.tup ys)))\/(SqT K H p ys/\Q (.ref p) H))) tup1:=by
 intro G H xs ws w Q s pr hf h;unfold tup1 at hf;split at hf
 ·cases hf;obtain⟨x,r,rfl,px,pr⟩:=pr;cases(show r=[]from pr);obtain⟨a,ys,rfl,ha,ra⟩:=px;refine⟨a,ys,rfl,.inl ⟨s.seq ha,fun l hl=>?_⟩⟩
  have g:=Grow.laid s hl (.tup ys);exact h _ _ _ g ⟨l,ys,rfl,SqT.of q0g,Reps.mono g.gg _ ra⟩
 ·cases hf;obtain⟨x,r,rfl,px,pr⟩:=pr;cases(show r=[]from pr);obtain⟨a,ys,rfl,ha,ra⟩:=px;exact⟨a,ys,rfl,.inr ⟨s.tup ha,h G _ H (.refl s) ⟨a,ys,rfl,ha,ra⟩⟩⟩
 ·cases hf
theorem q22(hm:X.mg "tuple"=none)(ha:DA Z X EE [e] dA)(hg:Gl X "tuple":=by rfl)(he:starEach [e] X.env=(false,eval e X.env)::starEach [] X.env:=by rfl)(hpl:(backTo pos (starEach [] X.env)).any (·.1)=false:=by rfl):DE Z X EE (.Call (.Name "tuple" p) [e] [] pos) (dFn tup1 dA):=
 y7l x1e y7s PyProof.Rows.Boot.«tuple» hm ha hg (by decide) (by decide) he hpl
theorem q2i(hm:X.mg "len"=none)(ha:DA Z X EE [e] dA)(hg:Gl X "len":=by rfl)(he:starEach [e] X.env=(false,eval e X.env)::starEach [] X.env:=by rfl)(hpl:(backTo pos (starEach [] X.env)).any (·.1)=false:=by rfl):DE Z X EE (.Call (.Name "len" p) [e] [] pos) (dFn len1 dA):=
 x18 x11 x67 PySem.boot_len hm ha hg (by decide) (by decide) he hpl
theorem q4v(i:Nat)(hm:X.mg "len"=none)(hN:X.N[i]?=some x:=by rfl)(hvis:Vis X.env.scope x:=by walk_at "1")(hd:(x==("__debug__":Str))=false:=by decide)(hcd:(x==("__classdict__":Str))=false:=by decide)
  (hg:Gl X "len":=by rfl)(hs:starEach [.Name x p] X.env=(false,eval (.Name x p) X.env)::starEach [] X.env:=by rfl)(hpl:(backTo pos (starEach [] X.env)).any (·.1)=false:=by rfl):DE Z X EE (.Call (.Name "len" pn) [.Name x p] [] pos) (dFnV i len1):=
 y7q i x11 x67 PySem.boot_len hm hN hvis hd hcd hg (by decide) (by decide) hs hpl
end
section
variable{P:Program}{w:World}{mg:Str->Option Value}{base:Heap}
theorem x7g{F:List W->FR}(hF:∀ws,F ws=.no){vs:List V}{Q:VK}{E:XK}(h:spF K F vs H Q E):False:=by
 obtain⟨G,ws,hn,_⟩:=q61 h;exact hn (hF ws)
noncomputable def spLaw(K:PySem.W.Frag):Sp:=fun vs H Q _=>∃(a:Addr)(ns:List Int),vs=[.ref a]/\SqL K H a (ns.map V.int)/\ns.length<=63/\∀H',Q (.bl true) H'
theorem x0n:∀(ns:List Int),Reps K G (ns.map W.int) (ns.map V.int)
 |[]=>rfl
 |n::ns=>⟨_,_,rfl,rfl,x0n ns⟩
theorem x97{F:List W->FR}(hF:∀ns:List Int,ns.length<=63->F [.lst (ns.map .int)]=.ok (.fr (.bl true))){vs:List V}{Q:VK}{E:XK}(h:spLaw K vs H Q E):spF K F vs H Q E:=by
 obtain⟨a,ns,rfl,hS,hl,q⟩:=h;refine⟨fun b=>if b=a then H a else none,[.lst (ns.map .int)],fun b o z=>?_,⟨.ref a,[],rfl,⟨a,ns.map V.int,rfl,?_,x0n ns⟩,rfl⟩,?_⟩
 ·by_cases hb:b=a
  ·subst hb;simpa using z
  ·simp[hb]at z
 ·rcases hS with(h|⟨o,h⟩)|h
  ·exact .inl (.inl (by simpa using h))
  ·exact .inl (.inr ⟨o,by simpa using h⟩)
  ·exact .inr h
 ·rw[hF ns hl];intro G' H' v g sl;obtain⟨u,h1,h2⟩:=sl;cases h1;cases(show v=V.bl true from h2);exact q H'
theorem y7t{P:Program}{w:World}{e:Value}{s':Shared}(z:CX1 P w [] H s (fun _ _ _=>False) e s'):False:=by
 obtain⟨_,_,_,_,_,_,_,_,_,_,h⟩:=z;exact h
theorem con0{st:Stmt}{ps:List Str}{F:List W->FR}(A:At K mg x st ps)(hF:∀ws,F ws=.no:=by intro _;rfl):Cal P w K mg base 0 x ps (spF K F):=by
 obtain⟨f,fd,F0,m,b⟩:=A.ex;exact⟨f,fd,⟨fun vs H Q E h=>(x7g hF h).elim,fun A outer s H args us vs Q E _ _ _ _ h=>(x7g hF h).elim⟩,m,F0.kp,b⟩
end
section
variable{e:Expr}{d:Den Str}
def DFm(Z:Zt)(X:Cx)(EE:L2.St->XK)(n:Nat)(es:List Expr)(d:Den Str):Prop:=PF X es (fun acc σ H Q=>acc.length+n*1000001<=16777216/\∃G e,Rel X.K Z G σ H e/\(d e).holds (fun y e'=>∀G' H',Rel X.K Z G' σ H' e'->Same G G'->Q (acc++y) H') (XH X.K Z EE σ G))
end
section
variable{β:Type}{c:Prop} [Decidable c]{a:α}{e':List S}{k:α->List S->R β}{ks:α->List S->SR}{x y:R α}{s t:SR}{v:Value}{st:S}
theorem y3t:(R.ok a e).bind k=k a e:=rfl
theorem y3u:(R.ex v e:R α).bind k=.ex v e:=rfl
theorem y3v:(R.no:R α).bind k=.no:=rfl
theorem x98:(if c then x else y).bind k=if c then x.bind k else y.bind k:=by split<;>rfl
theorem y7u:(R.ok a e).stm ks=ks a e:=rfl
theorem y7v:(R.ex v e:R α).stm ks=.ex v e:=rfl
theorem y7w:(R.no:R α).stm ks=.no:=rfl
theorem y3w:(if c then x else y).stm ks=if c then x.stm ks else y.stm ks:=by split<;>rfl
noncomputable def SR.seq:SR->(List S->SR)->SR
 |.nx e,b=>b e
 |r,_=>r
theorem y7x{p:List S->SR}:dSeq p q e=(p e).seq q:=by
 unfold dSeq SR.seq;cases p e<;>rfl
theorem y7y:(SR.nx e).seq q=q e:=rfl
theorem y7z:(SR.rt st e).seq q=.rt st e:=rfl
theorem y70:(SR.ex v e).seq q=.ex v e:=rfl
theorem y71:(SR.bk e).seq q=.bk e:=rfl
theorem y72:(SR.ct e).seq q=.ct e:=rfl
theorem y73:(SR.no).seq q=.no:=rfl
theorem y3x:(if c then s else t).seq q=if c then s.seq q else t.seq q:=by split<;>rfl
theorem z0h:(SR.nx e).fn=.ok (.fr .non):=rfl
theorem z0i:(SR.rt st e).fn=.ok st:=rfl
theorem z0j:(SR.ex v e).fn=.ex v:=rfl
theorem z0k:(SR.no).fn=.no:=rfl
theorem y74:(if c then s else t).fn=if c then s.fn else t.fn:=by split<;>rfl
theorem x5o:ofOpt (some a) e=.ok a e:=rfl
theorem x5p:ofOpt (none:Option α) e=.no:=rfl
theorem x7h{o p:Option α}:ofOpt (if c then o else p) e=if c then ofOpt o e else ofOpt p e:=by split<;>rfl
noncomputable def varS(i:Nat)(e:List S):Option S->R W
 |some (.fr w)=>.ok w e
 |some (.own none ws)=>.ok (.lst ws) (e.set i (.fr (.lst ws)))
 |some (.x k)=>match k.plain with
  |some w=>.ok w e
  |none=>.no
 |_=>.no
theorem y75:dVar i e=varS i e e[i]?:=by
 unfold dVar varS;cases e[i]? with
 |none=>rfl
 |some s=>cases s with
  |own b ws=>cases b<;>rfl
  |_=>rfl
theorem y3y:varS i e (some (.x (.old w)))=.ok w e:=rfl
theorem y3z:varS i e (some (.x (.new w)))=.ok w e:=rfl
theorem y76:varS i e (some (.fr w))=.ok w e:=rfl
theorem y30:varS i e (some (.own none ws))=.ok (.lst ws) (e.set i (.fr (.lst ws))):=rfl
theorem dC_s:dC w e=.ok w e:=rfl
theorem z0l{f:W->W->Option W}:dOp f da db e=(da e).bind fun x e1=>(db e1).bind fun y e2=>ofOpt (f x y) e2:=rfl
theorem z0m{f:W->Option W}:dUn f da e=(da e).bind fun x e1=>ofOpt (f x) e1:=rfl
noncomputable def testW(e:List S):W->R Bool
 |.bl k=>.ok k e
 |_=>.no
theorem y31:dTest da e=(da e).bind fun x e1=>testW e1 x:=rfl
theorem y32{b:Bool}:testW e (.bl b)=.ok b e:=rfl
theorem y77:dTru da e=(da e).bind fun x e1=>ofOpt (truW x) e1:=rfl
theorem y78{p q:Den Bool}:dAnd p q e=(p e).bind fun x e1=>if x=true then q e1 else .ok false e1:=rfl
theorem z0n{p q:Den Bool}:dOr p q e=(p e).bind fun x e1=>if x=true then .ok true e1 else q e1:=rfl
theorem y79{p:Den Bool}:dNot p e=(p e).bind fun x e1=>.ok (!x) e1:=rfl
noncomputable def andK(q:Den W)(e:List S):W->R W
 |.bl true=>q e
 |.bl false=>.ok (.bl false) e
 |_=>.no
theorem y33{p q:Den W}:dAndV p q e=(p e).bind fun x e1=>andK q e1 x:=rfl
theorem y8a{q:Den W}{b:Bool}:andK q e (.bl b)=if b=true then q e else .ok (.bl false) e:=by cases b<;>rfl
noncomputable def orK(q:Den W)(e:List S):W->R W
 |.bl true=>.ok (.bl true) e
 |.bl false=>q e
 |_=>.no
theorem y8b{p q:Den W}:dOrV p q e=(p e).bind fun x e1=>orK q e1 x:=rfl
theorem z0o{q:Den W}{b:Bool}:orK q e (.bl b)=if b=true then .ok (.bl true) e else q e:=by cases b<;>rfl
noncomputable def notK(e:List S):W->R W
 |.bl k=>.ok (.bl (!k)) e
 |_=>.no
theorem y34{p:Den W}:dNotV p e=(p e).bind fun x e1=>notK e1 x:=rfl
theorem y8c{b:Bool}:notK e (.bl b)=.ok (.bl (!b)) e:=rfl
theorem y8d:dNil e=.ok [] e:=rfl
theorem y35{p:Den W}{q:Den (List W)}:dCons p q e=(p e).bind fun x e1=>(q e1).bind fun xs e2=>.ok (x::xs) e2:=rfl
theorem y8e:dTup p e=(p e).bind fun xs e1=>if xs.length<=16777216 then .ok (.tup xs) e1 else .no:=rfl
theorem y8f:dLst p e=(p e).bind fun xs e1=>if xs.length<=16777216 then .ok xs e1 else .no:=rfl
theorem z0p:dFz p e=(p e).bind fun xs e1=>.ok (.lst xs) e1:=rfl
theorem z0q:dFn f p e=(p e).bind fun xs e1=>ofOpt (f xs) e1:=rfl
theorem z0r:dNx e=.nx e:=rfl
theorem y36:dDrop d e=(d e).stm fun _ e'=>.nx e':=rfl
theorem y8g:dRet d e=(d e).stm fun w e'=>.rt (.fr w) e':=rfl
theorem y37{d:Den (List W)}:dRetF d e=(d e).stm fun w e'=>.rt (.own none w) e':=rfl
theorem y8h{p:Den Bool}{q':List S->SR}:dIfS p q q' e=(p e).stm fun x e1=>if x=true then q e1 else q' e1:=rfl
theorem y8i:dSet i d e=(d e).stm fun w e'=>.nx (e'.set i (.fr w)):=rfl
theorem y38{d:Den (List W)}:dSetO i d e=(d e).stm fun w e'=>.nx (e'.set i (.own none w)):=rfl
noncomputable def callR(e:List S):FR->R W
 |.ok (.fr w)=>.ok w e
 |.ok (.own none ws)=>.ok (.lst ws) e
 |.ok (.dic kvs)=>.ok (.dic kvs) e
 |.ok (.thr us ws vs)=>.ok (.tup (us++.lst ws::vs)) e
 |.ok (.x (.new w))=>.ok w e
 |.ok (.x (.tn us wss))=>.ok (.tup (us++[.lst (wss.map .lst)])) e
 |.ex c=>.ex c e
 |_=>.no
theorem x99{vs:List W}:callR e (.ok (.thr us ws vs))=.ok (.tup (us++.lst ws::vs)) e:=rfl
theorem y39{wss:List (List W)}:callR e (.ok (.x (.tn us wss)))=.ok (.tup (us++[.lst (wss.map .lst)])) e:=rfl
theorem y0a:callR e (.ok (.x (.new w)))=.ok w e:=rfl
theorem y0b{kvs:Dd}:callR e (.ok (.dic kvs))=.ok (.dic kvs) e:=rfl
theorem y4a{F:List W->FR}{d:Den (List W)}:dCall F d e=(d e).bind fun ws e1=>callR e1 (F ws):=by
 unfold dCall;congr 1
theorem y4b:callR e (.ok (.fr w))=.ok w e:=rfl
theorem y0c:callR e (.ok (.own none ws))=.ok (.lst ws) e:=rfl
theorem y4c:callR e (.ex v)=.ex v e:=rfl
theorem y4d:callR e .no=.no:=rfl
theorem y0d{f g:FR}:callR e (if c then f else g)=if c then callR e f else callR e g:=by split<;>rfl
noncomputable def callF(e:List S):FR->R (List W)
 |.ok (.own none ws)=>.ok ws e
 |.ex c=>.ex c e
 |_=>.no
theorem x7i:callF e (.ok (.own none ws))=.ok ws e:=rfl
theorem y0e:callF e (.ex v)=.ex v e:=rfl
theorem x7j{f g:FR}:callF e (if c then f else g)=if c then callF e f else callF e g:=by split<;>rfl
noncomputable def forW(i:Nat)(b:List S->SR)(e:List S):Option (List W)->SR
 |some ws=>forD i b ws e
 |none=>.no
theorem y8j{b:List S->SR}:dFor i d b e=(d e).stm fun w e1=>forW i b e1 (seqW w):=by
 unfold dFor;congr 1
theorem y4e{g:List W->Option (List W)}{d:Den (List W)}{b:List S->SR}:dForR i g d b e=(d e).stm fun w e1=>forW i b e1 (g w):=by
 unfold dForR;congr 1
theorem x7k{b:List S->SR}:forW i b e (some ws)=forD i b ws e:=rfl
noncomputable def SR.turn:SR->(List S->SR)->SR
 |.nx e,k=>k e
 |.ct e,k=>k e
 |.bk e,_=>.nx e
 |.rt s e,_=>.rt s e
 |.ex c e,_=>.ex c e
 |.no,_=>.no
theorem y0f{b:List S->SR}:forD i b (w::ws) e=(b (e.set i (.fr w))).turn (forD i b ws):=by
 show(match b (e.set i (.fr w))with|.nx e'=>forD i b ws e'|.ct e'=>forD i b ws e'|.bk e'=>.nx e'|.rt s e'=>.rt s e'|.ex c e'=>.ex c e'|.no=>.no)=_;cases b (e.set i (.fr w))<;>rfl
theorem x4d:(SR.nx e).turn q=q e:=rfl
theorem y4f:(SR.ct e).turn q=q e:=rfl
theorem y4g:(SR.bk e).turn q=.nx e:=rfl
theorem y4h:(SR.rt st e).turn q=.rt st e:=rfl
theorem y4i:(SR.ex v e).turn q=.ex v e:=rfl
theorem y4j:(SR.no).turn q=.no:=rfl
theorem y0g:(if c then s else t).turn q=if c then s.turn q else t.turn q:=by split<;>rfl
theorem y4k{p:Den Bool}{b:List S->SR}:whileD p b (n+1) e=(p e).stm fun x e1=>if x=true then(b e1).turn (whileD p b n)else .nx e1:=by
 show(p e).stm _=_;congr 1;funext x e1
 split
 ·cases b e1<;>rfl
 ·rfl
noncomputable def look1(k:W->R W):Option W->R W
 |none=>.no
 |some w=>k w
theorem y8k:dIxV i d e=look1 (fun _=>(d e).bind fun k e1=>look1 (fun w=>ofOpt (ixW w k) e1) (e1[i]?.bind S.look)) (e[i]?.bind S.look):=by
 unfold dIxV look1;cases e[i]?.bind S.look with
 |none=>rfl
 |some w=>
  dsimp only;try congr 1
theorem x7l{k:W->R W}:look1 k (some w)=k w:=rfl
theorem z0s:S.look (.fr w)=some w:=rfl
theorem y8l:S.look (.x (.old w))=some w:=rfl
theorem y8m:S.look (.x (.new w))=some w:=rfl
theorem y8n:S.look (.x (.acc ws))=some (.lst ws):=rfl
theorem y8o:S.look (.own b ws)=some (.lst ws):=rfl
noncomputable def fnV2(e:List S)(y:Option W):Option S->R W
 |some (.fr _)=>ofOpt y e
 |_=>match y with
  |none=>.no
  |some v=>if scalW v=true then .ok v e else .no
theorem y8p:dFnV i f e=look1 (fun w=>fnV2 e (f [w]) e[i]?) (e[i]?.bind S.look):=by
 unfold dFnV look1;cases q:e[i]? with
 |none=>rfl
 |some s=>
  cases s with
  |no=>rfl
  |dic _=>rfl
  |thr _ _ _=>rfl
  |nest _=>rfl
  |x k=>
   show(match k.look with|none=>R.no|some w=>match f [w]with|none=>R.no|some v=>if scalW v=true then R.ok v e else R.no)=look1 (fun w=>fnV2 e (f [w]) (some (.x k))) k.look
   cases k.look with
   |none=>rfl
   |some w=>
    show(match f [w]with|none=>R.no|some v=>if scalW v=true then R.ok v e else R.no)=fnV2 e (f [w]) (some (.x k));generalize f [w]=y;cases y<;>rfl
  |dw _ _ _=>rfl
  |fr w=>
   show(match f [w]with|none=>R.no|some v=>R.ok v e)=fnV2 e (f [w]) (some (.fr w));generalize f [w]=y;cases y<;>rfl
  |own b ws=>
   show(match f [W.lst ws]with|none=>R.no|some v=>if scalW v=true then R.ok v e else R.no)=fnV2 e (f [W.lst ws]) (some (.own b ws));generalize f [W.lst ws]=y;cases y<;>rfl
theorem y8q{y:Option W}:fnV2 e y (some (.fr w))=ofOpt y e:=rfl
theorem z0t{k:SK}{v:W}:fnV2 e (some v) (some (.x k))=if scalW v=true then .ok v e else .no:=rfl
theorem y4l{v:W}:fnV2 e (some v) (some (.own b ws))=if scalW v=true then .ok v e else .no:=rfl
noncomputable def appK(i:Nat)(e:List S):List W->Option S->SR
 |[w],some (.own b xs)=>if xs.length<16777216 then .nx (e.set i (.own b (xs++[w])))else .no
 |_,_=>.no
noncomputable def ownQ(k:SR):Option S->SR
 |some (.own _ _)=>k
 |_=>.no
theorem y8r{d:Den (List W)}:dApp i d e=ownQ ((d e).stm fun ws e1=>appK i e1 ws e1[i]?) e[i]?:=by
 unfold dApp ownQ;cases e[i]? with
 |none=>rfl
 |some s=>cases s with
  |own b xs=>
   dsimp only;try congr 1
  |_=>rfl
theorem z0u{k:SR}:ownQ k (some (.own b ws))=k:=rfl
theorem z0v{xs:List W}:appK i e [w] (some (.own b xs))=if xs.length<16777216 then .nx (e.set i (.own b (xs++[w])))else .no:=rfl
theorem y0h{C:Addr}{d:Den (List W)}:dRaise C d e=(d e).stm fun ws e1=>if ws.length<=16777216 then .ex (.ref C) e1 else .no:=rfl
theorem x7m:dNoPart e=.ok none e:=rfl
noncomputable def partK(e:List S):W->R (Option Int)
 |.int i=>.ok (some i) e
 |_=>.no
theorem y4m:dPart d e=(d e).bind fun w e1=>partK e1 w:=rfl
theorem y0i{i:Int}:partK e (.int i)=.ok (some i) e:=rfl
noncomputable def isiK(e:List S):Option W->R W
 |some (.bl b)=>.ok (.bl b) e
 |_=>.no
theorem y8s:dIsi K cv d e=(d e).bind fun w e1=>isiK e1 (isiW K cv w):=by
 unfold dIsi;congr 1
theorem y8t{b:Bool}:isiK e (some (.bl b))=.ok (.bl b) e:=rfl
theorem x4e{b:List W}{k:Bool}(h:kitOne K (.type "tuple") cv=some k):isiW K cv (.tup b)=some (.bl k):=by show(kitOne K (.type "tuple") cv).map W.bl=_;rw[h];rfl
theorem q9u{b:List W}{k:Bool}(h:kitOne K (.type "list") cv=some k):isiW K cv (.lst b)=some (.bl k):=by show(kitOne K (.type "list") cv).map W.bl=_;rw[h];rfl
noncomputable def compR(e:List S):Option (List W)->R (List W)
 |some out=>.ok out e
 |none=>.no
theorem y4n:compK js cc d ws e=if ws.length<=16777216 then compR (frzs js e) (compD cc d (pjS js (frzs js e)) ws)else .no:=by
 unfold compK compR;split
 ·cases compD cc d (pjS js (frzs js e)) ws<;>rfl
 ·rfl
noncomputable def compW(js:List Nat)(cc:Den Bool)(d:Den W)(e:List S):Option (List W)->R (List W)
 |some ws=>compK js cc d ws e
 |none=>.no
theorem y4o{di:Den W}:dComp js di cc d e=(di e).bind fun w e1=>compW js cc d e1 (seqW w):=by
 unfold dComp;congr 1
theorem y0j{g:List W->Option (List W)}{di:Den (List W)}:dCompR g js di cc d e=(di e).bind fun w e1=>compW js cc d e1 (g w):=by
 unfold dCompR;congr 1
theorem x5q:compW js cc d e (some ws)=compK js cc d ws e:=rfl
theorem x5r{out:List W}:compR e (some out)=.ok out e:=rfl
theorem y8u:dYes e=.ok true e:=rfl
theorem y0k:frzs [] e=e:=rfl
theorem x7n:frzs (j::js) e=frzs js (frz1 e j):=rfl
theorem y4p:pjS [] e=[]:=rfl
theorem y0l:pjS (j::js) e=pj1 e j::pjS js e:=rfl
theorem q56{g:W->W}:∀(ws:List W),(∀w∈ws,∃e',d (.fr w::pe)=.ok (g w) e')->compD dYes d pe ws=some (ws.map g)
 |[],_=>rfl
 |w::ws,h=>by
  obtain⟨e',he⟩:=h w (by simp);show(match d (.fr w::pe)with|.ok y _=>(compD dYes d pe ws).map (y::·)|_=>none)=_;rw[he,q56 ws fun u hu=>h u (by simp[hu])]
  rfl
theorem q49:compD cc d pe (w::ws)=(match cc (.fr w::pe)with
  |.ok true e1=>(match d e1 with|.ok y _=>(compD cc d pe ws).map (y::·)|_=>none)
  |.ok false _=>compD cc d pe ws
  |_=>none):=rfl
end
section
variable{i j:Int}{b c:Bool}
theorem y8v:addW (.int i) (.int j)=some (.int (i+j)):=rfl
theorem y8w:addW (.str x) (.str y)=if x.length+y.length<=16777216 then some (.str (x++y))else none:=rfl
theorem y8x:addW (.lst ws) (.lst us)=if ws.length+us.length<=16777216 then some (.lst (ws++us))else none:=rfl
theorem y8y:subW (.int i) (.int j)=some (.int (i-j)):=rfl
theorem y8z:mulW (.int i) (.int j)=if(-18446744073709551616<i/\i<18446744073709551616)\/(-18446744073709551616<j/\j<18446744073709551616)then some (.int (i*j))else none:=rfl
theorem y4q:fdivW (.int i) (.int j)=if 0<j/\j<1073741824 then some (.int (i / j))else none:=rfl
theorem y80:modW (.int i) (.int j)=if 0<j then some (.int (i%j))else none:=rfl
theorem z0w:ltW (.int i) (.int j)=some (.bl (decide (i<j))):=rfl
theorem z0x:gtW (.int i) (.int j)=some (.bl (decide (j<i))):=rfl
theorem z0y:geW (.int i) (.int j)=some (.bl (decide (j<=i))):=rfl
theorem z0z:eq2 (.int i) (.int j)=some (.bl (decide (i=j))):=by
 show some (W.bl (i==j))=_;congr 2
theorem z00:eq2 (.str x) (.str y)=some (.bl (decide (x=y))):=by
 show some (W.bl (x==y))=_;congr 2
theorem z01:eq2 (.bl b) (.bl c)=some (.bl (decide (b=c))):=by
 show some (W.bl (b==c))=_;congr 2
theorem z02:ne2 (.int i) (.int j)=some (.bl (!decide (i=j))):=by
 show some (W.bl (!(i==j)))=_;congr 2
theorem z03:ne2 (.str x) (.str y)=some (.bl (!decide (x=y))):=by
 show some (W.bl (!(x==y)))=_;congr 2
theorem z04:ne2 (.bl b) (.bl c)=some (.bl (!decide (b=c))):=by
 show some (W.bl (!(b==c)))=_;congr 2
theorem ix_t:ixW (.tup ws) (.int i)=atI ws i:=rfl
theorem ix_l:ixW (.lst ws) (.int i)=atI ws i:=rfl
theorem z05:len1 [.tup ws]=some (.int ws.length):=rfl
theorem z06:len1 [.lst ws]=some (.int ws.length):=rfl
theorem z07:tup1 [.lst ws]=some (.tup ws):=rfl
theorem z08:tup1 [.tup ws]=some (.tup ws):=rfl
theorem z09:truW (.bl b)=some b:=rfl
theorem z1a:truW (.int i)=some (i != 0):=rfl
theorem z1b:truW .non=some false:=rfl
theorem z1c:truW (.tup ws)=some (!ws.isEmpty):=rfl
theorem z1d:truW (.lst ws)=some (!ws.isEmpty):=rfl
theorem z1e:seqW (.tup ws)=some ws:=rfl
theorem z1f:seqW (.lst ws)=some ws:=rfl
theorem sc_i:scalW (.int i)=true:=rfl
theorem sc_b:scalW (.bl b)=true:=rfl
theorem sc_s:scalW (.str x)=true:=rfl
theorem sc_n:scalW .non=true:=rfl
theorem sl_l{lo hi:Option Int}:slW (.lst ws) lo hi=some (.lst (cutW ws lo hi)):=rfl
theorem at0{xs:List α}:atI xs 0=xs[0]?:=by
 cases xs with
 |nil=>rfl
 |cons a l=>exact q19 (j:=0) rfl
theorem at1{xs:List α}:atI xs 1=xs[1]?:=by
 cases xs with
 |nil=>rfl
 |cons a l=>
  cases l with
  |nil=>rfl
  |cons b l=>exact q19 (j:=1) rfl
theorem at2{xs:List α}:atI xs 2=xs[2]?:=by
 cases xs with
 |nil=>rfl
 |cons a l=>
  cases l with
  |nil=>rfl
  |cons b l=>
   cases l with
   |nil=>rfl
   |cons c l=>exact q19 (j:=2) rfl
theorem y81{xs:List α}{k:Int}(h0:0<=k):atI xs k=xs[k.toNat]?:=by
 unfold atI ixN;rw[if_pos h0]
 by_cases h:k<xs.length
 ·rw[if_pos h];rfl
 ·rw[if_neg h];exact(w1w (by omega)).symm
theorem q65{a b:String}(h:Str.ofString a=Str.ofString b):a=b:=by
 rw[Str.ofString_eq_toList,Str.ofString_eq_toList]at h;have h1:(a.toList.map Char.toNat).toArray=(b.toList.map Char.toNat).toArray:=congrArg Str.cps h;have h2:a.toList.map Char.toNat=b.toList.map Char.toNat:=by simpa using congrArg Array.toList h1
 have h3:a.toList=b.toList:=by
  have inj:∀c d:Char,c.toNat=d.toNat->c=d:=fun c d e=>by
   apply Char.ext;exact UInt32.toNat_inj.mp e
  exact(w4i inj).mp h2
 exact String.toList_inj.mp h3
theorem y82{a b:String}:(Str.ofString a=Str.ofString b)=(a=b):=propext ⟨q65,fun h=>by rw[h]⟩
end
noncomputable def tuprevW:W->Option W
 |.lst ws=>some (.tup ws.reverse)
 |_=>none
noncomputable def max2:List W->Option W
 |[.int i,.int j]=>some (.int (if j>i then j else i))
 |_=>none
theorem x7o:Op1 K (fun x H1 Q=>∃p ys,x=.ref p/\SqL K H1 p ys/\∀l,H1 l=none->Q (.ref l) (upd H1 l (.tup ys.reverse))) tuprevW:=by
 intro G H x wx w Q s px hf h;unfold tuprevW at hf;split at hf
 ·cases hf;obtain⟨a,xs,rfl,ha,ra⟩:=px;refine⟨a,xs,rfl,s.seq ha,fun l hl=>?_⟩
  have g:=Grow.laid s hl (.tup xs.reverse);exact h _ _ _ g ⟨l,_,rfl,SqT.of q0g,Reps.mono g.gg _ ra.reverse⟩
 ·cases hf
theorem y83:OpN K (fun xs H Q=>∃i j,xs=[.int i,.int j]/\Q (.int (if j>i then j else i)) H) max2:=by
 intro G H xs ws w Q s pr hf h;unfold max2 at hf;split at hf
 ·cases hf;obtain⟨x,r,rfl,px,y,r2,rfl,py,pr⟩:=pr;cases(show r2=[]from pr);cases px;cases py;exact⟨_,_,rfl,h G _ H (.refl s) rfl⟩
 ·cases hf
section
variable{a b c e:Expr}{p pos1 pos2:Pos}
theorem x7p(hc:X.calm=true)(hm1:X.mg "tuple"=none)(hm2:X.mg "reversed"=none)(he:DE Z X EE e da)(hg1:Gl X "tuple":=by rfl)(hg2:Gl X "reversed":=by rfl)
  (hs1:starEach [.Call (.Name "reversed" p2) [e] [] pos2] X.env=(false,eval (.Call (.Name "reversed" p2) [e] [] pos2) X.env)::starEach [] X.env:=by rfl)(hs2:starEach [e] X.env=(false,eval e X.env)::starEach [] X.env:=by rfl):
  DE Z X EE (.Call (.Name "tuple" p1) [.Call (.Name "reversed" p2) [e] [] pos2] [] pos1) (dUn tuprevW da):=PE.mono (x6w hc hm1 hm2 he hg1 hg2 hs1 hs2) (y3l x7o)
theorem y4r(hc:X.calm=true)(hm:X.mg "max"=none)(ha:DA Z X EE [a,b] dA)(hg:Gl X "max":=by rfl)(he:starEach [a,b] X.env=(false,eval a X.env)::starEach [b] X.env:=by rfl)(hpl:(backTo pos (starEach [b] X.env)).any (·.1)=false:=by rfl):DE Z X EE (.Call (.Name "max" p) [a,b] [] pos) (dFn max2 dA):=
 x18 (x6p hc) y83 PyProof.Rows.Boot.«max» hm ha hg (by decide) (by decide) he hpl
end
theorem y0m:tuprevW (.lst ws)=some (.tup ws.reverse):=rfl
theorem y84{i j:Int}:max2 [.int i,.int j]=some (.int (if j>i then j else i)):=rfl
theorem cast0:((0:Nat):Int)=0:=rfl
theorem cast1:((1:Nat):Int)=1:=rfl
theorem x7q{b:List S->SR}(I:Nat->List S->Prop):∀(ws:List W)(k:Nat)(e:List S),I k e->(∀(j:Nat)(w:W)(e:List S),ws[j]?=some w->I (k+j) e->∃e',b (e.set i (.fr w))=.nx e'/\I (k+j+1) e')->∃e',forD i b ws e=.nx e'/\I (k+ws.length) e'
 |[],k,e,h0,_=>⟨e,rfl,h0⟩
 |w::ws,k,e,h0,h=>by
  obtain⟨e1,h1,h2⟩:=h 0 w e rfl h0
  obtain⟨e2,h3,h4⟩:=x7q I ws (k+1) e1 h2 fun j u e hu hI=>by
   have z:=h (j+1) u e (by simpa using hu) (by rw[show k+(j+1)=k+1+j by omega];exact hI);rw[show k+(j+1)+1=k+1+j+1 by omega]at z;exact z
  refine⟨e2,?_,?_⟩
  ·rw[y0f,h1,x4d,h3]
  ·rw[w0u,show k+(ws.length+1)=k+1+ws.length by omega];exact h4
theorem len_range{hi:Int}:(rangeW lo hi).length=(hi-lo).toNat:=by simp[rangeW]
theorem x7r{hi:Int}(h:(rangeW lo hi)[j]?=some w):w=.int (lo+j)/\j<(hi-lo).toNat:=by
 unfold rangeW at h;rw[w0g]at h;obtain⟨k,h1,rfl⟩:=w0c.mp h;obtain⟨h2,h3⟩:=w0b.mp h1;simp at h2 h3;subst h3;exact⟨rfl,by omega⟩
theorem q11{b:List S->SR}{hi:Int}(n:Nat)(hn:(hi-lo).toNat=n)(I:Nat->List S->Prop)(e:List S)(h0:I 0 e)(h:∀(j:Nat)(e:List S),j<n->I j e->∃e',b (e.set i (.fr (.int (lo+j))))=.nx e'/\I (j+1) e'):∃e',forD i b (rangeW lo hi) e=.nx e'/\I n e':=by
 obtain⟨e',h1,h2⟩:=x7q (b:=b) (i:=i) I (rangeW lo hi) 0 e h0 fun j w e hw hI=>by
  obtain⟨rfl,hj⟩:=x7r hw;rw[w2k]at hI |-
  exact h j e (by omega) hI
 rw[len_range,hn,w2k]at h2;exact⟨e',h1,h2⟩
noncomputable def dPut(i:Nat)(dv dk:Den W):List S->SR:=fun e=>(dv e).stm fun w e1=>match e1[i]? with
 |some (.own _ _)=>(dk e1).stm fun k e2=>match k,e2[i]? with
  |.int k,some (.own b ws)=>match ixN ws.length k with
   |some j=>.nx (e2.set i (.own b (ws.set j w)))
   |none=>.no
  |_,_=>.no
 |_=>.no
section
variable{e k:Expr}{p tpos:Pos}
theorem x7s(i:Nat)(he:DE Z X EE e d)(hk:DE Z X EE k dk)(hN:X.N[i]?=some x:=by rfl)(hv:Vis X.env.scope x:=by walk_at "1")(hd:(x==("__debug__":Str))=false:=by decide)(hcd:(x==("__classdict__":Str))=false:=by decide)
  (ha:∀v,assign (.Subscript (.Name x p) k tpos) X.env v=(do
   let ov <- holding [v] (eval (.Name x p) X.env)
   let iv <- holding [v,ov] (eval k X.env)
   standAt tpos
   holding [v,ov,iv] (setItem ov iv v)
   release [v,ov,iv] []):=by intro _;rfl)
  (hs:swapsWithSole [.Subscript (.Name x p) k tpos] e pos.line X.env=pure false:=by rfl)(hw:swappedStores [.Subscript (.Name x p) k tpos] e X.env=pure none:=by rfl)
  (h1:(assignEach [.Subscript (.Name x p) k tpos] X.env).map (·.2)=[assign (.Subscript (.Name x p) k tpos) X.env]:=by rfl):
  DS Z X EE (.Assign [.Subscript (.Name x p) k tpos] e pos) (dPut i d dk):=by
 refine PS.mono (x1z he (y67 (pv i hN hv hd hcd) hk x9p ha) hs hw h1) ?_;rintro D σ H ⟨G,e,rel,h⟩;refine⟨G,e,rel,(q0w h).imp (fun w e1 h G1 v1 H1 r1 s1 p1=>?_) fun _ _ h=>h⟩
 split at h
 ·rename_i b0 ws0 he0;obtain⟨a,xs,q1,q2,q3,q4,q5⟩:=r1.own he0;refine⟨.ref a,q1,G1,e1,r1,(q0w (σ:=σ) h).imp (fun kw e2 h G2 v2 H2 r2 s2 p2=>?_) fun _ _ h G' H' r s=>h G' H' r (s1.trans s)⟩
  ·split at h
   ·rename_i kk b ws he2;obtain⟨a',zs,g1,g2,g3,g4,g5⟩:=r2.own he2;rw[q1]at g1;cases g1;cases p2;split at h
    ·rename_i j hj;refine⟨a,zs,_,j,rfl,rfl,g2,by rw[g5.length];exact hj,?_⟩;exact h G2 σ _ (r2.mut he2 q1 (g5.set j (Rep.mono s2 w p1))) (s1.trans s2)
    ·exact h.elim
   ·exact h.elim
 ·exact h.elim
end
def OpM(K:PySem.W.Frag)(r:V->List V->Hp->VK->Prop)(f:W->List W->Option W):Prop:=∀(G H:Hp)(x:V)(xs:List V)(wx:W)(ws:List W)(w:W)(Q:VK),Same G H->Rep K G wx x->Reps K G ws xs->f wx ws=some w->(∀G' v H',Grow G H G' H'->Rep K G' w v->Q v H')->r x xs H Q
noncomputable def kindW(T:String):W->Bool
 |.str _=>T=="str"
 |.lst _=>T=="list"
 |_=>false
noncomputable def dMeth(T:String)(f:W->List W->Option W)(d:Den W)(dA:Den (List W)):Den W:=fun e=>(d e).bind fun x e1=>if kindW T x=true then(dA e1).bind fun ws e2=>ofOpt (f x ws) e2 else .no
section
variable{o e:Expr}{p:Pos}
theorem y4s{id:String}{name:Str}{r:V->List V->Hp->VK->Prop}{f:W->List W->Option W}(pa:PlainAttrs T)(slot:Slot T name id)(hty:typeOf (.builtin id)=pure (.type "method_descriptor"))(hm:MtR X id r)(hf:OpM X.K r f)(ho:DE Z X EE o d)(ha:DA Z X EE (e::es) dA)
  (hbase:attributeBase o name X.env (eval o X.env)=eval o X.env:=by rfl)
  (hfew:((backTo cpos (starEach (e::es) X.env)).all (fun x=>!x.1)&&(backToKw cpos (keywordEach [] X.env)).all (fun x=>x.1.isSome)&&decide ((e::es).length+([]:List Keyword).length+(if([]:List Keyword).isEmpty then 0 else 1)<30))=true:=by rfl)
  (hline:(apos.endLine==cpos.line)=true:=by rfl)(hs:starEach (e::es) X.env=(false,eval e X.env)::starEach es X.env:=by rfl)(hplain:(backTo cpos (starEach es X.env)).any (·.1)=false:=by rfl):
  DE Z X EE (.Call (.Attribute o name apos) (e::es) [] cpos) (dMeth T f d dA):=by
 refine PE.mono (y2o pa slot hty hm ho ha hbase hfew hline hs hplain) ?_;rintro σ H Q ⟨G,e,rel,h⟩;simp only[dMeth,R.holds_bind]at h;refine⟨G,e,rel,h.imp (fun wx e1 h G1 v1 H1 r1 s1 p1=>?_) fun _ _ h=>h⟩
 split at h
 ·rename_i hk;refine⟨?_,G1,e1,r1,(R.holds_bind.mp h).imp (fun ws e2 h G2 vs H2 r2 s2 p2=>?_) fun _ _ h=>XH.trans s1 h⟩
  ·cases wx with
   |str z=>cases p1;exact(by simpa [kindW]using hk:T="str")
   |lst ws=>
    obtain⟨a,xs,rfl,q,_⟩:=p1;exact .inl ⟨by simpa [kindW]using hk,xs,r1.sub.seq q⟩
   |_=>cases hk
  ·obtain⟨w,hw,h⟩:=ofOpt_holds.mp h;exact hf G2 H2 v1 vs wx ws w Q r2.sub (Rep.mono s2 wx p1) p2 hw fun G' v H' g p=>h G' v H' (r2.grow g) ((s1.trans s2).trans g.gg) p
 ·exact h.elim
end
noncomputable def SR.turnT(r:SR)(k:List S->SR):SR:=match r with
 |.nx e'=>k e'
 |.ct e'=>k e'
 |.bk e'=>.nx e'
 |.rt s e'=>.rt s e'
 |.ex c e'=>.ex c e'
 |.no=>.no
structure TabK(P:Program)(w:World)(K:PySem.W.Frag)(d:Addr)(tb:List (Str×Int)):Prop where
 tab:∀h,K.In h->PyProof.Rows.StrTab P w h d (PySem.W.kdpD tb)
 obj:∃o,K.lookup d=some o/\o.cls=.type "dict" /\ o.dict=none
noncomputable def putC(i:Nat)(e:List S)(b:Option Nat)(ws:List W)(w:W):Option Nat->SR
 |some j=>.nx (e.set i (.own b (ws.set j w)))
 |none=>.no
noncomputable def putB(i:Nat)(e:List S)(w:W):W->Option S->SR
 |.int k,some (.own b ws)=>putC i e b ws w (ixN ws.length k)
 |_,_=>.no
noncomputable def putA(i:Nat)(dk:Den W)(w:W)(e:List S):Option S->SR
 |some (.own _ _)=>(dk e).stm fun k e2=>putB i e2 w k e2[i]?
 |_=>.no
theorem y85{dv:Den W}:dPut i dv dk e=(dv e).stm fun w e1=>putA i dk w e1 e1[i]?:=by
 unfold dPut;congr 1
theorem y0n:putA i dk w e (some (.own b ws))=(dk e).stm fun k e2=>putB i e2 w k e2[i]?:=rfl
theorem y0o{k:Int}:putB i e w (.int k) (some (.own b ws))=putC i e b ws w (ixN ws.length k):=rfl
theorem x7t:putC i e b ws w (some j)=.nx (e.set i (.own b (ws.set j w))):=rfl
noncomputable def extB(i:Nat)(e:List S)(b:Option Nat)(xs:List W):Option (List W)->SR
 |some ys=>if xs.length+ys.length<=16777216 then .nx (e.set i (.own b (xs++ys)))else .no
 |none=>.no
theorem x7u{xs ys:List W}:extB i e b xs (some ys)=if xs.length+ys.length<=16777216 then .nx (e.set i (.own b (xs++ys)))else .no:=rfl
theorem y4t{f:W->List W->Option W}:dMeth T f d dA e=(d e).bind fun x e1=>if kindW T x=true then(dA e1).bind fun ws e2=>ofOpt (f x ws) e2 else .no:=rfl
theorem y86{z:Str}:kindW "str" (.str z)=true:=rfl
theorem y87:kindW "list" (.lst ws)=true:=rfl
noncomputable def forP(i j:Nat)(b:List S->SR):List (W×W)->List S->SR
 |[],e=>.nx e
 |p::ps,e=>(b ((e.set i (.fr p.1)).set j (.fr p.2))).turnT (forP i j b ps)
noncomputable def dForP(i j:Nat)(d:Den (List (W×W)))(b:List S->SR):List S->SR:=fun e=>(d e).stm fun ps e1=>forP i j b ps e1
noncomputable def compP(c:Den Bool)(d:Den W)(pe:List S):List (W×W)->Option (List W)
 |[]=>some []
 |p::ps=>match c (.fr p.1::.fr p.2::pe)with
  |.ok true e1=>match d e1 with
   |.ok y _=>(compP c d pe ps).map (y::·)
   |_=>none
  |.ok false _=>compP c d pe ps
  |_=>none
noncomputable def compPK(js:List Nat)(c:Den Bool)(d:Den W)(ps:List (W×W))(e1:List S):R (List W):=
 if ps.length<=16777216 then(match compP c d (pjS js (frzs js e1)) ps with
  |some out=>.ok out (frzs js e1)
  |none=>.no)else .no
noncomputable def dCompP(js:List Nat)(di:Den (List (W×W)))(c:Den Bool)(d:Den W):Den (List W):=fun e=>(di e).bind fun ps e1=>compPK js c d ps e1
structure Walk2(K:PySem.W.Frag)(G1:Hp)(J:It)(ps:List (W×W)):Prop where
 go:∀(i:Nat)(G H:Hp),Same G1 G->Same G H->i<ps.length->J.go i H
 yld:∀(i:Nat)(G H:Hp)(x:V)(H':Hp),Same G1 G->Same G H->J.yld i H x H'->∀u v,ps[i]?=some (u,v) ->
  Grow G H G H'/\∀(m n:Nat)(σ:St)(Q:St->Hp->Prop),(∀y z,Rep K G u y->Rep K G v z->Q ((σ.set m (some y)).set n (some z)) H')->gTup K 2 (gCons (gName m) (gCons (gName n) gNil)) x σ H' Q
 stop:∀(i:Nat)(G H:Hp),Same G1 G->Same G H->ps.length<=i->J.stop i H
def liftI(K:PySem.W.Frag)(Z:Zt)(EE:L2.St->XK)(d:Den (List (W×W))):TI:=fun σ H R=>AtG K Z σ H fun G e=>(d e).holds (fun ps e1=>∀G1 H1 J,Rel K Z G1 σ H1 e1->Same G G1->Walk2 K G1 J ps->R J H1) (XH K Z EE σ G)
def DI(Z:Zt)(X:Cx)(EE:L2.St->XK)(tg iter:Expr)(d:Den (List (W×W))):Prop:=PI X tg iter (liftI X.K Z EE d)
theorem PI.mono{tg iter:Expr}{wi wi':TI}(h:PI X tg iter wi)(m:∀σ H R,wi' σ H R->wi σ H R):PI X tg iter wi':=fun pins s σ H R I q=>h pins s σ H R I (m σ H R q)
theorem x7v{D:Ends}{Pv:St->Hp->Prop}{p:W×W}{x y:V}(r:Rel K Z G' σ H e)(s:Same G1 G')(pu:Rep K G' p.1 x)(pv:Rep K G' p.2 y)
  (h:PostS K Z EE D G1 (forP i j s1 (p::ps) e))(hP:∀G'' σ'' H'' e'',Rel K Z G'' σ'' H'' e''->Same G1 G''->PostS K Z EE D G1 (forP i j s1 ps e'')->Pv σ'' H''):
  liftS K Z EE s1 {D with nx:=Pv,ct:=Pv,bk:=D.nx} ((σ.set i (some x)).set j (some y)) H:=by
 refine⟨G',_,(r.set pu).set pv,?_⟩;unfold forP at h;cases q:s1 ((e.set i (.fr p.1)).set j (.fr p.2))with
 |nx e'=>rw[q]at h;exact fun G'' σ'' H'' r'' s''=>hP G'' σ'' H'' e' r'' (s.trans s'') h
 |ct e'=>rw[q]at h;exact fun G'' σ'' H'' r'' s''=>hP G'' σ'' H'' e' r'' (s.trans s'') h
 |bk e'=>rw[q]at h;exact fun G'' σ'' H'' r'' s''=>h G'' σ'' H'' r'' (s.trans s'')
 |rt t e'=>rw[q]at h;exact fun G'' σ'' v H'' r'' s'' p=>h G'' σ'' v H'' r'' (s.trans s'') p
 |ex c e'=>rw[q]at h;exact fun G'' σ'' H'' r'' s''=>h G'' σ'' H'' r'' (s.trans s'')
 |no=>rw[q]at h;exact h
theorem q82{k:Nat}{p:W×W}(h:ps[k]?=some p):ps.drop k=p::ps.drop (k+1):=by
 obtain⟨h1,h2⟩:=w0b.mp h;rw[w3c h1,h2]
theorem Rel.block2(r:Rel K Z G σ H e)(js:List Nat){u:W}{y x:V}(q:Rep K G u y)(p:Rep K G w x):Rel K ⟨H,G,[]⟩ G (some y::some x::pj js σ) H (.fr u::.fr w::pjS js e):=by
 have b:=r.block js p
 have hfr:∀(i:Nat)(s:S),(S.fr w::pjS js e)[i]?=some s->s=.no\/∃u,s=.fr u:=fun i s h=>by
  cases i with
  |zero=>cases h;exact .inr ⟨w,rfl⟩
  |succ k=>
   rw[w0m]at h;unfold pjS at h;rw[w0g]at h;obtain⟨j,h1,h2⟩:=w0c.mp h;unfold pj1 at h2;split at h2
   ·subst h2;exact .inr ⟨_,rfl⟩
   ·subst h2;exact .inl rfl
 refine⟨b.sub,fun i s h=>?_,?_,fun i j b1 b2 w1 w2 a h1 h2 _ _=>?_,b.ent,b.ion,b.gen⟩
 ·cases i with
  |zero=>cases h;exact⟨y,rfl,q⟩
  |succ i=>
   rw[w0m]at h;have z:=b.slot i s h;rcases hfr i s h with rfl|⟨u',rfl⟩
   ·trivial
   ·obtain⟨v,z1,z2⟩:=b.fr h;exact⟨v,by rw[w0m,z1];rfl,z2⟩
 ·have:=b.len;simp only[w0u]at this |-
  omega
 ·cases i with
  |zero=>cases h1
  |succ i=>
   rw[w0m]at h1;rcases hfr i _ h1 with z|⟨u',z⟩<;>cases z
theorem y0p{J:It}{out:List W}{Q:VK}{G0 H1:Hp}{e1:List S}(W0:Walk2 K G1 J ps)(r1:Rel K Z G1 σ H1 e1)(s1:Same G0 G1)(hl:ps.length<=16777216)
  (hz:∀p,H1 p=none->p∉Z.io)(hc:compP c d (pjS js e1) ps=some out)
  (h:∀G' a xs H',Rel K Z G' σ H' e1->Same G0 G'->H' a=some (.lst xs)->G' a=none->Z.H a=none->Free σ e1 a->Reps K G' out xs->Q (.ref a) H'):
  ∀D,H1 D=none->∃W:Nat->Nat->Hp->Prop,(∃m,W 0 m (upd H1 D (.lst [])))/\∀i m H2,W i m H2 ->
   (J.stop i H2/\Q (.ref D) H2)\/(J.go i H2/\∀x H3,J.yld i H2 x H3->gTup K 2 (gCons (gName 0) (gCons (gName 1) gNil)) x (List.replicate 2 none++pj js σ) H3 fun σ4 H4=>Kp (List.replicate 2 none++pj js σ) σ4/\cT K c σ4 H4 fun b H5=>
    if b=true then cE K d σ4 H5 fun y H6=>∃ys,H6 D=some (.lst ys)/\ys.length<sizeLine/\∃m',m'<m/\W (i+1) m' (upd H6 D (.lst (ys++[y])))else ∃m',m'<m/\W (i+1) m' H5):=by
 intro D hD
 refine⟨fun i m H2=>m=ps.length-i/\i<=ps.length/\∃G2 ys done rest,Rel K Z G2 σ H2 e1/\Same G1 G2/\H2 D=some (.lst ys)/\G2 D=none/\Reps K G2 done ys/\done.length<=i/\compP c d (pjS js e1) (ps.drop i)=some rest/\done++rest=out,
  ⟨ps.length,by omega,w1a _,G1,[],[],out,r1.grow (Grow.hid r1.sub hD _),.refl _,q0g,r1.sub.free hD,rfl,w0f _,hc,rfl⟩,?_⟩
 rintro i m H2 ⟨rfl,hi,G2,ys,done,rest,r2,s2,hd2,hg2,rp2,hdl,hc2,ho⟩;have hfree:Free σ e1 D:=q54 r1 hD;have hzh:Z.H D=none:=q34 r1 hD
 by_cases hlt:i<ps.length
 ·refine .inr ⟨W0.go i G2 H2 s2 r2.sub hlt,fun x H3 hy=>?_⟩
  have hp:ps[i]?=some ((ps[i]).1,(ps[i]).2):=by rw[w0d hlt]
  obtain⟨g3,hgo⟩:=W0.yld i G2 H2 x H3 s2 r2.sub hy _ _ hp;have r2':=r2.grow g3;have hd3:H3 D=some (.lst ys):=g3.hh _ _ hd2;rw[q82 hp]at hc2;refine hgo 0 1 _ _ fun yv zv py pz=>⟨Kp.two,⟨H3,G2,[]⟩,G2,.fr (ps[i]).1::.fr (ps[i]).2::pjS js e1,r2'.block2 js py pz,?_⟩
  unfold compP at hc2;cases qc:c (.fr (ps[i]).1::.fr (ps[i]).2::pjS js e1)with
  |no=>rw[qc]at hc2;cases hc2
  |ex _ _=>rw[qc]at hc2;cases hc2
  |ok k e2=>
   rw[qc]at hc2;intro G3 H5 r3 s3;have g3:=r3.toGrow s3;cases k with
   |false=>
    exact⟨ps.length-(i+1),by omega,rfl,hlt,G3,ys,done,rest,r2'.grow g3,s2.trans s3,g3.hh _ _ hd3,by rw[g3.new D (by rw[hd3];simp)];exact hg2,Reps.mono s3 _ rp2,by omega,hc2,ho⟩
   |true=>
    refine⟨⟨H3,G2,[]⟩,G3,e2,r3,?_⟩;dsimp only at hc2;cases qd:d e2 with
    |no=>rw[qd]at hc2;cases hc2
    |ex _ _=>rw[qd]at hc2;cases hc2
    |ok y e3=>
     rw[qd]at hc2;intro G4 v H6 r4 s4 p4;have g4:=r4.toGrow (s3.trans s4);obtain⟨rest',hr,rfl⟩:=w0c.mp hc2;have hd6:H6 D=some (.lst ys):=g4.hh _ _ hd3;have hg6:G4 D=none:=by rw[g4.new D (by rw[hd3];simp)];exact hg2
     refine⟨ys,hd6,?_,ps.length-(i+1),by omega,rfl,hlt,G4,ys++[v],done++[y],rest',(r2'.grow g4).mutFree hg6 hzh (hz D hD) hfree hd6,s2.trans (s3.trans s4),q0g,hg6,(Reps.mono (s3.trans s4) _ rp2).append (.one p4),by simp;omega,hr,by rw[w1u];exact ho⟩;rw[rp2.length,sizeLine_eq];omega
 ·have:i=ps.length:=by omega
  subst this;rw[w2s]at hc2;cases hc2;rw[w1i]at ho;subst ho;exact .inl ⟨W0.stop _ G2 H2 s2 r2.sub (by omega),h G2 D ys H2 r2 (s1.trans s2) hd2 hg2 hzh hfree rp2⟩
section
variable{elt iter e a:Expr}{body:List Stmt}{ifs:List Expr}{scope sc:Scope}{pt p3:Pos}{Nf N:List Str}{di:Den (List (W×W))}{d0:Den W}
theorem y4u(i j:Nat)(hN:X.N.Nodup)(hp:PassesOwn (model X.prog X.w) X.A X.env X.xe)(hc:X.calm=true)(hl:DI Z X EE (.Tuple [.Name x p1,.Name y p2] kt p3) e di)(hb:DSs Z X EE body s1)
  (hi:X.N[i]?=some x:=by rfl)(hx:Loc X.env.scope x:=by walk_at "3")(hf:X.fn x=true\/X.env.scope.names.lookup x=some .local:=by walk_at "2")
  (hj:X.N[j]?=some y:=by rfl)(hy:Loc X.env.scope y:=by walk_at "3")(hf':X.fn y=true\/X.env.scope.names.lookup y=some .local:=by walk_at "2")
  (hn:(assignEach [.Name x p1,.Name y p2] X.env).length=2:=by rfl)(hst:(assignEach [.Name x p1,.Name y p2] X.env).findIdx? (·.1)=none:=by rfl)
  (g1:(assignEach [.Name x p1,.Name y p2] X.env).map (·.2)=assign (.Name x p1) X.env::(assignEach [.Name y p2] X.env).map (·.2):=by rfl)(g2:(assignEach [.Name y p2] X.env).map (·.2)=assign (.Name y p2) X.env::(assignEach [] X.env).map (·.2):=by rfl)
  (hs:∀x,foldedSetIterable e X.env x=pure x:=by intro _;rfl):
  DS Z X EE (.For (.Tuple [.Name x p1,.Name y p2] kt p3) e body [] pos) (dForP i j di s1):=by
 refine PS.mono (q8s hp hc hl (q8r hc (q3j (q17 i hN hi hx hf) (q3j (q17 j hN hj hy hf') q7o g2) g1) hn hst) hb hs) ?_;rintro D σ H ⟨G,e,rel,h⟩;refine⟨G,e,rel,(q0w h).imp (fun ps e1 h G1 H1 J r1 q1 W0=>?_) fun _ _ h=>h⟩
 have h:=PostS.trans q1 h;refine⟨fun k m σ' H'=>m=ps.length-k/\k<=ps.length/\∃G' e',Rel X.K Z G' σ' H' e'/\Same G1 G'/\PostS X.K Z EE D G1 (forP i j s1 (ps.drop k) e'),⟨ps.length,by omega,w1a _,G1,e1,r1,.refl _,h⟩,?_⟩
 rintro k m σ' H' ⟨rfl,hk,G',e',r',s',h'⟩
 by_cases hlt:k<ps.length
 ·refine .inr ⟨W0.go k G' H' s' r'.sub hlt,fun σ'' H''=>∃G' e',Rel X.K Z G' σ'' H'' e'/\Same G1 G'/\PostS X.K Z EE D G1 (forP i j s1 (ps.drop (k+1)) e'),?_,fun v H2 hy=>?_⟩
  ·rintro σ'' H'' ⟨G'',e'',r'',s'',h''⟩;exact⟨ps.length-(k+1),by omega,rfl,hlt,G'',e'',r'',s'',h''⟩
  ·have hp:ps[k]?=some ((ps[k]).1,(ps[k]).2):=by rw[w0d hlt]
   obtain⟨g3,hgo⟩:=W0.yld k G' H' v H2 s' r'.sub hy _ _ hp;rw[q82 hp]at h';exact hgo i j σ' _ fun y z py pz=>x7v (p:=((ps[k]).1,(ps[k]).2)) (r'.grow g3) s' py pz h' fun G'' σ'' H'' e'' r'' s'' h''=>⟨G'',e'',r'',s'',h''⟩
 ·have:k=ps.length:=by omega
  subst this;rw[w2s]at h';exact .inl ⟨W0.stop _ G' H' s' r'.sub (by omega),h' G' σ' H' r' s'⟩
theorem x5s:∀σ H Q,liftF K Z EE (dCompP js di c d) σ H Q->tComp (liftI K Z EE di) 2 js (gTup K 2 (gCons (gName 0) (gCons (gName 1) gNil))) (cT K c) (cE K d) σ H Q:=by
 rintro σ H Q ⟨G,e,rel,h⟩;simp only[dCompP,R.holds_bind]at h;refine⟨G,e,rel,h.imp (fun ps e1 h G1 H1 J r1 s1 W0=>?_) fun _ _ h=>h⟩
 unfold compPK at h;split at h
 ·rename_i hl;split at h
  ·rename_i out ho;obtain⟨G2,s2,r2⟩:=r1.frzs js;have W1:Walk2 K G2 J ps:=⟨fun i G H a=>W0.go i G H (s2.trans a),fun i G H x H' a=>W0.yld i G H x H' (s2.trans a),fun i G H a=>W0.stop i G H (s2.trans a)⟩
   exact y0p W1 r2 (s1.trans s2) hl (ionone r2) ho h
  ·exact h.elim
 ·exact h.elim
theorem x2g(hc:X.calm=true)(hi:DI Z X EE (.Tuple [.Name x p1,.Name y p2] kt p3) iter di)(ok:compOk sc scope N Nf js=true)
  (ht:∀Z' cl C s₀ H₀ ex,DTs Z' (X.cp ([x,y]++Nf) scope cl C s₀ H₀ ex) (fun _=>E0) ifs c)(he:∀Z' cl C s₀ H₀ ex,DE Z' (X.cp ([x,y]++Nf) scope cl C s₀ H₀ ex) (fun _=>E0) elt d)
  (hg:∀cl C s₀ H₀ ex,PG (X.cp ([x,y]++Nf) scope cl C s₀ H₀ ex) (.Tuple [.Name x p1,.Name y p2] kt p3) (gTup X.K 2 (gCons (gName 0) (gCons (gName 1) gNil))))
  (hsc:X.env.scope=sc:=by rfl)(hN:X.N=N:=by rfl)(hs:∀x,foldedSetIterable iter X.env x=pure x:=by intro _;rfl):
  DF Z X EE (.ListComp elt [⟨.Tuple [.Name x p1,.Name y p2] kt p3,iter,ifs,0⟩] scope pos) (dCompP js di c d):=by
 exact PE.mono (q78 (Nl:=[x,y]) (tc:=cT X.K c) (te:=cE X.K d) hc hi ok hg (x5k ht) (x5l he) hsc hN hs) x5s
noncomputable def pairsW:List W->Option (List (W×W))
 |[]=>some []
 |.tup [u,v]::ws=>(pairsW ws).map ((u,v)::·)
 |_=>none
noncomputable def srcP(d:Den W):Den (List (W×W)):=fun e=>(d e).bind fun w e1=>match seqW w with
 |some ws=>ofOpt (pairsW ws) e1
 |none=>.no
theorem x0o:∀{ws:List W}{ps:List (W×W)},pairsW ws=some ps->ws.length=ps.length/\∀(i:Nat) u v,ps[i]?=some (u,v)->ws[i]?=some (.tup [u,v])
 |[],ps,h=>by cases h;exact⟨rfl,fun i u v z=>by simp at z⟩
 |w::ws,ps,h=>by
  unfold pairsW at h;split at h
  ·rename_i z;cases z
  ·rename_i u v ws' z;cases z;obtain⟨q,hq,rfl⟩:=w0c.mp h;obtain⟨h1,h2⟩:=x0o hq;refine⟨by simp[h1],fun i u' v' z=>?_⟩
   cases i with
   |zero=>simp at z;simp[z.1,z.2]
   |succ i=>simp only[w0m]at z |-;exact h2 i _ _ z
  ·cases h
theorem x0p{J:It}{SQ:Hp->Prop}(W0:Walk J xs SQ)(rp:Reps K G1 ws xs)(hp:pairsW ws=some ps)(hSQ:∀G' H',Same G1 G'->Same G' H'->SQ H'):Walk2 K G1 J ps:=by
 obtain⟨hl,hg⟩:=x0o hp;have hx:=rp.length;refine⟨fun i G H a b h=>W0.go i H (hSQ G H a b) (by omega),fun i G H x H' a b hy u v h=>?_,fun i G H a b h=>W0.stop i H (hSQ G H a b) (by omega)⟩
 have hlt:i<ps.length:=(w0b.mp h).1;obtain⟨rfl,hx'⟩:=W0.yld i H x H' (hSQ G H a b) hy (by omega);refine⟨Grow.refl b,fun m n σ Q hQ=>?_⟩
 obtain⟨w,hw,pw⟩:=rp.getV hx';rw[hg i u v h]at hw;cases hw;have pw:=Rep.mono a _ pw;obtain⟨c,ys,rfl,hq,y1,q1,rfl,p1,y2,q2,rfl,p2,rfl⟩:=pw;exact⟨c,[y1,y2],rfl,b.tup hq,rfl,y1,[y2],rfl,y2,[],rfl,rfl,hQ y1 y2 p1 p2⟩
theorem q8d{tg l:Expr}(hl:DE Z X EE l d0):DI Z X EE tg l (srcP d0):=by
 refine PI.mono (x19 hl) ?_;rintro σ H RR ⟨G,e,rel,h⟩;simp only[srcP,R.holds_bind]at h;refine⟨G,e,rel,h.imp (fun w e1 h G1 v1 H1 r1 s1 p1=>?_) fun _ _ h=>h⟩
 split at h
 ·rename_i ws hw;obtain⟨ps,hp,h⟩:=ofOpt_holds.mp h;cases w with
  |tup us=>
   cases hw;obtain⟨a,xs,rfl,hq,rp⟩:=p1;exact⟨a,rfl,.inr ⟨⟨xs,r1.sub.tup hq⟩,h _ _ _ r1 s1 (x0p x7a rp hp fun G' H' s s'=>Same.tup s' (Same.tup s hq))⟩⟩
  |lst us=>
   cases hw;obtain⟨a,xs,rfl,hq,rp⟩:=p1;exact⟨a,rfl,.inl ⟨⟨xs,r1.sub.seq hq⟩,h _ _ _ r1 s1 (x0p x69 rp hp fun G' H' s s'=>Same.seq s' (Same.seq s hq))⟩⟩
  |_=>cases hw
 ·exact h.elim
end
theorem x7w{p3:Pos}(hN:X.N.Nodup)(hc:X.calm=true)
  (hi:X.N[0]?=some x:=by rfl)(hx:Loc X.env.scope x:=by walk_at "3")(hf:X.fn x=true\/X.env.scope.names.lookup x=some .local:=by walk_at "2")
  (hj:X.N[1]?=some y:=by rfl)(hy:Loc X.env.scope y:=by walk_at "3")(hf':X.fn y=true\/X.env.scope.names.lookup y=some .local:=by walk_at "2")
  (hn:(assignEach [.Name x p1,.Name y p2] X.env).length=2:=by rfl)(hst:(assignEach [.Name x p1,.Name y p2] X.env).findIdx? (·.1)=none:=by rfl)
  (g1:(assignEach [.Name x p1,.Name y p2] X.env).map (·.2)=assign (.Name x p1) X.env::(assignEach [.Name y p2] X.env).map (·.2):=by rfl)(g2:(assignEach [.Name y p2] X.env).map (·.2)=assign (.Name y p2) X.env::(assignEach [] X.env).map (·.2):=by rfl):
  PG X (.Tuple [.Name x p1,.Name y p2] kt p3) (gTup X.K 2 (gCons (gName 0) (gCons (gName 1) gNil))):=
 q8r hc (q3j (q17 0 hN hi hx hf) (q3j (q17 1 hN hj hy hf') q7o g2) g1) hn hst
section
variable{di:Den (List (W×W))}{b:List S->SR}{c:Prop} [Decidable c]{s t:SR}{k:List S->SR}{v:Value}{st:S}
theorem y4v:dForP i j di b e=(di e).stm fun ps e1=>forP i j b ps e1:=rfl
theorem y0q:(SR.nx e).turnT k=k e:=rfl
theorem y0r:(SR.ct e).turnT k=k e:=rfl
theorem y0s:(SR.bk e).turnT k=.nx e:=rfl
theorem y0t:(SR.rt st e).turnT k=.rt st e:=rfl
theorem y0u:(SR.ex v e).turnT k=.ex v e:=rfl
theorem y0v:(SR.no).turnT k=.no:=rfl
theorem x7x:(if c then s else t).turnT k=if c then s.turnT k else t.turnT k:=by split<;>rfl
noncomputable def srcPW(e:List S):Option (List W)->R (List (W×W))
 |some ws=>ofOpt (pairsW ws) e
 |none=>.no
theorem y88:srcP d e=(d e).bind fun w e1=>srcPW e1 (seqW w):=by
 unfold srcP;congr 1
theorem x5t:srcPW e (some ws)=ofOpt (pairsW ws) e:=rfl
theorem y0w:compPK js cc d ps e=if ps.length<=16777216 then compR (frzs js e) (compP cc d (pjS js (frzs js e)) ps)else .no:=by
 unfold compPK compR;split
 ·cases compP cc d (pjS js (frzs js e)) ps<;>rfl
 ·rfl
theorem y0x:dCompP js di cc d e=(di e).bind fun ps e1=>compPK js cc d ps e1:=rfl
theorem x5u{p:W×W}:compP cc d pe (p::ps)=(match cc (.fr p.1::.fr p.2::pe)with
  |.ok true e1=>(match d e1 with|.ok y _=>(compP cc d pe ps).map (y::·)|_=>none)
  |.ok false _=>compP cc d pe ps
  |_=>none):=rfl
theorem q66{cc:Den Bool}{d:Den W}{pe:List S}{q:W×W->Bool}{g:W×W->W}:∀(ps:List (W×W)),(∀p∈ps,∃e1,cc (.fr p.1::.fr p.2::pe)=.ok (q p) e1/\(q p=true->∃e2,d e1=.ok (g p) e2))->compP cc d pe ps=some ((ps.filter q).map g)
 |[],_=>rfl
 |p::ps,h=>by
  obtain⟨e1,h1,h2⟩:=h p (by simp);have ih:=q66 (cc:=cc) (d:=d) (pe:=pe) (q:=q) (g:=g) ps fun u hu=>h u (by simp[hu])
  rw[x5u,h1,ih];cases hq:q p with
  |true=>
   obtain⟨e2,h3⟩:=h2 hq;simp only[hq,h3,List.filter_cons,if_true];rfl
  |false=>simp[hq,List.filter_cons]
end
section
variable{prog:Program}{w:World}{E:Value->Shared->Prop}
structure Apart(z I O i j a b:Addr):Prop where
 Iz:I≠z
 Oz:O≠z
 iz:i≠z
 jz:j≠z
 IO:I≠O
 Ii:I≠i
 Ij:I≠j
 Oi:O≠i
 Oj:O≠j
 ij:i≠j
 az:a≠z
 aO:a≠O
 ai:a≠i
 aj:a≠j
 bz:b≠z
 bO:b≠O
 bi:b≠i
 bj:b≠j
end
noncomputable def dMut0(i:Nat)(f:List W->List W):List S->SR:=fun e=>match e[i]? with
 |some (.own b ws)=>.nx (e.set i (.own b (f ws)))
 |_=>.no
theorem Reps.rev:∀{ws:List W}{xs:List V},Reps K G ws xs->Reps K G ws.reverse xs.reverse
 |[],xs,h=>by cases(show xs=[]from h);exact rfl
 |w::ws,xs,h=>by
  obtain⟨v,vs,rfl,p,r⟩:=h;rw[w1m,w1m];exact(Reps.rev r).append (.one p)
section
variable{p:Pos}
theorem y89(i:Nat)(hN:X.N[i]?=some x:=by rfl)(hv:Vis X.env.scope x:=by walk_at "1")(hd:(x==("__debug__":Str))=false:=by decide)(hcd:(x==("__classdict__":Str))=false:=by decide)
  (hbase:attributeBase (.Name x p) "reverse" X.env (eval (.Name x p) X.env)=eval (.Name x p) X.env:=by rfl)(hline:(apos.endLine==cpos.line)=true:=by rfl)(hsw:swapsWith (.Call (.Attribute (.Name x p) "reverse" apos) [] [] cpos) none pos.line X.env=pure false:=by rfl):
  DS Z X EE (.Expr (.Call (.Attribute (.Name x p) "reverse" apos) [] [] cpos) pos) (dMut0 i List.reverse):=by
 refine PS.mono (q4t (x15 PySem.F.plainAttrs_list PySem.F.slot_list_reverse PySem.F.type_list_reverse x5e (pv i hN hv hd hcd) hbase hline) hsw) ?_;rintro D σ H ⟨G,e,rel,h⟩;unfold dMut0 at h;split at h
 ·rename_i b ws he;obtain⟨a,xs,h1,h2,h3,h4,h5⟩:=rel.own he;refine⟨.ref a,h1,.inl ⟨rfl,xs,SqL.of h2⟩,a,xs,rfl,rfl,h2,?_⟩;exact h G σ _ (rel.mut he h1 (Reps.rev h5)) (.refl _)
 ·exact h.elim
end
section
variable{o e a b c:Expr}{dc:Den W}{p3:Pos}
noncomputable def dSet2(i j:Nat)(d:Den W):List S->SR:=fun e=>(d e).stm fun w e1=>match w with
 |.tup [u,v]=>.nx ((e1.set i (.fr u)).set j (.fr v))
 |_=>.no
theorem y4w(i j:Nat)(hN:X.N.Nodup)(hc:X.calm=true)(he:DE Z X EE e d)
  (hi:X.N[i]?=some x:=by rfl)(hx:Loc X.env.scope x:=by walk_at "3")(hf:X.fn x=true\/X.env.scope.names.lookup x=some .local:=by walk_at "2")
  (hj:X.N[j]?=some y:=by rfl)(hy:Loc X.env.scope y:=by walk_at "3")(hf':X.fn y=true\/X.env.scope.names.lookup y=some .local:=by walk_at "2")
  (hn:(assignEach [.Name x p1,.Name y p2] X.env).length=2:=by rfl)(hst:(assignEach [.Name x p1,.Name y p2] X.env).findIdx? (·.1)=none:=by rfl)
  (g1:(assignEach [.Name x p1,.Name y p2] X.env).map (·.2)=assign (.Name x p1) X.env::(assignEach [.Name y p2] X.env).map (·.2):=by rfl)(g2:(assignEach [.Name y p2] X.env).map (·.2)=assign (.Name y p2) X.env::(assignEach [] X.env).map (·.2):=by rfl)
  (hs:swapsWithSole [.Tuple [.Name x p1,.Name y p2] kt p3] e pos.line X.env=pure false:=by rfl)(hw:swappedStores [.Tuple [.Name x p1,.Name y p2] kt p3] e X.env=pure none:=by rfl)
  (h1:(assignEach [.Tuple [.Name x p1,.Name y p2] kt p3] X.env).map (·.2)=[assign (.Tuple [.Name x p1,.Name y p2] kt p3) X.env]:=by rfl):
  DS Z X EE (.Assign [.Tuple [.Name x p1,.Name y p2] kt p3] e pos) (dSet2 i j d):=by
 refine PS.mono (x1z he (q8r hc (q3j (q17 i hN hi hx hf) (q3j (q17 j hN hj hy hf') q7o g2) g1) hn hst) hs hw h1) ?_;rintro D σ H ⟨G,e,rel,h⟩;refine⟨G,e,rel,(q0w h).imp (fun w e1 h G1 v1 H1 r1 q1 p1=>?_) fun _ _ h=>h⟩
 split at h
 ·rename_i u v;obtain⟨c,ys,rfl,hq,y1,z1,rfl,p1,y2,z2,rfl,p2,rfl⟩:=p1;exact⟨c,[y1,y2],rfl,r1.sub.tup hq,rfl,y1,[y2],rfl,y2,[],rfl,rfl,h G1 _ H1 ((r1.set p1).set p2) q1⟩
 ·exact h.elim
end
noncomputable def mut0K(i:Nat)(f:List W->List W)(e:List S):Option S->SR
 |some (.own b ws)=>.nx (e.set i (.own b (f ws)))
 |_=>.no
theorem y4x{f:List W->List W}:dMut0 i f e=mut0K i f e e[i]?:=by
 unfold dMut0 mut0K;cases e[i]? with
 |none=>rfl
 |some s=>cases s<;>rfl
theorem y0y{f:List W->List W}:mut0K i f e (some (.own b ws))=.nx (e.set i (.own b (f ws))):=rfl
noncomputable def set2K(i j:Nat)(e:List S):W->SR
 |.tup [u,v]=>.nx ((e.set i (.fr u)).set j (.fr v))
 |_=>.no
theorem y4y:dSet2 i j d e=(d e).stm fun w e1=>set2K i j e1 w:=by
 unfold dSet2;congr 1
theorem y9a{u v:W}:set2K i j e (.tup [u,v])=.nx ((e.set i (.fr u)).set j (.fr v)):=rfl
noncomputable def hide1:S->S
 |.own _ ws=>.fr (.lst ws)
 |.dic kvs=>.fr (.dic kvs)
 |.thr us ws vs=>.fr (.tup (us++.lst ws::vs))
 |.nest wss=>.fr (.lst (wss.map W.lst))
 |.x (.old w)=>.fr w
 |.x (.new w)=>.fr w
 |.x (.acc ws)=>.fr (.lst ws)
 |.x (.thro us ws vs)=>.fr (.tup (us++.lst ws::vs))
 |.x (.tn us wss)=>.fr (.tup (us++[.lst (wss.map W.lst)]))
 |.x (.pt _ _ _)=>.no
 |.x (.fz w)=>.fr w
 |.x (.fzo w)=>.fr w
 |.dw sh ks ws=>.fr (.dw false sh ks ws)
 |s=>s
theorem NestIn.reps(sg:Same G G')(hf:∀l o ys,FzAt Z G H l o ys->G' l=some (.frz o (.lst ys))):∀{ls:List Addr}{wss:List (List W)},NestIn K Z G H ls wss->Reps K G' (wss.map W.lst) (ls.map V.ref)
 |[],[],_=>rfl
 |l::ls,ws::wss,⟨⟨o,ys,h1,h4⟩,h⟩=>⟨.ref l,ls.map V.ref,rfl,⟨l,ys,rfl,.inl (.inr ⟨o,hf l o ys h1⟩),Reps.mono sg ws h4⟩,h.reps sg hf⟩
 |[],_::_,h=>h.elim
 |_::_,[],h=>h.elim
noncomputable def hideS(e:List S):List S:=e.map hide1
noncomputable def borrowR(e:List S):R W->R W
 |.ok w _=>if scalW w=true then .ok w e else .no
 |.ex c _=>.ex c e
 |.no=>.no
noncomputable def dBorrow(d:Den W):Den W:=fun e=>borrowR e (d (hideS e))
noncomputable def borrowT(e:List S):R Bool->R Bool
 |.ok b _=>.ok b e
 |.ex c _=>.ex c e
 |.no=>.no
noncomputable def dBorrowT(d:Den Bool):Den Bool:=fun e=>borrowT e (d (hideS e))
theorem Rel.hide(r:Rel K Z G σ H e):Rel K ⟨H,H,[]⟩ H σ H (hideS e):=by
 have g:∀(i:Nat)(s:S),(hideS e)[i]?=some s->∃s0,e[i]?=some s0/\s=hide1 s0:=fun i s h=>by
  unfold hideS at h;rw[w0g]at h;obtain⟨s0,h1,h2⟩:=w0c.mp h;exact⟨s0,h1,h2.symm⟩
 refine⟨.refl _,fun i s h=>?_,by unfold hideS;rw[w0a];exact r.len,fun i j b b' ws ws' a h1 _ _ _=>?_,fun a o h _=>h,(fun a h=>nomatch h),fun a _=>rfl⟩
 ·obtain⟨s0,h0,rfl⟩:=g i s h;have q:=r.slot i s0 h0;cases s0 with
  |no=>trivial
  |fr w=>
   obtain⟨u,q1,q2⟩:=q;exact⟨u,q1,Rep.mono r.sub w q2⟩
  |own b ws=>
   obtain⟨a,xs,q1,q2,q3,q4,q5⟩:=q;exact⟨.ref a,q1,a,xs,rfl,SqL.of q2,Reps.mono r.sub ws q5⟩
  |dic kvs=>
   obtain⟨a,q1,q2,_⟩:=q;exact⟨.ref a,q1,a,rfl,q2⟩
  |thr us ws vs=>
   obtain⟨t,l,o,xs,ys,zs,q1,q2,q3,_,_,q6,q7,q8⟩:=q;exact⟨.ref t,q1,t,_,rfl,SqT.of (r.sub _ _ q2),(Reps.mono r.sub us q6).append ⟨.ref l,zs,rfl,⟨l,ys,rfl,.inl (.inr ⟨o,q3⟩),Reps.mono r.sub ws q7⟩,Reps.mono r.sub vs q8⟩⟩
  |nest wss=>
   obtain⟨a,ls,q1,q2,_,q4⟩:=q;exact⟨.ref a,q1,a,_,rfl,SqL.of (r.sub _ _ q2),q4.reps r.sub fun l o ys z=>z.1⟩
  |x k=>
   cases k with
   |old w=>obtain⟨u,q1,_,q2⟩:=q;exact⟨u,q1,Rep.mono r.sub w q2⟩
   |new w=>obtain⟨u,q1,q2⟩:=q;exact⟨u,q1,Rep.mono r.sub w (RepN.rep w q2)⟩
   |acc ws=>obtain⟨a,o,xs,q1,q2,q3⟩:=q;exact⟨.ref a,q1,a,xs,rfl,.inl (.inr ⟨o,q2.1⟩),Reps.mono r.sub ws (RepNs.reps ws q3)⟩
   |thro us ws vs=>
    obtain⟨t,l,o,xs,ys,zs,q1,_,q2,q3,_,q6,q7,q8⟩:=q;exact⟨.ref t,q1,t,_,rfl,SqT.of (r.sub _ _ q2),(Reps.mono r.sub us q6).append ⟨.ref l,zs,rfl,⟨l,ys,rfl,.inl (.inr ⟨o,q3.1⟩),Reps.mono r.sub ws q7⟩,Reps.mono r.sub vs q8⟩⟩
   |tn us wss=>
    obtain⟨t,l,o,ls,xs,q1,q2,q3,_,q5,q6⟩:=q;exact⟨.ref t,q1,t,_,rfl,SqT.of (r.sub _ _ q2),(Reps.mono r.sub us q5).append ⟨.ref l,[],rfl,⟨l,_,rfl,.inl (.inr ⟨o,q3.1⟩),q6.reps r.sub fun l o ys z=>z.1⟩,rfl⟩⟩
   |pt _ _ _=>trivial
   |fz w=>obtain⟨u,as,q1,_,q3⟩:=q;exact⟨u,q1,RepF.rep r.sub (fun l o ys z=>z.1) w q3⟩
   |fzo w=>obtain⟨u,as,q1,_,_,q3⟩:=q;exact⟨u,q1,RepF.rep r.sub (fun l o ys z=>z.1) w q3⟩
  |dw sh ks ws=>
   obtain⟨a,kvs,kas,q1,q2,_,_,q5,q6,q7⟩:=q;exact⟨.ref a,q1,a,kvs,kas,rfl,q2,q5,q6.mono r.sub,Reps.mono r.sub ws q7.reps⟩
 ·obtain⟨s0,_,h2⟩:=g i _ h1;cases s0 with
  |x k=>cases k<;>cases h2
  |_=>cases h2
theorem Rel.back{G2 H2:Hp}{e2:List S}(r:Rel K Z G σ H e)(r2:Rel K ⟨H,H,[]⟩ G2 σ H2 e2):Rel K Z G σ H2 e:=by
 have hh:Same H H2:=fun a o h=>r2.ent a o h (fun z=>nomatch z)
 exact r.grow ⟨hh,.refl _,fun a o h=>hh a o (r.sub a o h),fun _ _=>rfl⟩
theorem q8e(h:scalW w=true)(p:Rep K G w v):Rep K G' w v:=by
 cases w with
 |non=>exact p
 |bl b=>exact p
 |int b=>exact p
 |str b=>exact p
 |_=>cases h
section
variable{e:Expr}
theorem x7y(he:∀Z',DE Z' X EE e d):DE Z X EE e (dBorrow d):=by
 intro pins s σ H Q I hq;obtain⟨G,e0,rel,h⟩:=hq;refine he ⟨H,H,[]⟩ pins s σ H Q I ⟨H,hideS e0,rel.hide,?_⟩;unfold dBorrow borrowR at h;cases q:d (hideS e0)with
 |ok w e2=>
  rw[q]at h;dsimp only at h;split at h
  ·rename_i hs;intro G2 v H2 r2 s2 p;exact h G v H2 (rel.back r2) (.refl _) (q8e hs p)
  ·exact h.elim
 |ex k e2=>
  rw[q]at h;intro G2 H2 r2 s2;exact h G H2 (rel.back r2) (.refl _)
 |no=>rw[q]at h;exact h.elim
theorem q67(he:∀Z',DT Z' X EE e c):DT Z X EE e (dBorrowT c):=by
 intro pins s σ H Q I hq;obtain⟨G,e0,rel,h⟩:=hq;refine he ⟨H,H,[]⟩ pins s σ H Q I ⟨H,hideS e0,rel.hide,?_⟩;unfold dBorrowT borrowT at h;cases q:c (hideS e0)with
 |ok w e2=>
  rw[q]at h;intro G2 H2 r2 s2;exact h G H2 (rel.back r2) (.refl _)
 |ex k e2=>
  rw[q]at h;intro G2 H2 r2 s2;exact h G H2 (rel.back r2) (.refl _)
 |no=>rw[q]at h;exact h.elim
end
section
variable{e':List S}{v:Value}{s:S}{p:Prop} [Decidable p]
theorem x7z:dBorrow d e=borrowR e (d (hideS e)):=rfl
theorem x5v{d:Den Bool}:dBorrowT d e=borrowT e (d (hideS e)):=rfl
theorem x70:borrowR e (.ok w e')=if scalW w=true then .ok w e else .no:=rfl
theorem x71:borrowR e (.ex v e')=.ex v e:=rfl
theorem x5w:borrowT e (.ok k e')=.ok k e:=rfl
theorem x5x:borrowT e (.ex v e')=.ex v e:=rfl
theorem x5y{x y:R W}:borrowR e (if p then x else y)=if p then borrowR e x else borrowR e y:=by split<;>rfl
theorem x3n{x y:R Bool}:borrowT e (if p then x else y)=if p then borrowT e x else borrowT e y:=by split<;>rfl
theorem y0z:hideS []=[]:=rfl
theorem x72:hideS (s::e)=hide1 s::hideS e:=rfl
theorem y00:hide1 (.own b ws)=.fr (.lst ws):=rfl
theorem y4z:hide1 (.fr w)=.fr w:=rfl
theorem y40:hide1 .no=.no:=rfl
end
end D
namespace L2
open PySem PySem.Spec PyProof.Rows
structure FlyA(outer:List Env)(H H':Hp)(h h':Heap)(e:Addr)(cls:Value)(B:Heap):Prop where
 stay:B.StaysIn h'
 bare:B.get? e=none
 ff:h'.FunFrames B outer
 tr:∃a0 fl,h'.TracedAtW B e cls a0 fl
 old:∀b o,h.get? b=some o->H b=none->b∉frs outer->B.get? b=some o
 trk:∀b u o,H' b=some u->h'.get? b=some o->B.get? b=some o
 all:∀b o,h.get? b=some o->b∈frs outer\/∃o',B.get? b=some o'
 new:h.get? e=none
end L2
namespace D
open PySem L2
variable{e:List S}
noncomputable def compX(c:Den Bool)(d:Den W)(pe:List S):List W->Option (Value ⊕ List W)
 |[]=>some (.inr [])
 |w::ws=>match c (.fr w::pe)with
  |.ok true e1=>match d e1 with
   |.ok y _=>(compX c d pe ws).map (Sum.map id (y::·))
   |.ex k _=>some (.inl k)
   |.no=>none
  |.ok false _=>compX c d pe ws
  |.ex k _=>some (.inl k)
  |.no=>none
noncomputable def compXR(e:List S):Option (Value ⊕ List W)->R (List W)
 |some (.inr out)=>.ok out e
 |some (.inl k)=>.ex k e
 |none=>.no
noncomputable def compKX(js:List Nat)(c:Den Bool)(d:Den W)(ws:List W)(e1:List S):R (List W):=
 if ws.length<=16777216 then compXR (frzs js e1) (compX c d (pjS js (frzs js e1)) ws)else .no
theorem y01{js:List Nat}{cc:Den Bool}{d:Den W}{ws:List W}:compKX js cc d ws e=if ws.length<=16777216 then compXR (frzs js e) (compX cc d (pjS js (frzs js e)) ws)else .no:=rfl
theorem x73{out:List W}:compXR e (some (.inr out))=.ok out e:=rfl
theorem x74{k:Value}:compXR e (some (.inl k))=.ex k e:=rfl
section
variable{X:Cx}{Z:Zt}{EE:L2.St->XK}{elt iter a b:Expr}{ifs:List Expr}{scope sc:Scope}{pos pt:Pos}{x:Str}{Nf N:List Str}{js:List Nat}{di:Den W}{dA:Den (List W)}{c:Den Bool}{d:Den W}
theorem y9b{ws:List W}{P:List W->List S->Prop}{Ex:Value->List S->Prop}{e1:List S}(h:(compKX js c d ws e1).holds P Ex):ws.length<=16777216/\∃out,compX c d (pjS js (frzs js e1)) ws=some out/\Sum.elim (fun k=>Ex k (frzs js e1)) (fun o=>P o (frzs js e1)) out:=by
 unfold compKX at h;split at h
 ·rename_i hl;cases ho:compX c d (pjS js (frzs js e1)) ws with
  |none=>rw[ho]at h;exact h.elim
  |some out=>rw[ho]at h;exact⟨hl,out,rfl,by cases out<;>exact h⟩
 ·exact h.elim
end
end D
namespace L2
open PySem PySem.Spec PyProof.Rows
variable{A:Around}{j:Nat}{prog:Program}{s:Shared}{E:Value->Shared->Prop}{w:World}
theorem q8f{xs:Array Nat}(hs:xs.toList.Pairwise (·<·)):∀(fuel lo hi:Nat),hi-lo<=fuel->lo<=hi->hi<=xs.size ->
  (∀i (_:i<lo) (h:i<xs.size),xs[i]<j)->(∀i (_:hi<=i) (h:i<xs.size),j<=xs[i]) ->
  (∀i (_:i<SetTable.below.go xs j fuel lo hi) (h:i<xs.size),xs[i]<j)/\(∀i (_:SetTable.below.go xs j fuel lo hi<=i) (h:i<xs.size),j<=xs[i])
 |0,lo,hi,hf,h1,h2,a1,a2=>by
  have:lo=hi:=by omega
  subst this;exact⟨a1,a2⟩
 |fuel+1,lo,hi,hf,h1,h2,a1,a2=>by
  have mono:∀i k (hi:i<xs.size) (hk:k<xs.size),i<=k->xs[i]<=xs[k]:=fun i k hi hk hik=>by
   rcases w4j hik with z|z
   ·have:=w3d.mp hs i k (by simpa using hi) (by simpa using hk) z;simp only[w1s]at this;omega
   ·subst z;exact w0f _
  unfold SetTable.below.go;split
  ·rename_i hlt;dsimp only;have hmid:(lo+hi) / 2<xs.size:=by omega
   have hg:xs.getD ((lo+hi) / 2) j=xs[(lo+hi) / 2]:=by simp[Array.getD,hmid]
   rw[hg];split
   ·rename_i hx;exact q8f hs fuel _ hi (by omega) (by omega) h2 (fun i h3 h4=>w4k (mono i _ h4 hmid (by omega)) hx) a2
   ·rename_i hx;exact q8f hs fuel lo _ (by omega) (by omega) (by omega) a1 (fun i h3 h4=>w0r (w4o.mp hx) (mono _ i hmid h4 h3))
  ·rename_i hge;have:lo=hi:=by omega
   subst this;exact⟨a1,a2⟩
theorem y02{xs:Array Nat}{j:Nat}(hs:xs.toList.Pairwise (·<·)):(∀i (_:i<SetTable.below xs j) (h:i<xs.size),xs[i]<j)/\(∀i (_:SetTable.below xs j<=i) (h:i<xs.size),j<=xs[i]):=by
 unfold SetTable.below;exact q8f hs xs.size 0 xs.size (by omega) (by omega) (by omega) (fun i h=>by omega) (fun i h h2=>by omega)
def Rise(t:SetTable):Prop:=t.place.toList.Pairwise (·<·)/\t.dummies=#[]
theorem q57:SetTable.has #[] j=false:=by
 unfold SetTable.has;simp
theorem Rise.put{t:SetTable}(h:Rise t)(hj:t.slot j=.empty):Rise (t.put j).1:=by
 obtain⟨h1,h2⟩:=h;obtain⟨b1,b2⟩:=y02 (j:=j) h1
 have hne:t.place[SetTable.below t.place j]?≠some j:=fun z=>by
  unfold SetTable.slot at hj;simp[z]at hj
 have b3:∀i (_:SetTable.below t.place j<=i) (hi:i<t.place.size),j<t.place[i]:=fun i hi hs=>by
  have q:=b2 i hi hs;rcases w4j q with z|z
  ·exact z
  ·exfalso
   by_cases e:i=SetTable.below t.place j
   ·subst e;exact hne (by rw[w2a hs,<- z])
   ·have hlt:SetTable.below t.place j<i:=by omega
    have q2:=b2 _ (w0f _) (w3y hlt hs);have q3:=w3d.mp h1 _ i (by simpa using w3y hlt hs) (by simpa using hs) hlt;simp only[w1s]at q3;omega
 refine⟨?_,?_⟩
 ·show(SetTable.insertAt t.place (SetTable.below t.place j) j).toList.Pairwise (·<·);rw[SetTable.toList_insertAt,List.pairwise_append];refine⟨h1.sublist (List.take_sublist _ _),List.pairwise_cons.mpr ⟨fun x hx=>?_,h1.sublist (List.drop_sublist _ _)⟩,fun x hx y hy=>?_⟩
  ·obtain⟨i,hi,rfl⟩:=w1j.mp hx;rw[List.getElem_drop,w1s];exact b3 _ (by omega) _
  ·have hxj:x<j:=by
    obtain⟨i,hi,rfl⟩:=w1j.mp hx;rw[List.getElem_take,w1s];rw[w2c]at hi;exact b1 _ (by omega) _
   rcases w0j.mp hy with rfl|hy
   ·exact hxj
   ·obtain⟨i,hi,rfl⟩:=w1j.mp hy;rw[List.getElem_drop,w1s];exact w3y hxj (b3 _ (by omega) _)
 ·show(if SetTable.has t.dummies j=true then _ else t.dummies)=#[];rw[h2,q57];rfl
theorem y41{mask finger moves:Nat}{led plain:Bool}{hs:Array Int}{t:SetTable}{o:Array Nat}(h:SetTable.laid mask finger moves led plain hs=some (t,o)):Rise t/\t.led=led:=by
 unfold SetTable.laid at h;cases q:SetTable.layClean mask hs with
 |none=>rw[q]at h;cases h
 |some owner=>
  rw[q]at h;have h:some _=some _:=h;simp only[Option.some.injEq,Prod.mk.injEq]at h;obtain⟨rfl,_⟩:=h;refine⟨⟨?_,rfl⟩,rfl⟩;simp only[w2w];refine List.Pairwise.map _ (R:=fun(p q:Nat×Nat)=>p.1<q.1) (fun _ _ h=>h) ?_
  refine List.Pairwise.filterMap _ (R:=(·<·)) (fun a b hab c hc d hd=>?_) List.pairwise_lt_range
  obtain⟨_,_,rfl⟩:=w0c.mp hc;obtain⟨_,_,rfl⟩:=w0c.mp hd;exact hab
noncomputable def valI:Value->Int
 |.int n _=>n
 |_=>0
structure SetData(prog:Program)(w:World)(es:Array (Int×Value))(t:SetTable)(S:List Int):Prop where
 el:ElemsOf (intKind prog w) es.toList
 sz:es.size<scanBound
 fit:t.fits es.size=true
 rise:Rise t
 led:t.led=!w.params.followText "set-order"
 whole:∀e∈es.toList,∃n k,e.2=Value.int n k
 perm:(es.toList.map fun e=>valI e.2).Perm S
noncomputable def newO(w:World):Obj:={cls:=.type "set", dict:=none,data:=.set #[] 0 (.fresh 0 0 (!w.params.followText "set-order"))}
theorem y42(v:Value){Q1:Value->Shared->Prop}(h:Q1 (.ref s.heap.objs.size) {s with heap:=s.heap.push (newO w)}):
  codeAny (model prog w) A (.call (.builtin "set.__new__") ⟨[.type "set", v],[]⟩) (wants Q1 E) s:=by
 refine codeAny_of_tree ?_;show wpAny (model prog w) A.in1 (checkBuiltinCall "set.__new__" ⟨[.type "set", v],[]⟩ >>= fun _=>again (.builtin "set.__new__" ⟨[.type "set", v],[]⟩)) _ _ s
 refine wpAny_bind (wpAny_of_eq (PySem.F.newCall_set_1 v) (wpAny_pure ⟨plainId_quiet PySem.F.plain_set_new _,codeAny_builtin PySem.F.entry_set_new ?_⟩));rw[Around.under_plainId PySem.F.plain_set_new _];unfold Builtin.«set.__new__» Builtin.Frozenset.newClass;have hsub:=sub_set_self;obtain⟨hp,g,d,tk,os⟩:=s;dsimp only
 wp_walk
 refine wpAny_askSetting (wpAny_pure ?_);dsimp only;simp only[newObj];exact wpAny_bind (wpAny_alloc (wpAny_pure (wpAny_pure h)))
namespace SI
theorem own:Manifest.owners.lookup (String.ofList ['r','o','t','a','r','e','t','i','_','t','e','s'].reverse)=some Manifest.sig_set_iterator:=by kernel_rfl
theorem next:Slot "set_iterator" "__next__" "set_iterator.__next__":=.of (owner:="set_iterator") (n:="__next__") (by rw[typeLookup_type,builtinLookup_eq_fast];kernel_rfl) (by decide +kernel) (by decide +kernel) (by decide +kernel) (by first|exact .inl (by decide +kernel)|exact .inr (by decide +kernel)) (by rw[isSubtype_type];kernel_rfl)
theorem iter:Slot "set_iterator" "__iter__" "set_iterator.__iter__":=.of (owner:="set_iterator") (n:="__iter__") (by rw[typeLookup_type,builtinLookup_eq_fast];kernel_rfl) (by decide +kernel) (by decide +kernel) (by decide +kernel) (by first|exact .inl (by decide +kernel)|exact .inr (by decide +kernel)) (by rw[isSubtype_type];kernel_rfl)
end SI
open PySem PySem.Spec PyProof.Rows
end L2
namespace D
open PySem L2
variable{X:Cx}{dA:Den (List W)}{a e:Expr}{EE:L2.St->XK}{p pos:Pos}{Z:Zt}
def rCat0(K:PySem.W.Frag):R2:=fun x y H Q=>∃a b ys,x=.ref a/\y=.ref b/\SqT K H a []/\SqT K H b ys/\Q (.ref b) H
open PyProof.Rows in
theorem op_cat0:OpR X (binaryOp .Add) (rCat0 X.K):=by
 intro pins s σ H x y v u Q I rx ry h;obtain⟨a,b,ys,rfl,rfl,ha,hb,q⟩:=h;cases rx;cases ry;obtain⟨its,r1,p1,_⟩:=I.tuple ha;obtain⟨its2,r2,p2,_⟩:=I.tuple hb;cases r1;obtain⟨⟨cls,dd,data,sl⟩,ho,hc,n,hd⟩:=id p1;obtain⟨⟨cls2,dd2,data2,sl2⟩,ho2,hc2,n2,hd2⟩:=id p2;simp only at hc hd hc2 hd2;subst hc hd hc2 hd2;exact concat_meets ⟨_,ho,rfl⟩ ⟨_,ho2,rfl⟩ noFill_tuple_add seq_tuple_add PySem.F.slot_tuple_add PySem.F.entry_tuple_add (PySem.F.args_tuple_add_2 _ _) (tuple_addW0 a b _ _ n n2 dd dd2 sl sl2 rfl) ⟨ho,ho2,.ref b,H,I,rfl,q⟩
noncomputable def addX:W->W->Option W
 |.tup xs,.tup ys=>if xs.length+ys.length<=16777216 then some (.tup (xs++ys))else none
 |x,y=>addW x y
theorem y43{xs ys:List W}:addX (.tup xs) (.tup ys)=if xs.length+ys.length<=16777216 then some (.tup (xs++ys))else none:=rfl
theorem y44{i j:Int}:addX (.int i) (.int j)=some (.int (i+j)):=rfl
theorem y45{xs ys:List W}:addX (.lst xs) (.lst ys)=if xs.length+ys.length<=16777216 then some (.lst (xs++ys))else none:=rfl
theorem y46{x y:Str}:addX (.str x) (.str y)=if x.length+y.length<=16777216 then some (.str (x++y))else none:=rfl
theorem y47{K:PySem.W.Frag}:Op2 K (fun x y H Q=>rCat0 K x y H Q\/(rI0 (fun i j=>.int (i+j)) x y H Q\/((∃i j,x=.str i/\y=.str j/\i.length+j.length<=sizeLine/\Q (.str (i++j)) H)\/(rCatT K x y H Q\/rCatS K x y H Q)))) addX:=by
 intro G H x y wx wy w Q s px py hf h;unfold addX at hf;split at hf
 ·rename_i xs ys;split at hf
  ·rename_i hl
   by_cases h0:xs=[]
   ·subst h0;cases hf;obtain⟨a,vs,rfl,hq,rp⟩:=px;obtain⟨b,us,rfl,hq2,rp2⟩:=py;cases(show vs=[]from rp);exact .inl ⟨a,b,us,rfl,rfl,s.tup hq,s.tup hq2,h G _ H (.refl s) ⟨b,us,rfl,hq2,rp2⟩⟩
   ·exact .inr (x66 G H x y (.tup xs) (.tup ys) w Q s px py (by show(if xs≠[]/\xs.length+ys.length<=16777216 then some (W.tup (xs++ys))else none)=some w;rw[if_pos ⟨h0,hl⟩];exact hf) h)
  ·cases hf
 ·exact .inr (x66 G H x y _ _ w Q s px py hf h)
section
variable{b:Expr}{da db:Den W}
theorem q1l(ha:DE Z X EE a da)(hb:DE Z X EE b db):DE Z X EE (.BinOp a .Add b pos) (dOp addX da db):=q80 (op_cat0.or (op_add.or (op_add_str.or (op_catT.or y3o)))) y47 ha hb
end
mutual
noncomputable def toD:W->Option PyData
 |.non=>some .none
 |.bl b=>some (.bool b)
 |.int i=>some (.int i)
 |.str x=>some (.str x)
 |.tup ws=>(toDs ws).map .tuple
 |.lst ws=>(toDs ws).map .list
 |.exc _=>none
 |.dic _=>none
 |.dw _ _ _ _=>none
 |.fn _ _ _=>none
noncomputable def toDs:List W->Option (List PyData)
 |[]=>some []
 |w::ws=>match toD w,toDs ws with
  |some d,some ds=>some (d::ds)
  |_,_=>none
end
section
variable{pins:List (Addr×Obj)}{σ:St}{H G:Hp}{s:Shared}
mutual
theorem x0q(I:Inv X pins σ H s)(sg:Same G H):∀(w:W){v:V}{u:Value}{d:PyData},Rep X.K G w v->RelV v u->toD w=some d->∃as,Reads s.heap u d as
 |.non,v,u,d,p,r,h=>by
  cases(show v=.non from p);cases(show u=Value.none from r);cases h;exact⟨_,.none⟩
 |.bl b,v,u,d,p,r,h=>by
  cases(show v=.bl b from p);cases(show u=Value.bool b from r);cases h;exact⟨_,.bool b⟩
 |.int i,v,u,d,p,r,h=>by
  cases(show v=.int i from p);obtain⟨t,rfl⟩:=(show ∃t,u=Value.int i t from r);cases h;exact⟨_,.int i t⟩
 |.str x,v,u,d,p,r,h=>by
  cases(show v=.str x from p);obtain⟨t,rfl⟩:=(show ∃t,u=Value.str x t from r);cases h;exact⟨_,.str x t⟩
 |.tup ws,v,u,d,p,r,h=>by
  obtain⟨a,xs,rfl,hq,rp⟩:=p;cases(show u=Value.ref a from r);obtain⟨ds,h1,rfl⟩:=w0c.mp (show(toDs ws).map PyData.tuple=some d from h);obtain⟨its,rv,⟨o,ho,hc,n,hd⟩,_⟩:=I.tuple (sg.tup hq);obtain⟨as,ra⟩:=q58 I sg ws rp rv h1;exact⟨_,.tuple ho hc hd (by simpa using ra)⟩
 |.lst ws,v,u,d,p,r,h=>by
  obtain⟨a,xs,rfl,hq,rp⟩:=p;cases(show u=Value.ref a from r);obtain⟨ds,h1,rfl⟩:=w0c.mp (show(toDs ws).map PyData.list=some d from h);obtain⟨its,rv,pl,_⟩:=I.list (sg.seq hq);obtain⟨o,ho,hc,n,hd⟩:=pl.isList;obtain⟨as,ra⟩:=q58 I sg ws rp rv h1;exact⟨_,.list ho hc hd (by simpa using ra)⟩
 |.exc c,v,u,d,p,r,h=>by cases h
 |.dic c,v,u,d,p,r,h=>by cases h
 |.dw _ _ _ _,v,u,d,p,r,h=>by cases h
 |.fn _ _ _,v,u,d,p,r,h=>by cases h
theorem q58(I:Inv X pins σ H s)(sg:Same G H):∀(ws:List W){xs:List V}{its:List Value}{ds:List PyData},Reps X.K G ws xs->Vals xs its->toDs ws=some ds->∃as,ReadsAll s.heap its ds as
 |[],xs,its,ds,p,r,h=>by
  cases(show xs=[]from p);cases r;cases h;exact⟨_,.nil⟩
 |w::ws,xs,its,ds,p,r,h=>by
  obtain⟨x,xr,rfl,p1,p2⟩:=p;cases r with
  |cons r1 r2=>
   unfold toDs at h;split at h
   ·rename_i d0 ds0 h1 h2;cases h;obtain⟨as,q1⟩:=x0q I sg w p1 r1 h1;obtain⟨bs,q2⟩:=q58 I sg ws p2 r2 h2;exact⟨_,.cons q1 q2⟩
   ·cases h
end
end
theorem noDicts:∀(w:W){d:PyData},toD w=some d->d.hasDict=false
 |.non,d,h=>by cases h;rfl
 |.bl b,d,h=>by cases h;rfl
 |.int i,d,h=>by cases h;rfl
 |.str x,d,h=>by cases h;rfl
 |.tup ws,d,h=>by
  obtain⟨ds,h1,rfl⟩:=w0c.mp (show(toDs ws).map PyData.tuple=some d from h);exact go ws h1
 |.lst ws,d,h=>by
  obtain⟨ds,h1,rfl⟩:=w0c.mp (show(toDs ws).map PyData.list=some d from h);exact go ws h1
 |.exc c,d,h=>by cases h
 |.dic c,d,h=>by cases h
 |.dw _ _ _ _,d,h=>by cases h
 |.fn _ _ _,d,h=>by cases h
where
 go:∀(ws:List W){ds:List PyData},toDs ws=some ds->PyData.hasDictAll ds=false
 |[],ds,h=>by cases h;rfl
 |w::ws,ds,h=>by
  unfold toDs at h;split at h
  ·rename_i d0 ds0 h1 h2;cases h;show(PyData.hasDict d0||PyData.hasDictAll ds0)=false;rw[noDicts w h1,go ws h2];rfl
  ·cases h
theorem x5z(hu:X.A.units+150<cLine)(hg:X.A.guards=some []):CallR X (.builtin "repr") (fun xs H Q=>∃x w d G,xs=[x]/\Same G H/\Rep X.K G w x/\(∃a,x=.ref a)/\toD w=some d/\d.showable=true/\d.depth<=100/\d.shown.length<=sizeLine/\Q (.str d.shown) H):=by
 intro pins s σ H xs us Q I r h;obtain⟨x,w,d,G,rfl,sg,p,⟨a,rfl⟩,hd,h1,h2,h3,q⟩:=h;obtain⟨u,rfl,rx⟩:=vals1 r;obtain⟨as,rr⟩:=x0q I sg w p rx hd;cases(show u=Value.ref a from rx);refine repr_of_reads' rr h1 (PyData.noDict_hsm (noDicts w hd)) hg (by omega) (fun _ _ e=>e) (fun h' u' tk hk=>?_) h3
 exact⟨.str d.shown,H,I.kept (t':=tk) hk,⟨u',rfl⟩,q⟩
noncomputable def repr1:List W->Option W
 |[.tup ws]=>(toD (.tup ws)).bind fun d=>if d.showable=true/\d.depth<=100/\d.shown.length<=16777216 then some (.str d.shown)else none
 |[.lst ws]=>(toD (.lst ws)).bind fun d=>if d.showable=true/\d.depth<=100/\d.shown.length<=16777216 then some (.str d.shown)else none
 |_=>none
theorem y48{K:PySem.W.Frag}:OpN K (fun xs H Q=>∃x w d G,xs=[x]/\Same G H/\Rep K G w x/\(∃a,x=.ref a)/\toD w=some d/\d.showable=true/\d.depth<=100/\d.shown.length<=sizeLine/\Q (.str d.shown) H) repr1:=by
 intro G H xs ws w Q s pr hf h;unfold repr1 at hf;split at hf
 ·obtain⟨x,r,rfl,px,pr⟩:=pr;cases(show r=[]from pr);obtain⟨d,hd,hf⟩:=w2b.mp hf;split at hf
  ·rename_i hc;cases hf;exact⟨x,_,d,G,rfl,s,px,(by obtain⟨a,_,e,_⟩:=px;exact⟨a,e⟩),hd,hc.1,hc.2.1,by rw[sizeLine_eq];exact hc.2.2,h G _ H (.refl s) rfl⟩
  ·cases hf
 ·obtain⟨x,r,rfl,px,pr⟩:=pr;cases(show r=[]from pr);obtain⟨d,hd,hf⟩:=w2b.mp hf;split at hf
  ·rename_i hc;cases hf;exact⟨x,_,d,G,rfl,s,px,(by obtain⟨a,_,e,_⟩:=px;exact⟨a,e⟩),hd,hc.1,hc.2.1,by rw[sizeLine_eq];exact hc.2.2,h G _ H (.refl s) rfl⟩
  ·cases hf
 ·cases hf
theorem q3x(hu:X.A.units+150<cLine)(hgd:X.A.guards=some [])(hm:X.mg "repr"=none)(ha:DA Z X EE [e] dA)(hg:Gl X "repr":=by rfl)(he:starEach [e] X.env=(false,eval e X.env)::starEach [] X.env:=by rfl)(hpl:(backTo pos (starEach [] X.env)).any (·.1)=false:=by rfl):DE Z X EE (.Call (.Name "repr" p) [e] [] pos) (dFn repr1 dA):=
 x18 (x5z hu hgd) y48 PyProof.Rows.Boot.«repr» hm ha hg (by decide) (by decide) he hpl
mutual
noncomputable def plainW:W->Bool
 |.non=>true
 |.bl _=>true
 |.int i=>decide (0<=i/\i<512)
 |.tup ws=>plainWs ws
 |.lst ws=>plainWs ws
 |_=>false
noncomputable def plainWs:List W->Bool
 |[]=>true
 |w::ws=>plainW w&&plainWs ws
end
mutual
noncomputable def wgt:W->Nat
 |.int i=>(PyData.int i).weight
 |.tup ws=>wgts ws
 |.lst ws=>wgts ws
 |_=>0
noncomputable def wgts:List W->Nat
 |[]=>0
 |w::ws=>wgt w+1+wgts ws
end
theorem x75:∀n:Fin 32,(PyData.int ((n.val:Nat):Int)).weight<=8:=by decide +kernel
theorem q5p{n:Nat}(h:n<32):wgt (.int (n:Int))<=8:=x75 ⟨n,h⟩
theorem x50:∀n:Fin 512,(PyData.int ((n.val:Nat):Int)).weight<=16:=by decide +kernel
theorem y03{n:Nat}(h:n<512):wgt (.int (n:Int))<=16:=x50 ⟨n,h⟩
theorem x0r:∀n:Fin 512,PyData.showable (.int ((n.val:Nat):Int))=true/\PyData.leavesShort 8 (.int ((n.val:Nat):Int))=true:=by decide +kernel
mutual
theorem x2h:∀(w:W),plainW w=true->∃d,toD w=some d/\d.showable=true/\d.leavesShort 8=true/\d.depth=depW w/\d.weight=wgt w
 |.non,_=>⟨.none,rfl,rfl,rfl,rfl,rfl⟩
 |.bl b,_=>⟨.bool b,rfl,rfl,rfl,rfl,rfl⟩
 |.tup ws,h=>by
  obtain⟨ds,h1,h2,h3,h4,h5⟩:=q59 ws h;exact⟨.tuple ds,by show(toDs ws).map _=_;rw[h1];rfl,h2,h3,by show PyData.depthAll ds+1=_;rw[h4];rfl,by show PyData.weightAll ds=_;rw[h5];rfl⟩
 |.lst ws,h=>by
  obtain⟨ds,h1,h2,h3,h4,h5⟩:=q59 ws h;exact⟨.list ds,by show(toDs ws).map _=_;rw[h1];rfl,h2,h3,by show PyData.depthAll ds+1=_;rw[h4];rfl,by show PyData.weightAll ds=_;rw[h5];rfl⟩
 |.int i,h=>by
  have h:decide (0<=i/\i<512)=true:=h;have h:=of_decide_eq_true h;obtain⟨n,rfl⟩:∃n:Fin 512,i=((n.val:Nat):Int):=⟨⟨i.toNat,by omega⟩,by simp;omega⟩;exact⟨.int _,rfl,(x0r n).1,(x0r n).2,rfl,rfl⟩
 |.str i,h=>by cases h
 |.exc i,h=>by cases h
 |.dic i,h=>by cases h
 |.dw _ _ _ _,h=>by cases h
 |.fn _ _ _,h=>by cases h
theorem q59:∀(ws:List W),plainWs ws=true->∃ds,toDs ws=some ds/\PyData.showableAll ds=true/\PyData.leavesShortAll 8 ds=true/\PyData.depthAll ds=depWs ws/\PyData.weightAll ds=wgts ws
 |[],_=>⟨[],rfl,rfl,rfl,rfl,rfl⟩
 |w::ws,h=>by
  have h:(plainW w&&plainWs ws)=true:=h;rw[w1b]at h;obtain⟨d,d1,d2,d3,d4,d5⟩:=x2h w h.1;obtain⟨ds,h1,h2,h3,h4,h5⟩:=q59 ws h.2;refine⟨d::ds,?_,?_,?_,?_,?_⟩
  ·unfold toDs;rw[d1,h1]
  ·show(PyData.showable d&&PyData.showableAll ds)=true;rw[d2,h2];rfl
  ·show(PyData.leavesShort 8 d&&PyData.leavesShortAll 8 ds)=true;rw[d3,h3];rfl
  ·show max d.depth (PyData.depthAll ds)=_;rw[d4,h4];rfl
  ·show d.weight+1+PyData.weightAll ds=_;rw[d5,h5];rfl
end
theorem q4h:∀bs:List Bool,plainWs (bs.map .bl)=true/\depWs (bs.map .bl)=0/\wgts (bs.map .bl)=bs.length
 |[]=>⟨rfl,rfl,rfl⟩
 |b::bs=>by
  obtain⟨h1,h2,h3⟩:=q4h bs;refine⟨h1,?_,?_⟩
  ·show max 0 (depWs (bs.map .bl))=0;omega
  ·show 0+1+wgts (bs.map .bl)=_;rw[h3,w0u];omega
open PySem L2 PySem.Spec PyProof.Rows
end D
namespace L2
open PySem PySem.Spec PyProof.Rows
section
variable{κ:Type} [DecidableEq κ]
noncomputable def valV(kvs:List (κ×V))(k:κ):Option V:=(kvs.find? fun kv=>decide (kv.1=k)).map (·.2)
noncomputable def putK(kvs:List (κ×V))(k:κ)(v:V):List (κ×V):=
 if(kvs.any fun kv=>decide (kv.1=k))=true then kvs.map (fun kv=>if kv.1=k then(kv.1,v)else kv)else kvs++[(k,v)]
theorem q6a{p:κ×V}{r:List (κ×V)}{k:κ}(e:p.1=k):valV (p::r) k=some p.2:=by simp[valV,w2d,e]
theorem q41{p:κ×V}{r:List (κ×V)}{k:κ}(e:¬p.1=k):valV (p::r) k=valV r k:=by simp[valV,w2d,e]
theorem q8g(k:κ):∀kvs:List (κ×V),(kvs.any fun kv=>decide (kv.1=k))=(valV kvs k).isSome
 |[]=>rfl
 |p::r=>by
  rw[w4l]
  by_cases e:p.1=k
  ·simp only[q6a e,decide_eq_true e,Bool.true_or,Option.isSome_some]
  ·rw[q41 e,decide_eq_false e,Bool.false_or];exact q8g k r
theorem q73(kvs:List (κ×V))(k:κ)(v:V):(putK kvs k v).length<=kvs.length+1:=by
 unfold putK;split
 ·rw[w0a];omega
 ·rw[w0x,w0u,List.length_nil];omega
theorem y04{kvs:List (κ×V)}{k:κ}(v:V)(h:valV kvs k=none):putK kvs k v=kvs++[(k,v)]:=by
 unfold putK;rw[q8g,h];exact if_neg (by decide)
theorem RelO.isSome_eq{o:Option V}{u:Option Value}(r:RelO o u):o.isSome=u.isSome:=by
 cases o with
 |none=>cases u with
  |none=>rfl
  |some _=>exact(show False from r).elim
 |some _=>cases u with
  |none=>exact(show False from r).elim
  |some _=>rfl
theorem KV.val{kvs:List (κ×V)}{vs:List (κ×Value)}(r:KV kvs vs)(k:κ):RelO (valV kvs k) (valueAt vs k):=by
 unfold KV at r
 induction r with
 |nil=>exact True.intro
 | @cons p q ps qs h t ih=>
  obtain⟨h1,h2⟩:=h
  by_cases e:p.1=k
  ·have e':q.1=k:=h1.symm.trans e;have b:valueAt (q::qs) k=some q.2:=by simp[valueAt,w2d,e']
   rw[q6a e,b];exact h2
  ·have e':¬q.1=k:=fun z=>e (h1.trans z)
   have b:valueAt (q::qs) k=valueAt qs k:=by simp[valueAt,w2d,e']
   rw[q41 e,b];exact ih
theorem KV.any{kvs:List (κ×V)}{vs:List (κ×Value)}(r:KV kvs vs)(k:κ):(kvs.any fun kv=>decide (kv.1=k))=vs.any fun kv=>decide (kv.1=k):=by
 unfold KV at r
 induction r with
 |nil=>rfl
 |cons h t ih=>rw[w4l,w4l,ih,h.1]
theorem KV.repl{kvs:List (κ×V)}{vs:List (κ×Value)}(r:KV kvs vs)(k:κ){y:V}{u:Value}(ry:RelV y u):
  KV (kvs.map fun kv=>if kv.1=k then(kv.1,y)else kv) (vs.map fun kv=>if kv.1=k then(kv.1,u)else kv):=by
 unfold KV at r |-
 induction r with
 |nil=>exact .nil
 | @cons p q ps qs h t ih=>
  rw[w0y,w0y];refine .cons ?_ ih;obtain⟨h1,h2⟩:=h
  by_cases e:p.1=k
  ·rw[if_pos e,if_pos (h1.symm.trans e)];exact⟨h1,ry⟩
  ·rw[if_neg e,if_neg (fun z=>e (h1.trans z))];exact⟨h1,h2⟩
theorem KV.put{kvs:List (κ×V)}{vs:List (κ×Value)}(r:KV kvs vs)(k:κ){y:V}{u:Value}(ry:RelV y u):KV (putK kvs k y) (stored vs k u):=by
 unfold putK stored;rw[r.any k]
 by_cases e:(vs.any fun kv=>decide (kv.1=k))=true
 ·rw[if_pos e,if_pos e];exact r.repl k ry
 ·rw[if_neg e,if_neg e];exact Paired.snoc r ⟨rfl,ry⟩
theorem KV.length{kvs:List (κ×V)}{vs:List (κ×Value)}(r:KV kvs vs):kvs.length=vs.length:=Paired.length r
end
variable{a b:Addr}{A:Around}{X:Cx}{H H':Hp}{k:Kx}{pins:List (Addr×Obj)}{xs:List (Kx×Addr×Value)}{kvs:List (Kx×V)}{kas:List Addr}{pos:Pos}{P:Program}{sh:Sh}{s:Shared}{σ:St}{y:V}{u:Value}{E:Value->Shared->Prop}{w:World}
theorem x51{k:Key}(r:RelV (kV k) u):(mixKind P w).is k u=true:=by
 cases k with
 |inl i=>obtain⟨t,e⟩:=(show ∃t,u=Value.int i t from r);subst e;exact x3j P w i t
 |inr x=>obtain⟨t,e⟩:=(show ∃t,u=Value.str x t from r);subst e;exact x3k P w x t
abbrev KT(sh:Sh)(H:Hp):List (Kx×V)->List (Kx×Addr×Value)->Prop:=Paired fun p q=>p.1=q.1/\(KRep H p.1 (.ref q.2.1)/\Conf p.1 sh/\p.1.depth<=7)/\RelV p.2 q.2.2
theorem KT.val(r:KT sh H kvs xs)(k:Kx):RelO (valV kvs k) ((atKey xs k).map (·.2)):=by
 induction r with
 |nil=>exact True.intro
 | @cons p q ps qs h t ih=>
  obtain⟨h1,_,h2⟩:=h
  by_cases e:p.1=k
  ·have e':q.1=k:=h1.symm.trans e;have b:atKey (q::qs) k=some q.2:=by simp[atKey,w2d,e']
   rw[q6a e,b];exact h2
  ·have e':¬q.1=k:=fun z=>e (h1.trans z)
   have b:atKey (q::qs) k=atKey qs k:=by simp[atKey,w2d,e']
   rw[q41 e,b];exact ih
theorem KT.repl(r:KT sh H kvs xs)(k:Kx)(ry:RelV y u):
  KT sh H (kvs.map fun kv=>if kv.1=k then(kv.1,y)else kv) (xs.map (putAt k u)):=by
 induction r with
 |nil=>exact .nil
 | @cons p q ps qs h t ih=>
  rw[w0y,w0y];refine .cons ?_ ih;obtain⟨h1,h2,h3⟩:=h;unfold putAt
  by_cases e:p.1=k
  ·rw[if_pos e,if_pos (h1.symm.trans e)];exact⟨h1,h2,ry⟩
  ·rw[if_neg e,if_neg (fun z=>e (h1.trans z))];exact⟨h1,h2,h3⟩
theorem KT.put(r:KT sh H kvs xs)(k:Kx)(hb:KRep H k (.ref b)/\Conf k sh/\k.depth<=7)(ry:RelV y u):
  KT sh H (putK kvs k y) (storedH xs k b u):=by
 have e:(kvs.any fun kv=>decide (kv.1=k))=(atKey xs k).isSome:=by
  rw[q8g,(r.val k).isSome_eq,w3g]
 unfold putK storedH;rw[e]
 by_cases q:(atKey xs k).isSome=true
 ·rw[if_pos q,if_pos q];exact r.repl k ry
 ·rw[if_neg q,if_neg q];exact Paired.snoc r ⟨rfl,hb,ry⟩
noncomputable def putAd(kvs:List (Kx×V))(kas:List Addr)(k:Kx)(b:Addr):List Addr:=if(valV kvs k).isSome=true then kas else kas++[b]
theorem KT.putAd(r:KT sh H kvs xs)(ka:xs.map (·.2.1)=kas)(k:Kx):(storedH xs k b u).map (·.2.1)=L2.putAd kvs kas k b:=by
 unfold storedH L2.putAd;rw[(r.val k).isSome_eq,w3g]
 by_cases q:(atKey xs k).isSome=true
 ·rw[if_pos q,if_pos q,w1g,<- ka];refine w1n fun x _=>?_
  show(putAt k u x).2.1=x.2.1;unfold putAt;split<;>rfl
 ·rw[if_neg q,if_neg q,w0q,ka];rfl
theorem KT.keeps(r:KT sh H kvs xs)(ht:∀b u,TupLike u->H b=some u->H' b=some u):KT sh H' kvs xs:=
 Paired.mapP r fun _ _ z=>⟨z.1,⟨KRep.keeps ht _ z.2.1.1,z.2.1.2⟩,z.2.2⟩
section
variable{h:Heap}
theorem y2v{u:HO}(ok:HOk P w H h)(e:Rd H a u):ObjOk P w H h a u:=e.ok ok
theorem x1r{kvs:List (Key×V)}(ok:HOk P w H h)(e:Rd H a (.dK kvs)):kvs.length<=sizeLine/\(a==sysModules)=false/\∃vs,KV kvs vs/\h.DictOf (mixKind P w) a vs:=
 show ObjOk P w H h a (.dK kvs)from y2v ok e
theorem z1g{kvs:List (Key×V)}(ok:HOk P w H h)(e:H a=some (.dK kvs)):kvs.length<=sizeLine/\(a==sysModules)=false/\∃vs,KV kvs vs/\h.DictOf (mixKind P w) a vs:=x1r ok (.inl e)
theorem IsTup.seq{h:Heap}{its:List Value}(p:IsTup h a its.toArray):∃o n,h.get? a=some o/\o.cls=.type "tuple" /\ o.data=.seq its.toArray n:=by
 obtain⟨o,h1,h2,n,h3⟩:=p;exact⟨o,n,h1,h2,h3⟩
mutual
theorem KRep.is(ok:HOk P w H h):∀(k:Kx){x:V}{v:Value},KRep H k x->RelV x v->KIs h k v
 |.non,x,v,e,r=>by cases(show x=.non from e);exact r
 |.bl b,x,v,e,r=>by cases(show x=.bl b from e);exact r
 |.int b,x,v,e,r=>by cases(show x=.int b from e);exact r
 |.str b,x,v,e,r=>by cases(show x=.str b from e);exact r
 |.tup ks,x,v,e,r=>by
  obtain⟨a,xs,rfl,q,rs⟩:=e;cases(show v=Value.ref a from r);obtain⟨_,its,rv,p,_⟩:=(show ObjOk P w H h a (.tup xs)from Rd.ok q ok);obtain⟨o,n,h1,h2,h3⟩:=IsTup.seq p;exact⟨a,o,its.toArray,n,rfl,h1,h2,h3,by simpa using KReps.are ok ks rs rv⟩
theorem KReps.are(ok:HOk P w H h):∀(ks:List Kx){xs:List V}{vs:List Value},KReps H ks xs->Vals xs vs->KAre h ks vs
 |[],xs,vs,e,r=>by
  cases(show xs=[]from e);cases r;rfl
 |k::ks,xs,vs,e,r=>by
  obtain⟨x,r0,rfl,h1,h2⟩:=e;cases r with
  |cons q t=>exact⟨_,_,rfl,KRep.is ok k h1 q,KReps.are ok ks h2 t⟩
end
theorem q68(ok:HOk P w H h)(e:KRep H k (.ref a)/\Conf k sh/\k.depth<=7):(treeKind P w sh).is h k a:=⟨KRep.is ok k e.1 rfl,e.2⟩
theorem x1s(ok:HOk P w H h)(e:Rd H a (.dT sh kvs kas)):kvs.length<=sizeLine/\(a==sysModules)=false /\
  ∃xs,KT sh H kvs xs/\xs.map (·.2.1)=kas/\h.DictOfH (treeKind P w sh) a xs:=by
 obtain⟨z,y,xs,r,ka,o,es,ep,h1,h2,h3,h4,h5⟩:=(show ObjOk P w H h a (.dT sh kvs kas)from y2v ok e);refine⟨z,y,xs,r,ka,o,es,ep,h1,h2,h3,h4,fun x hx=>?_,h5⟩
 have all:∀{l:List (Kx×V)}{m:List (Kx×Addr×Value)},KT sh H l m->∀x∈m,(treeKind P w sh).is h x.1 x.2.1:=by
  intro l m q
  induction q with
  |nil=>intro x hx;exact nomatch hx
  | @cons p q ps qs hq t ih=>
   intro x hx;rcases w0j.mp hx with e|hx
   ·subst e;exact q68 ok (by rw[<- hq.1];exact hq.2.1)
   ·exact ih x hx
 exact all r x hx
theorem y2w(ok:HOk P w H h)(e:H a=some (.dT sh kvs kas)):kvs.length<=sizeLine/\(a==sysModules)=false /\
  ∃xs,KT sh H kvs xs/\xs.map (·.2.1)=kas/\h.DictOfH (treeKind P w sh) a xs:=x1s ok (.inl e)
end
def DGet(H:Hp)(a:Addr)(y:V)(r:Option V):Prop:=
 (∃kvs k,Rd H a (.dK kvs)/\y=kV k/\r=valV kvs k)\/∃sh kvs kas k b,Rd H a (.dT sh kvs kas)/\y=.ref b/\(KRep H k (.ref b)/\Conf k sh/\k.depth<=7)/\r=valV kvs k
def DPut(H:Hp)(a:Addr)(y v:V)(H':Hp):Prop:=
 (∃kvs k,H a=some (.dK kvs)/\y=kV k/\kvs.length<sizeLine/\H'=upd H a (.dK (putK kvs k v))) \/
 ∃sh kvs kas k b,H a=some (.dT sh kvs kas)/\y=.ref b/\(KRep H k (.ref b)/\Conf k sh/\k.depth<=7)/\kvs.length<sizeLine/\H'=upd H a (.dT sh (putK kvs k v) (putAd kvs kas k b))
theorem DGet.t(e:Rd H a (.dT sh kvs kas))(eb:KRep H k (.ref b)/\Conf k sh/\k.depth<=7):DGet H a (.ref b) (valV kvs k):=.inr ⟨sh,kvs,kas,k,b,e,rfl,eb,rfl⟩
theorem DPut.t{v:V}(e:H a=some (.dT sh kvs kas))(eb:KRep H k (.ref b)/\Conf k sh/\k.depth<=7)(hl:kvs.length<sizeLine):
  DPut H a (.ref b) v (upd H a (.dT sh (putK kvs k v) (putAd kvs kas k b))):=.inr ⟨sh,kvs,kas,k,b,e,rfl,eb,hl,rfl⟩
section
variable{v:V}{r:Value}{o:Option V}
theorem Inv.big(I:Inv X pins σ H s):sysModules<s.heap.objs.size:=by
 have h:mainGlobals<s.heap.objs.size:=(I.mod.glob.keeps I.bk).lt;exact w3y (by decide) h
theorem q8h(hu:A.units+20<cLine):(treeKind P w sh).room A.in1:=by
 show A.in1.units+8<cLine;rw[Around.in1_units];omega
theorem x76{Q:Value->Shared->Prop}(hu:A.units+20<cLine)(I:Inv X pins σ H s)(g:DGet H a y (some v))(ry:RelV y u)(h:∀w' s',Inv X pins σ H s'->RelV v w'->Q w' s'):
  wpAny (model X.prog X.w) A (getItem (.ref a) u) Q E s:=by
 rcases g with⟨kvs,k,e,ey,l⟩|⟨sh,kvs,kas,k,b,e,ey,eb,l⟩
 ·subst ey;obtain⟨z,hd,vs,rel,dd⟩:=x1r I.hok e;obtain⟨w',hw,rw'⟩:=RelO.some_of (v:=v) (o:=valueAt vs k) (by rw[l];exact rel.val k);exact wpAny_getItem_of (x51 ry) dd.mapOf hw (h w' _ (I.tok _) rw')
 ·subst ey;cases(show u=Value.ref b from ry);obtain⟨z,hd,xs,rel,_,dd⟩:=x1s I.hok e;obtain⟨w',hw,rw'⟩:=RelO.some_of (v:=v) (o:=(atKey xs k).map (·.2)) (by rw[l];exact rel.val k);obtain⟨p,hp,hp2⟩:=w0c.mp hw;refine wpAny_getItem_heap (q8h hu) (q68 I.hok eb) dd hp ?_;rw[hp2];exact h w' _ (I.tok _) rw'
theorem y49{Q:Value->Shared->Prop}(hu:A.units+20<cLine)(I:Inv X pins σ H s)(g:DGet H a y o)(ry:RelV y u)(h:∀s',Inv X pins σ H s'->Q (.bool (!o.isSome)) s'):
  wpAny (model X.prog X.w) A (compareOp .NotIn u (.ref a)) Q E s:=by
 rcases g with⟨kvs,k,e,ey,l⟩|⟨sh,kvs,kas,k,b,e,ey,eb,l⟩
 ·subst ey;obtain⟨z,hd,vs,rel,dd⟩:=x1r I.hok e;refine wpAny_notIn_of (x51 ry) hd dd.mapOf ?_;rw[<- (rel.val k).isSome_eq,<- l];exact h _ (I.tok _)
 ·subst ey;cases(show u=Value.ref b from ry);obtain⟨z,hd,xs,rel,_,dd⟩:=x1s I.hok e;refine wpAny_notIn_heap (q8h hu) (q68 I.hok eb) hd dd ?_;have q:=(rel.val k).isSome_eq;rw[w3g]at q;rw[<- q,<- l];exact h _ (I.tok _)
theorem q9v{h':Heap}{t':Nat}{ob:HO}(I:Inv X pins σ H s)(mu:Mut (H a))(hs:Heap.SameBut a s.heap h')(he:∃q,h'.get? a=some q)(new:ObjOk X.prog X.w (upd H a ob) h' a ob):
  Inv X pins σ (upd H a ob) {s with heap:=h',toks:=t'}:=
 I.write (x:=a) (e:=a) mu (.inl rfl) (fun b q hb z=>(hs.2 b hb).trans z) he new
theorem y9c{h':Heap}{kvs:List (Key×V)}{vs:List (Key×Value)}(z:kvs.length<=sizeLine)(hd:(a==sysModules)=false)(rel:KV kvs vs)(dd:h'.DictOf (mixKind P w) a vs):
  ObjOk P w H' h' a (.dK kvs):=⟨z,hd,vs,rel,dd⟩
theorem x77{Q:Unit->Shared->Prop}(hu:A.units+20<cLine)(I:Inv X pins σ H s)(g:DPut H a y v H')(ry:RelV y u)(rv:RelV v r)(h:∀s',Inv X pins σ H' s'->Q () s'):
  wpAny (model X.prog X.w) A (setItem (.ref a) u r) Q E s:=by
 rcases g with⟨kvs,k,e,ey,l,eH⟩|⟨sh,kvs,kas,k,b,e,ey,eb,l,eH⟩
 ·subst ey eH;obtain⟨z,hd,vs,rel,dd⟩:=z1g I.hok e;have hz:vs.length<=sizeLine:=by rw[<- rel.length];exact z
  have hl:(putK kvs k v).length<=sizeLine:=by have:=q73 kvs k v;omega
  refine wpAny_setItem_pairs (hsz:=hz) (x51 ry) dd fun h' dd' hs=>h _ ?_
  have he:∃q,h'.get? a=some q:=let ⟨q,_,_,hq,_⟩:=dd';⟨q,hq⟩;exact q9v I (by rw[e];exact True.intro) hs he (y9c hl hd (rel.put k rv) dd')
 ·subst ey eH;cases(show u=Value.ref b from ry);obtain⟨z,hd,xs,rel,ka,dd⟩:=y2w I.hok e;have hz:xs.length<=sizeLine:=by rw[<- Paired.length rel];exact z
  have hl:(putK kvs k v).length<=sizeLine:=by have:=q73 kvs k v;omega
  refine wpAny_setItem_heap (hsz:=hz) (q8h hu) (q68 I.hok eb) dd fun h' dd' hs=>h _ ?_
  obtain⟨q,es,ep,hq,h2,h3,h4,_,h5⟩:=dd';refine q9v I (by rw[e];exact True.intro) hs ⟨q,hq⟩ ⟨hl,hd,_,(rel.put k eb rv).keeps fun c u ys ec=>?_,rel.putAd ka k,q,es,ep,hq,h2,h3,h4,h5⟩
  rw[q0d (q0t ec e (fun z=>by subst z;exact ys))]
  exact ec
end
def NoSl(i:Expr):Prop:=∀ov iv,subscripted i false ov iv=operate [ov,iv] (getItem ov iv)
theorem y5a{prog:Program}{env:Env}{value slice:Expr}{T id:String}{Q:Value->Shared->Prop}
  (hl:typeLookup (.type T) "__getitem__"=pure (some (.builtin id)))(hs:NoSl slice)
  (h:wpAny (model prog w) A (eval value env) (fun o s₁=>wpAny (model prog w) A (eval slice env) (fun i s₂=>s₂.TypeIs o T/\wpAny (model prog w) A (getItem o i) Q E s₂) E s₁) E s):
  wpAny (model prog w) A (eval (.Subscript value slice pos) env) Q E s:=by
 refine Subscript_ (wpAny_mono h (fun o s₁ h₁=>wpAny_mono h₁ (fun i s₂ h₂=>?_) fun _ _ x=>x) fun _ _ x=>x)
 obtain⟨hT,h₂⟩:=h₂;unfold subscriptTail;refine wpAny_bind ?_;rw[getitemInPython_of_ne hT.not_modules];refine wpAny_bind (wpAny_specialOf hT hl ?_)
 have fin:wpAny (model prog w) A (subscripted slice false o i) (fun r s₃=>wpAny (model prog w) A (letTemporaryGo value o r >>= fun _=>pure r) Q E s₃) E s₂:=by
  rw[hs o i];exact wpAny_operating (wpAny_mono h₂ (fun r s₃ h₃=>wpAny_bind (wpAny_letTemporaryGo (wpAny_pure h₃))) fun _ _ x=>x)
 first
  |exact wpAny_pure (wpAny_bind fin)
  |exact wpAny_bind (wpAny_pure (wpAny_bind fin))
  |exact wpAny_bind fin
theorem x3o{o:Option V}(I:Inv X pins σ H s)(g:DGet H a y o):s.TypeIs (.ref a) "dict":=by
 rcases g with⟨kvs,k,e,_,_⟩|⟨sh,kvs,kas,k,b,e,_,_,_⟩
 ·obtain⟨_,_,vs,_,dd⟩:=x1r I.hok e;exact dd.typeIs
 ·obtain⟨_,_,xs,_,_,dd⟩:=x1s I.hok e;exact dd.typeIs
def tDGet(td ty:TE):TE:=fun σ H Q=>td σ H fun x H1=>ty σ H1 fun y H2=>∃a v,x=.ref a/\DGet H2 a y (some v)/\Q v H2
def tDNotIn(ty td:TE):TE:=fun σ H Q=>ty σ H fun y H1=>td σ H1 fun x H2=>∃a o,x=.ref a/\DGet H2 a y o/\Q (.bl (!o.isSome)) H2
def sDPut(td ty tv:TE):TS:=fun D σ H=>tv σ H fun v H1=>td σ H1 fun x H2=>ty σ H2 fun y H3=>∃a H4,x=.ref a/\DPut H3 a y v H4/\D.nx σ H4
section
variable{o i e value:Expr}{pos' tpos:Pos}{td ty tv:TE}
theorem y5b(hu:X.A.units+20<cLine)(ho:PE X o td)(hi:PE X i ty)(hs:NoSl i):PE X (.Subscript o i pos) (tDGet td ty):=by
 intro pins s σ H Q I h;refine y5a PySem.F.slot_dict_getitem.lookup hs (thn (ho pins s σ H _ I h) fun u s1 ⟨x,H1,I1,rx,q1⟩=>thn (hi pins s1 σ H1 _ I1 q1) fun iv s2 ⟨y,H2,I2,ry,a,v,ex,g,q2⟩=>?_)
 subst ex;obtain rfl:u=Value.ref a:=rx;exact⟨x3o I2 g,x76 hu I2 g ry fun w' s3 I3 rw'=>⟨v,H2,I3,rw',q2⟩⟩
theorem x78(hu:X.A.units+20<cLine)(hi:PE X i ty)(ho:PE X o td):PC X .NotIn i o (tDNotIn ty td):=by
 intro pins s σ H Q I h;refine thn (hi pins s σ H _ I h) fun iv s1 ⟨y,H1,I1,ry,q1⟩=>thn (ho pins s1 σ H1 _ I1 q1) fun u s2 ⟨x,H2,I2,rx,a,ov,ex,g,q2⟩=>?_
 subst ex;obtain rfl:u=Value.ref a:=rx;exact y49 hu I2 g ry fun s3 I3=>⟨.bl (!ov.isSome),H2,I3,rfl,q2⟩
theorem y5c(hu:X.A.units+20<cLine)(ho:PE X o td)(hi:PE X i ty)(hv:PE X value tv)(hs:swapsWith value (some (.Subscript o i pos')) pos.line X.env=pure false):
  PS X (.Assign [.Subscript o i pos'] value pos) (sDPut td ty tv):=by
 intro pins s σ H D I h;refine wpAny_Assign_Subscript (thn (hv pins s σ H _ I h) fun r s1 ⟨v,H1,I1,rv,q1⟩=>thn (ho pins s1 σ H1 _ I1 q1) fun u s2 ⟨x,H2,I2,rx,q2⟩=>thn (hi pins s2 σ H2 _ I2 q2) fun iv s3 ⟨y,H3,I3,ry,a,H4,ex,g,q3⟩=>?_) hs
 subst ex;obtain rfl:u=Value.ref a:=rx;exact x77 hu I3 g ry rv fun s4 I4=>⟨σ,H4,I4,q3⟩
end
theorem y05(h:Heap)(hb:sysModules<h.objs.size):ObjOk P w H (h.push {cls:=.type "dict", data:=.dict #[]}) h.objs.size (.dT sh [] []):=
 ⟨w1a _,beq_eq_false_iff_ne.mpr (Ne.symm (w0p hb)),[],.nil,rfl,_,#[],0,Heap.get?_push_size _ rfl,⟨rfl,rfl,rfl⟩,rfl,rfl,List.nodup_nil⟩
section
variable{o:Obj}{kvs:List (Key×V)}
theorem Inv.swapAt{u u':HO}(I:Inv X pins σ H s)(e:H a=some u)(ht:¬TupLike u)(hb:∀ps,u≠.tbl ps)(hf:∀o v,X.H₀ a≠some (.frz o v))(hw:∀x,u≠.own x)(ok:HOk X.prog X.w H s.heap->ObjOk X.prog X.w (upd H a u') s.heap a u'):Inv X pins σ (upd H a u') s:=by
 have up:∀b,H b=none->upd H a u' b=none:=fun b n=>by
  rw[q0d (fun z=>by subst z;rw[e]at n;cases n)];exact n
 refine⟨I.ok,I.os,I.bare,⟨I.base.keep,I.base.slot,fun b ob q n hx=>up b (I.base.free b ob q n hx),I.base.there,fun b xs q=>?_,fun b ob v q=>?_,fun b ps q=>?_⟩,I.loc,I.cell,up _ I.free,fun x c q=>up c (I.freeC x c q),fun p hp=>?_,fun b v q=>?_,I.len⟩
 ·have z:=I.base.tups b xs q
  by_cases hb':b=a
  ·subst hb';rw[e]at z;exact absurd (show TupLike u by rw[Option.some.inj z];exact True.intro) ht
  ·rw[q0d hb'];exact z
 ·by_cases hb':b=a
  ·subst hb';exact absurd q (hf ob v)
  ·rw[q0d hb'];exact I.base.frzs b ob v q
 ·obtain⟨more,z⟩:=I.base.tbls b ps q
  by_cases hb':b=a
  ·subst hb';rw[e]at z;exact absurd (Option.some.inj z) (hb _)
  ·exact⟨more,by rw[q0d hb'];exact z⟩
 ·obtain⟨q1,q2,q3⟩:=I.pin p hp;exact⟨q1,up _ q2,q3⟩
 ·by_cases hb':b=a
  ·subst hb';rw[q0g]at q;cases q;exact ok I.hok
  ·rw[q0d hb']at q;refine(I.hok b v q).stay (fun _ _ _ z=>z) (fun c z=>?_) fun c xs tl z=>?_
   ·rw[q0d (fun y=>by subst y;rw[e]at z;exact hw _ (Option.some.inj z))];exact z
   ·rw[q0d (fun y=>by subst y;rw[e]at z;exact ht ((Option.some.inj z) ▸ tl))];exact z
end
section
variable{o:Obj}{xs:List V}
theorem Inv.freezeL(I:Inv X pins σ H s)(e:H a=some (.lst xs))(q:s.heap.get? a=some o):Inv X pins σ (upd H a (.frz o (.lst xs))) s:=
 I.swapAt e (fun z=>z) (fun _ z=>nomatch z) (fun ob v z=>by have:=I.base.frzs a ob v z;rw[e]at this;cases this) (fun _ z=>nomatch z) fun ok=>⟨q,(ok a _ e).stay (fun _ _ _ z=>z) (fun c z=>by rw[q0d (q0t z e (fun y=>nomatch y))];exact z) fun c xs tl z=>by rw[q0d (q0t z e (fun y=>by subst y;exact tl))];exact z⟩
theorem Inv.meltL(I:Inv X pins σ H s)(e:H a=some (.frz o (.lst xs)))(hf:∀o v,X.H₀ a≠some (.frz o v)):Inv X pins σ (upd H a (.lst xs)) s:=
 I.swapAt e (fun z=>z) (fun _ z=>nomatch z) hf (fun _ z=>nomatch z) fun ok=>(ok a _ e).2.stay (fun _ _ _ z=>z) (fun c z=>by rw[q0d (q0t z e (fun y=>nomatch y))];exact z) fun c xs tl z=>by rw[q0d (q0t z e (fun y=>by subst y;exact tl))];exact z
end
theorem y5d{l:Expr}{tl:TE}(hl:PE X l tl):PE X l (fun σ H Q=>tl σ H fun v H1=>∃a xs,v=.ref a/\H1 a=some (.lst xs)/\∀o,Q v (upd H1 a (.frz o (.lst xs)))):=by
 intro pins s σ H Q I h;refine thn (hl pins s σ H _ I h) fun v s1 ⟨x,H1,I1,r1,q1⟩=>?_
 obtain⟨a,xs,rfl,e,q⟩:=q1;obtain⟨its,_,⟨o,n,g,_⟩,_⟩:=I1.list (SqL.of e);exact⟨.ref a,_,I1.freezeL e g,r1,q o⟩
theorem x2i{l:Expr}{tl:TE}(hl:PE X l tl):PE X l (fun σ H Q=>tl σ H fun v H1=>∃a o xs,v=.ref a/\H1 a=some (.frz o (.lst xs))/\(∀o v,X.H₀ a≠some (.frz o v))/\Q v (upd H1 a (.lst xs))):=by
 intro pins s σ H Q I h;refine thn (hl pins s σ H _ I h) fun v s1 ⟨x,H1,I1,r1,q1⟩=>?_
 obtain⟨a,o,xs,rfl,e,hf,q⟩:=q1;exact⟨.ref a,_,I1.meltL e hf,r1,q⟩
end L2
namespace D
open PySem L2 PySem.Spec PyProof.Rows
open PyProof.Rows (envOfC)
section
variable{P:Program}{w:World}{K:PySem.W.Frag}{mg:Str->Option Value}{base:Heap}
theorem conZ{x:Str}{st:Stmt}{N ps:List Str}{k:Nat}{F:List W->FR}(A:At K mg x st ps)(sc:FnScope N ps (defScope st))(len:∀ws,F ws≠.no->ws.length=ps.length)
  (hb:∀ws,F ws≠.no->∀(f:Addr)(cdv:Value)(A:Around)(outer:List Env)(s:Shared)(H:Hp)(E:XK)(Z:Zt),Room k (A.deeper (envOfC x (defScope st) s.heap.objs.size f cdv))->(Z.H=H/\Z.io=[]) ->
   ∃d,DSs Z (cxOf (CX1 P w) P w K mg base N x (defScope st) f cdv A outer s H E) (fun _=>E) (defBody st) d/\(d (init N.length ws)).fn=F ws):Cal P w K mg base (k+1) x ps (spF K F):=by
 refine A.cal sc (fun vs H Q E h=>?_) (fun f cdv A outer s H vs Q E hr h=>?_)
 ·obtain⟨G,ws,hn,r⟩:=q61 h;rw[r.length];exact len ws hn
 ·obtain⟨G,ws,sg,rp,h⟩:=h;have hn:F ws≠.no:=fun z=>by rw[z]at h;exact h
  obtain⟨d,hd,he⟩:=hb ws hn f cdv A outer s H E ⟨H,G,[]⟩ hr ⟨rfl,rfl⟩;exact⟨_,hd,G,init N.length ws,q40 sg rp,q7p he h⟩
theorem conFZ{x:Str}{st:Stmt}{N ps:List Str}{k:Nat}{F:List W->FR}{f:Addr}{fd:FuncData}(A:Fun K x x st f fd)(sc:FnScope N ps (defScope st))(len:∀ws,F ws≠.no->ws.length=ps.length)
  (hb:∀ws,F ws≠.no->∀(cdv:Value)(A:Around)(outer:List Env)(s:Shared)(H:Hp)(E:XK)(Z:Zt),Room k (A.deeper (PyProof.Rows.envOfC x (defScope st) s.heap.objs.size f cdv))->(Z.H=H/\Z.io=[]) ->
   ∃d,DSs Z (cxOf (CX1 P w) P w K mg base N x (defScope st) f cdv A outer s H E) (fun _=>E) (defBody st) d/\(d (init N.length ws)).fn=F ws):FnOk P w K mg base (CX1 P w) (k+1) f fd ps (spF K F):=by
 refine A.okX sc (fun vs H Q E h=>?_) (fun cdv A outer s H vs Q E hr h=>?_)
 ·obtain⟨G,ws,hn,r⟩:=q61 h;rw[r.length];exact len ws hn
 ·obtain⟨G,ws,sg,rp,h⟩:=h;have hn:F ws≠.no:=fun z=>by rw[z]at h;exact h
  obtain⟨d,hd,he⟩:=hb ws hn cdv A outer s H E ⟨H,G,[]⟩ hr ⟨rfl,rfl⟩;exact⟨_,hd,G,init N.length ws,q40 sg rp,q7p he h⟩
end
section
variable{X:Cx}{Z:Zt}{EE:L2.St->XK}{a b c e:Expr}{es:List Expr}{da db d:Den W}{dF dA:Den (List W)}{x:Str}{pos p tpos:Pos}
noncomputable def isT:S->Bool
 |.thr _ _ _=>true
 |.nest _=>true
 |.x (.acc _)=>true
 |.x (.thro _ _ _)=>true
 |.x (.tn _ _)=>true
 |.x (.pt _ _ _)=>true
 |.x (.fz _)=>true
 |.x (.fzo _)=>true
 |_=>false
theorem Rel.mutL{K:PySem.W.Frag}{G H:Hp}{σ:L2.St}{e:List S}{l:Addr}{o:Obj}{ys:List V}{u:HO}(r:Rel K Z G σ H e)(hl:H l=some (.frz o (.lst ys)))(hg:G l=none)(hz:Z.H l=none)(hT:∀s∈e,isT s=false):Rel K Z G σ (upd H l u) e:=by
 refine⟨fun c u z=>?_,fun j s z=>?_,r.len,r.dis,fun c u z n=>?_,fun c z=>?_,r.gen⟩
 ·rw[q0d (q0p z hg)];exact r.sub c u z
 ·have y:=r.slot j s z;cases s with
  |no=>trivial
  |fr w=>exact y
  |own b2 w2=>
   obtain⟨c,ys,y1,y2,y3,y4,y5⟩:=y;refine⟨c,ys,y1,?_,y3,y4,y5⟩;rw[q0d (q0t y2 hl (fun z=>nomatch z))];exact y2
  |dic kvs=>
   obtain⟨c,y1,y2,y3,y4⟩:=y;refine⟨c,y1,?_,y3,y4⟩;rw[q0d (q0t y2 hl (q4g rfl))];exact y2
  |thr us ws vs=>have:=hT _ (w0l z);cases this
  |nest _=>have:=hT _ (w0l z);cases this
  |x k=>
   have hk:=hT _ (w0l z);cases k with
   |old _=>exact y
   |new _=>exact y
   |_=>cases hk
  |dw sh ks ws=>exact DwOk.move y (.refl _) fun l o ys k1 k2 k3=>⟨by rw[q0d (q0t k1 hl (q2s rfl))];exact k1,k2,k3⟩
 ·rw[q0d (q0p z hz)];exact r.ent c u z n
 ·by_cases hc:c=l
  ·subst hc;rw[q0g];exact fun z=>nomatch z
  ·rw[q0d hc];exact r.ion c z
end
variable{X:Cx}{e:Expr}{EE:L2.St->XK}{K:PySem.W.Frag}{Z:Zt}
mutual
noncomputable def flatW:W->Bool
 |.non=>true
 |.bl _=>true
 |.int _=>true
 |.str _=>true
 |.tup ws=>flatWs ws
 |_=>false
noncomputable def flatWs:List W->Bool
 |[]=>true
 |w::ws=>flatW w&&flatWs ws
end
section
variable{e e':List S}{ws us vs:List W}{v:Value}
theorem x79{wss:List (List W)}:hide1 (.nest wss)=.fr (.lst (wss.map W.lst)):=rfl
theorem y06:hide1 (.thr us ws vs)=.fr (.tup (us++.lst ws::vs)):=rfl
end
end D
namespace L2
open PySem PySem.Spec PyProof.Rows
end L2
namespace D
open PySem L2 PySem.Spec PyProof.Rows
end D
namespace L2
open PySem PySem.Spec PyProof.Rows
end L2
namespace D
open PySem L2 PySem.Spec PyProof.Rows
open Classical
variable{a b:Addr}{fz:Bool}{X:Cx}{d dk:Den W}{G H:Hp}{k:Kx}{σ:L2.St}{EE:L2.St->XK}{ks:List Kx}{e:List S}{ws:List W}{i:Nat}{pos:Pos}{K:PySem.W.Frag}{sh:Sh}{x:Str}{v:V}{w:W}{Z:Zt}
mutual
noncomputable def kxW:W->Option Kx
 |.non=>some .non
 |.bl b=>some (.bl b)
 |.int i=>some (.int i)
 |.str x=>some (.str x)
 |.tup ws=>(kxWs ws).map .tup
 |_=>none
noncomputable def kxWs:List W->Option (List Kx)
 |[]=>some []
 |w::ws=>match kxW w,kxWs ws with
  |some k,some ks=>some (k::ks)
  |_,_=>none
end
def NoTup(K:PySem.W.Frag):Prop:=∀a o,K.lookup a=some o->o.cls≠.type "tuple"
theorem SqT.rd{xs:List V}(hK:NoTup K)(q:SqT K G a xs):Rd G a (.tup xs):=by
 rcases q with q|⟨o,its,n,h1,h2,_⟩
 ·exact q
 ·exact absurd h2 (hK a o h1)
mutual
theorem x8a{K:PySem.W.Frag}{G H:Hp}(hK:NoTup K)(s:Same G H):∀(w:W){k:Kx}{v:V},kxW w=some k->Rep K G w v->KRep H k v
 |.bl b,k,v,e,r=>by cases e;exact r
 |.int b,k,v,e,r=>by cases e;exact r
 |.str b,k,v,e,r=>by cases e;exact r
 |.tup ws,k,v,e,r=>by
  have e:(kxWs ws).map Kx.tup=some k:=e;obtain⟨ks,h1,rfl⟩:=w0c.mp e;obtain⟨a,xs,rfl,q,rs⟩:=r;refine⟨a,xs,rfl,?_,x4f hK s ws h1 rs⟩;rcases SqT.rd hK q with z|⟨o,z⟩
  ·exact .inl (s _ _ z)
  ·exact .inr ⟨o,s _ _ z⟩
 |.non,k,v,e,r=>by cases e;exact r
 |.lst _,k,v,e,r=>by cases e
 |.exc _,k,v,e,r=>by cases e
 |.dic _,k,v,e,r=>by cases e
 |.dw _ _ _ _,k,v,e,r=>by cases e
 |.fn _ _ _,k,v,e,r=>by cases e
theorem x4f{K:PySem.W.Frag}{G H:Hp}(hK:NoTup K)(s:Same G H):∀(ws:List W){ks:List Kx}{vs:List V},kxWs ws=some ks->Reps K G ws vs->KReps H ks vs
 |[],ks,vs,e,r=>by cases e;exact r
 |w::ws,ks,vs,e,r=>by
  have e:(match kxW w,kxWs ws with|some k,some ks=>some (k::ks)|_,_=>none)=some ks:=e;split at e
  ·rename_i k0 ks0 h1 h2;cases e;obtain⟨x,xs,rfl,r1,r2⟩:=r;exact⟨x,xs,rfl,x8a hK s w h1 r1,x4f hK s ws h2 r2⟩
  ·cases e
end
noncomputable def keyT:W->Option Kx
 |.tup ws=>(kxWs ws).map .tup
 |_=>none
theorem q6b(hK:NoTup K)(s:Same G H)(e:keyT w=some k)(r:Rep K G w v):∃b,v=.ref b/\KRep H k (.ref b):=by
 cases w with
 |tup ws=>
  have z:=x8a hK s (.tup ws) e r;obtain⟨a,xs,rfl,q,rs⟩:=r;exact⟨a,rfl,z⟩
 |_=>cases e
def fits(k:Kx)(sh:Sh):Prop:=Conf k sh/\k.depth<=7
theorem KeysG.snoc(hk:KRep G k (.ref b)):∀{ks:List Kx}{bs:List Addr},KeysG G ks bs->KeysG G (ks++[k]) (bs++[b])
 |[],[],_=>⟨hk,trivial⟩
 |_::_,_::_,h=>⟨h.1,KeysG.snoc hk h.2⟩
 |[],_::_,h=>h.elim
 |_::_,[],h=>h.elim
noncomputable def lkW:List Kx->List W->Kx->Option W
 |k::ks,w::ws,x=>if k=x then some w else lkW ks ws x
 |_,_,_=>none
theorem x2j{K:PySem.W.Frag}{G:Hp}{x:Kx}:∀{kvs:List (Kx×V)}{ws:List W},Reps K G ws (kvs.map (·.2)) ->
  (∀w,lkW (kvs.map (·.1)) ws x=some w->∃v,valV kvs x=some v/\Rep K G w v)/\(lkW (kvs.map (·.1)) ws x=none->valV kvs x=none)
 |[],ws,r=>by
  cases ws with
  |nil=>exact⟨(fun w z=>nomatch z),fun _=>rfl⟩
  |cons w ws=>obtain⟨_,_,z,_⟩:=r;cases z
 |p::kvs,[],r=>by cases(show _=[]from r)
 |p::kvs,w::ws,r=>by
  obtain⟨v,rr,z,h1,h2⟩:=r;cases z;have ih:=x2j (x:=x) h2
  by_cases e:p.1=x
  ·refine⟨fun w' z=>?_,fun z=>?_⟩
   ·have z:(if p.1=x then some w else lkW (kvs.map (·.1)) ws x)=some w':=z;rw[if_pos e]at z;cases z;exact⟨p.2,q6a e,h1⟩
   ·have z:(if p.1=x then some w else lkW (kvs.map (·.1)) ws x)=none:=z;rw[if_pos e]at z;cases z
  ·refine⟨fun w' z=>?_,fun z=>?_⟩
   ·have z:(if p.1=x then some w else lkW (kvs.map (·.1)) ws x)=some w':=z;rw[if_neg e]at z;rw[q41 e];exact ih.1 w' z
   ·have z:(if p.1=x then some w else lkW (kvs.map (·.1)) ws x)=none:=z;rw[if_neg e]at z;rw[q41 e];exact ih.2 z
theorem DAt.rd{kvs:List (Kx×V)}{kas:List Addr}(s:Same G H)(h:DAt fz G a sh kvs kas):Rd H a (dwO sh kvs kas):=by
 cases fz with
 |true=>obtain⟨o,h⟩:=h;exact .inr ⟨o,s _ _ h⟩
 |false=>exact .inl (s _ _ h)
theorem noI{t:Kx}(kr:KRep H t (.ref b))(hc:fits t sh):sh.isI=false:=by
 cases sh with
 |int=>
  cases t with
  |int i=>exact nomatch (show V.ref b=V.int i from kr)
  |_=>exact hc.1.elim
 |_=>rfl
noncomputable def inT(w d:W):Option W:=match keyT w,d with
 |some k,.dw _ sh ks ws=>if fits k sh then some (.bl (lkW ks ws k).isSome)else none
 |_,_=>none
noncomputable def ninT(w d:W):Option W:=match keyT w,d with
 |some k,.dw _ sh ks ws=>if fits k sh then some (.bl (!(lkW ks ws k).isSome))else none
 |_,_=>none
noncomputable def ixT(d w:W):Option W:=match keyT w,d with
 |some k,.dw _ sh ks ws=>if fits k sh then lkW ks ws k else none
 |_,_=>none
theorem x8b(s:Same G H)(p:Rep K G (.dw fz sh ks ws) v)(kr:KRep H k (.ref b))(hc:fits k sh):
  ∃a o,v=.ref a/\DGet H a (.ref b) o/\(∀w,lkW ks ws k=some w->∃u,o=some u/\Rep K G w u)/\(lkW ks ws k=none->o=none):=by
 obtain⟨a,kvs,kas,rfl,h1,rfl,h3,h4⟩:=p;refine⟨a,_,rfl,DGet.t (by have:=h1.rd s;rwa [x1p (noI kr hc)]at this) ⟨kr,hc⟩,?_⟩;exact x2j h4
theorem y5e(hK:NoTup K):Op2 K (fun y x H Q=>∃a o,x=.ref a/\DGet H a y o/\Q (.bl (!o.isSome)) H) ninT:=by
 intro G H x y wx wy w Q s px py hf h;unfold ninT at hf;split at hf
 ·rename_i k fz sh ks ws hk;split at hf
  ·rename_i hc;cases hf;obtain⟨b,rfl,kr⟩:=q6b hK s hk px;obtain⟨a,o,rfl,g,g1,g2⟩:=x8b s py kr hc;refine⟨a,o,rfl,g,h G _ H (.refl s) ?_⟩;show V.bl (!o.isSome)=V.bl (!(lkW ks ws k).isSome);cases q:lkW ks ws k with
   |none=>rw[g2 q];rfl
   |some w=>obtain⟨u,hu,_⟩:=g1 w q;rw[hu];rfl
  ·cases hf
 ·cases hf
theorem y9d(hK:NoTup K):Op2 K (fun x y H Q=>∃a v,x=.ref a/\DGet H a y (some v)/\Q v H) ixT:=by
 intro G H x y wx wy w Q s px py hf h;unfold ixT at hf;split at hf
 ·rename_i k fz sh ks ws hk;split at hf
  ·rename_i hc;obtain⟨b,rfl,kr⟩:=q6b hK s hk py;obtain⟨a,o,rfl,g,g1,g2⟩:=x8b s px kr hc;obtain⟨u,rfl,ru⟩:=g1 w hf;exact⟨a,u,rfl,g,h G u H (.refl s) ru⟩
  ·cases hf
 ·cases hf
section
variable{a b e k o:Expr}{es:List Expr}{da db:Den W}{dA:Den (List W)}{p tpos:Pos}{body:List Stmt}{s1:List S->SR}
theorem y5f(hK:NoTup X.K)(hu:X.A.units+150<cLine)(ha:DE Z X EE a da)(hb:DE Z X EE b db)(hm:behindInMarks .NotIn b=false:=by rfl):DT Z X EE (.Compare a [.NotIn] [b] pos) (dTest (dOp ninT da db)):=
 PT.mono (y60 (x78 (by omega) ha hb) hm) fun σ H Q h=>q4u (y5e hK) σ H _ (x0l h)
theorem y9e(hK:NoTup X.K)(hu:X.A.units+150<cLine)(ha:DE Z X EE a da)(hb:DE Z X EE b db)(hs:NoSl b:=by intro _ _;rfl):DE Z X EE (.Subscript a b pos) (dOp ixT da db):=
 PE.mono (y5b (by omega) ha hb hs) (q4u (y9d hK))
noncomputable def isDw:S->Bool
 |.dw _ _ _=>true
 |.dic _=>true
 |_=>false
theorem Rel.dwX{e:List S}(r:Rel K Z G σ H e)(h:e[i]?=some (.dw sh ks ws)):∃a kvs kas,σ[i]?=some (some (.ref a))/\H a=some (dwO sh kvs kas)/\G a=none/\Z.H a=none/\kvs.map (·.1)=ks/\KeysS sh G ks kas/\RepsX K Z G sh ws (kvs.map (·.2)):=by
 obtain⟨a,kvs,kas,h1,h2,h3,h4,h5,h6,h7⟩:=r.slot i _ h;refine⟨a,kvs,kas,?_,h2,h3,h4,h5,h6,h7⟩;cases q:σ[i]? with
 |none=>rw[q]at h1;cases h1
 |some z=>rw[q]at h1;rw[show z=some (V.ref a)from h1]
theorem Rel.dw{e:List S}(r:Rel K Z G σ H e)(h:e[i]?=some (.dw sh ks ws)):∃a kvs kas,σ[i]?=some (some (.ref a))/\H a=some (dwO sh kvs kas)/\G a=none/\Z.H a=none/\kvs.map (·.1)=ks/\KeysS sh G ks kas/\Reps K G ws (kvs.map (·.2)):=by
 obtain⟨a,kvs,kas,h1,h2,h3,h4,h5,h6,h7⟩:=r.dwX h;exact⟨a,kvs,kas,h1,h2,h3,h4,h5,h6,h7.reps⟩
theorem Rel.setS{e:List S}(r:Rel K Z G σ H e){i:Nat}{s:S}(hs:∀b ws,s≠.own b ws)(q:SlotOk K Z G H s (some v)):Rel K Z G (σ.set i (some v)) H (e.set i s):=by
 refine⟨r.sub,fun j t z=>?_,by simpa using r.len,fun j k b1 b2 w1 w2 c z1 z2 z3 z4=>?_,r.ent,r.ion,r.gen⟩
 ·by_cases hj:j=i
  ·subst hj
   have hi:j<e.length:=by
    have:=(w0b.mp z).1;simpa using this
   rw[w0i hi]at z;cases z;rw[w0i (by rw[<- r.len];exact hi)];exact q
  ·rw[w0h (fun z=>hj z.symm)]at z |-
   exact r.slot j t z
 ·have old:∀(k:Nat)(bb:Option Nat)(ww:List W),(e.set i s)[k]?=some (.own bb ww)->k≠i/\e[k]?=some (.own bb ww):=fun k bb ww z=>by
   by_cases hk:k=i
   ·subst hk
    have hi:k<e.length:=by
     have:=(w0b.mp z).1;simpa using this
    rw[w0i hi]at z;cases z;exact absurd rfl (hs _ _)
   ·rw[w0h (fun z=>hk z.symm)]at z;exact⟨hk,z⟩
  obtain⟨n1,q1⟩:=old _ _ _ z1;obtain⟨n2,q2⟩:=old _ _ _ z2;rw[w0h (fun z=>n1 z.symm)]at z3
  rw[w0h (fun z=>n2 z.symm)]at z4
  exact r.dis _ _ _ _ _ _ _ q1 q2 z3 z4
theorem Rel.mutDw{e:List S}(r:Rel K Z G σ H e){ks':List Kx}{ws':List W}{a:Addr}{kvs':List (Kx×V)}{kas':List Addr}(h:e[i]?=some (.dw sh ks ws))(ha:σ[i]?=some (some (.ref a)))(ho:∀s∈e.set i .no,isDw s=false)
  (h5:kvs'.map (·.1)=ks')(h6:KeysS sh G ks' kas')(h7:RepsX K Z G sh ws' (kvs'.map (·.2))):Rel K Z G σ (upd H a (dwO sh kvs' kas')) (e.set i (.dw sh ks' ws')):=by
 obtain⟨a',kvs,kas,h1,h2,h3,h4,_⟩:=r.dw h;rw[ha]at h1;cases h1;have hi:i<e.length:=(w0b.mp h).1;refine⟨fun c o z=>?_,fun j s z=>?_,by simpa using r.len,fun j k b1 b2 w1 w2 c z1 z2 z3 z4=>?_,fun c o z n=>?_,fun c z=>?_,r.gen⟩
 ·rw[q0d (q0p z h3)];exact r.sub c o z
 ·by_cases hj:j=i
  ·subst hj;rw[w0i hi]at z;cases z;exact⟨a,kvs',kas',by rw[ha];rfl,q0g,h3,h4,h5,h6,h7⟩
  ·rw[w0h (fun z=>hj z.symm)]at z
   have y:=r.slot j s z;cases s with
   |no=>trivial
   |fr w=>exact y
   |own b2 w2=>
    obtain⟨c,ys,y1,y2,y3,y4,y5⟩:=y;refine⟨c,ys,y1,?_,y3,y4,y5⟩;rw[q0d (q0t y2 h2 (fun z=>q2s rfl z.symm))];exact y2
   |dic _=>
    have:=ho _ (w0l (i:=j) (by rw[w0h (fun z=>hj z.symm)];exact z))
    cases this
   |thr us w2 vs=>
    obtain⟨t,l,o,xs2,ys,zs,y1,y2,y3,y4,y5,y6⟩:=y;refine⟨t,l,o,xs2,ys,zs,y1,y2,?_,y4,y5,y6⟩;rw[q0d (q0t y3 h2 (fun z=>q2s rfl z.symm))];exact y3
   |nest wss=>exact NestOk.move y (.refl _) fun l o ys k1 k2 k3=>⟨by rw[q0d (q0t k1 h2 (fun z=>q2s rfl z.symm))];exact k1,k2,k3⟩
   |x k=>exact XOk.move y (.refl _) fun l o ys k1 k2 k3=>⟨by rw[q0d (q0t k1 h2 (fun z=>q2s rfl z.symm))];exact k1,k2,k3⟩
   |dw _ _ _=>
    have:=ho _ (w0l (i:=j) (by rw[w0h (fun z=>hj z.symm)];exact z))
    cases this
 ·have old:∀(k:Nat)(bb:Option Nat)(ww:List W),(e.set i (S.dw sh ks' ws'))[k]?=some (.own bb ww)->e[k]?=some (.own bb ww):=fun k bb ww z=>by
   by_cases hk:k=i
   ·subst hk;rw[w0i hi]at z;cases z
   ·rw[w0h (fun z=>hk z.symm)]at z;exact z
  exact r.dis _ _ _ _ _ _ _ (old _ _ _ z1) (old _ _ _ z2) z3 z4
 ·rw[q0d (q0p z h4)];exact r.ent c o z n
 ·by_cases hc:c=a
  ·subst hc;rw[q0g];exact fun z=>nomatch z
  ·rw[q0d hc];exact r.ion c z
noncomputable def putWC(i:Nat)(w kw:W)(e:List S):Option S->SR
 |some (.dw sh ks ws)=>match keyT kw with
  |some x=>if ks.length<16777216/\(e.set i .no).all (fun s=>!isDw s)=true/\fits x sh/\lkW ks ws x=none/\sh.isN=false then .nx (e.set i (.dw sh (ks++[x]) (ws++[w])))else .no
  |none=>.no
 |_=>.no
noncomputable def putW0(i:Nat)(dk:Den W)(w:W)(e1:List S):Option S->SR
 |some (.dw _ _ _)=>(dk e1).stm fun kw e2=>putWC i w kw e2 e2[i]?
 |_=>.no
noncomputable def dPutW(i:Nat)(d dk:Den W):List S->SR:=fun e=>(d e).stm fun w e1=>putW0 i dk w e1 e1[i]?
theorem y5g(i:Nat)(hK:NoTup X.K)(hu:X.A.units+150<cLine)(he:DE Z X EE e d)(hk:DE Z X EE k dk)(hN:X.N[i]?=some x:=by rfl)(hv:Vis X.env.scope x:=by walk_at "1")(hd:(x==("__debug__":Str))=false:=by decide)(hcd:(x==("__classdict__":Str))=false:=by decide)
  (hs:swapsWith e (some (.Subscript (.Name x p) k tpos)) pos.line X.env=pure false:=by rfl):DS Z X EE (.Assign [.Subscript (.Name x p) k tpos] e pos) (dPutW i d dk):=by
 refine PS.mono (y5c (by omega) (pv i hN hv hd hcd) hk he hs) ?_;rintro D σ H ⟨G,e,rel,h⟩;refine⟨G,e,rel,(q0w h).imp (fun w e1 h G1 v1 H1 r1 s1 p1=>?_) fun _ _ h=>h⟩
 unfold putW0 at h;split at h
 ·rename_i sh0 ks0 ws0 he0;obtain⟨a,kvs0,kas0,q1,q2,_⟩:=r1.dw he0;refine⟨.ref a,q1,G1,e1,r1,(q0w (σ:=σ) h).imp (fun kw e2 h G2 v2 H2 r2 s2 p2=>?_) fun _ _ h G' H' r s=>h G' H' r (s1.trans s)⟩
  unfold putWC at h;split at h
  ·rename_i sh ks ws he2;obtain⟨a',kvs,kas,g1,g2,g3,g4,g5,g6,g7⟩:=r2.dw he2;rw[q1]at g1;cases g1;split at h
   ·rename_i t hk1;split at h
    ·rename_i hc;obtain⟨b,rfl,kr⟩:=q6b hK (.refl G2) hk1 p2;have krH:KRep H2 t (.ref b):=KRep.keeps (fun _ _ _ z=>r2.sub _ _ z) t kr
     subst g5;have hI:=noI kr hc.2.2.1;rw[x1p hI]at g2;have hnew:valV kvs t=none:=(x2j g7).2 hc.2.2.2.1;refine⟨a,_,rfl,DPut.t g2 ⟨krH,hc.2.2.1⟩ (by rw[sizeLine_eq];have:=hc.1;rw[w0a]at this;exact this),?_⟩;rw[y04 v1 hnew,show putAd kvs kas t b=kas++[b] by unfold putAd;rw[hnew];rfl,<- x1p hI];refine h G2 σ _ (r2.mutDw (ks':=kvs.map (·.1)++[t]) (ws':=ws++[w]) he2 q1 (fun s hs=>?_) (by rw[w0q];rfl) (.of (KeysG.snoc kr (g6.g hI)) hI) ?_) (s1.trans s2)
     ·have:=w0v.mp hc.2.1 s hs;simpa using this
     ·rw[w0q];exact .of hc.2.2.2.2 (g7.append (.one (Rep.mono s2 w p1)))
    ·exact h.elim
   ·exact h.elim
  ·exact h.elim
 ·exact h.elim
end
section
variable{kw dflt:W}{x:Kx}
theorem y5h:dPutW i d dk e=(d e).stm fun w e1=>putW0 i dk w e1 e1[i]?:=rfl
theorem y5i:putW0 i dk w e (some (.dw sh ks ws))=(dk e).stm fun kw e2=>putWC i w kw e2 e2[i]?:=rfl
theorem y5j(hk:keyT kw=some x)(h1:ks.length<16777216)(h2:(e.set i .no).all (fun s=>!isDw s)=true)(h3:fits x sh)(h4:lkW ks ws x=none)(h5:sh.isN=false:=by rfl):putWC i w kw e (some (.dw sh ks ws))=.nx (e.set i (.dw sh (ks++[x]) (ws++[w]))):=by
 show(match keyT kw with|some x=>_|none=>_)=_;rw[hk];exact if_pos ⟨h1,h2,h3,h4,h5⟩
theorem y9f(hk:keyT w=some x)(hc:fits x sh):ninT w (.dw fz sh ks ws)=some (.bl (!(lkW ks ws x).isSome)):=by
 unfold ninT;rw[hk];exact if_pos hc
theorem y2x(hk:keyT w=some x)(hc:fits x sh):ixT (.dw fz sh ks ws) w=lkW ks ws x:=by
 unfold ixT;rw[hk];exact if_pos hc
theorem y5k:hide1 (.dw sh ks ws)=.fr (.dw false sh ks ws):=rfl
end
noncomputable def tupAt(K:PySem.W.Frag)(a:Addr):Bool:=match K.lookup a with
 |some o=>(match o.cls with
  |.type n=>n=="tuple"
  |_=>false)
 |none=>false
noncomputable def dropT(K:PySem.W.Frag):PySem.W.Frag:=K.filter fun p=>!tupAt K p.1
theorem q4i{q:Addr->Bool}:∀{K:PySem.W.Frag}{o:Obj},(K.filter fun p=>q p.1).lookup a=some o->K.lookup a=some o/\q a=true
 |[],_,h=>by cases h
 |(b,u)::K,o,h=>by
  by_cases hq:q b=true
  ·rw[w2o (p:=fun p:Addr×Obj=>q p.1) (a:=(b,u)) hq]at h
   by_cases e:a=b
   ·subst e;rw[show List.lookup a ((a,u)::(K.filter fun p=>q p.1))=some u by simp[List.lookup]]at h
    refine⟨?_,hq⟩;rw[<- h];simp[List.lookup]
   ·rw[show List.lookup a ((b,u)::(K.filter fun p=>q p.1))=List.lookup a (K.filter fun p=>q p.1) by simp only[List.lookup];rw[beq_eq_false_iff_ne.mpr e]]at h
    obtain⟨h1,h2⟩:=q4i h;refine⟨?_,h2⟩;rw[<- h1];simp only[List.lookup];rw[beq_eq_false_iff_ne.mpr e]
  ·rw[w3k (p:=fun p:Addr×Obj=>q p.1) (a:=(b,u)) hq]at h
   obtain⟨h1,h2⟩:=q4i h;have e:a≠b:=fun z=>hq (by rw[<- z];exact h2)
   refine⟨?_,h2⟩;rw[<- h1];simp only[List.lookup];rw[beq_eq_false_iff_ne.mpr e]
theorem y07{h:Heap}(X:K.In h):(dropT K).In h:=fun a o e=>X a o (q4i (q:=fun a=>!tupAt K a) e).1
theorem y08:NoTup (dropT K):=fun a o e z=>by
 obtain⟨h1,h2⟩:=q4i (q:=fun a=>!tupAt K a) e
 unfold tupAt at h2;rw[h1]at h2;simp[z]at h2
theorem q0j{o:Obj}(h:K.lookup a=some o)(t:tupAt K a=false):(dropT K).lookup a=some o:=by
 have gen:∀(l:PySem.W.Frag)(q:Addr->Bool),q a=true->l.lookup a=some o->(l.filter fun p=>q p.1).lookup a=some o:=by
  intro l q hq
  induction l with
  |nil=>intro h;cases h
  |cons p l ih=>
   obtain⟨b,u⟩:=p;intro h
   by_cases e:a=b
   ·subst e;rw[w2o (p:=fun p:Addr×Obj=>q p.1) (a:=(a,u)) hq]
    rw[show List.lookup a ((a,u)::l)=some u by simp[List.lookup]]at h;rw[<- h];simp[List.lookup]
   ·rw[show List.lookup a ((b,u)::l)=List.lookup a l by simp only[List.lookup];rw[beq_eq_false_iff_ne.mpr e]]at h
    by_cases hb:q b=true
    ·rw[w2o (p:=fun p:Addr×Obj=>q p.1) (a:=(b,u)) hb,<- ih h]
     simp only[List.lookup];rw[beq_eq_false_iff_ne.mpr e]
    ·rw[w3k (p:=fun p:Addr×Obj=>q p.1) (a:=(b,u)) hb]
     exact ih h
 exact gen K (fun a=>!tupAt K a) (by rw[t];rfl) h
theorem q0i{r:Option Value}(h:PySem.W.nsIn K a x=some r)(t:tupAt K a=false):PySem.W.nsIn (dropT K) a x=some r:=by
 unfold PySem.W.nsIn at h |-
 cases q:K.lookup a with
 |none=>rw[q]at h;cases h
 |some o=>rw[q0j q t];rw[q]at h;exact h
noncomputable def tupAtV(K:PySem.W.Frag):Value->Bool
 |.ref a=>tupAt K a
 |_=>false
theorem q0o{cd:Value}(h:PySem.W.codeIn K cd x=true)(t:tupAtV K cd=false):PySem.W.codeIn (dropT K) cd x=true:=by
 cases cd with
 |ref a=>
  unfold PySem.W.codeIn at h |-
  dsimp only at h |-
  cases q:K.lookup a with
  |none=>rw[q]at h;cases h
  |some o=>rw[q0j q t];rw[q]at h;exact h
 |_=>cases h
noncomputable def funAt(K:PySem.W.Frag)(a:Addr):Bool:=!tupAt K a&&(match K.lookup a with
 |some ⟨_,_,.func _,_⟩=>true
 |_=>false)
noncomputable def lk{κ:Type} [DecidableEq κ](kvs:List (κ×Sv))(x:κ):Option Sv:=(kvs.find? fun p=>decide (p.1=x)).map (·.2)
theorem hu1{n:Nat}(h:n+150<cLine):n+20<cLine:=w4k (Nat.add_le_add_left (by decide:20<=150) _) h
section
variable{kw:W}{kvs:List (Key×Sv)}
theorem y09{dd:Dd}:hide1 (.dic dd)=.fr (.dic dd):=rfl
end
end D
namespace L2
open PySem PySem.Spec PyProof.Rows
theorem x8c{P:Program}{w:World}{K:PySem.W.Frag}{mg mb:Str->Option Value}{CX:CXT}{k:Nat}{fa a:Addr}{fd:FuncData}{x:Str}{sp:Sp}{s₁:Shared}{vs:List Value}{ns:List Int}{tabs:List (Addr×Str)}
  (KX:K.In s₁.heap)(hns:s₁.heap.Ns mainGlobals mg)(hb:s₁.heap.Ns builtinsNs mb)(hbb:∀x:Str,x≠"__name__"->mb x=bootBuiltins x)(hlim:s₁.heap.NoLimit)(hg:s₁.gens=#[])
  (ha:s₁.heap.get? a=some {cls:=.type "list", data:=.seq vs.toArray})(hi:IntsAre vs ns)(hl:ns.length<=sizeLine)(hr:Room k callerA)
  (F:∀base:Heap,K.In base->base.Ns mainGlobals mg->BMain base mg->FnOk P w K mg base CX k fa fd [x] sp)(hbind:∀(s:Shared)(u:Value),BindsTo s fd ⟨[u],[]⟩ [(x,u)])
  (hsp:∀H:Hp,SqL K H a (ns.map V.int)->sp [.ref a] H (fun v _=>v=.bl true) fun _ _ _=>False)
  (hCX:∀H e s',CX [] H s₁ (fun _ _ _=>False) e s'->False)
  (hBM:BMain s₁.heap mg)(hM:∀a q P,(a,markO P q)∈K->tabs.lookup P=some q)(hT:∀P q,tabs.lookup P=some q->s₁.heap.get? P=some (tabObj #[])/\isCodeTable s₁.heap P)(hKT:∀P q,tabs.lookup P=some q->K.lookup P=none):
  codeAny (model P w) callerA (.call (.ref fa) ⟨[.ref a],[]⟩) (fun r s'=>r=.ok (.ret (.bool true))/\OldK s₁.heap s'.heap/\s'.os=s₁.os/\AllBare s'.gens) s₁:=by
 have rv:=q6u hi;have lenV:=hi.length
 have aT:tabs.lookup a=none:=by
  cases q:tabs.lookup a with
  |none=>rfl
  |some t=>rw[(hT a t q).1]at ha;cases ha
 have core:∀H0:Hp,(∀b,H0 b=none\/∃o xs,H0 b=some (.frz o (.lst xs)))->SqL K H0 a (ns.map V.int)->HOk P w H0 s₁.heap->(∀b,H0 b≠none->b=a)->(H0 a≠none->K.lookup a=none) ->
   codeAny (model P w) callerA (.call (.ref fa) ⟨[.ref a],[]⟩) (fun r s'=>r=.ok (.ret (.bool true))/\OldK s₁.heap s'.heap/\s'.os=s₁.os/\AllBare s'.gens) s₁:=by
  intro H0 hO hS0 hok0 hA hK;obtain⟨H,hH⟩:∃H:Hp,H=fun b=>match tabs.lookup b with|some q=>some (.tbl #[.bool true,.str q 0])|none=>H0 b:=⟨_,rfl⟩
  have inT:∀b q,tabs.lookup b=some q->H b=some (.tbl #[.bool true,.str q 0]):=fun b q z=>by rw[hH];simp only[z]
  have outT:∀b,tabs.lookup b=none->H b=H0 b:=fun b z=>by rw[hH];simp only[z]
  have up:∀b u,H0 b=some u->H b=some u:=fun b u z=>by
   have:b=a:=hA b (by rw[z];simp);subst this;rw[outT b aT];exact z
  have hS:SqL K H a (ns.map V.int):=by
   rcases hS0 with(z|⟨o,z⟩)|z
   ·exact .inl (.inl (up _ _ z))
   ·exact .inl (.inr ⟨o,up _ _ z⟩)
   ·exact .inr z
  have hok:HOk P w H s₁.heap:=fun b u z=>by
   cases q:tabs.lookup b with
   |some t=>
    rw[inT b t q]at z;cases z;exact .inl ⟨t,#[],rfl,rfl,(hT b t q).1,trivial,fun pos cv z=>by cases z⟩
   |none=>
    rw[outT b q]at z;exact(hok0 b u z).stay (fun c v _ q=>q) (fun c q=>up c _ q) fun c v _ q=>up c v q
  have base_of:∀{b:Addr}{o:Obj},s₁.heap.get? b=some o->H b=none->(hidT s₁.heap H).get? b=some o:=fun e n=>x1v e n
  have free:∀{b:Addr}{o:Obj},s₁.heap.get? b=some o->o≠{cls:=.type "list", data:=.seq vs.toArray}->o≠tabObj #[]->H b=none:=fun {b o} e d1 d2=>by
   cases q:tabs.lookup b with
   |some t=>rw[(hT b t q).1]at e;cases e;exact absurd rfl d2
   |none=>
    rw[outT b q];cases q0:H0 b with
    |none=>rfl
    |some u=>
     have e':b=a:=hA b (by rw[q0];simp);subst e';rw[ha]at e;cases e;exact absurd rfl d1
  have nsK:∀{b:Addr}{m:Str->Option Value},s₁.heap.Ns b m->(hidT s₁.heap H).Ns b m:=fun {b m} ⟨o,es,ep,e,d,r⟩=>⟨o,es,ep,base_of e (free e (fun z=>by rw[z]at d;cases d) fun z=>by rw[z]at d;cases d),d,r⟩
  have hKb:K.In (hidT s₁.heap H):=fun b o e=>base_of (KX b o e) (by
   cases q:tabs.lookup b with
   |some t=>rw[hKT b t q]at e;cases e
   |none=>
    rw[outT b q];cases q0:H0 b with
    |none=>rfl
    |some u=>
     have e':b=a:=hA b (by rw[q0];simp);subst e';rw[hK (by rw[q0];simp)]at e;cases e)
  have hBb:BMain (hidT s₁.heap H) mg:=by
   obtain⟨bm,ob,b1,b2,b3,b4,b5,b6⟩:=hBM;exact⟨bm,ob,b1,b2,base_of b3 (free b3 (fun z=>by rw[z]at b4;simp at b4) fun z=>by rw[z]at b4;cases b4),b4,b5,b6⟩
  have hMd:Mod K mg (hidT s₁.heap H):=⟨hKb,nsK hns,⟨mb,nsK hb,hbb⟩,let ⟨mc,h1,h2⟩:=hlim;⟨mc,nsK h1,h2⟩⟩;have e0:Env0 P w K mg (hidT s₁.heap H) callerA [] s₁ H:=⟨rfl,hMd,fun b o e=>x32 e,Nat.le_of_eq (x0c _ _),trivial,fun b hb=>absurd (show b∈([]:List Addr)from hb) (by simp),hok,.of_eq hg,fun a q P m=>⟨_,inT P q (hM a q P m),rfl,rfl⟩⟩
  refine codeAny_mono ((F _ hKb (nsK hns) hBb).run callerA [] s₁ H ⟨[.ref a],[]⟩ [.ref a] [.ref a] _ _ hr e0 (hbind s₁ (.ref a)) (.cons rfl .nil) (hsp H hS)) fun r s' h=>?_
  cases r with
  |error e=>exact(hCX H e s' h).elim
  |ok fl=>
   cases fl with
   |next=>exact False.elim h
   |brk=>exact False.elim h
   |cont=>exact False.elim h
   |ret u=>
    obtain⟨v,H',os,bare,un,hok',r',q⟩:=h;have q':v=.bl true:=q;subst q';obtain rfl:u=Value.bool true:=r'
    have kp:∀b o,tabs.lookup b=none->s₁.heap.get? b=some o->s'.heap.get? b=some o:=fun b o z e=>by
     cases q:H b with
     |none=>exact un.keep b o e q (by intro z;exact absurd (show b∈([]:List Addr)from z) (by simp)) (by simp)
     |some u=>
      have q0:=q;rw[outT b z]at q0;rcases hO b with z|⟨ob,xs,z⟩
      ·rw[q0]at z;cases z
      ·rw[q0]at z;cases z;have z2:=un.frzs b ob _ q;obtain⟨e1,_⟩:=(show s₁.heap.get? b=some ob/\_ from hok b _ q);obtain⟨e2,_⟩:=(show s'.heap.get? b=some ob/\_ from hok' b _ z2);rw[e]at e1;cases e1;exact e2
    have gr:∀b t,tabs.lookup b=some t->∃qs,s'.heap.get? b=some (tabObj qs):=fun b t z=>by
     obtain⟨more,e⟩:=un.tbls b _ (inT b t z);have o1:ObjOk P w H' s'.heap b (.tbl (#[.bool true,.str t 0]++more)):=hok' b _ e;rcases o1 with⟨_,qs,_,_,g,_⟩|⟨_,_,_,_,_,_,p0,_⟩
     ·exact⟨qs,g⟩
     ·rw[w1k (by simp)]at p0;cases p0
    refine⟨rfl,⟨fun b o e=>?_,fun b o e=>?_⟩,os,bare⟩
    ·cases z:tabs.lookup b with
     |none=>exact .inl (kp b o z e)
     |some t=>
      obtain⟨qs,g⟩:=gr b t z;obtain⟨g1,g2⟩:=hT b t z;rw[e]at g1;cases g1;exact .inr (.inl ⟨g2,rfl,#[],qs,rfl,by rw[Array.empty_append];exact g⟩)
    ·cases z:tabs.lookup b with
     |none=>exact⟨o,kp b o z e⟩
     |some t=>
      obtain⟨qs,g⟩:=gr b t z;exact⟨_,g⟩
 cases hk:K.lookup a with
 |some o=>
  have e:=KX a o hk;rw[ha]at e;cases e;refine core (fun _=>none) (fun _=>.inl rfl) (.inr ⟨_,vs.toArray,_,hk,rfl,rfl,rfl,by rw[w0e,lenV];exact hl,by simpa using rv⟩) (fun b u z=>by have z':(none:Option HO)=some u:=z;cases z') (fun b z=>absurd rfl z) fun z=>absurd rfl z
 |none=>
  refine core (fun b=>if b=a then some (.frz {cls:=.type "list", data:=.seq vs.toArray} (.lst (ns.map V.int)))else none) (fun b=>?_) (.inl (.inr ⟨{cls:=.type "list", data:=.seq vs.toArray},if_pos rfl⟩)) (fun b u z=>?_) (fun b z=>?_) fun _=>hk
  ·by_cases hb:b=a
   ·exact .inr ⟨_,_,if_pos hb⟩
   ·exact .inl (if_neg hb)
  ·by_cases hb:b=a
   ·have z':=(if_pos hb).symm.trans z;cases z';subst hb;exact⟨ha,by rw[w0a];exact hl,vs,_,rv,ha⟩
   ·have z':=(if_neg hb).symm.trans z;cases z'
  ·by_cases hb:b=a
   ·exact hb
   ·exact absurd (if_neg hb) z
theorem y1a{l:PySem.W.OpenLaw}{n k:Nat}{q:Program}{loose:List Str}{XP:(Str->Option Value)->Heap->Prop}{YP:World->Heap->Prop}{d:DefRec}{K:Params->PySem.W.Frag}{CX:World->CXT}{sp:World->Sp}{x:Str}{tabs:List (Addr×Str)}
  (hn:l.most=some n)(hn2:n<=sizeLine)(hdf:d.params.defaults=[])(hr:Room k callerA)
  (hY:∀(w:World)(h:Heap),YP w h->(K w.params).In h)
  (F:∀(w:World)(mg:Str->Option Value)(fa:Addr)(h:Heap),(K w.params).In h->h.Ns mainGlobals mg->mg d.name=some (.ref fa) ->
   ∃fd:FuncData,(∀(s:Shared)(u:Value),BindsTo s fd ⟨[u],[]⟩ [(x,u)]) /\
    ∀base:Heap,(K w.params).In base->base.Ns mainGlobals mg->BMain base mg->FnOk l.prog w (K w.params) mg base (CX w) k fa fd [x] (sp w))
  (hsp:∀(w:World)(H:Hp)(a:Addr)(ns:List Int),ns.length<=n->SqL (K w.params) H a (ns.map V.int)->sp w [.ref a] H (fun v _=>v=.bl true) fun _ _ _=>False)
  (hCX:∀(w:World)(H:Hp)(s:Shared)(e:Value)(s':Shared),CX w [] H s (fun _ _ _=>False) e s'->False)
  (hM:∀(w:World) a q P,(a,markO P q)∈K w.params->tabs.lookup P=some q)(hT:∀(w:World)(h:Heap),YP w h->∀P q,tabs.lookup P=some q->h.get? P=some (tabObj #[])/\isCodeTable h P)(hKT:∀(w:World) P q,tabs.lookup P=some q->(K w.params).lookup P=none):
  PySem.W.WalkO q loose XP YP l.row.toRowW d [] (fun f vs=>PySem.call f vs):=by
 refine Att.attach_call hn hdf fun w s₀ s₁ mg mb fa o pm cd doc a vs ns G Y ho hd hcd hmg hobj hints hlen hg=>?_
 have KX:=hY w _ Y;obtain⟨fd,hb,hF⟩:=F w mg fa _ KX G.T.g hmg;exact x8c KX G.T.g G.T.b G.T.builtins G.T.nolimit hg hobj hints (w0r hlen hn2) hr hF hb (fun H hS=>hsp w H a ns hlen hS) (fun H e s'=>hCX w H s₁ e s') G.T.bmain (hM w) (hT w _ Y) (hKT w)
end L2
namespace D
open PySem L2
variable{X:Cx}{dA:Den (List W)}{e:Expr}{G H:Hp}{EE:L2.St->XK}{es:List Expr}{N ps:List Str}{k:Nat}{r:Nat->List W->FR}{p pos:Pos}{K:PySem.W.Frag}{x:Str}{Z:Zt}
mutual
noncomputable def noFn:W->Bool
 |.tup ws=>noFns ws
 |.lst ws=>noFns ws
 |.dw _ _ _ ws=>noFns ws
 |.fn _ _ _=>false
 |.non=>true
 |.bl _=>true
 |.int _=>true
 |.str _=>true
 |.exc _=>true
 |.dic _=>true
noncomputable def noFns:List W->Bool
 |[]=>true
 |w::ws=>noFn w&&noFns ws
end
section
variable{cs:Cs}
theorem Rd.rm{a:Addr}{u:HO}(c:CelsIn G cs)(h:Rd G a u)(n:∀o,u≠celO o)(n2:∀φ,u≠.ext φ):Rd (rmC G cs) a u:=by
 rcases h with h|⟨o,h⟩
 ·exact .inl (c.rm_some h n)
 ·exact .inr ⟨o,c.rm_some h fun o' z=>by cases z;exact n2 _ rfl⟩
theorem KeysG.rm(c:CelsIn G cs):∀{ks:List Kx}{bs:List Addr},KeysG G ks bs->KeysG (rmC G cs) ks bs
 |[],[],_=>trivial
 |k::ks,b::bs,h=>⟨KRep.keeps (fun _ _ t z=>c.rm_some z (q70 t)) k h.1,KeysG.rm c h.2⟩
 |[],_::_,h=>h.elim
 |_::_,[],h=>h.elim
theorem KeysS.rm{sh:Sh}(c:CelsIn G cs){ks:List Kx}{bs:List Addr}(h:KeysS sh G ks bs):KeysS sh (rmC G cs) ks bs:=by
 unfold KeysS at h |-
 split at h
 ·rename_i hi;rw[if_pos hi];exact h
 ·rename_i hi;rw[if_neg hi];exact h.rm c
mutual
theorem Rep.rm(c:CelsIn G cs):∀(w:W){v:V},noFn w=true->Rep K G w v->Rep K (rmC G cs) w v
 |.non,v,_,h=>h
 |.bl b,v,_,h=>h
 |.int i,v,_,h=>h
 |.str x,v,_,h=>h
 |.tup ws,v,n,h=>by
  obtain⟨a,xs,rfl,q,r⟩:=h;refine⟨a,xs,rfl,?_,Reps.rm c ws n r⟩;rcases q with q|q
  ·exact .inl (Rd.rm c q (fun o z=>nomatch z) fun φ z=>nomatch z)
  ·exact .inr q
 |.lst ws,v,n,h=>by
  obtain⟨a,xs,rfl,q,r⟩:=h;refine⟨a,xs,rfl,?_,Reps.rm c ws n r⟩;rcases q with q|q
  ·exact .inl (Rd.rm c q (fun o z=>nomatch z) fun φ z=>nomatch z)
  ·exact .inr q
 |.exc e,v,_,h=>by
  obtain⟨a,rfl,q⟩:=h;exact⟨a,rfl,c.rm_some q fun o z=>by unfold excO at z;cases z⟩
 |.dic kvs,v,_,h=>by
  obtain⟨a,rfl,q⟩:=h;exact⟨a,rfl,c.rm_some q fun o z=>by cases kvs;cases z⟩
 |.dw fz sh ks ws,v,n,h=>by
  obtain⟨a,kvs,kas,rfl,h1,h2,h3,h4⟩:=h;refine⟨a,kvs,kas,rfl,?_,h2,KeysS.rm c h3,Reps.rm c ws n h4⟩;cases fz with
  |true=>obtain⟨o,h1⟩:=h1;exact⟨o,c.rm_some h1 fun o z=>by injection z with _ z;exact q2s rfl z⟩
  |false=>exact c.rm_some h1 fun o z=>q2s rfl z
 |.fn _ _ _,v,n,_=>by cases n
theorem Reps.rm(c:CelsIn G cs):∀(ws:List W){xs:List V},noFns ws=true->Reps K G ws xs->Reps K (rmC G cs) ws xs
 |[],xs,_,h=>h
 |w::ws,xs,n,h=>by
  obtain⟨x,r,rfl,h1,h2⟩:=h
  have n':noFn w=true/\noFns ws=true:=by
   have:(noFn w&&noFns ws)=true:=n
   rwa [w1b]at this
  exact⟨x,r,rfl,Rep.rm c w n'.1 h1,Reps.rm c ws n'.2 h2⟩
end
end
section
variable{G' H':Hp}{cs:Cs}
theorem x2k(h:∀b o,cs.lookup b=some o->H b=none):Same H (addC H cs):=fun b u e=>by
 cases q:cs.lookup b with
 |some o=>rw[h b o q]at e;cases e
 |none=>rw[q0s q];exact e
theorem x0s(h:Same G H):Same (addC G cs) (addC H cs):=fun b u e=>by
 cases q:cs.lookup b with
 |some o=>rw[q2g q]at e |-;exact e
 |none=>rw[q0s q]at e |-;exact h b u e
theorem x2l(h:Same G H):Same (rmC G cs) (rmC H cs):=fun b u e=>by
 obtain⟨e1,e2⟩:=x5g e;rw[q1r e2];exact h b u e1
theorem Grow.lam(ch:CelsIn H cs)(cg:CelsIn G cs)(e1:Same (rmC H cs) H')(e2:Same (rmC G cs) G')(e3:Same G' H')(e4:∀a,rmC H cs a≠none->G' a=rmC G cs a):Grow G H (addC G' cs) (addC H' cs) where
 hh:=fun b u e=>by
  cases q:cs.lookup b with
  |some o=>rw[q2g q];rw[ch b o q]at e;exact e
  |none=>rw[q0s q];exact e1 b u (by rw[q1r q];exact e)
 gg:=fun b u e=>by
  cases q:cs.lookup b with
  |some o=>rw[q2g q];rw[cg b o q]at e;exact e
  |none=>rw[q0s q];exact e2 b u (by rw[q1r q];exact e)
 sub:=x0s e3
 new:=fun a ha=>by
  cases q:cs.lookup a with
  |some o=>rw[q2g q,cg a o q]
  |none=>
   rw[q0s q,e4 a (by rw[q1r q];exact ha),q1r q]
theorem Grow.nocells(g:Grow (addC G cs) (addC H cs) G' H')(hn:∀b o,cs.lookup b=some o->H b=none)(sg:Same G H):Grow G H (rmC G' cs) (rmC H' cs) where
 hh:=fun b u e=>by
  cases q:cs.lookup b with
  |some o=>rw[hn b o q]at e;cases e
  |none=>rw[q1r q];exact g.hh b u (by rw[q0s q];exact e)
 gg:=fun b u e=>by
  cases q:cs.lookup b with
  |some o=>have:=sg b u e;rw[hn b o q]at this;cases this
  |none=>rw[q1r q];exact g.gg b u (by rw[q0s q];exact e)
 sub:=x2l g.sub
 new:=fun a ha=>by
  cases q:cs.lookup a with
  |some o=>exact absurd (hn a o q) ha
  |none=>rw[q1r q,g.new a (by rw[q0s q];exact ha),q0s q]
end
noncomputable def exprFR:R W->FR
 |.ok w _=>.ok (.fr w)
 |.ex c _=>.ex c
 |.no=>.no
def spV(K:PySem.W.Frag)(lams:Nat->Option Lm)(r:Nat->List W->FR):V->List V->Hp->VK->XK->Prop:=fun x vs H Q _=>∃G i l caps ws w,Same G H/\Rep K G (.fn i l caps) x/\Reps K G ws vs/\noFns ws=true/\noFns caps=true/\lams i=some l /\
 r i (ws++caps)=.ok (.fr w)/\∀G' H' v,Grow G H G' H'->Rep K G' w v->Q v H'
structure LamOk(P:Program)(w:World)(K:PySem.W.Frag)(mg:Str->Option Value)(base:Heap)(n:Nat)(l:Lm)(ps:List Str)(F:List W->FR):Prop where
 sc:LamScope ps l.nf l.scope
 bind:∀(cl:List (Str×Addr))(pm:Value)(c':Addr)(ctv:Value)(us:List Value),us.length=ps.length->bindArgs (kla_fn "<lambda>" l.qual l.params l.body l.scope cl pm (.ref c') ctv) ⟨us,[]⟩=pure (ps.zip us)
 len:∀ws,F ws≠.no->ws.length=ps.length+l.nf.length
 body:∀ws,F ws≠.no->∀(Z:Zt)(f:Addr)(cd:Value)(cl:List (Str×Addr))(A:Around)(outer:List Env)(s:Shared)(H:Hp),Room n (A.deeper (lamEnv l.qual l.scope f cd cl s)) ->
  ∃d,DE Z (cxLam P w K mg base (ps++l.nf) l.qual l.scope f cd cl A outer s H) (fun _=>E0) l.body d/\exprFR (d (ws.map .fr))=F ws
section
variable{lams:Nat->Option Lm}
open Classical in
noncomputable def callVK(lams:Nat->Option Lm)(r:Nat->List W->FR)(j:Nat)(l:Lm)(caps:List W)(ws:List W)(e1:List S):R W:=
 if lams j=some l/\noFns ws=true/\noFns caps=true then(match r j (ws++caps)with
  |.ok (.fr w)=>.ok w e1
  |_=>.no)else .no
noncomputable def callV0(lams:Nat->Option Lm)(r:Nat->List W->FR)(dA:Den (List W))(e:List S):Option S->R W
 |some (.fr (.fn j l caps))=>(dA e).bind fun ws e1=>callVK lams r j l caps ws e1
 |_=>.no
noncomputable def dCallV(lams:Nat->Option Lm)(r:Nat->List W->FR)(i:Nat)(dA:Den (List W)):Den W:=fun e=>callV0 lams r dA e e[i]?
theorem y1b(i:Nat)(F:FnV X.prog X.w X.K X.mg X.base (CX1 X.prog X.w) k (spV X.K lams r))(hr:Room k X.A)(hx:PassX (CX1 X.prog X.w) X EE)(ha:DA Z X EE (e::es) dA)(hv:PE X (.Name x p) (tVar i))
  (he:starEach (e::es) X.env=(false,eval e X.env)::starEach es X.env:=by rfl)(hpl:(backTo pos (starEach es X.env)).any (·.1)=false:=by rfl):
  DE Z X EE (.Call (.Name x p) (e::es) [] pos) (dCallV lams r i dA):=by
 refine PE.mono (x9w F hr hv hx ha he hpl) ?_;rintro σ H Q ⟨G,en,rel,h⟩;unfold dCallV callV0 at h;split at h
 ·rename_i j l caps hs;obtain⟨v,hv,rv⟩:=rel.fr hs;refine⟨v,hv,?_,G,en,rel,?_⟩
  ·obtain⟨f,cl,zs,cs,rfl,⟨pm,c',ctv,ef⟩,_⟩:=rv;exact⟨f,_,_,_,_,_,rfl,rel.sub _ _ ef⟩
  ·rw[R.holds_bind]at h;refine h.imp (fun ws e1 h G1 vs H1 r1 s1 p1=>?_) fun _ _ h=>h
   unfold callVK at h;split at h
   ·rename_i hc;split at h
    ·rename_i w hw;exact⟨G1,j,l,caps,ws,w,r1.sub,Rep.mono s1 (.fn j l caps) rv,p1,hc.2.1,hc.2.2,hc.1,hw,fun G' H' v g rp=>h G' v H' (r1.grow g) (s1.trans g.gg) rp⟩
    ·exact h.elim
   ·exact h.elim
 ·exact h.elim
end
noncomputable def capsOf:List Nat->List S->Option (List W)
 |[],_=>some []
 |j::js,e=>match e[j]? with
  |some (.fr w)=>(capsOf js e).map (w::·)
  |_=>none
theorem x0t{σ:L2.St}{e:List S}(r:Rel K Z G σ H e):∀{js:List Nat}{caps:List W},capsOf js e=some caps->∃zs:List V,Reps K G caps zs/\zs.length=js.length/\∀(i j:Nat) z,js[i]?=some j->zs[i]?=some z->σ[j]?=some (some z)
 |[],caps,h=>by
  cases h;exact⟨[],rfl,rfl,fun i j z h _=>by simp at h⟩
 |j::js,caps,h=>by
  unfold capsOf at h;split at h
  ·rename_i w hw;obtain⟨cs,h1,rfl⟩:=w0c.mp h;obtain⟨zs,r1,r2,r3⟩:=x0t r h1;obtain⟨v,v1,v2⟩:=r.fr hw;refine⟨v::zs,⟨v,zs,rfl,v2,r1⟩,by simp[r2],fun i j' z g1 g2=>?_⟩
   cases i with
   |zero=>
    simp only[w1d,Option.some.injEq]at g1 g2;subst g1;subst g2;exact v1
   |succ i=>exact r3 i j' z (by simpa using g1) (by simpa using g2)
  ·cases h
noncomputable def noE:Expr:=.Name "" ⟨0,0,0,0⟩
noncomputable def stAt(i:Nat)(st:Stmt):Stmt:=(defBody st).getD i (.Pass ⟨0,0,0,0⟩)
noncomputable def stVal:Stmt->Expr
 |.Assign _ v _=>v
 |.Return (some v) _=>v
 |.For _ it _ _ _=>it
 |.Expr v _=>v
 |_=>noE
noncomputable def argAt(i:Nat):Expr->Expr
 |.Call _ as _ _=>as.getD i noE
 |_=>noE
noncomputable def lamParams:Expr->Arguments
 |.Lambda p _ _ _=>p
 |_=>default
noncomputable def lamBody:Expr->Expr
 |.Lambda _ b _ _=>b
 |_=>noE
noncomputable def lamScope:Expr->Scope
 |.Lambda _ _ s _=>s
 |_=>default
def MakK(K:PySem.W.Frag)(x:Str)(cdv:Value):Prop:=∃c P a,cdv=.ref c/\codeHdIn K c P=true/\(a,markO P ((x++".<locals>.")++"<lambda>"))∈K
section
variable{P:Program}{w:World}{mg:Str->Option Value}{base:Heap}
theorem z1h{CX:CXT}{scope:Scope}{f:Addr}{cdv:Value}{A:Around}{outer:List Env}{s:Shared}{E:XK}(h:MakK K x cdv)(b:BMain base mg):Maker (cxOf CX P w K mg base N x scope f cdv A outer s H E):=by
 obtain⟨c,P,a,rfl,h1,h2⟩:=h;exact⟨⟨c,P,a,rfl,h1,h2⟩,b⟩
theorem conM{st:Stmt}{F:List W->FR}(A:At K mg x st ps)(hm:∀f oc od fd sl,mg x=some (.ref f)->K.lookup f=some ⟨oc,od,.func fd,sl⟩->MakK K x fd.code)(sc:FnScope N ps (defScope st))(len:∀ws,F ws≠.no->ws.length=ps.length)
  (hb:∀ws,F ws≠.no->∀(f:Addr)(cdv:Value)(A:Around)(outer:List Env)(s:Shared)(H:Hp)(E:XK)(Z:Zt),Room k (A.deeper (PyProof.Rows.envOfC x (defScope st) s.heap.objs.size f cdv))->MakK K x cdv ->
   ∃d,DSs Z (cxOf (CX1 P w) P w K mg base N x (defScope st) f cdv A outer s H E) (fun _=>E) (defBody st) d/\(d (init N.length ws)).fn=F ws):Cal P w K mg base (k+1) x ps (spF K F):=by
 obtain⟨f,fd,F0,m,b⟩:=A.ex;have kp:=F0.kp;obtain⟨oc,od,kV,doc,pm,an,cdv,ct,osl,rfl,lk,hcd⟩:=F0.ex;have hk:MakK K x cdv:=hm f _ _ _ _ m lk;refine⟨f,_,y2n lk hcd sc (fun vs H Q E h=>?_) (fun A outer s H vs Q E hr h=>?_),m,kp,b⟩
 ·obtain⟨G,ws,hn,r⟩:=q61 h;rw[r.length];exact len ws hn
 ·obtain⟨G,ws,sg,rp,h⟩:=h;have hn:F ws≠.no:=fun z=>by rw[z]at h;exact h
  obtain⟨d,hd,he⟩:=hb ws hn f cdv A outer s H E ⟨H,G,[]⟩ hr hk;exact⟨_,hd,G,init N.length ws,q40 sg rp,q7p he h⟩
theorem fnV0{lams:Nat->Option Lm}(h:∀i ws,r i ws=.no:=by intro _ _;rfl):FnV P w K mg base (CX1 P w) 0 (spV K lams r):=by
 rintro x vs H Q E ⟨G,i,l,caps,ws,w',sg,rf,rv,nw,nc,hl,hr,q⟩;rw[h]at hr;cases hr
end
noncomputable def markT(K:PySem.W.Frag)(tabs:List (Addr×Str)):PySem.W.Frag:=K++tabs.map fun p=>(mainGlobals,markO p.1 p.2)
section
variable{tabs:List (Addr×Str)}{a:Addr}{o:Obj}
theorem q06(h:K.lookup a=some o):(markT K tabs).lookup a=some o:=by
 unfold markT;rw[w4m,h];rfl
theorem q9w(hG:(K.lookup mainGlobals).isSome=true):(markT K tabs).lookup a=K.lookup a:=by
 unfold markT;rw[w4m];cases q:K.lookup a with
 |some o=>rfl
 |none=>
  have ne:a≠mainGlobals:=fun z=>by rw[<- z,q]at hG;cases hG
  have:∀l:List (Addr×Str),(l.map fun p=>(mainGlobals,markO p.1 p.2)).lookup a=none:=fun l=>by
   induction l with
   |nil=>rfl
   |cons p l ih=>rw[w0y,w0s,beq_eq_false_iff_ne.mpr ne];exact ih
  rw[this];rfl
theorem in_m{h:Heap}(hG:(K.lookup mainGlobals).isSome=true)(X:K.In h):(markT K tabs).In h:=fun b u e=>X b u (by rw[<- q9w (tabs:=tabs) hG];exact e)
theorem no_m(hG:(K.lookup mainGlobals).isSome=true)(n:NoTup K):NoTup (markT K tabs):=fun b u e=>n b u (by rw[<- q9w (tabs:=tabs) hG];exact e)
theorem ns_m{r:Option Value}(h:PySem.W.nsIn K a x=some r):PySem.W.nsIn (markT K tabs) a x=some r:=by
 unfold PySem.W.nsIn at h |-
 cases q:K.lookup a with
 |none=>rw[q]at h;cases h
 |some o=>rw[q06 q];rw[q]at h;exact h
theorem q1f{cd:Value}(h:PySem.W.codeIn K cd x=true):PySem.W.codeIn (markT K tabs) cd x=true:=by
 cases cd with
 |ref a=>
  unfold PySem.W.codeIn at h |-
  dsimp only at h |-
  cases q:K.lookup a with
  |none=>rw[q]at h;cases h
  |some o=>rw[q06 q];rw[q]at h;exact h
 |_=>cases h
theorem q1g(t:funAt K a=true):keepIn (markT (dropT K) tabs) (.ref a)=true:=by
 have h:=t;unfold funAt at t
 rw[w1b]at t;obtain⟨t1,t2⟩:=t;have t1:tupAt K a=false:=by simpa using t1
 unfold keepIn;dsimp only;split at t2
 ·rename_i q;rw[q06 (q0j q t1)]
 ·cases t2
theorem x52(h:noMark K=true)(hd:tabs.all (fun p=>tabs.lookup p.1==some p.2)=true):∀a q P,(a,markO P q)∈markT K tabs->tabs.lookup P=some q:=fun a q P m=>by
 rcases w1h.mp m with m|m
 ·have:=w0v.mp h _ m;cases this
 ·obtain⟨p,hp,e⟩:=w0z.mp m;have e1:markO p.1 p.2=markO P q:=(Prod.mk.inj e).2;have e2:p.2=q:=by injection e1 with h1;injection h1
  have e3:p.1=P:=by
   injection e1 with _ _ h3
   injection h3 with h4
   have:=congrArg (fun a:Array Value=>a[0]?) h4
   simpa using this
  have:=w0v.mp hd p hp;rw[<- e2,<- e3]
  simpa using this
theorem x3p(h:noMark K=true):noMark (dropT K)=true:=w0v.mpr fun p hp=>w0v.mp h p (w3s.mp hp).1
theorem tabs_none(hG:(K.lookup mainGlobals).isSome=true)(h:tabs.all (fun p=>(K.lookup p.1).isNone)=true):∀P q,tabs.lookup P=some q->(markT K tabs).lookup P=none:=fun P q e=>by
 rw[q9w hG];have:=w0v.mp h _ (mem_look e)
 simpa using this
where
 mem_look:∀{l:List (Addr×Str)}{P:Addr}{q:Str},l.lookup P=some q->(P,q)∈l
 |[],_,_,e=>by cases e
 |(b,t)::l,P,q,e=>by
  rw[w0s]at e
  by_cases hb:(P==b)=true
  ·rw[hb]at e;cases e;rw[eq_of_beq hb];exact .head _
  ·rw[w1l.mpr hb]at e;exact .tail _ (mem_look e)
theorem y5l{h:Heap}(X:K.In h)(hT:∀P∈tabs.map (·.1),h.get? P=some (tabObj #[]))(hc:∀p∈tabs,∃c,codeHdIn K c p.1=true):∀P q,tabs.lookup P=some q->h.get? P=some (tabObj #[])/\isCodeTable h P:=fun P q e=>by
 have m:=tabs_none.mem_look e;obtain⟨c,hc⟩:=hc _ m;have g:=hT P (w0z.mpr ⟨_,m,rfl⟩);exact⟨g,((PySem.W.codeHd_of_K X hc).tab g).isCodeTable⟩
end
section
variable{e:List S}{ws caps:List W}{lams:Nat->Option Lm}{d:Den W}{i j:Nat}{l:Lm}{w:W}{F:List W->FR}{js:List Nat}
theorem y1c:dCallV lams r i dA e=callV0 lams r dA e e[i]?:=rfl
theorem x8d:callV0 lams r dA e (some (.fr (.fn j l caps)))=(dA e).bind fun ws e1=>callVK lams r j l caps ws e1:=rfl
theorem x8e(h1:lams j=some l)(h2:noFns ws=true)(h3:noFns caps=true)(h4:r j (ws++caps)=.ok (.fr w)):callVK lams r j l caps ws e=.ok w e:=by
 unfold callVK;rw[if_pos ⟨h1,h2,h3⟩,h4]
theorem y1d:capsOf [] e=some []:=rfl
end
end D
namespace L2
open PySem PySem.Spec PyProof.Rows
end L2
namespace D
open PySem L2
end D
namespace L2
open PySem PySem.Spec PyProof.Rows
section
open HT
variable{prog:Program}{w:World}{A:Around}{E:Value->Shared->Prop}{s:Shared}
theorem q6p{t sl:Addr}{items:Array Value}{vl vu:Value}{lo hi:Option Int}{Q:Value->Shared->Prop}(ht:IsTup s.heap t items)(hs:s.heap.IsSliceOf sl vl vu .none)(pl:IsPart vl lo)(pu:IsPart vu hi)
  (hw:sIx items.size 0 lo=0/\sIx items.size items.size hi=items.size)(h:Q (.ref t) s):wpAny (model prog w) A (getItem (.ref t) (.ref sl)) Q E s:=by
 obtain⟨os,hos,hcs,hds⟩:=id hs;have hTs:s.TypeIs (.ref sl) "slice":=⟨os,hos,hcs⟩;unfold getItem;try with_reducible refine wpAny_holding ?_
 first|refine wpAny_bind (wpAny_pure ?_)|skip
 refine wpAny_bind (wpAny_sequenceKey ht.typeIs (by decide) ?_)
 refine wpAny_bind (wpAny_callSpecial?_slot (name:=Str.ofString "__getitem__") ht.typeIs PyProof.Rows.slot_tuple_getitem
  (wpAny_call_entry PyProof.Rows.slot_tuple_getitem ht.typeIs entry_tuple_getitem ?_ (args_tuple_getitem _ _)))
 show wpAny _ _ (Builtin.Tuple.tupleItemsOf (.ref t) >>= _) _ _ s;refine wpAny_bind (tupleItemsOf_ ht ?_);refine wpAny_bind (wpAny_typeOf hTs ?_);rw[if_pos (by decide)];refine wpAny_bind (q4x hs pl pu ?_);show wpAny _ _ (if(((sIx items.size 0 lo:Nat):Int)==0&&(1:Int)==1&&(sIx items.size items.size hi-sIx items.size 0 lo)==items.size)=true then _ else _) _ _ s;rw[if_pos (by rw[hw.1,hw.2];simp)];refine wpAny_bind (wpAny_bind (wpAny_typeOf ht.typeIs (wpAny_pure ?_)));rw[if_pos (by decide)];exact wpAny_bind (wpAny_rule (wpAny_pure ⟨_,rfl,wpAny_pure h⟩))
end
theorem y5m{X:Cx}:SlR X (fun x lo hi H Q=>∃a xs,x=.ref a/\SqT X.K H a xs/\(HT.sIx xs.length 0 lo=0/\HT.sIx xs.length xs.length hi=xs.length)/\Q x H):=by
 intro pins s σ H x v vl vu lo hi sl Q I rx hs pl pu h;obtain⟨a,xs,rfl,hx,hw,q⟩:=h;cases rx;obtain⟨its,r,ht,hz⟩:=I.tuple hx;have hlen:its.toArray.size=xs.length:=by rw[w0e];exact r.length.symm
 refine⟨"tuple", _,PyProof.Rows.slot_tuple_getitem.lookup,ht.typeIs,?_⟩;exact q6p ht hs pl pu (by rw[hlen];exact hw) ⟨.ref a,H,I,rfl,q⟩
def rSlS:V->Option Int->Option Int->Hp->VK->Prop:=fun x lo hi H Q=>∃z,x=.str z/\z.length<=sizeLine/\Q (.str (Txt.slice z lo hi)) H
theorem x4g{v:Value}{o:Option Int}(p:IsPart v o):∃q:Option (Int×Tok),v=partValue q/\q.map (·.1)=o:=by
 cases p with
 |none=>exact⟨none,rfl,rfl⟩
 |int i t=>exact⟨some (i,t),rfl,rfl⟩
theorem y9g{X:Cx}:SlR X rSlS:=by
 intro pins s σ H x v vl vu lo hi sl Q I rx hs pl pu h;obtain⟨z,rfl,hz,q⟩:=h;obtain⟨t,rfl⟩:=rx;obtain⟨ql,rfl,e1⟩:=x4g pl;obtain⟨qu,rfl,e2⟩:=x4g pu;refine⟨"str", _,F.slot_str_getitem.lookup,typeIs_str _ _ _,?_⟩;refine wpAny_getItem_str_slice (l:=ql) (u:=qu) (st:=none) hs rfl ?_
 have e3:sliceMade z t ql qu none=if((1:Int)==1&&(Builtin.Str.strSliceIndices lo hi 1 z.length).length==z.length)=true then .val (.str z t)else .str ⟨((Builtin.Str.strSliceIndices lo hi 1 z.length).filterMap (z.cps[·]?)).toArray⟩:=by
  unfold sliceMade slicePicked;rw[e1,e2];rfl
 rw[e3];have hq:Q (.str (Txt.slice z lo hi)) H:=q;have hl:=Txt.slice_le z lo hi;unfold Txt.slice at hq hl;split
 ·rename_i c;rw[if_pos c]at hq;exact⟨.str z,H,I,⟨t,rfl⟩,hq⟩
 ·rename_i c;rw[if_neg c]at hq hl;exact⟨w0r hl hz,.str _,H,I.tok _,⟨_,rfl⟩,hq⟩
end L2
namespace D
open PySem L2
noncomputable def slX:W->Option Int->Option Int->Option W
 |.str z,lo,hi=>if z.length<=16777216 then some (.str (Txt.slice z lo hi))else none
 |.tup ws,lo,hi=>if ¬(HT.sIx ws.length 0 lo=0/\HT.sIx ws.length ws.length hi=ws.length)then some (.tup (cutW ws lo hi))else some (.tup ws)
 |w,lo,hi=>slW w lo hi
noncomputable def dSlX(d:Den W)(dl dh:Den (Option Int)):Den W:=fun e=>(d e).bind fun w e1=>(dl e1).bind fun lo e2=>(dh e2).bind fun hi e3=>ofOpt (slX w lo hi) e3
section
variable{X:Cx}{Z:Zt}{EE:L2.St->XK}{e a b:Expr}{da db:Den W}{pos:Pos}
theorem q69{lo hi:Option Expr}{dl dh:Den (Option Int)}{p2:Pos}(he:DE Z X EE e da)(hl:DO Z X EE lo dl)(hh:DO Z X EE hi dh):DE Z X EE (.Subscript e (.Slice lo hi none p2) pos) (dSlX da dl dh):=by
 refine PE.mono (x9o (((sl_list.or y7f).or y5m).or y9g) he hl hh) ?_;rintro σ H Q ⟨G,e,rel,h⟩;simp only[dSlX,R.holds_bind,ofOpt_holds]at h;refine⟨G,e,rel,h.imp (fun w e1 h G1 v1 H1 r1 s1 p1=>?_) fun _ _ h=>h⟩
 refine⟨G1,e1,r1,h.imp (fun lo e2 h G2 H2 r2 s2=>?_) fun _ _ h=>XH.trans s1 h⟩
 refine⟨G2,e2,r2,h.imp (fun hi e3 h G3 H3 r3 s3=>?_) fun _ _ h=>XH.trans (s1.trans s2) h⟩
 obtain⟨y,hf,h⟩:=h;have p3:=Rep.mono (s2.trans s3) w p1;have s03:=(s1.trans s2).trans s3;cases w with
 |str z=>
  simp only[slX]at hf;split at hf
  ·rename_i hz;cases hf;cases p3;exact .inr ⟨z,rfl,by rw[sizeLine_eq];exact hz,h _ _ _ r3 s03 rfl⟩
  ·cases hf
 |lst ws=>
  cases hf;obtain⟨a,xs,rfl,q,r⟩:=p3;refine .inl (.inl (.inl ⟨a,xs,rfl,r3.sub.seq q,fun p hp=>?_⟩))
  have g:=Grow.laid r3.sub hp (.lst (cutV xs lo hi));exact h _ _ _ (r3.grow g) (s03.trans g.gg) ⟨p,_,rfl,SqL.of q0g,Reps.mono g.gg _ (r.cut lo hi)⟩
 |tup ws=>
  simp only[slX]at hf;obtain⟨a,xs,rfl,q,r⟩:=p3;split at hf
  ·rename_i hw;cases hf;refine .inl (.inl (.inr ⟨a,xs,rfl,r3.sub.tup q,by rw[r.length];exact hw,fun p hp=>?_⟩))
   have g:=Grow.laid r3.sub hp (.tup (cutV xs lo hi));exact h _ _ _ (r3.grow g) (s03.trans g.gg) ⟨p,_,rfl,SqT.of q0g,Reps.mono g.gg _ (r.cut lo hi)⟩
  ·rename_i hw;cases hf;exact .inl (.inr ⟨a,xs,rfl,r3.sub.tup q,by rw[r.length];exact Decidable.not_not.mp hw,h _ _ _ r3 s03 ⟨a,xs,rfl,q,r⟩⟩)
 |_=>cases hf
end
section
variable{e:List S}{ws:List W}{lo hi:Option Int}{d da db:Den W}{dA:Den (List W)}{js:List Nat}{c:Den Bool}{kvs:List (Key×Sv)}{w kw:W}
theorem y9h{dl dh:Den (Option Int)}:dSlX d dl dh e=(d e).bind fun w e1=>(dl e1).bind fun lo e2=>(dh e2).bind fun hi e3=>ofOpt (slX w lo hi) e3:=rfl
theorem z1i:slX (.lst ws) lo hi=some (.lst (cutW ws lo hi)):=rfl
theorem z1j(h:¬(HT.sIx ws.length 0 lo=0/\HT.sIx ws.length ws.length hi=ws.length)):slX (.tup ws) lo hi=some (.tup (cutW ws lo hi)):=if_pos h
end
end D
namespace L2
open PySem PySem.Spec PyProof.Rows
namespace RevT
end RevT
variable{A:Around}{X:Cx}{prog:Program}{s:Shared}{E:Value->Shared->Prop}{w:World}
theorem y5n{P:Program}{sh:Sh}(hu:A.units+20<cLine):(treeKind P w sh).room A:=by
 show A.units+8<cLine;omega
def tDT1(sh:Sh)(tk tv:TE):TE:=fun σ H Q=>∀p,H p=none->tk σ (upd H p (.dT sh [] [])) fun k H1=>tv σ H1 fun v H2=>∃x b,k=.ref b/\(KRep H2 x (.ref b)/\Conf x sh/\x.depth<=7)/\H2 p=some (.dT sh [] [])/\Q (.ref p) (upd H2 p (.dT sh [(x,v)] [b]))
section
variable{ek ev:Expr}{tk tv:TE}{pos:Pos}{sh:Sh}
theorem y9i(hu:X.A.units+20<cLine)(hk:PE X ek tk)(hv:PE X ev tv):PE X (.Dict [some ek] [ev] pos) (tDT1 sh tk tv):=by
 intro pins s σ H Q I h;refine wpAny_Dict_any rfl rfl (by simp) (by simp) ?_;have fr:H s.heap.objs.size=none:=I.hok.fresh (w0f _);have I0:=I.laid (a:=s.heap.objs.size) (o:=.dT sh [] []) (t':=s.toks) (fun _ _ q=>Heap.get?_push_of_some _ q) (w0f _) (y05 s.heap I.big)
 show wpAny _ _ (evalPairs [(eval ek X.env,do let x <- eval ev X.env;standAt pos;pure x)]) _ _ _;refine evalPairs_cons (thn (hk pins _ σ _ _ I0 (h _ fr)) fun ku s1 ⟨k,H1,I1,rk,q1⟩=>?_)
 refine wpAny_bind (thn (hv pins s1 σ H1 _ I1 q1) fun vu s2 ⟨v,H2,I2,rv,x,b,e,eb,hp,q⟩=>wpAny_bind (wpAny_standAt (wpAny_pure (evalPairs_nil ?_))))
 subst e;obtain rfl:ku=Value.ref b:=rk;obtain⟨z,hd,xs,rel,ka,dd⟩:=y2w I2.hok hp;unfold storeAll;rw[w2m];have hxs:xs=[]:=by cases xs with|nil=>rfl|cons y ys=>exact absurd (Paired.length rel) (by simp)
 subst hxs;refine wpAny_bind (wpAny_bind (wpAny_dictSet_heap (hsz:=w1a _) (y5n hu) (q68 I2.hok eb) dd fun h' dd' hs=>wpAny_pure ?_))
 show wpAny _ _ (forIn ([]:List (Value×Value)) _ _) _ _ _;rw[List.forIn_nil];obtain⟨q0,es,ep,hq,h2,h3,h4,_,h5⟩:=dd';refine wpAny_pure ⟨.ref s.heap.objs.size,_,q9v I2 (by rw[hp];exact True.intro) hs ⟨q0,hq⟩ (ob:=.dT sh [(x,v)] [b]) ⟨by rw[sizeLine_eq];simp,hd,_,(rel.put x eb rv).keeps fun c u ys ec=>?_,rel.putAd ka x,q0,es,ep,hq,h2,h3,h4,h5⟩,rfl,q⟩
 rw[q0d (q0t ec hp (fun z=>by subst z;exact ys))]
 exact ec
end
open PySem PySem.Spec PyProof.Rows
end L2
namespace D
open PySem L2
variable{X:Cx}{dA:Den (List W)}{EE:L2.St->XK}{pos:Pos}{K:PySem.W.Frag}{x:Str}{O:Type}{Z:Zt}
noncomputable def scV:W->Option V
 |.non=>some .non
 |.bl b=>some (.bl b)
 |.int n=>some (.int n)
 |_=>none
end D
namespace L2
open PySem PySem.Spec PyProof.Rows
end L2
namespace D
open PySem L2
end D
namespace L2
open PySem PySem.Spec PyProof.Rows
section
variable{X:Cx}
theorem y9j{l:Expr}{tl:TE}(hl:PE X l tl):PE X l (fun σ H Q=>tl σ H fun v H1=>∃a xs,H1 a=some (.lst xs)/\∀o,Q v (upd H1 a (.frz o (.lst xs)))):=by
 intro pins s σ H Q I h;refine thn (hl pins s σ H _ I h) fun v s1 ⟨x,H1,I1,r1,q1⟩=>?_
 obtain⟨a,xs,e,q⟩:=q1;obtain⟨its,_,⟨o,n,g,_⟩,_⟩:=I1.list (SqL.of e);exact⟨x,_,I1.freezeL e g,r1,q o⟩
end
end L2
namespace D
open PySem L2 PySem.Spec PyProof.Rows
open PyProof.Rows (envOfC)
variable{X:Cx}{dA:Den (List W)}{d:Den W}{G H:Hp}{σ:L2.St}{EE:L2.St->XK}{es:List Expr}{e:List S}{ws:List W}{pos:Pos}{K:PySem.W.Frag}{x:Str}{Z:Zt}
mutual
theorem x0u{K:PySem.W.Frag}{Z:Zt}{G:Hp}:∀(w:W){v:V},flatW w=true->Rep K G w v->RepN K Z G w v
 |.non,_,_,p=>p
 |.bl _,_,_,p=>p
 |.int _,_,_,p=>p
 |.str _,_,_,p=>p
 |.tup ws,_,h,⟨a,xs,e,q,r⟩=>⟨a,xs,e,q,q35 ws h r⟩
 |.lst _,_,h,_=>by cases h
 |.exc _,_,h,_=>by cases h
 |.dic _,_,h,_=>by cases h
 |.dw _ _ _ _,_,h,_=>by cases h
 |.fn _ _ _,_,h,_=>by cases h
theorem q35{K:PySem.W.Frag}{Z:Zt}{G:Hp}:∀(ws:List W){vs:List V},flatWs ws=true->Reps K G ws vs->RepNs K Z G ws vs
 |[],_,_,p=>p
 |w::ws,_,h,⟨x,r,e,p,q⟩=>by
  have h:(flatW w&&flatWs ws)=true:=h;rw[w1b]at h;exact⟨x,r,e,x0u w h.1 p,q35 ws h.2 q⟩
end
theorem LNd.flat:∀{ws:List W}{xs:List V},flatWs ws=true->Reps K G ws xs->LNd ws xs
 |[],_,_,h=>fun _=>by cases h;exact .nil
 |w::ws,_,h,_=>fun q=>by
  obtain⟨us,rfl⟩:=q w (w0n ..);cases h
theorem RepNs.off{l:Addr}(hl:G l=none):∀{ws:List W}{xs:List V},RepNs K Z G ws xs->(∀w∈ws,∃us,w=.lst us)->V.ref l∉xs
 |[],_,h,_=>by cases h;exact fun z=>nomatch z
 |w::ws,_,⟨x,r,e,p,h⟩,q=>by
  cases e;obtain⟨us,rfl⟩:=q w (w0n ..);obtain⟨a,ys,rfl,g,_⟩:=p;intro z;rcases w0j.mp z with z|z
  ·injection z with z;subst z;rw[hl]at g;cases g
  ·exact RepNs.off hl h (fun w m=>q w (w0k _ m)) z
theorem RepNs.append:∀{ws us:List W}{xs ys:List V},RepNs K Z G ws xs->RepNs K Z G us ys->RepNs K Z G (ws++us) (xs++ys)
 |[],_,_,_,h,q=>by cases h;exact q
 |w::ws,_,_,_,⟨x,r,e,p,h⟩,q=>by cases e;exact⟨x,_,rfl,p,RepNs.append h q⟩
theorem RepNs.get{K:PySem.W.Frag}{Z:Zt}{G:Hp}:∀{ws:List W}{xs:List V}{k:Nat}{w:W},RepNs K Z G ws xs->ws[k]?=some w->∃x,xs[k]?=some x/\RepN K Z G w x
 |[],_,_,_,_,q=>by cases q
 |_::_,_,0,_,⟨x,r,e,p,_⟩,q=>by cases e;cases q;exact⟨x,rfl,p⟩
 |_::_,_,k+1,_,⟨x,r,e,_,h⟩,q=>by cases e;exact RepNs.get (k:=k) h q
theorem RepNs.length{xs:List V}(h:RepNs K Z G ws xs):ws.length=xs.length:=(RepNs.reps ws h).length.symm
theorem Rel.refill(r:Rel K Z G σ H (e.set i .no)){s0:S}{v:V}(hv:σ[i]?=some (some v))(hs:∀b ws,s0≠.own b ws)(q:SlotOk K Z G H s0 (some v)):Rel K Z G σ H (e.set i s0):=by
 have h:=r.setS (i:=i) hs q;rw[List.set_set]at h
 have:σ.set i (some v)=σ:=by
  obtain⟨hi,h2⟩:=w0b.mp hv;rw[<- h2,List.set_getElem_self]
 rw[this]at h;exact h
theorem Rel.drop1(r:Rel K Z G σ H e)(i:Nat):Rel K Z G σ H (e.set i .no):=r.forget (by simp) fun k s z=>by
 by_cases hk:k=i
 ·subst hk
  have hi:k<e.length:=by
   have:=(w0b.mp z).1;simpa using this
  rw[w0i hi]at z;cases z;exact .inl rfl
 ·rw[w0h (fun z=>hk z.symm)]at z;exact .inr z
theorem Rel.give(r:Rel K Z G σ H e){i:Nat}(h:e[i]?=some (.own none ws)):∃a xs,σ[i]?=some (some (.ref a))/\Same G (upd G a (.lst xs))/\Z.H a=none/\Reps K G ws xs/\H a=some (.lst xs)/\Rel K Z (upd G a (.lst xs)) σ H (e.set i .no):=by
 obtain⟨a,xs,h1,h2,h3,h4,h5⟩:=r.own h;have h4:Z.H a=none:=h4
 have fr:Free σ (e.set i .no) a:=fun j b ws' z q=>by
  by_cases hj:j=i
  ·subst hj;have hi:j<e.length:=(w0b.mp h).1;rw[w0i hi]at z;cases z
  ·rw[w0h (fun z=>hj z.symm)]at z
   exact hj (r.dis _ _ _ _ _ _ _ z h q h1)
 obtain⟨sg,r2⟩:=(r.drop1 i).seen h2 h3 h4 fr;exact⟨a,xs,h1,sg,h4,h5,h2,r2⟩
section
variable{a b c e:Expr}{da db:Den W}{dF dN:Den (List W)}{y:Str}{p tpos p1 p2 p3:Pos}
noncomputable def dAcc0(i:Nat)(dA:Den (List W)):List S->SR:=fun e=>(dA e).stm fun ws e1=>if flatWs ws=true then .nx (e1.set i (.x (.acc ws)))else .no
theorem y5o(i:Nat){pos':Pos}(hio:Z.io=[])(hN:X.N.Nodup)(he:DF Z X EE e dA)(hi:X.N[i]?=some x:=by rfl)(hx:Loc X.env.scope x:=by walk_at "3")(hs:swapsWith e (some (.Name x pos')) pos.line X.env=pure false:=by rfl)(hf:X.fn x=true\/X.env.scope.names.lookup x=some .local:=by walk_at "2"):
  DS Z X EE (.Assign [.Name x pos'] e pos) (dAcc0 i dA):=by
 refine PS.mono (q8y i hN (y5d he) hi hx hs hf) ?_;rintro D σ H ⟨G,e,rel,h⟩;refine⟨G,e,rel,(q0w h).imp (fun ws e1 h G1 a xs H1 r1 s1 q1 q2 q3 q4 p1=>?_) fun _ _ h=>h⟩
 split at h
 ·rename_i hfl;refine⟨a,xs,rfl,q1,fun o=>?_⟩
  have r4:=r1.mutFree (o:=.frz o (.lst xs)) q2 q3 (by rw[hio];exact fun z=>nomatch z) q4 q1
  exact h G1 _ _ (r4.setS (s:=.x (.acc ws)) (fun _ _ z=>nomatch z) ⟨a,o,xs,rfl,⟨q0g,q2,q3⟩,q35 ws hfl p1,.flat hfl p1⟩) s1
 ·exact h.elim
noncomputable def appNK(i j:Nat)(e:List S):Option S->Option S->SR
 |some (.x (.acc us)),some (.own none ws)=>if(us.length<16777216/\flatWs ws=true)/\((e.set j .no).set i .no).all (fun s=>!isT s)=true then .nx ((e.set j .no).set i (.x (.acc (us++[.lst ws]))))else .no
 |_,_=>.no
noncomputable def dAppN(i j:Nat):List S->SR:=fun e=>appNK i j e e[i]? e[j]?
theorem y5p(i j:Nat){apos cpos yp:Pos}(hz:Z.H=X.H₀)(hne:i≠j:=by decide)(hN:X.N[i]?=some x:=by rfl)(hv:Vis X.env.scope x:=by walk_at "1")(hd:(x==("__debug__":Str))=false:=by decide)(hcd:(x==("__classdict__":Str))=false:=by decide)
  (hNy:X.N[j]?=some y:=by rfl)(hvy:Vis X.env.scope y:=by walk_at "1")(hdy:(y==("__debug__":Str))=false:=by decide)(hcdy:(y==("__classdict__":Str))=false:=by decide)
  (hbase:attributeBase (.Name x p) "append" X.env (eval (.Name x p) X.env)=eval (.Name x p) X.env:=by rfl)
  (hfew:((backTo cpos (starEach [.Name y yp] X.env)).all (fun x=>!x.1)&&(backToKw cpos (keywordEach [] X.env)).all (fun x=>x.1.isSome)&&decide (([.Name y yp]:List Expr).length+([]:List Keyword).length+(if([]:List Keyword).isEmpty then 0 else 1)<30))=true:=by rfl)
  (hline:(apos.endLine==cpos.line)=true:=by rfl)(hs:starEach [.Name y yp] X.env=(false,eval (.Name y yp) X.env)::starEach [] X.env:=by rfl)(hplain:(backTo cpos (starEach [] X.env)).any (·.1)=false:=by rfl)
  (hsw:swapsWith (.Call (.Attribute (.Name x p) "append" apos) [.Name y yp] [] cpos) none pos.line X.env=pure false:=by rfl):
  DS Z X EE (.Expr (.Call (.Attribute (.Name x p) "append" apos) [.Name y yp] [] cpos) pos) (dAppN i j):=by
 refine PS.mono (q4t (y9j (x60 (x2i (pv i hN hv hd hcd)) (q3b (pv j hNy hvy hdy hcdy) q4j hs) hbase hfew hline hs hplain)) hsw) ?_;rintro D σ H ⟨G,e,rel,h⟩;unfold dAppN appNK at h;split at h
 ·rename_i us ws hei hej;split at h
  ·rename_i hc;obtain⟨⟨hl,hfl⟩,hT⟩:=hc;obtain⟨a,o,xs,k1,⟨k2,k3,k4⟩,k5,k6⟩:=rel.slot i _ hei;have hvi:σ[i]?=some (some (.ref a)):=rel.at hei fun _=>k1
   obtain⟨l,ys,hvj,sg,hzl,rps,hHl,r2⟩:=rel.give hej;refine⟨.ref a,hvi,a,o,xs,rfl,k2,fun _ _ z=>(by rw[<- hz,k4]at z;cases z),.inl ⟨rfl,xs,SqL.of q0g⟩,.ref l,hvj,a,xs,.ref l,rfl,rfl,q0g,by rw[<- k5.length,sizeLine_eq];exact hl,a,xs++[.ref l],q0g,fun o'=>?_⟩
   have goff:G l=none:=by
    obtain⟨l',ys',w1,_,w3,_⟩:=rel.own hej;rw[hvj]at w1;injection w1 with w1;injection w1 with w1;injection w1 with w1
    rw[w1];exact w3
   have hal:a≠l:=fun z=>by subst z;rw[k2]at hHl;cases hHl
   have ga:upd G l (.lst ys) a=none:=by rw[q0d hal];exact k3
   have r3:Rel X.K Z (upd G l (.lst ys)) σ (upd H a (.frz o' (.lst (xs++[.ref l])))) ((e.set j .no).set i .no):=
    (r2.drop1 i).mutL k2 ga k4 fun s hs=>by have:=w0v.mp hT s hs;simpa using this
   have r4:=Rel.refill (s0:=.x (.acc (us++[.lst ws]))) r3 hvi (fun _ _ z=>nomatch z) ⟨a,o',xs++[.ref l],rfl,⟨q0g,ga,k4⟩,(RepNs.move sg (fun _ _ _ z=>z) us k5).append ⟨.ref l,[],rfl,⟨l,ys,rfl,q0g,hzl,q35 ws hfl (Reps.mono sg ws rps),.flat hfl rps⟩,rfl⟩,fun q=>by
    have hq:∀w∈us,∃us,w=.lst us:=fun w m=>q w (w1r _ m)
    refine w3h.mpr ⟨k6 hq,by simp,?_⟩;rintro v hv u hu rfl;rw[w1f]at hu;subst hu;exact RepNs.off goff k5 hq hv⟩
   have eH:upd (upd (upd H a (.lst xs)) a (.lst (xs++[.ref l]))) a (.frz o' (.lst (xs++[.ref l])))=upd H a (.frz o' (.lst (xs++[.ref l]))):=by
    funext c;unfold upd;split<;>rfl
   rw[eH];exact h _ σ _ r4 sg
  ·exact h.elim
 ·exact h.elim
end
section
variable(K:PySem.W.Frag)(Z:Zt)(EE:L2.St->XK)
def liftN(d:Den W):TE:=fun σ H Q=>AtG K Z σ H fun G e=>(d e).holds (fun w e'=>∀G' v H',Rel K Z G' σ H' e'->Same G G'->RepN K Z G' w v->Q v H') (XH K Z EE σ G)
def liftNA(d:Den (List W)):TA:=fun σ H Q=>AtG K Z σ H fun G e=>(d e).holds (fun ws e'=>∀G' vs H',Rel K Z G' σ H' e'->Same G G'->RepNs K Z G' ws vs->Q vs H') (XH K Z EE σ G)
end
def DN(Z:Zt)(X:Cx)(EE:L2.St->XK)(e:Expr)(d:Den W):Prop:=PE X e (liftN X.K Z EE d)
def DNA(Z:Zt)(X:Cx)(EE:L2.St->XK)(es:List Expr)(d:Den (List W)):Prop:=PA X es (liftNA X.K Z EE d)
section
variable{Z':Zt}{cs:Cs}
theorem DAt.rm(c:CelsIn G cs){fz:Bool}{a:Addr}{sh:Sh}{kvs:List (Kx×V)}{kas:List Addr}(h1:DAt fz G a sh kvs kas):DAt fz (rmC G cs) a sh kvs kas:=by
 cases fz with
 |true=>obtain⟨o,h1⟩:=h1;exact⟨o,c.rm_some h1 fun o z=>by injection z with _ z;exact q2s rfl z⟩
 |false=>exact c.rm_some h1 fun o z=>q2s rfl z
mutual
theorem RepN.rm(c:CelsIn G cs)(hz:∀a,Z.H a=none->Z'.H a=none):∀(w:W){v:V},RepN K Z G w v->RepN K Z' (rmC G cs) w v
 |.non,_,h=>h
 |.bl _,_,h=>h
 |.int _,_,h=>h
 |.str _,_,h=>h
 |.tup ws,_,⟨a,xs,e,q,r⟩=>by
  refine⟨a,xs,e,?_,RepNs.rm c hz ws r⟩;rcases q with q|q
  ·exact .inl (Rd.rm c q (fun o z=>nomatch z) fun φ z=>nomatch z)
  ·exact .inr q
 |.lst ws,_,⟨a,xs,e,q,n,r,nd⟩=>⟨a,xs,e,c.rm_some q (fun o z=>nomatch z),hz a n,RepNs.rm c hz ws r,nd⟩
 |.exc _,_,h=>h.elim
 |.dic _,_,h=>h.elim
 |.dw fz sh ks ws,_,⟨a,kvs,kas,e,q,n,h1,h2,r⟩=>⟨a,kvs,kas,e,q.rm c,hz a n,h1,KeysS.rm c h2,RepNs.rm c hz ws r⟩
 |.fn _ _ _,_,h=>h.elim
theorem RepNs.rm(c:CelsIn G cs)(hz:∀a,Z.H a=none->Z'.H a=none):∀(ws:List W){xs:List V},RepNs K Z G ws xs->RepNs K Z' (rmC G cs) ws xs
 |[],_,h=>h
 |w::ws,_,⟨x,r,e,p,q⟩=>⟨x,r,e,RepN.rm c hz w p,RepNs.rm c hz ws q⟩
end
end
section
variable{a b c e:Expr}{da db:Den W}{dF dN:Den (List W)}{y:Str}{p tpos p1 p2 p3:Pos}
noncomputable def dFlat(d:Den W):Den W:=fun e=>(d e).bind fun w e1=>if flatW w=true then .ok w e1 else .no
theorem x4h(he:DE Z X EE e d):DN Z X EE e (dFlat d):=by
 refine PE.mono he ?_;rintro σ H Q ⟨G,e,rel,h⟩;refine⟨G,e,rel,(R.holds_bind.mp h).imp (fun w e1 h G1 v H1 r1 s1 p1=>?_) fun _ _ h=>h⟩
 split at h
 ·rename_i hf;exact h G1 v H1 r1 s1 (x0u w hf p1)
 ·exact h.elim
noncomputable def nVarK(e:List S):Option S->R W
 |some (.x (.new w))=>.ok w e
 |_=>.no
noncomputable def dNVar(i:Nat):Den W:=fun e=>nVarK e e[i]?
theorem y9k(i:Nat)(hN:X.N[i]?=some x:=by rfl)(hv:Vis X.env.scope x:=by walk_at "1")(hd:(x==("__debug__":Str))=false:=by decide)(hcd:(x==("__classdict__":Str))=false:=by decide):DN Z X EE (.Name x pos) (dNVar i):=by
 refine PE.mono (pv i hN hv hd hcd) ?_;rintro σ H Q ⟨G,e,r,h⟩;unfold dNVar nVarK at h;split at h
 ·rename_i w he;obtain⟨u,k1,k2⟩:=r.slot i _ he;exact⟨u,r.at he fun _=>k1,h G u H r (.refl _) k2⟩
 ·exact h.elim
noncomputable def nIxK(k:Nat)(e:List S):Option S->R W
 |some (.x (.new (.tup ws)))=>ofOpt ws[k]? e
 |_=>.no
noncomputable def dNIx(i k:Nat):Den W:=fun e=>nIxK k e e[i]?
theorem y2y(i k:Nat){kk kp}(hN:X.N[i]?=some x:=by rfl)(hv:Vis X.env.scope x:=by walk_at "1")(hd:(x==("__debug__":Str))=false:=by decide)(hcd:(x==("__classdict__":Str))=false:=by decide)(hs:PlainIx (.Constant (.int (k:Int)) kk kp):=by intro _ _;rfl):DN Z X EE (.Subscript (.Name x p) (.Constant (.int (k:Int)) kk kp) pos) (dNIx i k):=by
 refine PE.mono (q8v ix_tup (pv i hN hv hd hcd) q6t hs) ?_;rintro σ H Q ⟨G,e,r,h⟩;unfold dNIx nIxK at h;split at h
 ·rename_i ws he;obtain⟨u,k1,t,xs,rfl,k3,k4⟩:=r.slot i _ he;obtain⟨w,hw,h2⟩:=ofOpt_holds.mp h;obtain⟨y,hy,ry⟩:=k4.get hw;exact⟨.ref t,r.at he fun _=>k1,t,xs,(k:Int),y,rfl,rfl,r.sub.tup k3,q19 hy,h2 G y H r (.refl _) ry⟩
 ·exact h.elim
noncomputable def nOwnK(i:Nat)(e:List S):Option S->R W
 |some (.own none ws)=>if flatWs ws=true then .ok (.lst ws) (e.set i .no)else .no
 |_=>.no
noncomputable def dNOwn(i:Nat):Den W:=fun e=>nOwnK i e e[i]?
theorem y9l(i:Nat)(hN:X.N[i]?=some x:=by rfl)(hv:Vis X.env.scope x:=by walk_at "1")(hd:(x==("__debug__":Str))=false:=by decide)(hcd:(x==("__classdict__":Str))=false:=by decide):DN Z X EE (.Name x pos) (dNOwn i):=by
 refine PE.mono (pv i hN hv hd hcd) ?_;rintro σ H Q ⟨G,e,r,h⟩;unfold dNOwn nOwnK at h;split at h
 ·rename_i ws he;split at h
  ·rename_i hfl;obtain⟨a,xs,hv,sg,hz,rps,hH,r2⟩:=r.give he;exact⟨.ref a,hv,h _ (.ref a) H r2 sg ⟨a,xs,rfl,q0g,hz,q35 ws hfl (Reps.mono sg ws rps),.flat hfl rps⟩⟩
  ·exact h.elim
 ·exact h.elim
noncomputable def nAccK(i:Nat)(e:List S):Option S->R W
 |some (.x (.acc ws))=>if(e.set i .no).all (fun s=>!isT s)=true then .ok (.lst ws) (e.set i .no)else .no
 |_=>.no
noncomputable def dNAcc(i:Nat):Den W:=fun e=>nAccK i e e[i]?
theorem y9m(i:Nat)(hz:Z.H=X.H₀)(hN:X.N[i]?=some x:=by rfl)(hv:Vis X.env.scope x:=by walk_at "1")(hd:(x==("__debug__":Str))=false:=by decide)(hcd:(x==("__classdict__":Str))=false:=by decide):DN Z X EE (.Name x pos) (dNAcc i):=by
 refine PE.mono (x2i (pv i hN hv hd hcd)) ?_;rintro σ H Q ⟨G,e,r,h⟩;unfold dNAcc nAccK at h;split at h
 ·rename_i ws he;split at h
  ·rename_i hT;obtain⟨a,o,xs,k1,⟨k2,k3,k4⟩,k5,k6⟩:=r.slot i _ he;have r1:Rel X.K Z G σ (upd H a (.lst xs)) (e.set i .no):=(r.drop1 i).mutL k2 k3 k4 fun s hs=>by have:=w0v.mp hT s hs;simpa using this
   have fr:Free σ (e.set i .no) a:=fun j b ws' z q=>by
    obtain⟨a',ys,h1,h2,_⟩:=(r.drop1 i).own z;rw[q]at h1;cases h1;rw[k2]at h2;cases h2
   obtain⟨sg,r2⟩:=r1.seen q0g k3 k4 fr;exact⟨.ref a,r.at he fun _=>k1,a,o,xs,rfl,k2,fun _ _ z=>(by rw[<- hz,k4]at z;cases z),h _ (.ref a) _ r2 sg ⟨a,xs,rfl,q0g,k4,RepNs.move sg (fun _ _ _ z=>z) ws k5,k6⟩⟩
  ·exact h.elim
 ·exact h.elim
theorem q9x:DNA Z X EE [] dNil:=PA.mono q4j fun σ H Q ⟨G,e,r,h⟩=>h G [] H r (.refl _) rfl
theorem q33(ha:DN Z X EE e da)(hr:DNA Z X EE es dA)(hs:starEach (e::es) X.env=(false,eval e X.env)::starEach es X.env:=by rfl):DNA Z X EE (e::es) (dCons da dA):=by
 refine PA.mono (q3b ha hr hs) ?_;rintro σ H Q ⟨G,e,rel,h⟩;simp only[dCons,R.holds_bind]at h;refine⟨G,e,rel,h.imp (fun x e1 h G1 v1 H1 r1 s1 p1=>?_) fun _ _ h=>h⟩
 refine⟨G1,e1,r1,h.imp (fun xs e2 h G2 vs H2 r2 s2 p2=>?_) fun _ _ h=>XH.trans s1 h⟩
 exact h G2 (v1::vs) H2 r2 (s1.trans s2) ⟨v1,vs,rfl,RepN.move s2 (fun _ _ _ z=>z) x p1,p2⟩
theorem x2m{x1}(h:DNA Z X EE es dA):DN Z X EE (.Tuple es x1 pos) (dTup dA):=by
 refine PE.mono (x6q h) ?_;rintro σ H Q ⟨G,e,rel,h⟩;simp only[dTup,R.holds_bind]at h;refine⟨G,e,rel,h.imp (fun ws e1 h G1 vs H1 r1 s1 p1=>?_) fun _ _ h=>h⟩
 split at h
 ·rename_i hl;refine⟨by rw[<- p1.length,sizeLine_eq];exact hl,fun p hp=>?_⟩
  have g:=Grow.laid r1.sub hp (.tup vs);exact(show ∀G' v H',_->_->RepN X.K Z G' (.tup ws) v->Q v H' from h) _ (.ref p) _ (r1.grow g) (s1.trans g.gg) ⟨p,vs,rfl,SqT.of q0g,RepNs.move g.gg (fun _ _ _ z=>z) ws p1⟩
 ·exact h.elim
noncomputable def dRetNw(d:Den W):List S->SR:=fun e=>(d e).stm fun w e1=>.rt (.x (.new w)) e1
theorem x2n(he:DN Z X EE e d):DS Z X EE (.Return (some e) pos) (dRetNw d):=by
 refine PS.mono (x1y he) ?_;rintro D σ H ⟨G,e,rel,h⟩;exact⟨G,e,rel,(q0w h).imp (fun w e1 h G1 v1 H1 r1 s1 p1=>h G1 σ v1 H1 r1 s1 ⟨v1,rfl,p1⟩) fun _ _ h=>h⟩
noncomputable def dSetNw(i:Nat)(d:Den W):List S->SR:=fun e=>(d e).stm fun w e1=>.nx (e1.set i (.x (.new w)))
theorem x2o(i:Nat){pos':Pos}(hN:X.N.Nodup)(he:DN Z X EE e d)(hi:X.N[i]?=some x:=by rfl)(hx:Loc X.env.scope x:=by walk_at "3")(hs:swapsWith e (some (.Name x pos')) pos.line X.env=pure false:=by rfl)(hf:X.fn x=true\/X.env.scope.names.lookup x=some .local:=by walk_at "2"):
  DS Z X EE (.Assign [.Name x pos'] e pos) (dSetNw i d):=by
 refine PS.mono (q8y i hN he hi hx hs hf) ?_;rintro D σ H ⟨G,e,rel,h⟩;exact⟨G,e,rel,(q0w h).imp (fun w e1 h G1 v1 H1 r1 q1 p1=>h G1 _ H1 (r1.setS (s:=.x (.new w)) (fun _ _ z=>nomatch z) ⟨v1,rfl,p1⟩) q1) fun _ _ h=>h⟩
noncomputable def set2NK(i j:Nat)(e:List S):W->SR
 |.tup [u,v]=>.nx ((e.set i (.x (.new u))).set j (.x (.new v)))
 |_=>.no
noncomputable def dSet2N(i j:Nat)(d:Den W):List S->SR:=fun e=>(d e).stm fun w e1=>set2NK i j e1 w
theorem y1e(i j:Nat){kt}(hN:X.N.Nodup)(hc:X.calm=true)(he:DN Z X EE e d)
  (hi:X.N[i]?=some x:=by rfl)(hx:Loc X.env.scope x:=by walk_at "3")(hf:X.fn x=true\/X.env.scope.names.lookup x=some .local:=by walk_at "2")
  (hj:X.N[j]?=some y:=by rfl)(hy:Loc X.env.scope y:=by walk_at "3")(hf':X.fn y=true\/X.env.scope.names.lookup y=some .local:=by walk_at "2")
  (hn:(assignEach [.Name x p1,.Name y p2] X.env).length=2:=by rfl)(hst:(assignEach [.Name x p1,.Name y p2] X.env).findIdx? (·.1)=none:=by rfl)
  (g1:(assignEach [.Name x p1,.Name y p2] X.env).map (·.2)=assign (.Name x p1) X.env::(assignEach [.Name y p2] X.env).map (·.2):=by rfl)(g2:(assignEach [.Name y p2] X.env).map (·.2)=assign (.Name y p2) X.env::(assignEach [] X.env).map (·.2):=by rfl)
  (hs:swapsWithSole [.Tuple [.Name x p1,.Name y p2] kt p3] e pos.line X.env=pure false:=by rfl)(hw:swappedStores [.Tuple [.Name x p1,.Name y p2] kt p3] e X.env=pure none:=by rfl)
  (h1:(assignEach [.Tuple [.Name x p1,.Name y p2] kt p3] X.env).map (·.2)=[assign (.Tuple [.Name x p1,.Name y p2] kt p3) X.env]:=by rfl):
  DS Z X EE (.Assign [.Tuple [.Name x p1,.Name y p2] kt p3] e pos) (dSet2N i j d):=by
 refine PS.mono (x1z he (q8r hc (q3j (q17 i hN hi hx hf) (q3j (q17 j hN hj hy hf') q7o g2) g1) hn hst) hs hw h1) ?_;rintro D σ H ⟨G,e,rel,h⟩;refine⟨G,e,rel,(q0w h).imp (fun w e1 h G1 v1 H1 r1 q1 p1=>?_) fun _ _ h=>h⟩
 unfold set2NK at h;split at h
 ·rename_i u v;obtain⟨c,ys,rfl,hq,y1,z1,rfl,p1,y2,z2,rfl,p2,rfl⟩:=p1;exact⟨c,[y1,y2],rfl,r1.sub.tup hq,rfl,y1,[y2],rfl,y2,[],rfl,rfl,h G1 _ H1 ((r1.setS (s:=.x (.new u)) (fun _ _ z=>nomatch z) ⟨y1,rfl,p1⟩).setS (s:=.x (.new v)) (fun _ _ z=>nomatch z) ⟨y2,rfl,p2⟩) q1⟩
 ·exact h.elim
end
noncomputable def callNK(e:List S):FR->R W
 |.ok (.x (.new w))=>.ok w e
 |.ex c=>.ex c e
 |_=>.no
noncomputable def dCallN(F:List W->FR)(dA:Den (List W)):Den W:=fun e=>(dA e).bind fun ws e1=>callNK e1 (F ws)
noncomputable def lamNRes(e1:List S):FR->R W
 |.ok (.x (.new w))=>.ok w e1
 |.ex c=>.ex c e1
 |_=>.no
noncomputable def lamNK(F:List W->FR)(j:Nat)(l:Lm)(w:W)(e1:List S):Option (List W)->R W
 |some caps=>lamNRes e1 (F [w,.fn j l caps])
 |none=>.no
noncomputable def dLamN(F:List W->FR)(j:Nat)(l:Lm)(js:List Nat)(d:Den W):Den W:=fun e=>(d e).bind fun w e1=>lamNK F j l w e1 (capsOf js e1)
section
variable{e body:Expr}{params:Arguments}{lpos p:Pos}{k:Nat}{ps N nf:List Str}{js:List Nat}{sc scope:Scope}{F:List W->FR}
theorem y9n(C:Cal X.prog X.w X.K X.mg X.base k x ps (spF X.K F))(hr:Room k X.A)(hx:PassX (CX1 X.prog X.w) X EE)(ha:DA Z X EE (e::es) dA)(hg:Gl X x:=by rfl)
  (hdb:(x==("__debug__":Str))=false:=by decide)(he:starEach (e::es) X.env=(false,eval e X.env)::starEach es X.env:=by rfl)(hpl:(backTo pos (starEach es X.env)).any (·.1)=false:=by rfl):
  DN Z X EE (.Call (.Name x p) (e::es) [] pos) (dCallN F dA):=by
 refine PE.mono (x6z C hr hx ha hg hdb he hpl) ?_;rintro σ H Q ⟨G,e,rel,h⟩;simp only[dCallN,R.holds_bind]at h;refine⟨G,e,rel,h.imp (fun ws e1 h G1 vs H1 r1 s1 p1=>?_) fun _ _ h=>h⟩
 refine⟨G1,ws,r1.sub,by rw[w1i];exact p1,?_⟩;cases q:F ws with
 |ok s=>
  rw[q]at h;intro G' H' v g sl;cases s with
  |x k=>
   cases k with
   |new w=>
    obtain⟨u,h1,h2⟩:=sl;cases h1;exact h G' _ H' (r1.grow g) (s1.trans g.gg) (RepN.move (.refl _) (fun a _ _ z=>q34 r1 z) w h2)
   |_=>exact h.elim
  |_=>exact h.elim
 |ex c=>
  rw[q]at h;exact x5j r1 s1 h
 |no=>rw[q]at h;exact h.elim
end
section
variable(K:PySem.W.Frag)(Z:Zt)(EE:L2.St->XK)
def PostW(D:Ends):SR->Prop
 |.nx e'=>∀G' σ' H',Rel K Z G' σ' H' e'->D.nx σ' H'
 |.bk e'=>∀G' σ' H',Rel K Z G' σ' H' e'->D.bk σ' H'
 |.ct e'=>∀G' σ' H',Rel K Z G' σ' H' e'->D.ct σ' H'
 |.rt s e'=>∀G' σ' v H',Rel K Z G' σ' H' e'->SlotOk K Z G' H' s (some v)->D.rt v H'
 |.ex c e'=>∀G' σ' H',Rel K Z G' σ' H' e'->EE σ' c none H'
 |.no=>False
def liftW(d:List S->SR):TS:=fun D σ H=>AtG K Z σ H fun G e=>PostW K Z EE D (d e)
end
def DSsW(Z:Zt)(X:Cx)(EE:L2.St->XK)(sts:List Stmt)(d:List S->SR):Prop:=PSs X sts (liftW X.K Z EE d)
section
variable{st:Stmt}{rest ss:List Stmt}{s1 s2 d:List S->SR}{y:Str}{p:Pos}
theorem PostW.post{D:Ends}{r:SR}(h:PostW K Z EE D r):PostS K Z EE D G r:=by
 cases r with
 |nx e=>exact fun G' σ' H' r _=>h G' σ' H' r
 |bk e=>exact fun G' σ' H' r _=>h G' σ' H' r
 |ct e=>exact fun G' σ' H' r _=>h G' σ' H' r
 |rt s e=>exact fun G' σ' v H' r _ q=>h G' σ' v H' r q
 |ex c e=>exact fun G' σ' H' r _=>h G' σ' H' r
 |no=>exact h
theorem y1f(h1:DS Z X EE st s1):DSsW Z X EE [st] s1:=PSs.mono (x33 h1) fun D σ H ⟨G,e,r,h⟩=>⟨G,e,r,h.post⟩
theorem q1s(h1:DS Z X EE st s1)(h2:DSsW Z X EE rest s2):DSsW Z X EE (st::rest) (dSeq s1 s2):=by
 refine PSs.mono (q51 h1 h2) ?_;rintro D σ H ⟨G,e,rel,h⟩;refine⟨G,e,rel,?_⟩;unfold dSeq at h;cases q:s1 e with
 |nx e'=>rw[q]at h;exact fun G' σ' H' r s=>⟨G',e',r,h⟩
 |bk e'=>rw[q]at h;exact h.post
 |ct e'=>rw[q]at h;exact h.post
 |rt w e'=>rw[q]at h;exact h.post
 |ex c e'=>rw[q]at h;exact h.post
 |no=>rw[q]at h;exact h
noncomputable def toOld:S->S
 |.fr w=>.x (.old w)
 |.thr us ws vs=>.x (.thro us ws vs)
 |.x (.fz w)=>.x (.fzo w)
 |_=>.no
noncomputable def baseR:SR->SR
 |.rt (.fr w) e'=>.rt (.fr w) (e'.map fun _=>.no)
 |_=>.no
noncomputable def dBase(d:List S->SR):List S->SR:=fun e=>baseR (d (e.map toOld))
noncomputable def baseZ(Z:Zt)(G:Hp):Zt:=⟨fun a=>match G a with|some o=>some o|none=>Z.H a,G,[]⟩
theorem q83{a:Addr}(h1:G a=none)(h2:Z.H a=none):(baseZ Z G).H a=none:=by
 show(match G a with|some o=>some o|none=>Z.H a)=none;rw[h1];exact h2
theorem Rel.base(r:Rel K Z G σ H e)(hio:Z.io=[]):Rel K (baseZ Z G) G σ H (e.map toOld):=by
 refine⟨r.sub,fun i s h=>?_,by rw[w0a];exact r.len,fun i j b b' ws ws' a h1 _ _ _=>?_,fun a o h _=>?_,(fun a h=>nomatch h),fun a _=>rfl⟩
 ·rw[w0g]at h;obtain⟨s0,h0,rfl⟩:=w0c.mp h;have q:=r.slot i s0 h0;cases s0 with
  |fr w=>obtain⟨u,q1,q2⟩:=q;exact⟨u,q1,q2,q2⟩
  |thr us ws vs=>
   obtain⟨t,l,o,xs,ys,zs,h1,h2,h3,h4,h5,h6⟩:=q;exact⟨t,l,o,xs,ys,zs,h1,h2,h2,⟨h3,h4,q83 h4 h5⟩,h6,h6⟩
  |x k=>
   cases k with
   |fz w=>
    obtain⟨u,as,h1,h2,h3⟩:=q;have h4:=RepF.move (K:=K) (Z':=baseZ Z G) (H':=H) (.refl G) w (fun l o ys _ k=>⟨k.1,k.2.1,q83 k.2.1 k.2.2⟩) h3
    exact⟨u,as,h1,h2,h4,h4⟩
   |_=>trivial
  |_=>trivial
 ·rw[w0g]at h1;obtain⟨s0,_,h2⟩:=w0c.mp h1;cases s0 with
  |x k=>cases k<;>cases h2
  |_=>cases h2
 ·have h:(match G a with|some o=>some o|none=>Z.H a)=some o:=h;cases q:G a with
  |some u=>rw[q]at h;cases h;exact r.sub _ _ q
  |none=>rw[q]at h;exact r.ent a o h (by rw[hio];exact fun z=>nomatch z)
theorem Rel.unbase{G' H':Hp}{σ':L2.St}{e':List S}(r':Rel K (baseZ Z G) G' σ' H' e')(r:Rel K Z G σ H e)(hio:Z.io=[]):Rel K Z G' σ' H' (e'.map fun _=>.no):=by
 have hb:∀a o,Z.H a=some o->(baseZ Z G).H a=some o:=fun a o h=>by
  show(match G a with|some o=>some o|none=>Z.H a)=some o;cases q:G a with
  |none=>exact h
  |some u=>
   have h1:=r.sub _ _ q;rw[r.ent a o h (by rw[hio];exact fun z=>nomatch z)]at h1
   exact h1.symm
 refine⟨r'.sub,fun i s h=>?_,by rw[w0a];exact r'.len,fun i j b b' ws ws' a h1 _ _ _=>?_,fun a o h _=>r'.ent a o (hb a o h) (fun z=>nomatch z),fun a h=>(by rw[hio]at h;cases h),fun a h=>?_⟩
 ·rw[w0g]at h;obtain⟨s0,h0,rfl⟩:=w0c.mp h;trivial
 ·rw[w0g]at h1;obtain⟨s0,_,h2⟩:=w0c.mp h1;cases h2
 ·rw[<- r.gen a h];refine r'.gen a ?_;cases q:Z.H a with
  |none=>exact absurd q h
  |some o=>rw[hb a o q];exact fun z=>nomatch z
theorem y1g(hz:Z.H=X.H₀)(hio:Z.io=[])(h:∀Z',(∀a,Z'.H a=none->X.H₀ a=none)->Same Z'.G Z'.H->Z'.io=[]->DSsW Z' X EE ss d):DSs Z X EE ss (dBase d):=by
 intro pins s σ H D I hq;obtain⟨G,e,rel,hp⟩:=hq
 have hs:Same G (baseZ Z G).H:=fun a o z=>by
  show(match G a with|some o=>some o|none=>Z.H a)=some o;rw[z]
 refine h (baseZ Z G) (fun a z=>?_) hs rfl pins s σ H D I ⟨G,e.map toOld,rel.base hio,?_⟩
 ·have z:(match G a with|some o=>some o|none=>Z.H a)=none:=z;rw[<- hz];cases q:G a with
  |some u=>rw[q]at z;cases z
  |none=>rw[q]at z;exact z
 ·unfold dBase baseR at hp;split at hp
  ·rename_i w e' q;rw[q];intro G' σ' v H' r' sl;refine hp G' σ' v H' (r'.unbase rel hio) (fun a o z=>?_) sl
   rw[r'.gen a (by rw[hs a o z];exact fun z=>nomatch z)];exact z
  ·exact hp.elim
noncomputable def rew:S->S
 |.x (.old w)=>.x (.old w)
 |.x (.thro us ws vs)=>.x (.thro us ws vs)
 |.x (.fzo w)=>.x (.fzo w)
 |.fr w=>if scalW w=true then .fr w else .no
 |_=>.no
theorem Rel.rew{H3:Hp}(r:Rel K Z G σ H e)(hG:Same Z.G Z.H)(hio:Z.io=[])(h1:∀c u,Z.H c=some u->H3 c=some u)(h2:∀c o ys,H c=some (.frz o (.lst ys))->H3 c=some (.frz o (.lst ys))):Rel K Z Z.G σ H3 (e.map rew):=by
 refine⟨fun a o z=>h1 _ _ (hG _ _ z),fun i s h=>?_,by rw[w0a];exact r.len,fun i j b b' ws ws' a h1 _ _ _=>?_,fun a o h _=>h1 _ _ h,fun a h=>(by rw[hio]at h;cases h),fun a _=>rfl⟩
 ·rw[w0g]at h;obtain⟨s0,h0,rfl⟩:=w0c.mp h;have q:=r.slot i s0 h0;cases s0 with
  |fr w=>
   show SlotOk K Z Z.G H3 (if scalW w=true then .fr w else .no) _;split
   ·rename_i hs;obtain⟨u,q1,q2⟩:=q;exact⟨u,q1,q8e hs q2⟩
   ·trivial
  |x k=>
   cases k with
   |old w=>obtain⟨u,q1,q2,_⟩:=q;exact⟨u,q1,q2,q2⟩
   |thro us ws vs=>
    obtain⟨t,l,o,xs,ys,zs,k1,k2,k3,⟨k4,k5,k6⟩,k7,_⟩:=q;exact⟨t,l,o,xs,ys,zs,k1,k2,k2,⟨h2 _ _ _ k4,hG.free k6,k6⟩,k7,k7⟩
   |fzo w=>
    obtain⟨u,as,k1,k2,k3,_⟩:=q;have k4:=RepF.move (K:=K) (Z':=Z) (H':=H3) (.refl Z.G) w (fun l o ys _ k=>⟨h2 _ _ _ k.1,k.2.1,k.2.2⟩) k3
    exact⟨u,as,k1,k2,k4,k4⟩
   |_=>trivial
  |_=>trivial
 ·rw[w0g]at h1;obtain⟨s0,_,h2⟩:=w0c.mp h1;cases s0 with
  |fr w=>
   have h2:(if scalW w=true then S.fr w else .no)=.own b ws:=h2;split at h2<;>cases h2
  |x k=>cases k<;>cases h2
  |_=>cases h2
end
section
variable{w u v:W}{us vs:List W}{i j k:Nat}{da:Den W}{F:List W->FR}{l:Lm}{js:List Nat}{caps:List W}{c:Value}{ds:List S->SR}
theorem y5q:dAcc0 i dA e=(dA e).stm fun ws e1=>if flatWs ws=true then .nx (e1.set i (.x (.acc ws)))else .no:=rfl
theorem y1h:flatWs []=true:=rfl
theorem y5r:dAppN i j e=appNK i j e e[i]? e[j]?:=rfl
theorem y5s:appNK i j e (some (.x (.acc us))) (some (.own none ws))=if(us.length<16777216/\flatWs ws=true)/\((e.set j .no).set i .no).all (fun s=>!isT s)=true then .nx ((e.set j .no).set i (.x (.acc (us++[.lst ws]))))else .no:=rfl
theorem y5t:dFlat d e=(d e).bind fun w e1=>if flatW w=true then .ok w e1 else .no:=rfl
theorem y9o{n:Int}:flatW (.int n)=true:=rfl
theorem y5u:dNVar i e=nVarK e e[i]?:=rfl
theorem y5v:nVarK e (some (.x (.new w)))=.ok w e:=rfl
theorem y9p:dNIx i k e=nIxK k e e[i]?:=rfl
theorem y9q:nIxK k e (some (.x (.new (.tup ws))))=ofOpt ws[k]? e:=rfl
theorem y5w:dNOwn i e=nOwnK i e e[i]?:=rfl
theorem y5x:nOwnK i e (some (.own none ws))=if flatWs ws=true then .ok (.lst ws) (e.set i .no)else .no:=rfl
theorem y5y:dNAcc i e=nAccK i e e[i]?:=rfl
theorem y5z:nAccK i e (some (.x (.acc ws)))=if(e.set i .no).all (fun s=>!isT s)=true then .ok (.lst ws) (e.set i .no)else .no:=rfl
theorem y1i:dRetNw d e=(d e).stm fun w e1=>.rt (.x (.new w)) e1:=rfl
theorem y1j:dSetNw i d e=(d e).stm fun w e1=>.nx (e1.set i (.x (.new w))):=rfl
theorem y1k:dSet2N i j d e=(d e).stm fun w e1=>set2NK i j e1 w:=rfl
theorem y1l:set2NK i j e (.tup [u,v])=.nx ((e.set i (.x (.new u))).set j (.x (.new v))):=rfl
theorem y1m:dCallN F dA e=(dA e).bind fun ws e1=>callNK e1 (F ws):=rfl
theorem y1n:callNK e (.ok (.x (.new w)))=.ok w e:=rfl
theorem x8f:callNK e (.ex c)=.ex c e:=rfl
theorem y50:dLamN F j l js d e=(d e).bind fun w e1=>lamNK F j l w e1 (capsOf js e1):=rfl
theorem q84:lamNK F j l w e (some caps)=lamNRes e (F [w,.fn j l caps]):=rfl
theorem x8g:lamNRes e (.ok (.x (.new w)))=.ok w e:=rfl
theorem y51:dBase ds e=baseR (ds (e.map toOld)):=rfl
theorem y1o{e':List S}:baseR (.rt (.fr w) e')=.rt (.fr w) (e'.map fun _=>.no):=rfl
theorem y9r:toOld (.fr w)=.x (.old w):=rfl
theorem y52:toOld (.thr us ws vs)=.x (.thro us ws vs):=rfl
theorem y9s:toOld .no=.no:=rfl
theorem y1p:hide1 (.x (.old w))=.fr w:=rfl
theorem y1q:hide1 (.x (.new w))=.fr w:=rfl
theorem y1r:hide1 (.x (.acc ws))=.fr (.lst ws):=rfl
theorem x8h:hide1 (.x (.thro us ws vs))=.fr (.tup (us++.lst ws::vs)):=rfl
theorem y53:rew (.x (.old w))=.x (.old w):=rfl
theorem y1s:rew (.x (.thro us ws vs))=.x (.thro us ws vs):=rfl
theorem y54:rew (.x (.new w))=.no:=rfl
theorem y55{n:Int}:rew (.fr (.int n))=.fr (.int n):=rfl
theorem y56:rew (.fr (.str x))=.fr (.str x):=rfl
theorem y57:rew (.fr (.lst ws))=.no:=rfl
theorem y9t:rew .no=.no:=rfl
end
end D
namespace L2
open PySem PySem.Spec PyProof.Rows
end L2
namespace D
open PySem L2 PySem.Spec PyProof.Rows
open PyProof.Rows (envOfC)
section
variable{e:List S}{w u v:W}{ws us vs:List W}{wss:List (List W)}{i j k c:Nat}{d da db dc:Den W}{dA dF:Den (List W)}{dX:Den (List (List W))}{F:List W->FR}{js:List Nat}{kS:List S->SR}
theorem y58:hide1 (.x (.tn us wss))=.fr (.tup (us++[.lst (wss.map W.lst)])):=rfl
end
end D
namespace Att
open PySem PySem.W PySem.Calls PyProof.Rows
end Att
namespace L2
open PySem PySem.Spec PyProof.Rows
end L2
namespace D
open PySem L2
open Classical in
noncomputable instance fitsD (k:Kx) (sh:Sh):Decidable (fits k sh):=Classical.propDecidable _
variable{X:Cx}{EE:L2.St->XK}{e:List S}{i:Nat}{pos:Pos}{w:W}{Z:Zt}
noncomputable def setDVC(i:Nat)(sh:Sh)(w:W)(e:List S):Option Kx->SR
 |some t=>if fits t sh then .nx (e.set i (.dw sh [t] [w]))else .no
 |none=>.no
noncomputable def setDVK(i:Nat)(sh:Sh)(w:W)(e:List S):Option S->SR
 |some (.fr kw)=>setDVC i sh w e (keyT kw)
 |_=>.no
noncomputable def dSetDV(i j:Nat)(sh:Sh)(w:W):List S->SR:=fun e=>setDVK i sh w e e[j]?
section
variable{x y:Str}{p:Pos}
theorem y1t(i j:Nat)(sh:Sh){ve:Expr}{v:V}{pos' dpos p2:Pos}(hK:NoTup X.K)(hu:X.A.units+20<cLine)(hN:X.N.Nodup)(hv:PE X ve (tC v))(hw:scV w=some v)
  (hj:X.N[j]?=some y:=by rfl)(hvis:Vis X.env.scope y:=by walk_at "1")(hd:(y==("__debug__":Str))=false:=by decide)(hcd:(y==("__classdict__":Str))=false:=by decide)
  (hi:X.N[i]?=some x:=by rfl)(hx:Loc X.env.scope x:=by walk_at "3")
  (hs:swapsWith (.Dict [some (.Name y p2)] [ve] dpos) (some (.Name x pos')) pos.line X.env=pure false:=by rfl)(hf:X.fn x=true\/X.env.scope.names.lookup x=some .local:=by walk_at "2"):
  DS Z X EE (.Assign [.Name x pos'] (.Dict [some (.Name y p2)] [ve] dpos) pos) (dSetDV i j sh w):=by
 refine PS.mono (q8y i hN (y9i (sh:=sh) hu (pv j hj hvis hd hcd) hv) hi hx hs hf) ?_;rintro D σ H ⟨G,e,rel,h⟩;unfold dSetDV setDVK at h;split at h
 ·rename_i kw hkw;unfold setDVC at h;split at h
  ·rename_i t ht;split at h
   ·rename_i hc;obtain⟨u,hu1,hu2⟩:=rel.fr hkw;obtain⟨b,rfl,kr⟩:=q6b hK (.refl G) ht hu2;have krH:KRep H t (.ref b):=KRep.keeps (fun _ _ _ z=>rel.sub _ _ z) t kr
    intro q hq;have g2:=Grow.hid rel.sub hq (.dT sh [(t,v)] [b]);have r2:=rel.grow g2;have hs1:Same H (upd H q (.dT sh [] [])):=q20 hq _;refine⟨.ref b,hu1,t,b,rfl,⟨KRep.keeps (fun _ _ _ z=>hs1 _ _ z) t krH,hc⟩,q0g,?_⟩
    have eH:upd (upd H q (.dT sh [] [])) q (.dT sh [(t,v)] [b])=upd H q (.dT sh [(t,v)] [b]):=by
     funext c
     by_cases h1:c=q
     ·subst h1;rw[q0g,q0g]
     ·rw[q0d h1,q0d h1,q0d h1]
    rw[eH];refine h _ _ _ (r2.setS (s:=.dw sh [t] [w]) (fun _ _ z=>nomatch z) ⟨q,[(t,v)],[b],rfl,by rw[x1p (noI kr hc)];exact q0g,rel.sub.free hq,q34 rel hq,rfl,.of ⟨kr,trivial⟩ (noI kr hc),?_⟩) (.refl _)
    unfold RepsX;split<;>exact⟨v,[],rfl,(by cases w<;>cases hw<;>rfl),rfl⟩
   ·exact h.elim
  ·exact h.elim
 ·exact h.elim
theorem y1u{j:Nat}{sh:Sh}:dSetDV i j sh w e=setDVK i sh w e e[j]?:=rfl
theorem y1v{sh:Sh}{kw:W}:setDVK i sh w e (some (.fr kw))=setDVC i sh w e (keyT kw):=rfl
theorem y1w{m n:Int}:setDVC i (.tup [.int,.int]) w e (some (.tup [.int m,.int n]))=.nx (e.set i (.dw (.tup [.int,.int]) [.tup [.int m,.int n]] [w])):=by
 exact if_pos ⟨⟨trivial,trivial,trivial⟩,by simp[Kx.depth,Kx.depths]⟩
end
open PySem L2 PySem.Spec PyProof.Rows
section
variable{w' u1 u2 w1 w2:W}{us:List W}{wss:List (List W)}{j k:Nat}{q:List (Bool×Nat)}{F:List W->FR}
theorem y59:hide1 (.x (.fz w))=.fr w:=rfl
theorem y1x:hide1 (.x (.fzo w))=.fr w:=rfl
theorem y9u:toOld (.x (.fz w))=.x (.fzo w):=rfl
theorem y6a:rew (.x (.fzo w))=.x (.fzo w):=rfl
end
end D
namespace L2
open PySem PySem.Spec PyProof.Rows
variable{a b:Addr}{es:Array (Int×Value)}{h:Heap}{hs:List Int}{ks:List Kx}{k mask n y:Nat}
noncomputable def F5(N z:Nat):Nat:=(z*5+1)%N
noncomputable def it5(N:Nat):Nat->Nat->Nat
 |0,z=>z
 |m+1,z=>it5 N m (F5 N z)
noncomputable def marks(N:Nat):Nat->Nat->Nat->Nat×Nat
 |0,z,acc=>(z,acc)
 |m+1,z,acc=>marks N m (F5 N z) (acc ||| 1 <<< z)
theorem x0v(N:Nat):∀m z acc,(marks N m z acc).1=it5 N m z
 |0,_,_=>rfl
 |m+1,z,acc=>x0v N m _ _
theorem x0w{N:Nat}:∀m z acc,(marks N m z acc).2.testBit y=true->acc.testBit y=true\/∃k,k<m/\it5 N k z=y
 |0,z,acc,h=>.inl h
 |m+1,z,acc,h=>by
  rcases x0w m _ _ h with h|⟨k,h1,h2⟩
  ·rw[Nat.testBit_or,w3v]at h;rcases h with h|h
   ·exact .inl h
   ·refine .inr ⟨0,by omega,?_⟩;rw[Nat.one_shiftLeft,Nat.testBit_two_pow,decide_eq_true_eq]at h;exact h
  ·exact .inr ⟨k+1,by omega,h2⟩
theorem y6b:∀k:Fin 12,3<=k.val->marks (2^k.val) (2^k.val) 0 0=(0,2^2^k.val-1):=by decide +kernel
theorem q7s(N:Nat):∀a b z,it5 N (a+b) z=it5 N b (it5 N a z)
 |0,b,z=>by rw[w2k];rfl
 |a+1,b,z=>by rw[show a+1+b=(a+b)+1 by omega];exact q7s N a b _
theorem reach{x:Nat}(h3:3<=k)(h11:k<=11)(hx:x<2^k)(hy:y<2^k):∃m,m<2^k/\it5 (2^k) m x=y:=by
 have hc:=y6b ⟨k,by omega⟩ h3
 have all:∀z,z<2^k->∃b,b<2^k/\it5 (2^k) b 0=z:=fun z hz=>by
  have:(marks (2^k) (2^k) 0 0).2.testBit z=true:=by
   rw[hc];show(2^2^k-1).testBit z=true;rw[Nat.testBit_two_pow_sub_one];exact decide_eq_true hz
  rcases x0w _ _ _ this with h|h
  ·simp at h
  ·exact h
 have back:it5 (2^k) (2^k) 0=0:=by rw[<- x0v (2^k) (2^k) 0 0,hc]
 obtain⟨a,ha,rfl⟩:=all x hx;obtain⟨b,hb,rfl⟩:=all y hy
 by_cases h:a<=b
 ·exact⟨b-a,by omega,by rw[<- q7s,show a+(b-a)=b by omega]⟩
 ·exact⟨2^k-a+b,by omega,by rw[<- q7s,show a+(2^k-a+b)=2^k+b by omega,q7s,back]⟩
noncomputable def lpN(mask:Nat):Nat->Nat×Nat->Nat×Nat
 |0,q=>q
 |n+1,q=>lpN mask n (SetTable.leap mask q.1 q.2)
theorem q9y(mask:Nat):∀a b q,lpN mask (a+b) q=lpN mask b (lpN mask a q)
 |0,b,q=>by rw[w2k];rfl
 |a+1,b,q=>by rw[show a+1+b=(a+b)+1 by omega];exact q9y mask a b _
theorem x4i(mask:Nat):∀n q,(lpN mask n q).2=q.2 / 32^n
 |0,q=>by simp[lpN]
 |n+1,q=>by
  show(lpN mask n (SetTable.leap mask q.1 q.2)).2=_;rw[x4i mask n,w3z,Nat.mul_comm,<- Nat.div_div_eq_div_mul];rfl
theorem x2p(mask:Nat):∀m i,lpN mask m (i,0)=(it5 (mask+1) m i,0)
 |0,i=>rfl
 |m+1,i=>by
  show lpN mask m (SetTable.leap mask i 0)=_;rw[show SetTable.leap mask i 0=(F5 (mask+1) i,0) by unfold SetTable.leap F5;simp];exact x2p mask m _
theorem x53(mask:Nat)(q:Nat×Nat):(SetTable.leap mask q.1 q.2).1<mask+1:=Nat.mod_lt _ (w4r _)
theorem x2q(h3:3<=k)(h11:k<=11)(hm:mask+1=2^k)(q:Nat×Nat)(hq:q.2<2^64)(hy:y<=mask):∃n,n<13+2^k/\(lpN mask n q).1=y:=by
 have h0:(lpN mask 13 q).2=0:=by
  rw[x4i];exact Nat.div_eq_of_lt (w0o hq (by decide))
 have hx:(lpN mask 13 q).1<2^k:=by
  rw[show(13:Nat)=12+1 from rfl,q9y,<- hm];exact x53 mask _
 obtain⟨m,h1,h2⟩:=reach h3 h11 hx (show y<2^k by omega);refine⟨13+m,by omega,?_⟩;rw[q9y,show lpN mask 13 q=((lpN mask 13 q).1,0)from Prod.ext rfl h0,x2p,hm];exact h2
noncomputable def advN(t:SetTable):Nat->SetTable.Probe->SetTable.Probe
 |0,p=>p
 |s+1,p=>advN t s (t.advance p)
theorem x2r(t:SetTable):∀a b p,advN t (a+b) p=advN t b (advN t a p)
 |0,b,p=>by rw[w2k];rfl
 |a+1,b,p=>by rw[show a+1+b=(a+b)+1 by omega];exact x2r t a b _
noncomputable def ls(t:SetTable)(q:Nat×Nat):SetTable.Probe:={j:=q.1,more:=SetTable.runEnd t.mask q.1-q.1,i:=q.1,perturb:=q.2,dummy:=none}
theorem block(t:SetTable):∀(m:Nat)(p:SetTable.Probe),p.more=m->p.dummy=none->advN t (m+1) p=ls t (SetTable.leap t.mask p.i p.perturb)
 |0,p,h,hd=>by
  show t.advance p=_;unfold SetTable.advance;rw[if_neg (by omega)];show _=ls t _;unfold ls;rw[<- hd]
 |m+1,p,h,hd=>by
  show advN t (m+1) (t.advance p)=_
  have e:t.advance p={p with j:=p.j+1,more:=p.more-1}:=by
   unfold SetTable.advance;rw[if_pos (by omega)]
  rw[e];exact block t m {p with j:=p.j+1,more:=p.more-1} (by show p.more-1=m;omega) hd
theorem y9v(mask i:Nat):SetTable.runEnd mask i-i<=9:=by
 unfold SetTable.runEnd;split<;>omega
theorem x2s{mask i:Nat}(h:i<=mask):SetTable.runEnd mask i<=mask:=by
 unfold SetTable.runEnd;split<;>omega
theorem blocks(t:SetTable):∀(n:Nat)(q:Nat×Nat),∃s,s<=10*n/\advN t s (ls t q)=ls t (lpN t.mask n q)
 |0,q=>⟨0,w0f _,rfl⟩
 |n+1,q=>by
  obtain⟨s,h1,h2⟩:=blocks t n (SetTable.leap t.mask q.1 q.2);have hb:=block t _ (ls t q) rfl rfl;have hr:=y9v t.mask q.1;refine⟨(ls t q).more+1+s,?_,?_⟩
  ·show SetTable.runEnd t.mask q.1-q.1+1+s<=_;omega
  ·rw[x2r,hb];exact h2
def PIn(t:SetTable)(p:SetTable.Probe):Prop:=p.j+p.more<=t.mask/\p.dummy=none
theorem PIn.adv{t:SetTable}{p:SetTable.Probe}(h:PIn t p):PIn t (t.advance p):=by
 unfold SetTable.advance;split
 ·rename_i hm;exact⟨by show p.j+1+(p.more-1)<=t.mask;have:=h.1;omega,h.2⟩
 ·refine⟨?_,h.2⟩;have h1:=x53 t.mask (p.i,p.perturb);show(SetTable.leap t.mask p.i p.perturb).1+(SetTable.runEnd t.mask (SetTable.leap t.mask p.i p.perturb).1-(SetTable.leap t.mask p.i p.perturb).1)<=t.mask;have h2:=x2s (mask:=t.mask) (i:=(SetTable.leap t.mask p.i p.perturb).1) (by have:(SetTable.leap t.mask p.i p.perturb).1<t.mask+1:=h1;omega);have:(SetTable.leap t.mask p.i p.perturb).1<=t.mask:=by have:(SetTable.leap t.mask p.i p.perturb).1<t.mask+1:=h1;omega
  omega
theorem x4j{t:SetTable}{f:Nat->Int}{h:Int}(hd:t.dummies=#[])(hf:∀i,i<t.place.size->(f i==h)=false):∀(fuel:Nat)(p:SetTable.Probe),PIn t p->(∃s,s<fuel/\t.slot (advN t s p).j=.empty) ->
  ∃j,SetTable.probe.go t f h fuel p=some (.empty j none)/\t.slot j=.empty/\j<=t.mask
 |0,p,_,⟨s,hs,_⟩=>by omega
 |fuel+1,p,hp,⟨s,hs,he⟩=>by
  unfold SetTable.probe.go
  have nodum:t.slot p.j≠.dummy:=fun z=>by
   unfold SetTable.slot at z;rw[hd,q57]at z
   by_cases q:t.place[SetTable.below t.place p.j]?=some p.j<;>simp[q]at z
  cases q:t.slot p.j with
  |empty=>exact⟨p.j,by rw[hp.2],q,by have:=hp.1;omega⟩
  |dummy=>exact absurd q nodum
  |live i=>
   dsimp only
   have hi:i<t.place.size:=by
    unfold SetTable.slot at q;rw[hd,q57]at q
    by_cases z:t.place[SetTable.below t.place p.j]?=some p.j
    ·simp only[z,beq_self_eq_true,if_true]at q;injection q with q
     rw[<- q];exact(w1c.mp z).1
    ·simp[z]at q
   rw[hf i hi,if_neg w1p];refine x4j hd hf fuel _ hp.adv ?_;cases s with
   |zero=>rw[show advN t 0 p=p from rfl,q]at he;cases he
   |succ s=>exact⟨s,by omega,he⟩
theorem x4k(h:Int):SetTable.bits h<2^64:=by
 unfold SetTable.bits;have h1:=w2e h (show(2^64:Int)≠0 by decide);have h2:=w1y h (show(0:Int)<2^64 by decide);omega
theorem y1y{t:SetTable}(hd:t.dummies=#[])(h:y∉t.place.toList):t.slot y=.empty:=by
 unfold SetTable.slot;rw[hd,q57]
 have:t.place[SetTable.below t.place y]?≠some y:=fun z=>by
  obtain⟨hi,e⟩:=w1c.mp z;exact h (by rw[<- e];simp)
 simp[this]
theorem x4l:∀(l m:List Nat),l.Nodup->(∀x∈l,x∈m)->l.length<=m.length
 |[],_,_,_=>w1a _
 |x::l,m,hn,h=>by
  obtain⟨h1,h2⟩:=w1v.mp hn;have hx:=h x (w0n ..);have:=x4l l (m.erase x) h2 fun y hy=>(List.mem_erase_of_ne (fun(e:y=x)=>h1 (e ▸ hy))).mpr (h y (w0k _ hy))
  rw[w3i hx]at this;have hp:0<m.length:=w3p hx;rw[w0u];omega
theorem x8i{l:List Nat}(h:l.length<n):∃y,y<n/\y∉l:=Classical.byContradiction fun z=>by
 have:=x4l (List.range n) l List.nodup_range fun x hx=>Classical.byContradiction fun q=>z ⟨x,w1o.mp hx,q⟩
 rw[List.length_range]at this;omega
structure TOk(t:SetTable):Prop where
 k:∃k,3<=k/\k<=11/\t.mask+1=2^k
 rise:Rise t
 inn:∀y∈t.place.toList,y<=t.mask
 few:t.place.size<=t.mask
theorem x54{t:SetTable}{f:Nat->Int}{h:Int}(ok:TOk t)(hf:∀i,i<t.place.size->(f i==h)=false):∃j,t.probe f h (t.probeStart h)=some (.empty j none)/\t.slot j=.empty/\j<=t.mask:=by
 obtain⟨k,h3,h11,hm⟩:=ok.k;obtain⟨y,hy,hn⟩:=x8i (l:=t.place.toList) (n:=t.mask+1) (by have:=ok.few;simp;omega);have hb:=x4k h;obtain⟨n,h1,h2⟩:=x2q h3 h11 hm (SetTable.bits h%(t.mask+1),SetTable.bits h) hb (show y<=t.mask by omega);obtain⟨s,s1,s2⟩:=blocks t n (SetTable.bits h%(t.mask+1),SetTable.bits h);have hlt:SetTable.bits h%(t.mask+1)<t.mask+1:=Nat.mod_lt _ (w4r _);have hin:=x2s (mask:=t.mask) (i:=SetTable.bits h%(t.mask+1)) (by omega);refine x4j ok.rise.2 hf _ _ ⟨?_,rfl⟩ ⟨s,?_,?_⟩
 ·show SetTable.bits h%(t.mask+1)+(SetTable.runEnd t.mask (SetTable.bits h%(t.mask+1))-SetTable.bits h%(t.mask+1))<=t.mask;omega
 ·show s<10*(t.mask+15);omega
 ·have e:advN t s (t.probeStart h)=ls t (lpN t.mask n (SetTable.bits h%(t.mask+1),SetTable.bits h)):=s2;rw[e];show t.slot (lpN t.mask n _).1=_;rw[h2];exact y1y ok.rise.2 hn
theorem x4m{owner:Array (Option Nat)}(hs:owner.size=mask+1)(hy:y<=mask)(hn:owner.getD y (some 0)=none):∀(n fuel i pb:Nat),n<fuel->(lpN mask n (i,pb)).1=y->i<=mask ->
  ∃j,SetTable.layClean.free mask owner fuel i pb=some j/\j<=mask/\owner.getD j (some 0)=none
 |n,0,i,pb,h,_,_=>by omega
 |n,fuel+1,i,pb,h,he,hi=>by
  unfold SetTable.layClean.free;have hin:=x2s hi;have hge:i<=SetTable.runEnd mask i:=by unfold SetTable.runEnd;split<;>omega
  cases q:(List.range (SetTable.runEnd mask i+1-i)).find? fun k=>(owner.getD (i+k) (some 0)).isNone with
  |some k=>
   have h1:=List.find?_some q;have h2:=w1o.mp (List.mem_of_find?_eq_some q);exact⟨i+k,rfl,by omega,by simpa using h1⟩
  |none=>
   dsimp only;cases n with
   |zero=>
    have he:i=y:=he;subst he;have:=List.find?_eq_none.mp q 0 (w1o.mpr (by omega));rw[Nat.add_zero,hn]at this;simp at this
   |succ n=>
    have hl:=x53 mask (i,pb);exact x4m hs hy hn n fuel _ _ (by omega) he (by have:(SetTable.leap mask i pb).1<mask+1:=hl;omega)
theorem x2t{k:Nat}:∀{l:List (Option Nat)}{j:Nat},l[j]?=some none->((l.set j (some k)).filterMap id).length=(l.filterMap id).length+1/\∀v∈(l.set j (some k)).filterMap id,v=k\/v∈l.filterMap id
 |[],_,h=>nomatch h
 |x::l,0,h=>by
  cases h;exact⟨rfl,fun v hv=>(w0j.mp hv).elim .inl .inr⟩
 |x::l,j+1,h=>by
  obtain⟨h1,h2⟩:=x2t (k:=k) (l:=l) (j:=j) h;rw[w3b];cases x with
  |none=>exact⟨h1,h2⟩
  |some x=>
   refine⟨by show _+1=_+1+1;rw[h1],fun v hv=>?_⟩
   rcases w0j.mp hv with z|z
   ·exact .inr (by rw[z];exact w0n ..)
   ·exact(h2 v z).imp id fun q=>w0k _ q
theorem x4n:∀{l:List (Option Nat)},(l.filterMap id).length<l.length->∃y:Nat,l[y]?=some none
 |[],h=>by simp at h
 |none::l,_=>⟨0,rfl⟩
 |some x::l,h=>by
  obtain⟨y,hy⟩:=x4n (l:=l) (by
   have:(l.filterMap id).length+1<l.length+1:=h;omega)
  exact⟨y+1,hy⟩
structure OwnOkT(mask:Nat)(owner:Array (Option Nat))(m:Nat):Prop where
 sz:owner.size=mask+1
 cnt:(owner.toList.filterMap id).length=m
 lt:∀v∈owner.toList.filterMap id,v<m
theorem y1z{m:Nat}{owner:Array (Option Nat)}(h3:3<=k)(h11:k<=11)(hm:mask+1=2^k)(o:OwnOkT mask owner m)(hl:m<=mask)(h:Int):
  ∃j,SetTable.layClean.free mask owner (SetTable.turns mask) (SetTable.bits h%(mask+1)) (SetTable.bits h)=some j/\OwnOkT mask (owner.setIfInBounds j (some m)) (m+1):=by
 obtain⟨y,hy⟩:=x4n (l:=owner.toList) (by rw[o.cnt];have:=o.sz;simp;omega);have hyl:y<owner.size:=by have:=(w0b.mp hy).1;simpa using this
 have gd:∀z,z<owner.size->(owner.getD z (some 0)=none↔owner.toList[z]?=some none):=fun z hz=>by
  rw[w2x,<- Array.getElem?_toList,w0d (by simpa using hz)];simp
 obtain⟨n,n1,n2⟩:=x2q h3 h11 hm (SetTable.bits h%(mask+1),SetTable.bits h) (x4k h) (show y<=mask by have:=o.sz;omega);have hlt:SetTable.bits h%(mask+1)<mask+1:=Nat.mod_lt _ (w4r _);obtain⟨j,f1,f2,f3⟩:=x4m o.sz (show y<=mask by have:=o.sz;omega) ((gd y hyl).mpr hy) n (SetTable.turns mask) _ _ (by show n<mask+15;omega) n2 (by omega);have hj:j<owner.size:=by rw[o.sz];omega
 have g:=x2t (k:=m) ((gd j hj).mp f3);refine⟨j,f1,by simpa using o.sz,?_,fun v hv=>?_⟩
 ·rw[w2z,g.1,o.cnt]
 ·rw[w2z]at hv;rcases g.2 v hv with z|z
  ·omega
  ·have:=o.lt v z;omega
noncomputable def layF(mask:Nat)(acc:Option (Array (Option Nat)×Nat))(h:Int):Option (Array (Option Nat)×Nat):=do
  let (owner,k) <- acc
  let j <- SetTable.layClean.free mask owner (SetTable.turns mask) (SetTable.bits h%(mask+1)) (SetTable.bits h)
  pure (owner.setIfInBounds j (some k),k+1)
theorem x4o(h3:3<=k)(h11:k<=11)(hm:mask+1=2^k):∀(hs:List Int)(owner:Array (Option Nat))(m:Nat),OwnOkT mask owner m->m+hs.length<=mask+1->∃owner',hs.foldl (layF mask) (some (owner,m))=some (owner',m+hs.length)/\OwnOkT mask owner' (m+hs.length)
 |[],owner,m,o,_=>⟨owner,rfl,o⟩
 |h::hs,owner,m,o,hl=>by
  rw[w0u]at hl;obtain⟨j,f1,o1⟩:=y1z h3 h11 hm o (by omega) h;obtain⟨ow,g1,g2⟩:=x4o h3 h11 hm hs _ (m+1) o1 (by omega);refine⟨ow,?_,by rw[w0u,show m+(hs.length+1)=m+1+hs.length by omega];exact g2⟩;rw[w2y,w0u,show m+(hs.length+1)=m+1+hs.length by omega,<- g1];congr 1;show(do let j <- SetTable.layClean.free mask owner (SetTable.turns mask) (SetTable.bits h%(mask+1)) (SetTable.bits h);pure (owner.setIfInBounds j (some m),m+1))=_;rw[f1];rfl
theorem y10(h3:3<=k)(h11:k<=11)(hm:mask+1=2^k)(hs:Array Int)(hl:hs.size<=mask):∃owner,SetTable.layClean mask hs=some owner/\OwnOkT mask owner hs.size:=by
 obtain⟨ow,g1,g2⟩:=x4o h3 h11 hm hs.toList (Array.replicate (mask+1) none) 0 ⟨by simp,by simp,fun v hv=>by simp at hv⟩ (by simp;omega)
 refine⟨ow,?_,by simpa using g2⟩;show(hs.foldl (layF mask) (some (Array.replicate (mask+1) none,0))).map (·.1)=_;rw[<- Array.foldl_toList,g1];rfl
theorem y6c{finger moves:Nat}{led plain:Bool}(h3:3<=k)(h11:k<=11)(hm:mask+1=2^k)(hs:Array Int)(hl:hs.size<=mask):
  ∃t order,SetTable.laid mask finger moves led plain hs=some (t,order)/\t.mask=mask/\t.place.size=hs.size/\(∀y∈t.place.toList,y<=mask)/\order.size=hs.size/\∀v∈order.toList,v<hs.size:=by
 obtain⟨ow,g1,g2⟩:=y10 h3 h11 hm hs hl
 have hlive:((List.range (mask+1)).filterMap fun j=>(ow.getD j none).map (j,·)).map (·.2)=ow.toList.filterMap id:=by
  rw[List.map_filterMap]
  have e1:(fun x=>Option.map (fun x:Nat×Nat=>x.2) ((ow.getD x none).map (x,·)))=fun x=>id (ow.getD x none):=funext fun x=>by
   cases ow.getD x none<;>rfl
  rw[e1]
  have e2:(List.range (mask+1)).map (fun x=>ow.getD x none)=ow.toList:=by
   refine List.ext_getElem (by simp[g2.sz]) fun i h1 h2=>?_
   rw[List.getElem_map,List.getElem_range,w1s,w2x,w2a (by simpa using h2)];rfl
  rw[<- e2,w4h];rfl
 refine⟨_,_,by unfold SetTable.laid;rw[g1];rfl,rfl,?_,?_,?_,?_⟩
 ·show(((List.range (mask+1)).filterMap fun j=>(ow.getD j none).map (j,·)).map (·.1)).toArray.size=_
  have:=congrArg List.length hlive;rw[w0a,g2.cnt]at this
  simpa using this
 ·intro y hy;have hy:y∈(((List.range (mask+1)).filterMap fun j=>(ow.getD j none).map (j,·)).map (·.1)).toArray.toList:=hy
  rw[w2w]at hy;obtain⟨p,hp,rfl⟩:=w0z.mp hy;obtain⟨j,hj,e⟩:=w1q.mp hp;obtain⟨v,_,rfl⟩:=w0c.mp e;have:=w1o.mp hj;show j<=mask;omega
 ·show(((List.range (mask+1)).filterMap fun j=>(ow.getD j none).map (j,·)).map (·.2)).toArray.size=_
  rw[hlive]
  simpa using g2.cnt
 ·intro v hv;have hv:v∈(((List.range (mask+1)).filterMap fun j=>(ow.getD j none).map (j,·)).map (·.2)).toArray.toList:=hv
  rw[w2w,hlive]at hv;exact g2.lt v hv
theorem x2u:∀n:Fin 512,(∃k:Fin 12,3<=k.val/\SetTable.sizeAbove (n.val*4)=2^k.val)/\n.val*4<SetTable.sizeAbove (n.val*4):=by decide +kernel
structure SetHD(es:Array (Int×Value))(t:SetTable)(hs:List Int):Prop where
 ok:TOk t
 sz:t.place.size=es.size
 nf:t.place.size*5<t.mask*3
 len:es.size=hs.length
 mem:∀e∈es.toList,e.1∈hs
def SetH(h:Heap)(a:Addr)(hs:List Int):Prop:=∃o es ep t,h.get? a=some o/\o.ExactSet/\o.data=.set es ep t/\SetHD es t hs
theorem SetHD.fit{t:SetTable}(D:SetHD es t hs):t.fits es.size=true:=by
 unfold SetTable.fits SetTable.fill;rw[D.ok.rise.2,D.sz];have:=D.ok.few;have:=D.sz;simp;omega
theorem y6d{t:SetTable}(hd:t.dummies=#[])(h1:t.place.size=n)(h2:n<=t.mask):t.fits n=true:=by
 unfold SetTable.fits SetTable.fill;rw[hd,h1];simp;omega
theorem q6c{α:Type}(xs:Array α)(p:Nat)(x:α):(SetTable.insertAt xs p x).size=xs.size+1:=by
 have:=congrArg List.length (SetTable.toList_insertAt xs p x);rw[w0x,w0u,w2c,w3m]at this;simp at this;omega
theorem x4p{α:Type}{xs:Array α}{p:Nat}{x y:α}(h:y∈(SetTable.insertAt xs p x).toList):y=x\/y∈xs.toList:=by
 rw[SetTable.toList_insertAt,w1h,w0j]at h;rcases h with h|h|h
 ·exact .inr (List.mem_of_mem_take h)
 ·exact .inl h
 ·exact .inr (List.mem_of_mem_drop h)
structure PutHD(es:Array (Int×Value))(t:SetTable)(hs:List Int):Prop where
 k:∃k,3<=k/\k<=11/\t.mask+1=2^k
 rise:Rise t
 inn:∀y∈t.place.toList,y<=t.mask
 sz:t.place.size=es.size
 few:t.place.size<=t.mask
 len:es.size=hs.length
 mem:∀e∈es.toList,e.1∈hs
theorem SetHD.put{t:SetTable}(D:SetHD es t hs){j:Nat}(hj:t.slot j=.empty)(hm:j<=t.mask)(h:Int)(x:Value)(b:Bool):
  PutHD (SetTable.insertAt es (t.put j).2 (h,x)) (if b=true then(t.put j).1 else { (t.put j).1 with plain:=false}) (h::hs):=by
 have e1:(if b=true then(t.put j).1 else { (t.put j).1 with plain:=false}).place=(t.put j).1.place:=by cases b<;>rfl
 have e2:(if b=true then(t.put j).1 else { (t.put j).1 with plain:=false}).dummies=(t.put j).1.dummies:=by cases b<;>rfl
 have e3:(if b=true then(t.put j).1 else { (t.put j).1 with plain:=false}).mask=t.mask:=by cases b<;>rfl
 have rs:=D.ok.rise.put hj;have s1:(t.put j).1.place.size=t.place.size+1:=q6c _ _ _
 have k8:8<=t.mask+1:=by
  obtain⟨k,h3,_,e⟩:=D.ok.k;rw[e];exact w0r (by decide) (w0w (by decide) h3)
 refine⟨by rw[e3];exact D.ok.k,⟨by rw[e1];exact rs.1,by rw[e2];exact rs.2⟩,fun y hy=>?_,?_,?_,?_,fun e he=>?_⟩
 ·rw[e1]at hy;rw[e3];rcases x4p (xs:=t.place) hy with rfl|z
  ·exact hm
  ·exact D.ok.inn y z
 ·rw[e1,s1,q6c,D.sz]
 ·rw[e1,e3,s1];have:=D.nf;omega
 ·rw[q6c,D.len,w0u]
 ·rcases x4p he with rfl|z
  ·exact w0n ..
  ·exact w0k _ (D.mem e z)
theorem PutHD.keep{t:SetTable}(P:PutHD es t hs)(h:t.tooFull=false):SetHD es t hs:=by
 unfold SetTable.tooFull SetTable.fill at h;rw[P.rise.2]at h;simp at h;exact⟨⟨P.k,P.rise,P.inn,P.few⟩,P.sz,by omega,P.len,P.mem⟩
theorem PutHD.relaid{t:SetTable}(P:PutHD es t hs)(hn:es.size<500):∃t' order,t.relaid (es.map (·.1)) (SetTable.grown es.size)=some (t',order)/\(order.filterMap (es[·]?)).size=es.size/\SetHD (order.filterMap (es[·]?)) t' hs:=by
 obtain⟨⟨k,h3,hk⟩,hlt⟩:=x2u ⟨es.size,by omega⟩;have hk:SetTable.sizeAbove (es.size*4)=2^k.val:=hk;have hlt:es.size*4<SetTable.sizeAbove (es.size*4):=hlt;have hg:SetTable.grown es.size=es.size*4:=by unfold SetTable.grown;rw[if_neg (by omega)]
 have h8:8<=2^k.val:=w0r (by decide) (w0w (by decide) h3);have hm:2^k.val-1+1=2^k.val:=by omega
 obtain⟨t',order,g1,g2,g3,g4,g5,g6⟩:=y6c (finger:=t.finger) (moves:=t.movedTo (2^k.val-1)) (led:=t.led) (plain:=t.plain) h3 (by have:=k.isLt;omega) hm (es.map (·.1)) (by rw[Array.size_map];omega);rw[Array.size_map]at g3 g5 g6;have hall:(order.filterMap (es[·]?)).toList=order.toList.filterMap (es[·]?):=by simp
 have hfl:(order.toList.filterMap (es[·]?)).length=es.size:=by
  rw[<- g5,show order.size=order.toList.length by simp]
  have:∀l:List Nat,(∀v∈l,v<es.size)->(l.filterMap (es[·]?)).length=l.length:=fun l=>by
   induction l with
   |nil=>intro _;rfl
   |cons v l ih=>
    intro h;rw[w2h,w2a (h v (by simp))];show _+1=_+1;rw[ih fun w hw=>h w (by simp[hw])]
  exact this _ g6
 have hsz:(order.filterMap (es[·]?)).size=es.size:=by
  have:=congrArg List.length hall;rw[w2i,hfl]at this;exact this
 refine⟨t',order,?_,hsz,⟨⟨k.val,h3,by have:=k.isLt;omega,by rw[g2,hm]⟩,(y41 g1).1,fun y hy=>by rw[g2];exact g4 y hy,by rw[g3,g2];omega⟩,by rw[g3,hsz],by rw[g3,g2];omega,by rw[hsz,P.len],fun e he=>?_⟩
 ·unfold SetTable.relaid;rw[hg,hk];exact g1
 ·rw[hall]at he;obtain⟨v,_,e2⟩:=w1q.mp he;exact P.mem e (by obtain⟨hv,e3⟩:=w1c.mp e2;rw[<- e3];simp)
section
variable{prog:Program}{w:World}{A:Around}{E:Value->Shared->Prop}{s:Shared}{t:SetTable}{ep:Nat}{o:Obj}
def FlatT(h:Heap)(b:Addr):Prop:=∃o items n,h.get? b=some o/\o.cls=.type "tuple" /\ o.data=.seq items n/\∀v∈items.toList,(∃i u,v=Value.int i u)\/∃c,v=Value.bool c
theorem y11{v:Value}(h:(∃i u,v=Value.int i u)\/∃c,v=Value.bool c)(n:Nat):hashByValue n v=pure true:=by
 rcases h with⟨i,u,rfl⟩|⟨c,rfl⟩<;>cases n<;>rfl
theorem y12{Q:Bool->Shared->Prop}(hf:FlatT s.heap b)(h:∀r,Q r s):wpAny (model prog w) A (hashByValue 8 (.ref b)) Q E s:=by
 obtain⟨o,items,n,h1,h2,h3,h4⟩:=hf;unfold hashByValue;refine wpAny_bind (wpAny_specialOf (T:="tuple") ⟨o,h1,h2⟩ F.slot_tuple_hash.lookup ?_);dsimp only;refine wpAny_bind (wpAny_seqItems h1 h3 ?_);dsimp only[Option.getD_some];rw[<- w3a];refine wpAny_bind (wpAny_mono (wpAny_forIn_list _ (fun rest r s'=>r.1=none/\s'=s/\∀v∈rest,v∈items.toList) (fun r s'=>s'=s/\r.1=none) ?turn ?fin _ _ ⟨rfl,rfl,fun v hv=>hv⟩) ?post fun _ _ z=>z)
 case post=>
  rintro⟨r1,r2⟩ s' ⟨rfl,z⟩;simp only at z;subst z;exact wpAny_pure (h true)
 case fin=>
  rintro⟨r1,r2⟩ s' ⟨h5,h6,_⟩;exact⟨h6,h5⟩
 case turn=>
  rintro x rest ⟨r1,r2⟩ s' ⟨h5,rfl,h6⟩;rw[y11 (h4 x (h6 x (by simp)))];simp only[pure_bind,w4g,w1e,if_false];exact wpAny_pure ⟨rfl,rfl,fun v hv=>h6 v (by simp[hv])⟩
theorem q85(ho:s.heap.get? a=some o)(hex:o.ExactSet)(hd:o.data=.set es ep t){es':Array (Int×Value)}{t':SetTable}{Q:Unit->Shared->Prop}(hz:es'.size<1000)
  (h:∀h',Heap.SameBut a s.heap h'->(∃o',h'.get? a=some o'/\o'.ExactSet/\o'.data=.set es' (ep+1) t')->Q () {s with heap:=h'}):wpAny (model prog w) A (storeSet a es' t') Q E s:=by
 refine wpAny_storeSet_of ho hd ?_ (by rw[sizeLine_eq];omega);have hg:=Heap.get?_update_self (Obj.putSet es' t') ho (by rw[putSet_of es' t' hd];rfl);rw[putSet_of es' t' hd]at hg;exact h _ (Heap.SameBut.update s.heap a (Obj.putSet es' t')) ⟨_,hg,hex,rfl⟩
theorem x55{Q : Unit -> Shared -> Prop}(ho : s.heap.get? a = some o)(hex : o.ExactSet)(hd : o.data = .set es ep t)(P : PutHD es t hs)(hn : es.size < 500)
    (h : ∀ h', Heap.SameBut a s.heap h' -> SetH h' a hs -> Q () { s with heap := h' }) : wpAny (model prog w) A (setRelay a (SetTable.grown es.size)) Q E s := by
  obtain ⟨t', order, g1, g2, D⟩ := P.relaid hn;unfold setRelay;refine wpAny_bind (wpAny_setState_of ho hd (y6d P.rise.2 P.sz (by rw [<- P.sz]; exact P.few)) ?_);dsimp only;obtain ⟨⟨k, h3, hk⟩, hlt⟩ := x2u ⟨es.size, by omega⟩;have hk : SetTable.sizeAbove (es.size * 4) = 2 ^ k.val := hk;have hg : SetTable.grown es.size = es.size * 4 := by unfold SetTable.grown; rw [if_neg (by omega)]
  have hle : 2 ^ k.val <= 2048 := w0r (w0w (by decide) (show k.val <= 11 by have := k.isLt; omega)) (by decide);rw [if_neg (by rw [hg, hk, sizeLine_eq]; omega)];refine wpAny_bind ?_;rw [g1]
  show wpAny (model prog w) A (do if (order.filterMap (es[·]?)).size != es.size then unsupported "internal:set-table-lost-an-element"
                                  pure (order.filterMap (es[·]?), t')) _ E s
  rw [if_neg (by rw [g2]; simp)];refine wpAny_bind (wpAny_pure (wpAny_pure ?_));exact q85 ho hex hd (by rw [g2]; omega) fun h' sb ⟨o', q1, q2, q3⟩ => h h' sb ⟨o', _, _, _, q1, q2, q3, D⟩
theorem y13{h0:Int}{Q:Bool->Shared->Prop}(hS:SetH s.heap a hs)(hn:hs.length<499)(hh:h0∉hs)(hf:FlatT s.heap b)(hab:b≠a)
  (h:∀h',Heap.SameBut a s.heap h'->SetH h' a (h0::hs)->∀r,Q r {s with heap:=h'}):
  wpAny (model prog w) A (setAddHashed a (.ref b) h0) Q E s:=by
 obtain⟨o,es,ep,t,ho,hex,hd,D⟩:=hS;have fit:=D.fit
 obtain⟨j,p1,p2,p3⟩:=x54 (t:=t) (f:=fun i=>(es[i]?.map (·.1)).getD 0) (h:=h0) D.ok fun i hi=>by
  rw[D.sz]at hi;have hm:=D.mem es[i] (by simp);rw[w2a hi];exact beq_eq_false_iff_ne.mpr fun e=>hh (by rw[<- e];exact hm)
 have godd:t.gaveWay=false:=by
  obtain⟨k,h3,_,e⟩:=D.ok.k;unfold SetTable.gaveWay;have:2^k=2*2^(k-1):=by rw[<- Nat.pow_succ'];congr 1;omega
  rw[beq_eq_false_iff_ne];omega
 unfold setAddHashed setAddHashedIn;refine wpAny_holding (wpAny_bind (wpAny_setState_of ho hd fit ?_));dsimp only;rw[show byScan (.ref b) es=false by unfold byScan Value.scannable;rfl];simp only[w1e,↓reduceIte];refine wpAny_bind ?_;unfold setSearch setSearchFrom;refine wpAny_bind (wpAny_setState_of ho hd fit ?_);dsimp only;rw[godd];simp only[w1e,↓reduceIte]
 erw [p1]
 dsimp only;refine wpAny_pure ?_;dsimp only;refine wpAny_bind (wpAny_setState_of ho hd fit ?_);dsimp only
 have fin:∀r:Bool,wpAny (model prog w) A (do
   storeSet a (SetTable.insertAt es (t.put j).2 (h0,.ref b)) (if r=true then(t.put j).1 else { (t.put j).1 with plain:=false})
   if(!false&&(if r=true then(t.put j).1 else { (t.put j).1 with plain:=false}).tooFull)=true then setRelay a (SetTable.grown (es.size+1))
   return true) Q E s:=fun r=>by
  have P:=D.put p2 p3 h0 (.ref b) r;generalize (if r=true then(t.put j).1 else { (t.put j).1 with plain:=false})=t1 at P |-
  have hz:(SetTable.insertAt es (t.put j).2 (h0,Value.ref b)).size=es.size+1:=q6c _ _ _;have hl:=D.len;refine wpAny_bind (q85 ho hex hd (by rw[hz];omega) fun h1 sb1 ⟨o1,q1,q2,q3⟩=>?_)
  cases q:t1.tooFull with
  |true=>
   simp only[Bool.not_false,Bool.and_self,if_true];rw[<- hz];exact wpAny_bind (x55 (s:={s with heap:=h1}) q1 q2 q3 P (by rw[hz];omega) fun h2 sb2 S2=>wpAny_pure (h h2 (sb1.trans sb2) S2 true))
  |false=>
   simp only[Bool.not_false,w4b,w1e,if_false];exact wpAny_pure (h h1 sb1 ⟨o1,_,_,_,q1,q2,q3,P.keep q⟩ true)
 have hp:(t.put j).1.plain=t.plain:=rfl;cases hpl:t.plain with
 |true=>
  rw[if_pos (hp.trans hpl)];exact wpAny_bind (y12 hf fun r=>fin r)
 |false=>
  rw[if_neg (by rw[hp,hpl];exact w1p)];exact wpAny_bind (wpAny_pure (fin true))
end
def ScalKs:List Kx->List Value->Prop
 |[],vs=>vs=[]
 |.int i::ks,vs=>∃t r,vs=.int i t::r/\ScalKs ks r
 |.bl b::ks,vs=>∃r,vs=.bool b::r/\ScalKs ks r
 |_,_=>False
def FlatK(h:Heap)(b:Addr)(ks:List Kx):Prop:=∃o items n,h.get? b=some o/\o.cls=.type "tuple" /\ o.data=.seq items n/\ScalKs ks items.toList
theorem ScalKs.all:∀{ks:List Kx}{vs:List Value},ScalKs ks vs->∀v∈vs,(∃i u,v=Value.int i u)\/∃c,v=Value.bool c
 |[],vs,h,v,m=>by rw[show vs=[]from h]at m;cases m
 |.int i::ks,vs,⟨t,r,e,h⟩,v,m=>by
  subst e;rcases w0j.mp m with rfl|m
  ·exact .inl ⟨i,t,rfl⟩
  ·exact ScalKs.all h v m
 |.bl b::ks,vs,⟨r,e,h⟩,v,m=>by
  subst e;rcases w0j.mp m with rfl|m
  ·exact .inr ⟨b,rfl⟩
  ·exact ScalKs.all h v m
 |.non::_,_,h,_,_=>h.elim
 |.str _::_,_,h,_,_=>h.elim
 |.tup _::_,_,h,_,_=>h.elim
theorem ScalKs.are{g:Heap}:∀{ks:List Kx}{vs:List Value},ScalKs ks vs->KAre g ks vs/\Kx.depths ks=0
 |[],vs,h=>⟨h,rfl⟩
 |.int i::ks,vs,⟨t,r,e,h⟩=>⟨⟨_,r,e,⟨t,rfl⟩,(ScalKs.are h).1⟩,by show max 0 (Kx.depths ks)=0;rw[(ScalKs.are (g:=g) h).2];rfl⟩
 |.bl b::ks,vs,⟨r,e,h⟩=>⟨⟨_,r,e,rfl,(ScalKs.are h).1⟩,by show max 0 (Kx.depths ks)=0;rw[(ScalKs.are (g:=g) h).2];rfl⟩
 |.non::_,_,h=>h.elim
 |.str _::_,_,h=>h.elim
 |.tup _::_,_,h=>h.elim
theorem FlatK.flat(x:FlatK h b ks):FlatT h b:=by
 obtain⟨o,items,n,h1,h2,h3,h4⟩:=x;exact⟨o,items,n,h1,h2,h3,h4.all⟩
theorem FlatK.keep{h':Heap}(x:FlatK h b ks)(k:∀o,h.get? b=some o->h'.get? b=some o):FlatK h' b ks:=by
 obtain⟨o,items,n,h1,r⟩:=x;exact⟨o,items,n,k o h1,r⟩
theorem SetH.keep{h':Heap}(x:SetH h a hs)(k:∀o,h.get? a=some o->h'.get? a=some o):SetH h' a hs:=by
 obtain⟨o,es,ep,t,q,r⟩:=x;exact⟨o,es,ep,t,k o q,r⟩
section
variable{prog:Program}{w:World}{A:Around}{E:Value->Shared->Prop}{s:Shared}
noncomputable def hK(w:World)(p:Addr×List Kx):Int:=kHash w (.tup p.2)
theorem x8j{Q:Int->Shared->Prop}(hu:A.units+20<cLine)(x:FlatK s.heap b ks)(h:∀tk,s.toks<=tk->Q (kHash w (.tup ks)) {s with toks:=tk}):wpAny (model prog w) A (pyHash (.ref b)) Q E s:=by
 obtain⟨o,items,n,h1,h2,h3,h4⟩:=x;obtain⟨a1,a2⟩:=ScalKs.are (g:=s.heap) h4;exact q9n (.tup ks) (.ref b) A s Q ⟨b,o,items,n,rfl,h1,h2,h3,a1⟩ (by show A.units+(Kx.depths ks+1)<cLine;rw[a2];omega) (h _ (Nat.le_add_right _ _))
theorem x0x{R:Result->Shared->Prop}{I c:Addr}{fp wr:List Addr}{G:Array GenState->Array GenState->Prop}{P:Nat->Value->Prop}{St:Nat->Shared->Prop}(W:WalksS prog w A.in1 I fp wr G n P St)(hc:c∉fp)(bks:List (Addr×List Kx))(hn:bks.length=n)
  (hv:∀i v,P i v->∃p,bks[i]?=some p/\v=Value.ref p.1)(hb:n<490)(hu:A.units+40<cLine)(hnc:∀p∈bks,p.1≠c/\p.1∉wr)(hnd:(bks.map (hK w)).Nodup):∀(rest:List (Addr×List Kx))(i:Nat)(s:Shared)(hs:List Int),bks.drop i=rest->i<=n->St i s->hs.length=i->(∀h∈hs,h∈(bks.take i).map (hK w))->SetH s.heap c hs->(∀p∈bks,FlatK s.heap p.1 p.2) ->
   (∀s' hs',Moved (c::wr) G s s'->hs'.length=n->SetH s'.heap c hs'->R (.ok (.ret .none)) s')->codeAny (model prog w) A (.builtin "set.update.loop" ⟨[.ref c,.ref I],[]⟩) R s
 |[],i,s,hs,hd,hi,st,hl,_,hS,_,hR=>by
  have hin:i=n:=by
   have:=congrArg List.length hd;simp at this;omega
  subst hin;have hcw:c∉wr:=fun z=>hc (W.sub _ z)
  refine codeAny_builtin PyProof.Rows.F.entry_set_update_loop ?_;rw[Around.under_plainId PyProof.Rows.F.plain_set_update_loop _];show wpAny (model prog w) A.in1 (pyNext (.ref I) >>= _) _ _ s;refine wpAny_bind (W.done s _ _ st fun s1 mv=>?_)
  exact wpAny_pure (hR s1 hs (mv.mono fun b hb=>w0k _ hb) hl (hS.keep fun o q=>mv.heap c o hcw q))
 |x::rest,i,s,hs,hd,hi,st,hl,hm,hS,hF,hR=>by
  have hlt:i<n:=by
   have:=congrArg List.length hd;simp at this;omega
  have hx:bks[i]?=some x:=by
   have:=congrArg (·[0]?) hd
   simpa using this
  have hxm:x∈bks:=w0l hx
  have hd2:bks.drop (i+1)=rest:=by
   have:=congrArg List.tail hd
   simpa using this
  have hcw:c∉wr:=fun z=>hc (W.sub _ z)
  have hnew:hK w x∉hs:=fun z=>by
   have z1:=hm _ z;have hsp:bks=bks.take i++x::rest:=by rw[<- hd,List.take_append_drop]
   rw[hsp,w0q,w0y,w3h]at hnd;exact hnd.2.2 _ z1 _ (w0n ..) rfl
  refine codeAny_builtin PyProof.Rows.F.entry_set_update_loop ?_;rw[Around.under_plainId PyProof.Rows.F.plain_set_update_loop _];show wpAny (model prog w) A.in1 (pyNext (.ref I) >>= _) _ _ s;refine wpAny_bind (W.item i s _ _ hlt st fun v s1 hP st1 mv=>?_)
  obtain⟨p,hp,rfl⟩:=hv i v hP;have e:p=x:=Option.some.inj (hp.symm.trans hx);subst e;have hF1:∀q∈bks,FlatK s1.heap q.1 q.2:=fun q hq=>(hF q hq).keep fun o z=>mv.heap _ o (hnc q hq).2 z
  show wpAny (model prog w) A.in1 (holding [Value.ref p.1] (setAdd c (.ref p.1)) >>= _) _ _ s1;refine wpAny_bind (wpAny_holding ?_);unfold setAdd;refine wpAny_holding (wpAny_bind (x8j (by show A.units+1+20<cLine;omega) (hF1 p hxm) fun tk htk=>?_))
  refine y13 (s:={s1 with toks:=tk}) (hs:=hs) (hS.keep fun o q=>mv.heap c o hcw q) (by omega) hnew (hF1 p hxm).flat (hnc p hxm).1 fun h2 sb hS2 b=>?_
  have hsm:∀h∈hK w p::hs,h∈(bks.take (i+1)).map (hK w):=fun h hh=>by
   rw[List.take_add_one,hx,w0q,w1h];rcases w0j.mp hh with rfl|hh
   ·exact .inr (by simp)
   ·exact .inl (hm h hh)
  refine wpAny_pure ⟨plainId_quiet PyProof.Rows.F.plain_set_update_loop _,x0x W hc bks hn hv hb hu hnc hnd rest (i+1) _ (hK w p::hs) hd2 hlt (W.frame _ s1 _ _ st1 htk fun b hb o q=>?_) (by rw[w0u,hl]) hsm hS2 (fun q hq=>(hF1 q hq).keep fun o z=>(sb.2 q.1 (hnc q hq).1).trans z) fun s3 hs' mv3 hl3 hS3=>?_⟩
  ·exact(sb.2 b fun z=>hc (z ▸ hb)).trans q
  ·refine hR s3 hs' (Moved.trans W.gtrans ((mv.mono fun b hb=>w0k _ hb).then_heap htk fun b o hb q=>?_) mv3) hl3 hS3
   exact(sb.2 b fun z=>hb (by rw[z];exact w0n)).trans q
theorem y9w(e:h.get? a=some (newO w)):SetH h a []:=
 ⟨_,#[],0,_,e,⟨rfl,rfl,rfl⟩,rfl,⟨⟨3,by decide,by decide,rfl⟩,⟨by simp[SetTable.fresh],rfl⟩,fun y hy=>by simp[SetTable.fresh]at hy,by simp[SetTable.fresh]⟩,rfl,by simp[SetTable.fresh],rfl,fun e he=>by simp at he⟩
theorem x8k{l:Addr}{bks:List (Addr×List Kx)}{Q:Value->Shared->Prop}(hh:A.handled=none)(hu:A.units+100<cLine)(hl:s.heap.IsList l (bks.map fun p=>Value.ref p.1).toArray)(hb:bks.length<490)(hF:∀p∈bks,FlatK s.heap p.1 p.2)(hnd:(bks.map (hK w)).Nodup)
  (h:∀(h':Heap)(tk:Nat)(hs:List Int),hs.length=bks.length->SetH h' s.heap.objs.size hs->(∀b o,b<s.heap.objs.size->s.heap.get? b=some o->h'.get? b=some o)->Q (.ref s.heap.objs.size) {s with heap:=h',toks:=tk}):
  wpAny (model prog w) A (call (.type "set") [.ref l]) Q E s:=by
 obtain⟨c,tl,hmro⟩:=PySem.F.called_set.mro;have hmade:=PySem.F.called_set.made;have hsub:=PySem.F.called_set.sub;refine wpAny_call (codeAny_of_tree ?_);show wpAny (model prog w) _ (callAny (.type "set") _) _ _ s;refine wpAny_pure ⟨Code.quiet_builtin _ (by decide +kernel),codeAny_builtin PySem.F.entry_type_call ?_⟩;rw[Around.under_plain (weight_type_call_type "set" [.ref l] []) rfl];have z1:=PySem.F.called_set.notType;have z2:=PySem.F.called_set.canCreate;have z3:=PySem.F.typeCall_set_1 (.ref l)
 repeat (any_goals (first|assumption|wp_step))
 refine codeAny_mono (y42 (.ref l) (E:=E) (Q1:=fun obj s1=>obj=.ref s.heap.objs.size/\s1={s with heap:=s.heap.push (newO w)}) ⟨rfl,rfl⟩) fun r s1 hr=>?_
 cases r with
 |error e=>exact hr
 |ok fl=>
  cases fl with
  |ret obj=>
   obtain⟨rfl,rfl⟩:=hr;have hS:(s.heap.push (newO w)).get? s.heap.objs.size=some (newO w):=Heap.get?_push_size _ rfl;have hT:Shared.TypeIs {s with heap:=s.heap.push (newO w)} (.ref s.heap.objs.size) "set":=⟨_,hS,rfl⟩;have z4:=PySem.F.called_set.init.lookup;have z5:=PySem.F.called_set.init.bind (.ref s.heap.objs.size)
   repeat (any_goals (first|assumption|wp_step))
   refine codeAny_mono (codeAny_call_builtin (R:=wants (fun r s2=>r=.none/\∃h' tk hs,s2={s with heap:=h',toks:=tk}/\hs.length=bks.length/\SetH h' s.heap.objs.size hs/\(∀b o,b<s.heap.objs.size->s.heap.get? b=some o->h'.get? b=some o)) E) PySem.F.called_set.init.plain PySem.F.entry_set_init (check_set_init_1 hT ?_)) fun r2 s2 hr2=>?_
   ·obtain⟨ol,hol,hcl,nl,hdl⟩:=hl;obtain⟨ocls,odict,odata,oslots⟩:=ol;simp only at hcl hdl;subst hcl;subst hdl;have hol':(s.heap.push (newO w)).get? l=some {cls:=.type "list", dict:=odict,data:=.seq (bks.map fun p=>Value.ref p.1).toArray nl,slots:=oslots}:=Heap.get?_push_of_some _ hol
    have z6:=PySem.F.sub_list_set;have z7:=PySem.F.sub_list_frozenset;have z8:(Value.type "list"==Value.type "dict")=false:=by decide
    have hl1:(s.heap.push (newO w)).IsList l (bks.map fun p=>Value.ref p.1).toArray:=⟨_,hol',rfl,nl,rfl⟩
    unfold Builtin.«set.__init__» noKeywords Builtin.Frozenset.updateFrom;generalize hPI:pyIter=PI
    wp_walk
    subst hPI;refine wpAny_pyIter_list hl1 ?_;refine wpAny_bind (wpAny_runValue ?_);have hlS:l<s.heap.objs.size:=Heap.lt_size hol;have hh3:A.in1.in1.in1.handled=none:=hh;have neI:l≠(s.heap.push (newO w)).objs.size:=by rw[Heap.size_push];exact w0p (w1t hlS)
    have nf:s.heap.objs.size∉[(s.heap.push (newO w)).objs.size,l]:=by
     rw[Heap.size_push];simp only[w0j,w3o,or_false,not_or];exact⟨w0p (w3n _),Nat.ne_of_gt hlS⟩
    have blt:∀p∈bks,p.1<s.heap.objs.size:=fun p hp=>by obtain⟨o,_,_,q,_⟩:=hF p hp;exact Heap.lt_size q
    refine x0x ((Walks.list hh3 _ l neI _).toS) nf bks (by simp) (fun i v hv=>?_) (by simpa using hb) ?_ (fun p hp=>⟨w0p (blt p hp),?_⟩) hnd bks 0 _ [] rfl (w1a _) ⟨⟨_,Heap.get?_push_size _ rfl,rfl,rfl⟩,(hl1.push _)⟩ rfl (fun h hh=>nomatch hh) (y9w (Heap.get?_push_of_some _ hS)) (fun p hp=>(hF p hp).keep fun o z=>Heap.get?_push_of_some _ (Heap.get?_push_of_some _ z)) fun s' hs' mv hl' hS'=>?_
    ·have hv:(bks.map fun p=>Value.ref p.1).toArray[i]?=some v:=hv
     rw[w3w,w0g]at hv;obtain⟨p,hp,rfl⟩:=w0c.mp hv;exact⟨p,hp,rfl⟩
    ·rw[Around.in1_units,Around.in1_units];omega
    ·rw[Heap.size_push];simp only[w0j,w3o,or_false];exact w0p (w1t (blt p hp))
    ·obtain⟨h',g',d',tk',os'⟩:=s';have e1:g'=s.gens:=mv.gens;have e2:d'=s.drawn:=mv.drawn;have e3:os'=s.os:=mv.os;subst e1;subst e2;subst e3;show wpAny _ _ _ _ _ _;refine wpAny_pure ?_;show wpAny _ _ (ret Value.none) _ _ _;refine wpAny_pure ⟨rfl,h',tk',hs',rfl,by rw[hl'];simp,hS',fun b o hb q=>?_⟩
     have n2:b≠(s.heap.push (newO w)).objs.size:=by rw[Heap.size_push];exact w0p (w1t hb)
     exact mv.heap b o (by simp only[w0j,w3o,or_false,not_or];exact⟨w0p hb,n2⟩) (Heap.get?_push_of_some _ (Heap.get?_push_of_some _ q))
   ·cases r2 with
    |error e=>exact hr2
    |ok f2=>
     cases f2 with
     |ret r=>
      obtain⟨rfl,h',tk,hs,rfl,y0,y1,y2⟩:=hr2
      repeat (any_goals (first|assumption|wp_step))
      exact h _ _ hs y0 y1 y2
     |_=>exact hr2.elim
  |_=>exact hr.elim
end
end L2
namespace D
open PySem L2 PySem.Spec PyProof.Rows
open Classical
variable{X:Cx}
noncomputable def hS:Kx->Int
 |.bl b=>reduceHash (if b=true then 1 else 0)
 |.int i=>hashInt i
 |_=>0
noncomputable def hT(ks:List Kx):Int:=reduceHash (Builtin.Tuple.tupleHashOf (ks.map hS))
noncomputable def scK:W->Option Kx
 |.int i=>some (.int i)
 |.bl b=>some (.bl b)
 |_=>none
noncomputable def scKs:List W->Option (List Kx)
 |[]=>some []
 |w::ws=>match scK w,scKs ws with
  |some k,some ks=>some (k::ks)
  |_,_=>none
noncomputable def tupKs:List W->Option (List (List Kx))
 |[]=>some []
 |.tup us::ws=>match scKs us,tupKs ws with
  |some k,some ks=>some (k::ks)
  |_,_=>none
 |_=>none
theorem x0y{w:World}:∀{us:List W}{ks:List Kx},scKs us=some ks->kHashes w ks=ks.map hS
 |[],ks,h=>by cases h;rfl
 |u::us,ks,h=>by
  unfold scKs at h;split at h
  ·rename_i k ks0 h1 h2;cases h;show kHash w k::kHashes w ks0=hS k::ks0.map hS;rw[x0y h2];congr 1;cases u with
   |int i=>cases h1;rfl
   |bl b=>cases h1;rfl
   |_=>cases h1
  ·cases h
theorem x0z{K:PySem.W.Frag}{G:Hp}:∀{us:List W}{ks:List Kx}{xs:List V}{vs:List Value},scKs us=some ks->Reps K G us xs->Vals xs vs->ScalKs ks vs
 |[],ks,xs,vs,h,r,v=>by
  cases h;cases(show xs=[]from r);cases v;exact rfl
 |u::us,ks,xs,vs,h,⟨x,xr,e,p,q⟩,v=>by
  subst e;unfold scKs at h;split at h
  ·rename_i k ks0 h1 h2;cases h;cases v with
   |cons r1 r2=>
    have ih:=x0z h2 q r2;cases u with
    |int i=>
     cases h1;cases(show x=.int i from p);obtain⟨t,rfl⟩:=(show ∃t,_=Value.int i t from r1);exact⟨t,_,rfl,ih⟩
    |bl b=>
     cases h1;cases(show x=.bl b from p);cases(show _=Value.bool b from r1);exact⟨_,rfl,ih⟩
    |_=>cases h1
  ·cases h
def rSetT(K:PySem.W.Frag):List V->Hp->VK->Prop:=fun xs H Q=>∃p G ws kss,xs=[.ref p]/\Same G H/\Rep K G (.lst ws) (.ref p)/\tupKs ws=some kss/\kss.length<490/\(kss.map hT).Nodup /\
 ∀a o,H a=none->(∃es ep t,o.ExactSet/\o.data=.set es ep t/\t.fits es.size=true/\es.size=kss.length)->Q (.ref a) (upd H a (.frz o (.own 0)))
theorem x4q{pins:List (Addr×Obj)}{σ:L2.St}{H G:Hp}{s:Shared}(I:Inv X pins σ H s)(sg:Same G H):∀{ws:List W}{kss:List (List Kx)}{xs:List V}{its:List Value},tupKs ws=some kss->Reps X.K G ws xs->Vals xs its ->
  ∃bks:List (Addr×List Kx),bks.map (·.2)=kss/\its=(bks.map fun p=>Value.ref p.1)/\(∀p∈bks,FlatK s.heap p.1 p.2)/\∀p∈bks,hK X.w p=hT p.2
 |[],kss,xs,its,h,r,v=>by
  cases h;cases(show xs=[]from r);cases v;exact⟨[],rfl,rfl,by simp,by simp⟩
 |w::ws,kss,xs,its,h,⟨x,xr,e,p,q⟩,v=>by
  subst e;cases w with
  |tup us=>
   have h:(match scKs us,tupKs ws with|some k,some ks=>some (k::ks)|_,_=>none)=some kss:=h;split at h
   ·rename_i k ks h1 h2;cases h;cases v with
    |cons r1 r2=>
     obtain⟨bks,b1,rfl,b3,b4⟩:=x4q I sg h2 q r2;obtain⟨a,ys,rfl,hq,rp⟩:=p;cases(show _=Value.ref a from r1);obtain⟨jts,rv,⟨o,ho,hc,n,hd⟩,_⟩:=I.tuple (sg.tup hq);have sc:=x0z h1 rp rv;refine⟨(a,k)::bks,by rw[w0y,b1],rfl,fun p hp=>?_,fun p hp=>?_⟩
     ·rcases w0j.mp hp with rfl|hp
      ·exact⟨o,_,n,ho,hc,hd,by simpa using sc⟩
      ·exact b3 p hp
     ·rcases w0j.mp hp with rfl|hp
      ·show reduceHash (Builtin.Tuple.tupleHashOf (kHashes X.w k))=_;rw[x0y h1];rfl
      ·exact b4 p hp
   ·cases h
  |_=>cases h
theorem x8l(hc:X.calm=true)(hu:X.A.units+150<cLine):CallR X (.type "set") (rSetT X.K):=by
 intro pins s σ H xs us Q I r h;obtain⟨p,G,ws,kss,rfl,sg,⟨p',ys,e,hq,rp⟩,hk,hl,hnd,q⟩:=h;cases e;obtain⟨u,rfl,ru⟩:=vals1 r;cases ru;obtain⟨its,rv,pl,hz⟩:=I.list (sg.seq hq);obtain⟨bks,rfl,rfl,b3,b4⟩:=x4q I sg hk rp rv;have hh:X.A.handled=none:=I.ok.hd hc
 have hn2:(bks.map (hK X.w)).Nodup:=by
  rw[w1g]at hnd;rw[w1n (g:=hT ∘ (·.2)) fun p hp=>b4 p hp]
  exact hnd
 refine x8k hh (by omega) (by simpa using pl.isList) (by simpa using hl) b3 hn2 fun h' tk hs hl' hS kp=>?_
 obtain⟨o,es,ep,t,ho,hex,hd,D⟩:=hS;have fr:H s.heap.objs.size=none:=I.hok.fresh (w0f _);refine⟨.ref s.heap.objs.size,_,I.laid (t':=tk) (a:=s.heap.objs.size) (o:=.frz o (.own 0)) (fun b ob z=>kp b ob (Heap.lt_size z) z) (w0f _) ⟨ho,⟨o,ho⟩⟩,rfl,q _ o fr ⟨es,ep,t,hex,hd,D.fit,by rw[D.len,hl',w0a]⟩⟩
def rLenS:List V->Hp->VK->Prop:=fun xs H Q=>∃a o es ep t,xs=[.ref a]/\H a=some (.frz o (.own 0))/\o.ExactSet/\o.data=.set es ep t/\t.fits es.size=true/\es.size<1000/\Q (.int es.size) H
theorem x8m:CallR X (.builtin "len") rLenS:=by
 intro pins s σ H xs us Q I r h;obtain⟨a,o,es,ep,t,rfl,e,h1,h2,h3,h4,q⟩:=h;obtain⟨u,rfl,rx⟩:=vals1 r;cases(show u=Value.ref a from rx);obtain⟨ho,_⟩:=(show ObjOk X.prog X.w H s.heap a (.frz o (.own 0))from I.hok a _ e);exact call_len_set ho h1 h2 h3 (by omega) ⟨.int es.size,H,I.tok _,⟨_,rfl⟩,q⟩
noncomputable def lensetT1:W->Option W
 |.lst ws=>match tupKs ws with
  |some kss=>if kss.length<490/\(kss.map hT).Nodup then some (.int kss.length)else none
  |none=>none
 |_=>none
section
variable{Z:Zt}{EE:L2.St->XK}{e:Expr}{d:Den W}{pos p p2 pos2:Pos}
theorem x56(hc:X.calm=true)(hu:X.A.units+150<cLine)(hm:X.mg "len"=none)(hm2:X.mg "set"=none)(he:DE Z X EE e d)(hg:Gl X "len":=by rfl)(hg2:Gl X "set":=by rfl)
  (hs:starEach [.Call (.Name "set" p2) [e] [] pos2] X.env=(false,eval (.Call (.Name "set" p2) [e] [] pos2) X.env)::starEach [] X.env:=by rfl)(hpl:(backTo pos (starEach [] X.env)).any (·.1)=false:=by rfl)(hs2:starEach [e] X.env=(false,eval e X.env)::starEach [] X.env:=by rfl)(hpl2:(backTo pos2 (starEach [] X.env)).any (·.1)=false:=by rfl):
  DE Z X EE (.Call (.Name "len" p) [.Call (.Name "set" p2) [e] [] pos2] [] pos) (dUn lensetT1 d):=by
 refine PE.mono (q52 x8m hg hm PySem.boot_len (q3b (x0i (x8l hc hu) hg2 hm2 PyProof.Rows.Boot.«set» (q3b he q4j hs2) (by decide) (by decide) hs2 hpl2) q4j hs) (by decide) (by decide) hs hpl) ?_;rintro σ H Q ⟨G,e,rel,h⟩;simp only[dUn,R.holds_bind]at h;refine⟨G,e,rel,h.imp (fun w e1 h G1 v1 H1 r1 s1 p1=>?_) fun _ _ h=>h⟩
 rw[ofOpt_holds]at h;obtain⟨w2,hw,h⟩:=h;unfold lensetT1 at hw;split at hw
 ·rename_i ws;split at hw
  ·rename_i kss hk;split at hw
   ·rename_i hcd;cases hw;have p1':=p1;obtain⟨a,xs,rfl,_⟩:=p1';refine⟨a,G1,ws,kss,rfl,r1.sub,p1,hk,hcd.1,hcd.2,fun b o hb ⟨es,ep,t,q1,q2,q3,q4⟩=>?_⟩
    refine⟨b,o,es,ep,t,rfl,q0g,q1,q2,q3,by omega,?_⟩;have g:=Grow.hid r1.sub hb (.frz o (.own 0));rw[q4];exact h G1 _ _ (r1.grow g) s1 rfl
   ·cases hw
  ·cases hw
 ·cases hw
end
theorem x8n{ws:List W}{kss:List (List Kx)}(h:tupKs ws=some kss)(h1:kss.length<490)(h2:(kss.map hT).Nodup):lensetT1 (.lst ws)=some (.int kss.length):=by
 show(match tupKs ws with|some kss=>if kss.length<490/\(kss.map hT).Nodup then some (W.int kss.length)else none|none=>none)=_;rw[h];exact if_pos ⟨h1,h2⟩
noncomputable def hP(p:Nat×Nat):Int:=hT [.int (p.1:Int),.int (p.2:Int)]
end D
namespace L2
open PySem PySem.Spec PyProof.Rows
structure LamScopeC(x:Str)(Nf:List Str)(sc:Scope):Prop where
 kind:sc.kind=.function
 co:sc.isCoroutine=false
 gen:sc.isGenerator=false
 par:sc.names.lookup x=some .cell
 one:∀n cl,cellsFrom n sc.names cl=(x,n)::cl
 onep:∀h:Heap,pushCells h sc.names=h.push {cls:=.type "cell", data:=.cell none}
 only:∀y∈sc.names,y.2=.cell->y.1=x
 fr:∀y∈Nf,sc.names.lookup y=some .free
theorem x1g{M:Model}{A:Around}{E:Value->Shared->Prop}{s:Shared}{scope:Scope}{globals:Addr}{closure:List (Str×Addr)}{qual:Str}{func:Option Addr}{code:Value}{builtins:Addr}{x:Str}{u:Value}{Nf:List Str}{Q:Env->Shared->Prop}(S:LamScopeC x Nf scope)
  (hQ:∀h',h'.Ns s.heap.objs.size (fun _=>none)->h'.IsCell (s.heap.objs.size+1) (some u)->(∀b o,s.heap.get? b=some o->h'.get? b=some o) ->
   Q (newEnv scope s.heap.objs.size globals ((x,s.heap.objs.size+1)::closure) qual func code none builtins) {s with heap:=h'}):
  wpAny M A (newFunctionEnv scope globals closure [(x,u)] qual func code none builtins) Q E s:=by
 simp only[newFunctionEnv,Option.isSome_none,w1e,if_false];refine wpAny_bind (wpAny_alloc ?_);refine wpAny_bind (wpAny_layCells _ (fun name kind cells=>by cases hkc:kind==NameKind.cell<;>simp[hkc]) _ _ _ _ ?_)
 rw[show({s with heap:=s.heap.push {cls:=.type "frame", data:=.dict #[]}}:Shared).heap.objs.size=s.heap.objs.size+1 from Heap.size_push ..,S.one,S.onep]
 have ic:((s.heap.push {cls:=.type "frame", data:=.dict #[]}).push {cls:=.type "cell", data:=.cell none}).IsCell (s.heap.objs.size+1) none:=by
  have e:=Heap.get?_push_size (s.heap.push {cls:=.type "frame", data:=.dict #[]}) (o:={cls:=.type "cell", data:=.cell none}) rfl;rw[Heap.size_push]at e;exact⟨_,e,rfl⟩
 have kp:∀b o,(s.heap.push {cls:=.type "frame", data:=.dict #[]}).get? b=some o->((s.heap.push {cls:=.type "frame", data:=.dict #[]}).push {cls:=.type "cell", data:=.cell none}).get? b=some o:=fun b o e=>Heap.get?_push_of_some _ e
 have ns:=(Heap.Ns.new s.heap (.type "frame")).keeps kp;refine wpAny_bind ?_;rw[w2m];refine wpAny_bind (wpAny_bind (wpAny_storeName_cell (c:=s.heap.objs.size+1) (v₀:=none) S.kind S.par (by simp[List.lookup]) ic fun h' hc' hs'=>?_))
 refine wpAny_pure ?_;dsimp only;rw[List.forIn_nil];refine wpAny_pure (wpAny_pure (hQ h' (ns.sameBut hs' (w0p (w3n _))) hc' fun b o e=>?_))
 exact hs'.extBut b o (w0p (w1t (Heap.lt_size e))) (kp b o (Heap.get?_push_of_some _ e))
section
variable{P:Program}{w:World}{K:PySem.W.Frag}{mg:Str->Option Value}{base:Heap}{x:Str}{Nf:List Str}{qual:Str}{scope:Scope}{f:Addr}{cd:Value}{cl:List (Str×Addr)}{A:Around}{outer:List Env}{s:Shared}{H:Hp}{u0:Value}{v0:V}{zs:List V}{cs:Cs}
theorem y14{h₁:Heap}(S:LamScopeC x Nf scope)(C:LamCells cl Nf scope zs s.heap cs)(hd:A.handled=none)(e0:Env0 P w K mg base A outer s H)(hn:∀c o,cs.lookup c=some o->H c=none)
  (hz:zs.length=Nf.length)(r:RelV v0 u0)
  (ns:h₁.Ns s.heap.objs.size (fun _=>none))(ic:h₁.IsCell (s.heap.objs.size+1) (some u0))(hk:∀b o,s.heap.get? b=some o->h₁.get? b=some o):
  Inv (cxLam P w K mg base ([x]++Nf) qual scope f cd ((x,s.heap.objs.size+1)::cl) A outer s H) [] ([v0].map some++zs.map some) H {s with heap:=h₁}:=by
 have noA:∀b:Addr,b∉([]:List Addr):=fun b z=>nomatch z
 have nofree:∀y c,cl.lookup y=some c->H c=none/\∃o,s.heap.get? c=some o/\∃v,o.data=.cell v:=fun y c e=>by
  obtain⟨o,q⟩:=C.all y c e;exact⟨hn c o q,o,C.cel c o q⟩
 have lk:∀y c,((x,s.heap.objs.size+1)::cl).lookup y=some c->(y=x/\c=s.heap.objs.size+1)\/cl.lookup y=some c:=fun y c e=>by
  rw[w0s]at e;split at e
  ·rename_i hb;cases e;exact .inl ⟨by simpa using hb,rfl⟩
  ·exact .inr e
 have small:∀y c,cl.lookup y=some c->c<s.heap.objs.size:=fun y c e=>by
  obtain⟨_,o,q,_⟩:=nofree y c e;exact Heap.lt_size q
 have nox:∀y∈Nf,y≠x:=fun y hy e=>by
  have:=S.fr y hy;rw[e,S.par]at this;cases this
 have lkx:((x,s.heap.objs.size+1)::cl).lookup x=some (s.heap.objs.size+1):=by rw[w0s,beq_self_eq_true]
 have lky:∀y,y≠x->((x,s.heap.objs.size+1)::cl).lookup y=cl.lookup y:=fun y hy=>by rw[w0s,beq_eq_false_iff_ne.mpr hy]
 refine⟨⟨e0.mod,S.kind,rfl,rfl,w0f _,fun y z c h1 h2=>?_,fun y hy=>?_,(fun x c z=>nomatch z),fun _=>hd,Around.frames_deeper e0.frames,.inr ⟨rfl,rfl⟩,fun b z=>absurd z (noA b),e0.bs,e0.bsz,fun b _ _=>noA b,fun b z=>absurd z (noA b),e0.funs,e0.frf,e0.tab⟩,
  rfl,e0.bare,Un.kept hk,⟨_,ns,fun i y v h1 h2 h3=>?_⟩,fun y c h=>?_,e0.hok.fresh (w0f _),fun y c h=>?_,fun p hp=>absurd (show p∈([]:List (Addr×Obj))from hp) (by simp),e0.hok.kept hk,?_⟩
 ·rcases lk y c h1 with⟨rfl,rfl⟩|g1
  ·rcases lk z _ h2 with⟨rfl,_⟩|g2
   ·rfl
   ·exact absurd (Nat.lt_of_succ_lt (small z _ g2)) (w1x _)
  ·rcases lk z c h2 with⟨rfl,rfl⟩|g2
   ·exact absurd (Nat.lt_of_succ_lt (small y _ g1)) (w1x _)
   ·exact C.inj y z c g1 g2
 ·by_cases hx:y=x
  ·exact⟨_,by rw[hx];exact lkx⟩
  ·have hy:scope.names.lookup y=some .cell\/scope.names.lookup y=some .free:=hy;rcases hy with hy|hy
   ·exact absurd (S.only _ (PySem.mem_of_lookup hy) rfl) hx
   ·obtain⟨c,e⟩:=C.has y (PySem.mem_of_lookup hy);exact⟨c,by show((x,s.heap.objs.size+1)::cl).lookup y=_;rw[lky y hx];exact e⟩
 ·cases i with
  |zero=>
   cases h1;cases h2;exact⟨u0,r,.inr ⟨.inl S.par,_,lkx,ic⟩⟩
  |succ i=>
   have h1:Nf[i]?=some y:=h1;have h2:(zs.map some)[i]?=some (some v):=h2;rw[w0g]at h2
   have ha:zs[i]?=some v:=by
    cases e:zs[i]? with
    |none=>rw[e]at h2;cases h2
    |some a=>rw[e]at h2;cases h2;rfl
   obtain⟨c,o,u,e1,e2,e3,e4⟩:=C.val _ _ _ h1 ha;have hm:=w0l h1;exact⟨u,e4,.inr ⟨.inr (S.fr y hm),c,by show((x,s.heap.objs.size+1)::cl).lookup y=_;rw[lky y (nox y hm)];exact e1,o,hk _ _ (C.cel c o e2).1,e3⟩⟩
 ·rcases lk y c h with⟨rfl,rfl⟩|g
  ·exact⟨_,ic⟩
  ·obtain⟨_,o,q,v,d⟩:=nofree y c g;exact⟨v,o,hk _ _ q,d⟩
 ·rcases lk y c h with⟨rfl,rfl⟩|g
  ·exact e0.hok.fresh (Nat.le_succ _)
  ·exact(nofree y c g).1
 ·show _=([x]++Nf).length;simp[hz]
theorem y15{CX:CXT}{k:Nat}{name:Str}{params:Arguments}{body:Expr}{pm ctv:Value}{c':Addr}{t:TE}{Q:VK}{E:XK}
  (hr:Room (k+1) A)(e0:Env0 P w K mg base A outer s H)(hf:H f=some (fnO (kla_obj name qual params body scope cl pm c' ctv) qual c'))
  (S:LamScopeC x Nf scope)(CI:CelsIn H cs)(C:LamCells cl Nf scope zs s.heap cs)(hbind:bindArgs (kla_fn name qual params body scope cl pm (.ref c') ctv) ⟨[u0],[]⟩=pure [(x,u0)])
  (hz:zs.length=Nf.length)(r:RelV v0 u0)
  (hb:PE (cxLam P w K mg base ([x]++Nf) qual scope f (.ref c') ((x,s.heap.objs.size+1)::cl) A outer s (rmC H cs)) body t)(hq:t ([v0].map some++zs.map some) (rmC H cs) fun v H'=>(∀b o,cs.lookup b=some o->H' b=none)->Q v (addC H' cs)):
  codeAny (model P w) A (.call (.ref f) ⟨[u0],[]⟩) (CR CX outer P w H s Q E) s:=by
 have lim:s.heap.NoLimit:=e0.mod.nolimit.keeps fun b o e=>(e0.bs b o e).1
 obtain⟨hfo,hcd⟩:=y3j e0.hok hf
 have e1:Env0 P w K mg base A outer s (rmC H cs):=⟨e0.frames,e0.mod,fun b o q=>⟨(e0.bs b o q).1,q4z (e0.bs b o q).2⟩,e0.bsz,e0.funs,fun b hb=>q4z (e0.frf b hb),e0.hok.rm CI,e0.bare,fun a q P m=>by
  obtain⟨ps,e,p⟩:=e0.tab a q P m;exact⟨ps,CI.rm_some e (fun o z=>nomatch z),p⟩⟩
 refine PySem.W.kla_callFunE hr.depth hfo rfl S.co S.gen rfl hcd ?_;rw[hbind];refine wpAny_pure (x1g S fun h₁ hns hic hkp=>⟨lim.keeps hkp,?_⟩)
 show codeAny _ _ (.expr body (lamEnv qual scope f (.ref c') ((x,s.heap.objs.size+1)::cl) s)) _ _;have I:=y14 (qual:=qual) (f:=f) (cd:=.ref c') S C hr.hd e1 (fun c o q=>q6y q) hz r hns hic hkp
 refine PySem.W.kla_codeExpr (wpAny_mono (hb [] _ _ _ _ I hq) (fun u s' hs'=>?_) fun e s' z=>False.elim z)
 obtain⟨v,H',J,rv,q⟩:=hs';have un:Un (frs outer) [] (rmC H cs) H' s.heap s'.heap:=J.base;refine⟨v,addC H' cs,J.os,J.bare,un.cells CI,J.hok.add fun b o z=>?_,rv,q fun b o z=>un.free b o (C.cel b o z).1 (q6y z) (by simp)⟩
 have nf:b∉frs outer:=fun hb=>by
  have:=e0.frf b hb;rw[CI b o z]at this;cases this
 have g:=(C.cel b o z).1;exact⟨un.free b o g (q6y z) (by simp),un.keep b o g (q6y z) nf (by simp)⟩
end
end L2
namespace D
open PySem L2
variable{X:Cx}{G:Hp}{EE:L2.St->XK}{r:List Bool}{xs:List V}{pos:Pos}{K:PySem.W.Frag}{x:Str}{Z:Zt}
noncomputable def lamOkB(sc scope:Scope)(N Nf:List Str)(js:List Nat):Bool:=
 scope.names.all (fun y=>y.2 != .free||sc.names.lookup y.1==some .cell||sc.names.lookup y.1==some .free)&&js.length==Nf.length &&
 (List.range js.length).all (fun i=>match js[i]?,Nf[i]? with|some j,some y=>N[j]?==some y|_,_=>true) &&
 Nf.all (fun y=>scope.names.lookup y==some .free&&(sc.names.lookup y==some .cell||sc.names.lookup y==some .free))
structure LamOkC(P:Program)(w:World)(K:PySem.W.Frag)(mg:Str->Option Value)(base:Heap)(n:Nat)(l:Lm)(x:Str)(F:List W->FR):Prop where
 sc:LamScopeC x l.nf l.scope
 bind:∀(cl:List (Str×Addr))(pm:Value)(c':Addr)(ctv u:Value),bindArgs (kla_fn "<lambda>" l.qual l.params l.body l.scope cl pm (.ref c') ctv) ⟨[u],[]⟩=pure [(x,u)]
 len:∀ws,F ws≠.no->ws.length=1+l.nf.length
 body:∀ws,F ws≠.no->∀(Z:Zt)(f:Addr)(cd:Value)(cl:List (Str×Addr))(A:Around)(outer:List Env)(s:Shared)(H:Hp),Room n (A.deeper (lamEnv l.qual l.scope f cd cl s)) ->
  ∃d,DE Z (cxLam P w K mg base ([x]++l.nf) l.qual l.scope f cd cl A outer s H) (fun _=>E0) l.body d/\exprFR (d (ws.map .fr))=F ws
theorem y6e{P:Program}{w:World}{mg:Str->Option Value}{base:Heap}{n:Nat}{lams:Nat->Option Lm}{r:Nat->List W->FR}(h:∀i l,lams i=some l->∃x,LamOkC P w K mg base n l x (r i)):
  FnV P w K mg base (CX1 P w) (n+1) (spV K lams r):=by
 rintro x vs H Q E ⟨G,i,l,caps,ws,w',sg,rf,rv,nw,nc,hl,hr,q⟩;obtain⟨x0,L⟩:=h i l hl;obtain⟨f,cl,zs,cs,rfl,⟨pm,c',ctv,ef⟩,FC,rz⟩:=rf;have hn:r i (ws++caps)≠.no:=by rw[hr];exact fun z=>nomatch z
 have hlen:=L.len _ hn;have hz:zs.length=l.nf.length:=FC.len;have hcl:caps.length=l.nf.length:=by rw[<- rz.length];exact hz
 have hwl:ws.length=1:=by rw[w0x,hcl]at hlen;omega
 have hvl:vs.length=1:=by rw[rv.length];exact hwl
 have cg:CelsIn G cs:=fun b o e=>(FC.cel b o e).1
 have ch:CelsIn H cs:=fun b o e=>sg _ _ (cg b o e)
 refine⟨f,_,_,_,_,_,rfl,sg _ _ ef,fun A outer s us hR e0 ru=>?_⟩
 have hul:us.length=1:=by rw[<- ru.length];exact hvl
 obtain⟨v0,rfl⟩:∃v0,vs=[v0]:=w3q.mp hvl;obtain⟨u0,rfl⟩:∃u0,us=[u0]:=w3q.mp hul
 have r0:RelV v0 u0:=by
  obtain⟨u,hu,q⟩:=ru.get (i:=0) rfl;cases hu;exact q
 have FC2:LamCells cl l.nf l.scope zs s.heap cs:=⟨FC.inj,FC.has,FC.all,fun c o e=>⟨(show s.heap.get? c=some o/\_ from e0.hok c _ (ch c o e)).1,(FC.cel c o e).2⟩,FC.val⟩
 obtain⟨d,hd,he⟩:=L.body _ hn ⟨rmC H cs,rmC G cs,[]⟩ f (.ref c') ((x0,s.heap.objs.size+1)::cl) A outer s (rmC H cs) (hR.deeper _);refine y15 hR e0 (sg _ _ ef) L.sc ch FC2 (L.bind cl pm c' ctv u0) hz r0 hd ?_;have sg':Same (rmC G cs) (rmC H cs):=x2l sg;have rr:Reps K (rmC G cs) (ws++caps) ([v0]++zs):=(Reps.rm cg ws nw rv).append (Reps.rm cg caps nc rz);have rel:=q40 (N:=[x0]++l.nf) sg' rr
 have e1:L2.start ([x0]++l.nf) ([v0]++zs)=[v0].map some++zs.map some:=by
  unfold L2.start;rw[show([x0]++l.nf).length-([v0]++zs).length=0 by simp[hz],w4d,w1i,w0q]
 have e2:init ([x0]++l.nf).length (ws++caps)=(ws++caps).map .fr:=by
  unfold init;rw[show([x0]++l.nf).length-(ws++caps).length=0 by simp[hwl,hcl];omega,w4d,w1i]
 rw[e1,e2]at rel;refine⟨rmC G cs,_,rel,?_⟩;cases hde:d ((ws++caps).map .fr)with
 |ok w2 e'=>
  rw[hde,hr]at he;cases he;intro G' v H' r' sG rp hnone
  have hn':∀b o,cs.lookup b=some o->G' b=none:=fun b o z=>by
   cases q2:G' b with
   |none=>rfl
   |some u=>have:=r'.sub b u q2;rw[hnone b o z]at this;cases this
  exact q (addC G' cs) (addC H' cs) v (Grow.lam ch cg (fun b u e=>r'.ent b u e (fun z=>nomatch z)) sG r'.sub r'.gen) (Rep.mono (x2k hn') _ rp)
 |ex c e'=>rw[hde,hr]at he;cases he
 |no=>rw[hde,hr]at he;cases he
noncomputable def bW(r:List Bool):W:=.tup (r.map .bl)
noncomputable def rowBl:List W->Option (List Bool)
 |[]=>some []
 |.bl b::ws=>(rowBl ws).map (b::·)
 |_=>none
noncomputable def rowOf:W->Option (List Bool)
 |.tup ws=>rowBl ws
 |_=>none
noncomputable def rowsOf:List W->Option (List (List Bool))
 |[]=>some []
 |w::ws=>match rowOf w,rowsOf ws with
  |some r,some rs=>some (r::rs)
  |_,_=>none
theorem x2v:∀{ws:List W}{r:List Bool},rowBl ws=some r->ws=r.map .bl
 |[],r,h=>by cases h;rfl
 |w::ws,r,h=>by
  cases w with
  |bl b=>
   obtain⟨q,h1,rfl⟩:=w0c.mp (show(rowBl ws).map (b::·)=some r from h);rw[x2v h1];rfl
  |_=>cases h
theorem q8i{w:W}(h:rowOf w=some r):w=bW r:=by
 cases w with
 |tup ws=>rw[x2v (show rowBl ws=some r from h)];rfl
 |_=>cases h
theorem q7a:∀{ws:List W}{rs:List (List Bool)},rowsOf ws=some rs->ws=rs.map bW
 |[],r,h=>by cases h;rfl
 |w::ws,r,h=>by
  unfold rowsOf at h;split at h
  ·rename_i q qs h1 h2;cases h;rw[q8i h1,q7a h2];rfl
  ·cases h
theorem q5a:∀r:List Bool,rowBl (r.map .bl)=some r
 |[]=>rfl
 |b::r=>by show(rowBl (r.map .bl)).map (b::·)=_;rw[q5a r];rfl
theorem q6d:∀rs:List (List Bool),rowsOf (rs.map bW)=some rs
 |[]=>rfl
 |r::rs=>by
  show(match rowBl (r.map .bl),rowsOf (rs.map bW)with|some r,some rs=>some (r::rs)|_,_=>none)=_;rw[q5a,q6d rs]
theorem q7t:∀x y:List Bool,eqWs (x.map .bl) (y.map .bl)=some (decide (x=y))
 |[],[]=>rfl
 |[],_::_=>rfl
 |_::_,[]=>rfl
 |a::x,b::y=>by
  show(match eqW (.bl a) (.bl b),eqWs (x.map .bl) (y.map .bl)with|some p,some q=>some (p&&q)|_,_=>none)=_;rw[q7t x y];show some ((a==b)&&decide (x=y))=_;congr 1;cases a<;>cases b<;>simp
theorem y9x(r:List Bool):depW (bW r)<=1:=by
 have:∀r:List Bool,depWs (r.map .bl)=0:=fun r=>by
  induction r with
  |nil=>rfl
  |cons b r ih=>show max 0 (depWs (r.map .bl))=0;omega
 show depWs (r.map .bl)+1<=1;rw[this];exact w0f _
theorem x00{pins:List (Addr×Obj)}{σ:L2.St}{H:Hp}{s:Shared}(I:Inv X pins σ H s)(sg:Same G H){A:Around}(hu:A.units+1<cLine){rs:List (List Bool)}{its:List Value}{x:V}{v:Value}(hr:Reps X.K G (rs.map bW) xs)(px:Rep X.K G (bW r) x)(vl:Vals xs its)(rx:RelV x v):
  ∃e:Value->Bool,(∀k (hk:k<its.length),∃q,rs[k]?=some q/\e its[k]=decide (q=r))/\∀y∈its,SeqAt.EqAt A s y v (e y):=by
 have at':∀k (hk:k<its.length),∃q xk,rs[k]?=some q/\Rep X.K G (bW q) xk/\RelV xk its[k]:=fun k hk=>by
  have l1:=hr.length;have l2:=vl.length;rw[w0a]at l1;have hx:k<xs.length:=by omega
  have hq:k<rs.length:=by omega
  obtain⟨u1,e1,ru1⟩:=vl.get (w0d hx);obtain⟨w1,f1,p1⟩:=hr.getV (w0d hx);rw[w0d hk]at e1;cases e1;rw[w0g,w0d hq]at f1;cases f1;exact⟨_,_,w0d hq,p1,ru1⟩
 refine⟨fun y=>@decide (∃k,∃(hk:k<its.length),its[k]=y/\rs[k]?=some r) (Classical.propDecidable _),?_⟩
 have first:∀k (hk:k<its.length),∃q,rs[k]?=some q/\@decide (∃k',∃(hk':k'<its.length),its[k']=its[k]/\rs[k']?=some r) (Classical.propDecidable _)=decide (q=r):=fun k hk=>by
  obtain⟨q,xk,h1,h2,h3⟩:=at' k hk;refine⟨q,h1,?_⟩
  by_cases z:q=r
  ·rw[decide_eq_true z];exact @decide_eq_true _ (Classical.propDecidable _) ⟨k,hk,rfl,by rw[h1,z]⟩
  ·rw[decide_eq_false z];refine @decide_eq_false _ (Classical.propDecidable _) ?_;rintro⟨k',hk',e1,e2⟩;obtain⟨q',xk',g1,g2,g3⟩:=at' k' hk';rw[g1]at e2;cases e2;rw[e1]at g3;rw[g3.inj h3]at g2;have:=q5n I sg (bW q) h2 g2 (q7t q r);exact z (of_decide_eq_true this)
 refine⟨first,fun y hy=>?_⟩
 obtain⟨k,hk,rfl⟩:=w1j.mp hy;obtain⟨q,h1,h2⟩:=first k hk
 refine(congrArg (SeqAt.EqAt A s its[k] v) h2).mpr ?_;obtain⟨q',xk,g1,g2,g3⟩:=at' k hk;rw[h1]at g1;cases g1;refine q8b g3 (q8a g2) (x5n I sg 1 (y9x q) hu g2 px g3 rx (q7t q r)) fun z=>?_
 subst z;rw[g3.inj rx]at g2;exact q5n I sg (bW q) g2 px (q7t q r)
noncomputable def ninB:W->W->Option W
 |x,.lst ws=>match rowOf x,rowsOf ws with
  |some r,some rs=>some (.bl (!decide (r∈rs)))
  |_,_=>none
 |_,_=>none
def rNinB(K:PySem.W.Frag):R2:=fun x y H Q=>∃(G:Hp)(r:List Bool)(rs:List (List Bool))(p:Addr)(xs:List V),y=.ref p/\Same G H/\SqL K G p xs/\Reps K G (rs.map bW) xs/\Rep K G (bW r) x/\Q (.bl (!decide (r∈rs))) H
theorem y6f(hu:X.A.units+150<cLine):OpR X (compareOp .NotIn) (rNinB X.K):=by
 intro pins s σ H x y v u Q I rx ry h;obtain⟨G,r,rs,p,xs,rfl,sg,hq,hr,px,q⟩:=h;cases ry;obtain⟨its,vl,pl,hz⟩:=I.list (sg.seq hq);obtain⟨e,h1,h2⟩:=x00 I sg (A:=X.A.in1) (by have:X.A.in1.units=X.A.units+1:=rfl;omega) hr px vl rx;refine SeqAt.notIn_listAt e pl.isList (fun y hy=>h2 y (by simpa using hy)) ⟨.bl _,H,I,rfl,?_⟩
 have:its.toArray.any e=decide (r∈rs):=by
  have l1:=hr.length;have l2:=vl.length;rw[w0a]at l1;apply Bool.eq_iff_iff.mpr;rw[List.any_toArray,List.any_eq_true,decide_eq_true_iff];constructor
  ·rintro⟨y,hy,hh⟩;obtain⟨k,hk,rfl⟩:=w1j.mp hy;obtain⟨q,a1,a2⟩:=h1 k hk;rw[a2]at hh;rw[of_decide_eq_true hh]at a1;exact w0l a1
  ·intro hm;obtain⟨k,hk,e1⟩:=w1j.mp hm;have hk2:k<its.length:=by omega
   obtain⟨q,a1,a2⟩:=h1 k hk2;rw[w0d hk,e1]at a1;cases a1;exact⟨its[k],w2g hk2,by rw[a2];exact decide_eq_true rfl⟩
 rw[this];exact q
theorem y6g:Op2 K (rNinB K) ninB:=by
 intro G H x y wx wy w Q s px py hf h;cases wy with
 |lst ws=>
  simp only[ninB]at hf;split at hf
  ·rename_i r rs h1 h2;cases hf;obtain⟨a,xs,rfl,ha,ra⟩:=py;rw[q8i h1]at px;rw[q7a h2]at ra;exact⟨G,r,rs,a,xs,rfl,s,ha,ra,px,h G _ H (.refl s) rfl⟩
  ·cases hf
 |_=>simp[ninB]at hf
noncomputable def indexB:W->List W->Option W
 |.lst ws,[x]=>match rowOf x,rowsOf ws with
  |some r,some rs=>if r∈rs then some (.int (rs.idxOf r:Nat))else none
  |_,_=>none
 |_,_=>none
def rIndexB(K:PySem.W.Frag):V->List V->Hp->VK->Prop:=fun v vs H Q=>∃(G:Hp)(b:Addr)(xs:List V)(rs:List (List Bool))(r:List Bool)(x:V),v=.ref b/\vs=[x]/\Same G H/\SqL K G b xs/\Reps K G (rs.map bW) xs/\Rep K G (bW r) x/\r∈rs/\Q (.int (rs.idxOf r:Nat)) H
theorem x8o(hu:X.A.units+150<cLine):MtR X "list.index" (rIndexB X.K):=by
 intro pins s σ H x vs v us Q I rx rv h;obtain⟨G,b,xs,rs,r,x0,rfl,rfl,sg,hB,hr,px,hm,q⟩:=h;cases rx;obtain⟨u,rfl,ru⟩:=rv.one;obtain⟨its,vl,pl,hz⟩:=I.list (sg.seq hB);obtain⟨⟨cls,dd,data,sl⟩,ho,hc,n,hd⟩:=pl.isList;simp only at hc hd;subst hc hd;have l1:=hr.length;have l2:=vl.length;rw[w0a]at l1;have hj:=w3j.mpr hm;have hl63:=line63;obtain⟨e,h1,h2⟩:=x00 I sg (A:=X.A.in1) (by have:X.A.in1.units=X.A.units+1:=rfl;omega) hr px vl ru;refine call_meets F.slot_list_index ⟨_,ho,rfl⟩ F.entry_list_index (F.args_list_index_2 _ _) (SeqAt.list_indexAt b its.toArray n dd sl u e (rs.idxOf r) (by simp only[w0e];omega) (by omega) ?_ ?_) ⟨ho,?_,?_⟩
 ·obtain⟨q,a1,a2⟩:=h1 (rs.idxOf r) (by omega);rw[w0d hj,List.getElem_idxOf hj]at a1;cases a1;rw[w4a,a2];exact decide_eq_true rfl
 ·intro m hm hlt;have hm':m<its.length:=by simpa using hm
  obtain⟨q,a1,a2⟩:=h1 m hm';rw[w4a,a2];refine decide_eq_false fun z=>?_
  have hm2:m<rs.length:=by omega
  rw[w0d hm2]at a1;injection a1 with a1
  have:=List.not_of_lt_findIdx (p:=(·==r)) hlt;rw[a1,z]at this;simp at this
 ·intro y hy;exact h2 y (by simpa using hy)
 ·exact⟨.int (rs.idxOf r:Nat),H,I.tok _,⟨_,rfl⟩,q⟩
theorem x8p:OpM K (rIndexB K) indexB:=by
 intro G H x xs wx ws w Q s px pr hf h;unfold indexB at hf;split at hf
 ·rename_i us x0;obtain⟨y,r,rfl,py,pr⟩:=pr;cases(show r=[]from pr);split at hf
  ·rename_i r rs h1 h2;split at hf
   ·rename_i hm;cases hf;obtain⟨a,cs,rfl,hq,rp⟩:=px;rw[q8i h1]at py;rw[q7a h2]at rp;exact⟨G,a,cs,rs,r,y,rfl,rfl,s,hq,rp,py,hm,h G _ H (.refl s) rfl⟩
   ·cases hf
  ·cases hf
 ·cases hf
section
variable{a b o e:Expr}{da db d:Den W}{dA:Den (List W)}
theorem y6h(hu:X.A.units+150<cLine)(ha:DE Z X EE a da)(hb:DE Z X EE b db)(hm:behindInMarks .NotIn b=false:=by with_unfolding_all rfl):DT Z X EE (.Compare a [.NotIn] [b] pos) (dTest (dOp ninB da db)):=q5i (y6f hu) y6g ha hb hm
theorem x8q{apos cpos:Pos}(hu:X.A.units+150<cLine)(ho:DE Z X EE o d)(ha:DA Z X EE [e] dA)
  (hbase:attributeBase o "index" X.env (eval o X.env)=eval o X.env:=by rfl)
  (hfew:((backTo cpos (starEach [e] X.env)).all (fun x=>!x.1)&&(backToKw cpos (keywordEach [] X.env)).all (fun x=>x.1.isSome)&&decide ([e].length+([]:List Keyword).length+(if([]:List Keyword).isEmpty then 0 else 1)<30))=true:=by rfl)
  (hline:(apos.endLine==cpos.line)=true:=by rfl)(hs:starEach [e] X.env=(false,eval e X.env)::starEach [] X.env:=by rfl)(hplain:(backTo cpos (starEach [] X.env)).any (·.1)=false:=by rfl):
  DE Z X EE (.Call (.Attribute o "index" apos) [e] [] cpos) (dMeth "list" indexB d dA):=
 y4s PySem.F.plainAttrs_list PySem.F.slot_list_index PySem.F.type_list_index (x8o hu) x8p ho ha hbase hfew hline hs hplain
end
theorem y6i(r:List Bool)(rs:List (List Bool)):ninB (bW r) (.lst (rs.map bW))=some (.bl (!decide (r∈rs))):=by
 show(match rowBl (r.map .bl),rowsOf (rs.map bW)with|some r,some rs=>some (W.bl (!decide (r∈rs)))|_,_=>none)=_;rw[q5a,q6d]
theorem x8r{rs:List (List Bool)}(h:r∈rs):indexB (.lst (rs.map bW)) [bW r]=some (.int (rs.idxOf r:Nat)):=by
 show(match rowBl (r.map .bl),rowsOf (rs.map bW)with|some r,some rs=>if r∈rs then some (W.int (rs.idxOf r:Nat))else none|_,_=>none)=_;rw[q5a,q6d];exact if_pos h
open PySem L2 PySem.Spec PyProof.Rows
open PyProof.Rows (envOfC)
section
variable{e body:Expr}{es:List Expr}{params:Arguments}{d:Den W}{dA:Den (List W)}{lpos p:Pos}{k:Nat}{ps N nf:List Str}{js:List Nat}{sc scope:Scope}{F:List W->FR}
theorem x3q(j:Nat)(l:Lm)(C:Cal X.prog X.w X.K X.mg X.base k x ps (spF X.K F))(hr:Room k X.A)(hx:PassX (CX1 X.prog X.w) X EE)(M:Maker X)(hfn:∀y,X.fn y=true)(he:DE Z X EE e d)(ok:lamOkB sc scope N nf js=true)
  (hl:l=⟨X.env.qual++"<lambda>", params,body,scope,nf⟩:=by rfl)(hdef:defaultsOf params X.env=([],[]):=by rfl)(hsc:X.env.scope=sc:=by rfl)(hN:X.N=N:=by rfl)(hg:Gl X x:=by rfl)
  (hdb:(x==("__debug__":Str))=false:=by decide)(hst:starEach [e,.Lambda params body scope lpos] X.env=(false,eval e X.env)::starEach [.Lambda params body scope lpos] X.env:=by rfl)
  (hst2:starEach [.Lambda params body scope lpos] X.env=(false,eval (.Lambda params body scope lpos) X.env)::starEach [] X.env:=by rfl)(hpl:(backTo pos (starEach [.Lambda params body scope lpos] X.env)).any (·.1)=false:=by rfl):
  DN Z X EE (.Call (.Name x p) [e,.Lambda params body scope lpos] [] pos) (dLamN F j l js d):=by
 obtain⟨fa,fd,FF,m,kp,bd⟩:=C.ex;unfold lamOkB at ok;simp only[w1b,w0v,beq_iff_eq,bne_iff_ne,w3v,w1o]at ok;obtain⟨⟨⟨k4,k5⟩,k6⟩,k7⟩:=ok;have kind:∀x,X.env.kindOf x=sc.names.lookup x:=fun x=>by rw[<- hsc];rfl
 refine PE.mono (x5i (Nf:=nf) (js:=js) FF hr hg m kp bd hx M hfn he hdef (fun x hx hf=>?_) (fun i j y e1 e2=>?_) hdb hst hst2 hpl) ?_
 ·rw[kind];rcases k4 x hx with(z|z)|z
  ·exact absurd hf z
  ·exact .inl z
  ·exact .inr z
 ·have hlt:i<js.length:=(w0b.mp e2).1;have z:=k6 i hlt;rw[e1,e2]at z;obtain⟨z1,z2⟩:=k7 y (w0l e1);refine⟨by rw[hN];simpa using z,PySem.mem_of_lookup z1,?_,?_⟩
  ·rw[hsc];rcases z2 with z|z
   ·exact .inr (.inl z)
   ·exact .inr (.inr z)
  ·rw[kind];rcases z2 with z|z<;>(rw[z];decide)
 ·rintro σ H Q ⟨G,en,rel,h⟩;simp only[dLamN,R.holds_bind]at h;refine⟨G,en,rel,h.imp (fun w e1 h G1 v1 H1 r1 s1 p1 f clos H2 la=>?_) fun _ _ h=>h⟩
  obtain⟨hclos,Hm,pm,ctv,c',hH,hf,rfl⟩:=la
  have rm:Rel X.K Z G1 σ Hm e1:=by
   rcases hH with rfl|⟨c,oc,hc,rfl⟩
   ·exact r1
   ·exact r1.grow (Grow.hid r1.sub hc _)
  have gl:=Grow.laid rm.sub hf (fnO (kla_obj "<lambda>" (X.env.qual++"<lambda>") params body scope clos pm c' ctv) (X.env.qual++"<lambda>") c');have r2:=rm.grow gl;refine⟨clos,hclos,fun cs co=>?_⟩
  cases hcap:capsOf js e1 with
  |none=>rw[hcap]at h;exact h.elim
  |some caps=>
   rw[hcap]at h;obtain⟨zs,rz,zl,zv⟩:=x0t r1 hcap;have hn2:∀b o,cs.lookup b=some o->upd Hm f (fnO (kla_obj "<lambda>" (X.env.qual++"<lambda>") params body scope clos pm c' ctv) (X.env.qual++"<lambda>") c') b=none:=fun b o z=>(co.cel b o z).1
   have gn2:∀b o,cs.lookup b=some o->upd G1 f (fnO (kla_obj "<lambda>" (X.env.qual++"<lambda>") params body scope clos pm c' ctv) (X.env.qual++"<lambda>") c') b=none:=fun b o z=>by
    cases q:upd G1 f (fnO (kla_obj "<lambda>" (X.env.qual++"<lambda>") params body scope clos pm c' ctv) (X.env.qual++"<lambda>") c') b with
    |none=>rfl
    |some u=>have:=r2.sub b u q;rw[hn2 b o z]at this;cases this
   have sA:=gl.gg.trans (x2k gn2)
   have fout:cs.lookup f=none:=by
    cases q:cs.lookup f with
    |none=>rfl
    |some o=>have:=gn2 f o q;rw[q0g]at this;cases this
   have fc:FnCells (addC (upd G1 f (fnO (kla_obj "<lambda>" (X.env.qual++"<lambda>") params body scope clos pm c' ctv) (X.env.qual++"<lambda>") c')) cs) clos l zs cs:=by
    subst hl;refine⟨co.inj,co.has,co.all,fun c o z=>⟨q2g z,(co.cel c o z).2⟩,fun i y z g1 g2=>?_,by rw[zl];exact k5⟩
    have hi:i<js.length:=by rw[<- zl];exact(w0b.mp g2).1
    have g3:js[i]?=some js[i]:=w0d hi;exact co.val i y js[i] z g1 g3 (zv i _ z g3 g2)
   have rfn:Rep X.K (addC (upd G1 f (fnO (kla_obj "<lambda>" (X.env.qual++"<lambda>") params body scope clos pm c' ctv) (X.env.qual++"<lambda>") c')) cs) (.fn j l caps) (.ref f):=by
    refine⟨f,clos,zs,cs,rfl,⟨pm,c',ctv,?_⟩,fc,Reps.mono sA caps rz⟩;rw[q0s fout,q0g,hl]
   refine⟨_,[w,.fn j l caps],x0s r2.sub,⟨v1,[.ref f],rfl,Rep.mono sA w p1,⟨.ref f,[],rfl,rfn,rfl⟩⟩,?_⟩;cases q:F [w,.fn j l caps]with
   |ok s=>
    simp only[lamNK,q]at h;cases s with
    |x k=>
     cases k with
     |new w'=>
      intro G' H' v g sl;obtain⟨u,h1,h2⟩:=sl;cases h1;have g':=Grow.nocells g hn2 r2.sub;have ci:CelsIn G' cs:=fun b o z=>g.gg b _ (q2g z)
      refine h (rmC G' cs) v (rmC H' cs) (r2.grow g') (s1.trans (gl.gg.trans g'.gg)) (RepN.rm ci (fun c z=>q34 r2 ?_) w' h2)
      cases q3:cs.lookup c with
      |some o=>have z:addC _ cs c=none:=z;rw[q2g q3]at z;cases z
      |none=>have z:addC _ cs c=none:=z;rw[q0s q3]at z;exact z
     |_=>exact h.elim
    |_=>exact h.elim
   |ex c=>
    simp only[lamNK,q,lamNRes]at h;intro H' sh;refine x5j r2 (s1.trans gl.gg) h (rmC H' cs) fun b u z=>?_
    cases q2:cs.lookup b with
    |some o=>rw[hn2 b o q2]at z;cases z
    |none=>rw[q1r q2];exact sh b u (by rw[q0s q2];exact z)
   |no=>simp only[lamNK,q,lamNRes]at h;exact h.elim
end
theorem Rel.regrow{G2 H3:Hp}{σ:L2.St}{e:List S}(r:Rel K Z Z.G σ H3 (e.map D.rew))(hG:Same Z.G Z.H)(hio:Z.io=[])(s:Same G2 H3)(gen:∀a,Z.H a≠none->G2 a=Z.G a)(fz:∀l o ys,H3 l=some (.frz o (.lst ys))->Z.H l=none->G2 l=none):Rel K Z G2 σ H3 (e.map D.rew):=by
 have sg:Same Z.G G2:=fun a o z=>by rw[gen a (by rw[hG _ _ z];exact fun z=>nomatch z)];exact z
 refine⟨s,fun i s h=>?_,r.len,r.dis,r.ent,r.ion,gen⟩
 have q:=r.slot i s h;rw[w0g]at h;obtain⟨s0,h0,rfl⟩:=w0c.mp h;cases s0 with
 |fr w=>
  have q:SlotOk K Z Z.G H3 (if scalW w=true then .fr w else .no) _:=q;show SlotOk K Z G2 H3 (if scalW w=true then .fr w else .no) _;split
  ·rename_i hs;rw[if_pos hs]at q;obtain⟨u,q1,q2⟩:=q;exact⟨u,q1,q8e hs q2⟩
  ·trivial
 |x k=>
  cases k with
  |old w=>obtain⟨u,q1,q2,_⟩:=q;exact⟨u,q1,q2,Rep.mono sg w q2⟩
  |thro us ws vs=>
   obtain⟨t,l,o,xs,ys,zs,k1,k2,k3,⟨k4,k5,k6⟩,k7,_⟩:=q;exact⟨t,l,o,xs,ys,zs,k1,k2,sg _ _ k2,⟨k4,fz _ _ _ k4 k6,k6⟩,k7,Reps.mono sg us k7.1,Reps.mono sg ws k7.2.1,Reps.mono sg vs k7.2.2⟩
  |fzo w=>
   obtain⟨u,as,k1,k2,k3,_⟩:=q;exact⟨u,as,k1,k2,k3,RepF.move (K:=K) (Z':=Z) (H':=H3) sg w (fun l o ys _ k=>⟨k.1,fz _ _ _ k.1 k.2.2,k.2.2⟩) k3⟩
  |_=>trivial
 |_=>trivial
noncomputable def isSt:W->Bool
 |.lst (.tup [.tup p,.int q]::s)=>flatWs (.tup [.tup p,.int q]::s)
 |_=>false
noncomputable def isB:W->Bool
 |.bl _=>true
 |_=>false
noncomputable def mutHK(d:List S->SR)(i:Nat)(e:List S):Option S->Option S->SR
 |some (.x (.new (.tup [.int u,.int v,.lst (.lst (.tup p0::s0)::rest)]))),some (.x (.new (.lst (.tup bs::hs))))=>if bs.all isB=true/\rest.all isSt=true then d ((e.map rew).set i (.x (.new (.tup [.int u,.int v,.lst (.lst []::rest)]))))else .no
 |_,_=>.no
noncomputable def dMutH(i j:Nat)(d:List S->SR):List S->SR:=fun e=>mutHK d i e e[i]? e[j]?
noncomputable def frzL:Option HO->Bool
 |some (.frz _ (.lst _))=>true
 |_=>false
noncomputable def mutG(Z:Zt)(G:Hp)(l0 ln:Addr):Hp:=fun a=>if a=l0\/a=ln then some (.lst [])else if frzL (G a)=true/\(Z.H a).isNone=true then none else G a
mutual
theorem y16{K:PySem.W.Frag}{Z:Zt}{G G':Hp}(hT:∀a xs,SqT K G a xs->SqT K G' a xs):∀(w:W){v:V},flatW w=true->RepN K Z G w v->RepN K Z G' w v
 |.non,_,_,p=>p
 |.bl _,_,_,p=>p
 |.int _,_,_,p=>p
 |.str _,_,_,p=>p
 |.tup ws,_,h,⟨a,xs,e,q,r⟩=>⟨a,xs,e,hT _ _ q,q7b hT ws h r⟩
 |.lst _,_,h,_=>by cases h
 |.exc _,_,h,_=>by cases h
 |.dic _,_,h,_=>by cases h
 |.dw _ _ _ _,_,h,_=>by cases h
 |.fn _ _ _,_,h,_=>by cases h
theorem q7b{K:PySem.W.Frag}{Z:Zt}{G G':Hp}(hT:∀a xs,SqT K G a xs->SqT K G' a xs):∀(ws:List W){vs:List V},flatWs ws=true->RepNs K Z G ws vs->RepNs K Z G' ws vs
 |[],_,_,p=>p
 |w::ws,_,h,⟨x,r,e,p,q⟩=>by
  have h:(flatW w&&flatWs ws)=true:=h;rw[w1b]at h;exact⟨x,r,e,y16 hT w h.1 p,q7b hT ws h.2 q⟩
end
theorem x8s:∀{bs:List W}{vs:List V},bs.all isB=true->RepNs K Z G bs vs->∀v∈vs,∃b,v=.bl b
 |[],_,_,h,v,m=>by cases h;cases m
 |w::ws,_,hb,⟨x,r,e,p,q⟩,v,m=>by
  cases e;rw[w2v,w1b]at hb;rcases w0j.mp m with rfl|m
  ·cases w with
   |bl b=>exact⟨b,p⟩
   |_=>cases hb.1
  ·exact x8s hb.2 q v m
theorem SqT.one{a:Addr}{ys:List V}(hK:NoTup K)(h1:SqT K G a xs)(h2:SqT K G a ys):xs=ys:=by
 rcases SqT.rd hK h1 with p|⟨o,p⟩<;>rcases SqT.rd hK h2 with q|⟨o',q⟩<;>rw[p]at q<;>cases q<;>rfl
theorem SqT.nol{a:Addr}{ys:List V}(hK:NoTup K)(h1:SqT K G a xs)(h2:G a=some (.lst ys)):False:=by
 rcases SqT.rd hK h1 with p|⟨o,p⟩<;>rw[h2]at p<;>cases p
theorem x01{G':Hp}{l0 ln:Addr}(hT:∀a xs,SqT K G a xs->SqT K G' a xs)(hL:∀a xs,G a=some (.lst xs)->a≠l0->a≠ln->G' a=some (.lst xs))(hn:∀tk xa q zr,G ln=some (.lst (.ref tk::zr))->SqT K G tk [xa,.int q]->False):
  ∀{rest:List W}{yr:List V},rest.all isSt=true->(∀l,V.ref l∈yr->l≠l0)->RepNs K Z G rest yr->RepNs K Z G' rest yr
 |[],_,_,_,h=>h
 |w::ws,_,hr,h0,⟨x,r,e,p,q⟩=>by
  cases e;rw[w2v,w1b]at hr;refine⟨x,r,rfl,?_,x01 hT hL hn hr.2 (fun l m=>h0 l (w0k _ m)) q⟩
  have hw:=hr.1;unfold isSt at hw;split at hw
  ·rename_i pp qq s;obtain⟨lk,zs,rfl,hl,zl,rz,nd⟩:=p;have rz0:=rz;obtain⟨z0,zr,rfl,⟨tk,tx,rfl,hT0,xa,_,rfl,_,xb,_,rfl,rfl,rfl⟩,_⟩:=rz0;have n1:lk≠l0:=h0 lk (w0n ..);have n2:lk≠ln:=fun z=>hn tk xa qq zr (by rw[<- z];exact hl) hT0
   exact⟨lk,_,rfl,hL _ _ hl n1 n2,zl,q7b hT _ hw rz,nd⟩
  ·cases hw
section
variable{y:Str}{ss:List Stmt}{d:List S->SR}{xp yp sp1 sp2 ap1 ap2 cp1 cp2 pos1 pos2:Pos}{k1 k2 kp1 kp2}
theorem x8t(i j:Nat)(hK:NoTup X.K)(hG:Same Z.G Z.H)(hio:Z.io=[])(h:DSsW Z X EE ss d)(hN:X.N[j]?=some x:=by rfl)(hv:Vis X.env.scope x:=by walk_at "1")(hd:(x==("__debug__":Str))=false:=by decide)(hcd:(x==("__classdict__":Str))=false:=by decide)
  (hNy:X.N[i]?=some y:=by rfl)(hvy:Vis X.env.scope y:=by walk_at "1")(hdy:(y==("__debug__":Str))=false:=by decide)(hcdy:(y==("__classdict__":Str))=false:=by decide)
  (hs1:PlainIx (.Constant (.int 2) k1 kp1):=by intro _ _;rfl)(hs2:PlainIx (.Constant (.int 0) k2 kp2):=by intro _ _;rfl)
  (hb1:attributeBase (.Name x xp) "clear" X.env (eval (.Name x xp) X.env)=eval (.Name x xp) X.env:=by rfl)(hl1:(ap1.endLine==cp1.line)=true:=by rfl)(hw1:swapsWith (.Call (.Attribute (.Name x xp) "clear" ap1) [] [] cp1) none pos1.line X.env=pure false:=by rfl)
  (hb2:attributeBase (.Subscript (.Subscript (.Name y yp) (.Constant (.int 2) k1 kp1) sp1) (.Constant (.int 0) k2 kp2) sp2) "clear" X.env (eval (.Subscript (.Subscript (.Name y yp) (.Constant (.int 2) k1 kp1) sp1) (.Constant (.int 0) k2 kp2) sp2) X.env)=eval (.Subscript (.Subscript (.Name y yp) (.Constant (.int 2) k1 kp1) sp1) (.Constant (.int 0) k2 kp2) sp2) X.env:=by rfl)(hl2:(ap2.endLine==cp2.line)=true:=by rfl)
  (hw2:swapsWith (.Call (.Attribute (.Subscript (.Subscript (.Name y yp) (.Constant (.int 2) k1 kp1) sp1) (.Constant (.int 0) k2 kp2) sp2) "clear" ap2) [] [] cp2) none pos2.line X.env=pure false:=by rfl):
  DSsW Z X EE (.Expr (.Call (.Attribute (.Subscript (.Subscript (.Name y yp) (.Constant (.int 2) k1 kp1) sp1) (.Constant (.int 0) k2 kp2) sp2) "clear" ap2) [] [] cp2) pos2::.Expr (.Call (.Attribute (.Name x xp) "clear" ap1) [] [] cp1) pos1::ss) (dMutH i j d):=by
 refine PSs.mono (q51 (q4t (x15 PySem.F.plainAttrs_list PySem.F.slot_list_clear PySem.F.type_list_clear x16 (q8v x13 (q8v ix_tup (pv i hNy hvy hdy hcdy) q6t hs1) q6t hs2) hb2 hl2) hw2)
  (q51 (q4t (x15 PySem.F.plainAttrs_list PySem.F.slot_list_clear PySem.F.type_list_clear x16 (pv j hN hv hd hcd) hb1 hl1) hw1) h)) ?_
 rintro D σ H ⟨G,e,rel,h⟩;unfold dMutH mutHK at h;split at h
 ·rename_i u v p0 s0 rest bs hs hei hej;split at h
  ·rename_i hc;obtain⟨hbs,hrest⟩:=hc;obtain⟨u',g1,t,xs,rfl,hT,rx⟩:=rel.slot i _ hei;have hvi:σ[i]?=some (some (.ref t)):=rel.at hei fun _=>g1
   obtain⟨x0,_,rfl,rfl,x1,_,rfl,rfl,x2,_,rfl,⟨l2,ys,rfl,hl2',zl2,⟨y0,yr,rfl,⟨l0,qs,rfl,hl0,zl0,⟨q0,qr,rfl,⟨tq,tqx,rfl,hTq,_⟩,_⟩,_⟩,ryr⟩,nd⟩,rfl⟩:=rx;obtain⟨v',g2,ln,zs,rfl,hln,zln,⟨z0,zr,rfl,⟨tp,tx,rfl,hT0,rT0⟩,_⟩,_⟩:=rel.slot j _ hej;have hvj:σ[j]?=some (some (.ref ln)):=rel.at hej fun _=>g2
   have H0:=rel.sub _ _ hl0;have H2:=rel.sub _ _ hl2';have HN:=rel.sub _ _ hln
   have allL:∀w∈W.lst (.tup p0::s0)::rest,∃us,w=.lst us:=fun w m=>by
    rcases w0j.mp m with rfl|m
    ·exact⟨_,rfl⟩
    ·have hw:=w0v.mp hrest w m;unfold isSt at hw;split at hw
     ·exact⟨_,rfl⟩
     ·cases hw
   have nd1:=nd allL;rw[w1v]at nd1
   have n2:l2≠l0:=fun z=>by
    subst z;rw[hl2']at hl0;injection hl0 with q;injection q with q;injection q with q _;injection q with q
    subst q;exact SqT.nol hK hTq hl2'
   have n3:l2≠ln:=fun z=>by
    subst z;rw[hl2']at hln;injection hln with q;injection q with q;injection q with q _;injection q with q
    subst q;exact SqT.nol hK hT0 hl0
   have hn:∀tk xa q zr,G ln=some (.lst (.ref tk::zr))->SqT X.K G tk [xa,.int q]->False:=fun tk xa q zr z1 z2=>by
    rw[hln]at z1;injection z1 with z1;injection z1 with z1;injection z1 with z1 _;injection z1 with z1
    subst z1;rw[SqT.one hK hT0 z2]at rT0;obtain⟨b,hb⟩:=x8s hbs rT0 (.int q) (by simp);cases hb
   have hsub:Same (mutG Z G l0 ln) (upd (upd H l0 (.lst [])) ln (.lst [])):=fun a o z=>by
    unfold mutG at z
    by_cases q1:a=ln
    ·subst q1;rw[if_pos (.inr rfl)]at z;rw[q0g];exact z
    ·by_cases q2:a=l0
     ·subst q2;rw[if_pos (.inl rfl)]at z;rw[q0d q1,q0g];exact z
     ·rw[if_neg (fun q=>q.elim q2 q1)]at z
      split at z
      ·cases z
      ·rw[q0d q1,q0d q2];exact rel.sub _ _ z
   have keep:∀a o,G a=some o->frzL (some o)=false->a≠l0->a≠ln->mutG Z G l0 ln a=some o:=fun a o z f a1 a2=>by
    unfold mutG;rw[if_neg (fun q=>q.elim a1 a2),z,if_neg (fun q=>by rw[f]at q;exact Bool.noConfusion q.1)]
   have hT2:∀a xs,SqT X.K G a xs->SqT X.K (mutG Z G l0 ln) a xs:=fun a xs z=>by
    have a1:a≠l0:=fun q=>by subst q;exact SqT.nol hK z hl0
    have a2:a≠ln:=fun q=>by subst q;exact SqT.nol hK z hln
    rcases z with(z|⟨o,z⟩)|z
    ·exact .inl (.inl (keep _ _ z rfl a1 a2))
    ·exact .inl (.inr ⟨o,keep _ _ z rfl a1 a2⟩)
    ·exact .inr z
   have out0:∀a,Z.H a≠none->a≠l0/\a≠ln:=fun a q=>⟨fun z=>by subst z;exact q zl0,fun z=>by subst z;exact q zln⟩
   have hgen:∀a,Z.H a≠none->mutG Z G l0 ln a=Z.G a:=fun a q=>by
    unfold mutG;rw[if_neg (fun z=>z.elim (out0 a q).1 (out0 a q).2),if_neg (fun z=>q (Option.isNone_iff_eq_none.mp z.2)),rel.gen a q]
   have hfz:∀l o ys,upd (upd H l0 (.lst [])) ln (.lst []) l=some (.frz o (.lst ys))->Z.H l=none->mutG Z G l0 ln l=none:=fun l o ys z zl=>by
    by_cases q1:l=ln
    ·subst q1;rw[q0g]at z;cases z
    ·rw[q0d q1]at z
     by_cases q2:l=l0
     ·subst q2;rw[q0g]at z;cases z
     ·rw[q0d q2]at z;unfold mutG;rw[if_neg (fun q=>q.elim q2 q1)]
      cases gl:G l with
      |none=>split<;>rfl
      |some o2=>
       have:=rel.sub _ _ gl;rw[z]at this;cases this;rw[if_pos ⟨rfl,by rw[zl];rfl⟩]
   have base:=rel.rew (H3:=upd (upd H l0 (.lst [])) ln (.lst [])) hG hio (fun c u z=>by
    have q:=out0 c (by rw[z];exact fun z=>nomatch z)
    rw[q0d q.2,q0d q.1];exact rel.ent c u z (by rw[hio];exact fun z=>nomatch z)) (fun c o ys z=>by
    rw[q0d (q0t z HN fun y=>nomatch y),q0d (q0t z H0 fun y=>nomatch y)];exact z)
   have r2:=base.regrow hG hio hsub hgen hfz
   have r3:=Rel.refill (s0:=.x (.new (.tup [.int u,.int v,.lst (.lst []::rest)]))) (r2.drop1 i) hvi (fun _ _ z=>nomatch z)
    ⟨.ref t,rfl,t,_,rfl,hT2 _ _ hT,.int u,_,rfl,rfl,.int v,_,rfl,rfl,.ref l2,_,rfl,⟨l2,_,rfl,keep _ _ hl2' rfl n2 n3,zl2,⟨.ref l0,yr,rfl,⟨l0,[],rfl,if_pos (.inl rfl),zl0,rfl,fun _=>.nil⟩,x01 hT2 (fun a xs z a1 a2=>keep _ _ z rfl a1 a2) hn hrest (fun l m q=>nd1.1 (by rw[<- q];exact m)) ryr⟩,fun _=>nd allL⟩,rfl⟩
   have HT:SqT X.K H t [.int u,.int v,.ref l2]:=rel.sub.tup hT
   have L0:∃qs2,upd H l0 (.lst []) ln=some (.lst qs2):=by
    by_cases q:ln=l0
    ·subst q;exact⟨[],q0g⟩
    ·exact⟨_,by rw[q0d q];exact HN⟩
   obtain⟨qs2,hq2⟩:=L0;exact⟨.ref t,hvi,t,[.int u,.int v,.ref l2],2,.ref l2,rfl,rfl,HT,rfl,.inl ⟨l2,.ref l0::yr,0,.ref l0,rfl,rfl,SqL.of H2,(show atI (V.ref l0::yr) ((0:Nat):Int)=_ from q19 rfl),.inl ⟨rfl,_,SqL.of H0⟩,l0,_,rfl,rfl,H0,.ref ln,hvj,.inl ⟨rfl,qs2,SqL.of hq2⟩,ln,qs2,rfl,rfl,hq2,_,_,r3,h⟩⟩
  ·exact h.elim
 ·exact h.elim
end
theorem y6j{i j:Nat}{d:List S->SR}{e:List S}:dMutH i j d e=mutHK d i e e[i]? e[j]?:=rfl
end D
namespace M10
noncomputable def numG(a:Int)(row:List Bool):Int:=row.foldl (fun acc b=>2*acc+(if b=true then 1 else 0)) a
noncomputable def num(row:List Bool):Int:=numG 0 row
noncomputable def b2(b:Bool):Int:=if b=true then 1 else 0
theorem x8u(a:Int)(row:List Bool)(b:Bool):numG a (row++[b])=2*numG a row+b2 b:=by
 unfold numG;rw[List.foldl_append];rfl
theorem x4r:num []=0:=rfl
theorem x2w(row:List Bool)(b:Bool):num (row++[b])=2*num row+b2 b:=x8u 0 row b
theorem y17(b:Bool):b2 b=0\/b2 b=1:=by cases b<;>simp[b2]
theorem y18{P:List Bool->Prop}(h0:P [])(h1:∀l b,P l->P (l++[b])):∀l,P l:=by
 intro l
 have:∀r:List Bool,P r.reverse:=by
  intro r
  induction r with
  |nil=>simpa using h0
  |cons b r ih=>rw[w1m];exact h1 _ _ ih
 have:=this l.reverse
 rwa [List.reverse_reverse]at this
theorem x57(row:List Bool):0<=num row/\num row<2^row.length:=by
 induction row using y18 with
 |h0=>simp[x4r]
 |h1 l b ih=>
  rw[x2w,w0x,w3u,w4s];rcases y17 b with h|h<;>omega
noncomputable def bits:Nat->Int->List Bool
 |0,_=>[]
 |m+1,n=>decide (n%2=1)::bits m (n / 2)
noncomputable def rest:Nat->Int->Int
 |0,n=>n
 |m+1,n=>rest m (n / 2)
theorem q6e:∀m n,(bits m n).length=m
 |0,_=>rfl
 |m+1,n=>by rw[bits,w0u,q6e m]
theorem x02:∀m n,bits (m+1) n=bits m n++[decide (rest m n%2=1)]
 |0,n=>rfl
 |m+1,n=>by rw[bits,x02 m (n / 2),bits,rest];rfl
theorem x03:∀m n,rest (m+1) n=rest m n / 2
 |0,n=>rfl
 |m+1,n=>by rw[rest,x03 m (n / 2)];rfl
theorem y19(m:Nat):∀n:Int,n=num (bits m n).reverse+2^m*rest m n:=by
 induction m with
 |zero=>intro n;simp[bits,rest,x4r]
 |succ m ih=>
  intro n;rw[bits,rest,w1m,x2w,w4s];have h:=ih (n / 2)
  have hb:b2 (decide (n%2=1))=n%2:=by
   unfold b2
   by_cases h1:n%2=1
   ·simp[h1]
   ·simp[h1];omega
  rw[hb]
  have e:(2:Int)^m*2*rest m (n / 2)=2*(2^m*rest m (n / 2)):=by
   rw[Int.mul_comm (2^m) 2,Int.mul_assoc]
  rw[e];generalize (2:Int)^m*rest m (n / 2)=z at *;generalize num (bits m (n / 2)).reverse=y at *;omega
theorem y2a(m:Nat):(0:Int)<2^m:=by
 induction m with
 |zero=>decide
 |succ m ih=>rw[w4s];omega
theorem x8v{m:Nat}{n:Int}(h0:0<=n)(h1:n<2^m):rest m n=0:=by
 have h:=y19 m n;have hb:=x57 (bits m n).reverse;rw[w2j,q6e]at hb;have hp:=y2a m
 by_cases hr:rest m n=0
 ·exact hr
 ·exfalso;rcases Int.lt_or_gt_of_ne hr with h2|h2
  ·have:2^m*rest m n<=2^m*(-1):=w2t (by omega) (by omega);omega
  ·have:2^m*1<=2^m*rest m n:=w2t (by omega) (by omega);omega
noncomputable def part(row:List Bool)(i:Nat):Int:=num (row.take i)*2^(row.length-i)
end M10
namespace Q
open PySem L2 D
variable{f:Addr}{A:Around}{H:Hp}{row x:List Bool}{ws:List W}{i k m n q:Nat}{K:PySem.W.Frag}{s:Shared}{mg:Str->Option Value}{α:Type}{cdv:Value}{E:XK}{Z:Zt}
seal DN DNA DSsW DE DF DT DW DA DS DSs DTs DO DFm PE PT PW PA PS PSs PG PGs PI PF PTs PC OpR UnR IxR CallR TruR MtR MtM SlR PO
theorem us1{P:List α->Prop}(h:∀x0,P [x0]):∀us:List α,us.length=1->P us
 |[x0],_=>h x0
theorem us2{P:List α->Prop}(h:∀x0 x1,P [x0,x1]):∀us:List α,us.length=2->P us
 |[x0,x1],_=>h x0 x1
theorem us3{P:List α->Prop}(h:∀x0 x1 x2,P [x0,x1,x2]):∀us:List α,us.length=3->P us
 |[x0,x1,x2],_=>h x0 x1 x2
theorem us4{P:List α->Prop}(h:∀x0 x1 x2 x3,P [x0,x1,x2,x3]):∀us:List α,us.length=4->P us
 |[x0,x1,x2,x3],_=>h x0 x1 x2 x3
noncomputable def top(i:Nat):Stmt:=PySem.Challenge.pw_circuits_k46_machine_of_told.main.body.getD i (.Pass ⟨0,0,0,0⟩)
structure Blt(mg:Str->Option Value):Prop where
 b_isinstance:mg "isinstance"=none
 b_len:mg "len"=none
 b_list:mg "list"=none
 b_max:mg "max"=none
 b_range:mg "range"=none
 b_repr:mg "repr"=none
 b_reversed:mg "reversed"=none
 b_set:mg "set"=none
 b_tuple:mg "tuple"=none
structure Adr where
 CircuitError:Addr
 NoPlace:Addr
 NoRow:Addr
variable{a:Adr}
structure Exs(K:PySem.W.Frag)(mg:Str->Option Value)(a:Adr):Prop where
 z:True
 m_CircuitError:mg "CircuitError"=some (.ref a.CircuitError)
 m_NoPlace:mg "NoPlace"=some (.ref a.NoPlace)
 m_NoRow:mg "NoRow"=some (.ref a.NoRow)
 e_NoPlace:excIn K a.NoPlace a.CircuitError=true
 e_NoRow:excIn K a.NoRow a.CircuitError=true
 c_NoPlace:excClsIn K a.NoPlace=true
 c_NoRow:excClsIn K a.NoRow=true
 t_NoneType_tuple:kitOne K (.type "NoneType") (.type "tuple")=some false
 t_bool_tuple:kitOne K (.type "bool") (.type "tuple")=some false
 t_int_tuple:kitOne K (.type "int") (.type "tuple")=some false
 t_str_tuple:kitOne K (.type "str") (.type "tuple")=some false
 t_tuple_tuple:kitOne K (.type "tuple") (.type "tuple")=some true
 t_list_tuple:kitOne K (.type "list") (.type "tuple")=some false
 t_NoneType_list:kitOne K (.type "NoneType") (.type "list")=some false
 t_bool_list:kitOne K (.type "bool") (.type "list")=some false
 t_int_list:kitOne K (.type "int") (.type "list")=some false
 t_str_list:kitOne K (.type "str") (.type "list")=some false
 t_tuple_list:kitOne K (.type "tuple") (.type "list")=some false
 t_list_list:kitOne K (.type "list") (.type "list")=some true
 nt:NoTup K
noncomputable abbrev q3l:Nat:=0
noncomputable abbrev q2o:Nat:=1
noncomputable abbrev q23:Nat:=2
noncomputable abbrev q2u:Nat:=3
noncomputable abbrev q24:Nat:=4
noncomputable abbrev q16:Nat:=5
noncomputable abbrev q2c:Nat:=6
noncomputable abbrev q4e:Nat:=7
noncomputable abbrev q01:Nat:=8
noncomputable abbrev q3m:Nat:=9
noncomputable abbrev q0x:Nat:=10
noncomputable abbrev q07:Nat:=11
noncomputable abbrev q25:Nat:=12
noncomputable abbrev q1b:Nat:=13
noncomputable abbrev q1j:Nat:=14
noncomputable abbrev q0z:Nat:=15
noncomputable abbrev q1w:Nat:=16
noncomputable abbrev q0y:Nat:=17
noncomputable abbrev q1t:Nat:=18
noncomputable abbrev q2d:Nat:=19
noncomputable abbrev q1n:Nat:=20
noncomputable abbrev q1o:Nat:=21
noncomputable abbrev q5b:Nat:=22
noncomputable abbrev q2p:Stmt:=top 5
theorem sc_row_of:FnScope ["number", "many", "truths", "rest", "step"] ["number", "many"] (defScope q2p):=⟨rfl,rfl,rfl,by decide +kernel,rfl,by decide +kernel,by decide +kernel⟩
noncomputable abbrev q1u:Stmt:=top 6
theorem sc_rows_many:FnScope ["many", "count", "place"] ["many"] (defScope q1u):=⟨rfl,rfl,rfl,by decide +kernel,rfl,by decide +kernel,by decide +kernel⟩
noncomputable abbrev q1x:Stmt:=top 7
theorem x3r:FnScope ["many"] ["many"] (defScope q1x):=⟨rfl,rfl,rfl,by decide +kernel,rfl,by decide +kernel,by decide +kernel⟩
noncomputable abbrev q3c:Stmt:=top 9
theorem sc_value:FnScope ["form", "row", "word", "left", "right"] ["form", "row"] (defScope q3c):=⟨rfl,rfl,rfl,by decide +kernel,rfl,by decide +kernel,by decide +kernel⟩
noncomputable abbrev q12:Stmt:=top 10
theorem x3s:FnScope ["things", "place"] ["things", "place"] (defScope q12):=⟨rfl,rfl,rfl,by decide +kernel,rfl,by decide +kernel,by decide +kernel⟩
noncomputable abbrev q08:Stmt:=top 12
theorem q9z:FnScope ["circuit"] ["circuit"] (defScope q08):=⟨rfl,rfl,rfl,by decide +kernel,rfl,by decide +kernel,by decide +kernel⟩
noncomputable abbrev q1h:Stmt:=top 13
theorem x1h:FnScope ["circuit"] ["circuit"] (defScope q1h):=⟨rfl,rfl,rfl,by decide +kernel,rfl,by decide +kernel,by decide +kernel⟩
noncomputable abbrev q2h:Stmt:=top 14
theorem sc_moved:FnScope ["circuit", "state", "row", "truths", "told"] ["circuit", "state", "row"] (defScope q2h):=⟨rfl,rfl,rfl,by decide +kernel,rfl,by decide +kernel,by decide +kernel⟩
noncomputable abbrev q09:Stmt:=top 16
theorem sc_machine_of:FnScope ["circuit", "rows", "found"] ["circuit"] (defScope q09):=⟨rfl,rfl,rfl,by decide +kernel,rfl,by decide +kernel,by decide +kernel⟩
noncomputable abbrev q18:Stmt:=top 17
theorem sc_come_to:FnScope ["begin", "pairs_of", "things", "numbers", "states", "thing", "state", "told", "follower"] ["begin", "pairs_of"] (defScope q18):=⟨rfl,rfl,rfl,by decide +kernel,rfl,by decide +kernel,by decide +kernel⟩
noncomputable abbrev q1c:Stmt:=top 19
theorem q86:FnScope ["_law_script", "_law_k"] ["_law_script", "_law_k"] (defScope q1c):=⟨rfl,rfl,rfl,by decide +kernel,rfl,by decide +kernel,by decide +kernel⟩
noncomputable abbrev q1p:Stmt:=top 20
theorem sc__law_mixed:FnScope ["_law_cell", "_law_k", "_law_number"] ["_law_cell", "_law_k"] (defScope q1p):=⟨rfl,rfl,rfl,by decide +kernel,rfl,by decide +kernel,by decide +kernel⟩
noncomputable abbrev q13:Stmt:=top 21
theorem sc__law_row:FnScope ["_law_number", "_law_many", "_law_row_here", "_law_step"] ["_law_number", "_law_many"] (defScope q13):=⟨rfl,rfl,rfl,by decide +kernel,rfl,by decide +kernel,by decide +kernel⟩
noncomputable abbrev q1d:Stmt:=top 22
theorem q87:FnScope ["_law_many"] ["_law_many"] (defScope q1d):=⟨rfl,rfl,rfl,by decide +kernel,rfl,by decide +kernel,by decide +kernel⟩
noncomputable abbrev q1v:Stmt:=top 23
theorem sc__law_form:FnScope ["_law_cell", "_law_places", "_law_deep", "_law_kind", "_law_left", "_law_one"] ["_law_cell", "_law_places", "_law_deep"] (defScope q1v):=⟨rfl,rfl,rfl,by decide +kernel,rfl,by decide +kernel,by decide +kernel⟩
noncomputable abbrev q1q:Stmt:=top 24
theorem sc__law_value:FnScope ["_law_form_here", "_law_row_here", "_law_word", "_law_one", "_law_other"] ["_law_form_here", "_law_row_here"] (defScope q1q):=⟨rfl,rfl,rfl,by decide +kernel,rfl,by decide +kernel,by decide +kernel⟩
noncomputable abbrev q02:Stmt:=top 25
theorem sc__law_counting:FnScope ["_law_many", "_law_size", "_law_k", "_law_carry", "_law_j"] ["_law_many", "_law_size", "_law_k"] (defScope q02):=⟨rfl,rfl,rfl,by decide +kernel,rfl,by decide +kernel,by decide +kernel⟩
noncomputable abbrev q1k:Stmt:=top 26
theorem sc__law_taller:FnScope ["_law_form_here", "_law_many", "_law_places", "_law_k"] ["_law_form_here", "_law_many", "_law_places"] (defScope q1k):=⟨rfl,rfl,rfl,by decide +kernel,rfl,by decide +kernel,by decide +kernel⟩
noncomputable abbrev q1e:Stmt:=top 27
theorem sc__law_circuit:FnScope ["_law_script", "_law_cell", "_law_many", "_law_size", "_law_deep", "_law_cells", "_law_k", "_law_left", "_law_form_here", "_law_outs", "_law_tall", "_law_first"] ["_law_script"] (defScope q1e):=⟨rfl,rfl,rfl,by decide +kernel,rfl,by decide +kernel,by decide +kernel⟩
noncomputable abbrev q1a:Stmt:=top 28
theorem sc__law_moved:FnScope ["_law_circuit_here", "_law_state", "_law_row_here", "_law_whole", "_law_found"] ["_law_circuit_here", "_law_state", "_law_row_here"] (defScope q1a):=⟨rfl,rfl,rfl,by decide +kernel,rfl,by decide +kernel,by decide +kernel⟩
noncomputable abbrev q03:Stmt:=top 29
theorem sc__law_state_is:FnScope ["_law_circuit_here", "_law_held", "_law_state", "_law_at", "_law_number", "_law_due"] ["_law_circuit_here", "_law_held", "_law_state", "_law_at"] (defScope q03):=⟨rfl,rfl,rfl,by decide +kernel,rfl,by decide +kernel,by decide +kernel⟩
noncomputable abbrev q04:Stmt:=top 30
theorem sc__law_numbered:FnScope ["_law_states", "_law_known", "_law_at", "_law_pair"] ["_law_states"] (defScope q04):=⟨rfl,rfl,rfl,by decide +kernel,rfl,by decide +kernel,by decide +kernel⟩
noncomputable abbrev q3i:Stmt:=top 31
theorem sc_law:FnScope ["_law_script", "_law_circuit_here", "_law_found", "_law_machine", "_law_held", "_law_at", "_law_kept", "_law_good"] ["_law_script"] (defScope q3i):=⟨rfl,rfl,rfl,by decide +kernel,rfl,by decide +kernel,by decide +kernel⟩
noncomputable abbrev q3y:Expr:=(argAt 1 (stVal (stAt 1 q09)))
noncomputable abbrev q1m:Lm:=⟨("machine_of"++".<locals>.")++"<lambda>", lamParams q3y,lamBody q3y,lamScope q3y,["circuit", "rows"]⟩
noncomputable abbrev q1i:Nat:=23
noncomputable def lams:Nat->Option Lm
 |23=>some q1m
 |_=>none
theorem q7y:lams 23=some q1m:=rfl
noncomputable def q36(K:PySem.W.Frag)(a:Adr)(r:Nat->List W->FR):Den W:=
 (dCall (r q4e) (dCons (dVar 2) (dCons (dVar 1) (dCons (dVar 0) dNil))))
noncomputable def q2j(K:PySem.W.Frag)(a:Adr)(r:Nat->List W->FR):Den W:=
 (dFz (dComp [0,1] (dVar 2) dYes (q36 K a r)))
noncomputable def q6f(K:PySem.W.Frag)(a:Adr)(r:Nat->List W->FR):List S->SR:=
 (dSeq (dApp 2 (dCons (dOp eq2 (dOp modW (dVar 3) (dC (.int 2))) (dC (.int 1))) dNil))
  (dSet 3 (dOp fdivW (dVar 3) (dC (.int 2)))))
noncomputable def q42(K:PySem.W.Frag)(a:Adr)(r:Nat->List W->FR):List S->SR:=
 (dSeq (dSetO 2 (dLst dNil))
  (dSeq (dSet 3 (dVar 0))
  (dSeq (dForR 4 rng1 (dCons (dVar 1) dNil)
  (q6f K a r))
  (dSeq (dIfS (dTest (dOp ne2 (dVar 3) (dC (.int 0))))
  (dRaise a.NoRow (dCons (dC (.str "no row of so many places has that number")) dNil))
  dNx)
  (dRet (dUn tuprevW (dVar 2)))))))
noncomputable def q4n(K:PySem.W.Frag)(a:Adr)(r:Nat->List W->FR):List S->SR:=
 (dSet 1 (dOp mulW (dC (.int 2)) (dVar 1)))
noncomputable def q30(K:PySem.W.Frag)(a:Adr)(r:Nat->List W->FR):List S->SR:=
 (dSeq (dSet 1 (dC (.int 1)))
  (dSeq (dForR 2 rng1 (dCons (dVar 0) dNil)
  (q4n K a r))
  (dRet (dVar 1))))
noncomputable def q7c(K:PySem.W.Frag)(a:Adr)(r:Nat->List W->FR):Den W:=
 (dCall (r q3l) (dCons (dVar 0) (dCons (dVar 1) dNil)))
noncomputable def q37(K:PySem.W.Frag)(a:Adr)(r:Nat->List W->FR):List S->SR:=
 (dRetF (dCompR rng1 [0] (dCons (dCall (r q2o) (dCons (dVar 0) dNil)) dNil) dYes (q7c K a r)))
noncomputable def q3d(K:PySem.W.Frag)(a:Adr)(r:Nat->List W->FR):List S->SR:=
 (dSeq (dSet 2 (dOp ixW (dVar 0) (dC (.int 0))))
  (dSeq (dIfS (dTest (dOp eq2 (dVar 2) (dC (.str "is"))))
  (dRet (dOp ixW (dVar 0) (dC (.int 1))))
  dNx)
  (dSeq (dIfS (dTest (dOp eq2 (dVar 2) (dC (.str "at"))))
  (dRet (dCall (r q24) (dCons (dVar 1) (dCons (dOp ixW (dVar 0) (dC (.int 1))) dNil))))
  dNx)
  (dSeq (dIfS (dTest (dOp eq2 (dVar 2) (dC (.str "not"))))
  (dRet (dNotV (dCall (r q2u) (dCons (dOp ixW (dVar 0) (dC (.int 1))) (dCons (dVar 1) dNil)))))
  dNx)
  (dSeq (dSet 3 (dCall (r q2u) (dCons (dOp ixW (dVar 0) (dC (.int 1))) (dCons (dVar 1) dNil))))
  (dSeq (dSet 4 (dCall (r q2u) (dCons (dOp ixW (dVar 0) (dC (.int 2))) (dCons (dVar 1) dNil))))
  (dSeq (dIfS (dTest (dOp eq2 (dVar 2) (dC (.str "and"))))
  (dRet (dAndV (dVar 3) (dVar 4)))
  dNx)
  (dSeq (dIfS (dTest (dOp eq2 (dVar 2) (dC (.str "or"))))
  (dRet (dOrV (dVar 3) (dVar 4)))
  dNx)
  (dRet (dOp ne2 (dVar 3) (dVar 4)))))))))))
noncomputable def q38(K:PySem.W.Frag)(a:Adr)(r:Nat->List W->FR):List S->SR:=
 (dSeq (dIfS (dOr (dTest (dOp ltW (dVar 1) (dC (.int 0)))) (dTest (dOp geW (dVar 1) (dFn len1 (dCons (dVar 0) dNil)))))
  (dRaise a.NoPlace (dCons (dC (.str "there is nothing for a place of the form")) dNil))
  dNx)
  (dRet (dOp ixW (dVar 0) (dVar 1))))
noncomputable def q5c(K:PySem.W.Frag)(a:Adr)(r:Nat->List W->FR):Den W:=
 (dVar 0)
noncomputable def q28(K:PySem.W.Frag)(a:Adr)(r:Nat->List W->FR):List S->SR:=
 (dRet (dFn tup1 (dCons (dFz (dCompP [] (srcP (dOp ixW (dVar 0) (dC (.int 1)))) dYes (q5c K a r))) dNil)))
noncomputable def q5q(K:PySem.W.Frag)(a:Adr)(r:Nat->List W->FR):Den W:=
 (dVar 1)
noncomputable def q3n(K:PySem.W.Frag)(a:Adr)(r:Nat->List W->FR):List S->SR:=
 (dRetF (dCompP [] (srcP (dOp ixW (dVar 0) (dC (.int 1)))) dYes (q5q K a r)))
noncomputable def x04(K:PySem.W.Frag)(a:Adr)(r:Nat->List W->FR):Den W:=
 (dCall (r q2u) (dCons (dVar 0) (dCons (dVar 1) dNil)))
noncomputable def q3o(K:PySem.W.Frag)(a:Adr)(r:Nat->List W->FR):Den W:=
 (dCall (r q2u) (dCons (dVar 0) (dCons (dVar 1) dNil)))
noncomputable def q5r(K:PySem.W.Frag)(a:Adr)(r:Nat->List W->FR):List S->SR:=
 (dSeq (dSet 3 (dOp addX (dVar 2) (dVar 1)))
  (dSeq (dSet 4 (dFn tup1 (dCons (dFz (dComp [3] (dOp ixW (dVar 0) (dC (.int 2))) dYes (q3o K a r))) dNil)))
  (dRet (dTup (dCons (dVar 4) (dCons (dFn tup1 (dCons (dFz (dComp [3] (dCall (r q2c) (dCons (dVar 0) dNil)) dYes (x04 K a r))) dNil)) dNil))))))
noncomputable def q3p(K:PySem.W.Frag)(a:Adr)(r:Nat->List W->FR):List S->SR:=
 (dSeq (dSet 1 (dCall (r q23) (dCons (dOp ixW (dVar 0) (dC (.int 0))) dNil)))
  (dSeq (dSetNw 2 (dLamN (r q3m) 23 q1m [0,1] (dCall (r q16) (dCons (dVar 0) dNil))))
  (dRetNw (dTup (dCons (dTup (dCons (dFlat (dOp ixW (dVar 0) (dC (.int 0)))) (dCons (dFlat (dFn len1 (dCons (dOp ixW (dVar 0) (dC (.int 2))) dNil))) (dCons (dNIx 2 0) dNil)))) (dCons (dNIx 2 1) dNil))))))
noncomputable def q3e(K:PySem.W.Frag)(a:Adr)(r:Nat->List W->FR):List S->SR:=
 (dSeq (dIfS (dBorrowT (dTest (dOp ninT (dVar 8) (dVar 3))))
  (dSeq (dPutW 3 (dFnV 2 len1) (dVar 8))
  (dApp 2 (dCons (dVar 8) dNil)))
  dNx)
  (dApp 6 (dCons (dTup (dCons (dVar 7) (dCons (dBorrow (dOp ixT (dVar 3) (dVar 8))) dNil))) dNil)))
noncomputable def q31(K:PySem.W.Frag)(a:Adr)(r:Nat->List W->FR):Den Bool:=
 (dTest (dOp ltW (dFnV 4 len1) (dFnV 2 len1)))
noncomputable def q32(K:PySem.W.Frag)(a:Adr)(r:Nat->List W->FR):List S->SR:=
 (dSeq (dSet 5 (dIxV 2 (dFnV 4 len1)))
  (dSeq (dSetO 6 (dLst dNil))
  (dSeq (dForP 7 8 (srcP (dCallV lams r 1 (dCons (dVar 5) dNil)))
  (q3e K a r))
  (dAppN 4 6))))
noncomputable def q4l(K:PySem.W.Frag)(a:Adr)(r:Nat->List W->FR):List S->SR:=
 (dSeq (dSetO 2 (dLst (dCons (dVar 0) dNil)))
  (dSeq (dSetDV 3 0 (.many .bl) (.int 0))
  (dSeq (dAcc0 4 (dLst dNil))
  (dSeq (whileD (q31 K a r)
  (q32 K a r) 1000000)
  (dRetNw (dTup (dCons (dNAcc 4) (dCons (dNOwn 2) dNil))))))))
noncomputable def q2v(K:PySem.W.Frag)(a:Adr)(r:Nat->List W->FR):List S->SR:=
 (dSeq (dIfS (dTest (dOp ltW (dVar 1) (dFn len1 (dCons (dVar 0) dNil))))
  (dRet (dOp ixW (dVar 0) (dVar 1)))
  dNx)
  (dRet (dC (.int 0))))
noncomputable def q3q(K:PySem.W.Frag)(a:Adr)(r:Nat->List W->FR):List S->SR:=
 (dSeq (dSet 2 (dOp modW (dOp mulW (dOp addX (dVar 0) (dOp mulW (dC (.int 7919)) (dVar 1))) (dC (.int 48271))) (dC (.int 2147483647))))
  (dRet (dOp modW (dOp addX (dOp addX (dOp mulW (dVar 2) (dVar 2)) (dOp mulW (dC (.int 7)) (dVar 2))) (dVar 1)) (dC (.int 2147483629)))))
noncomputable def q43(K:PySem.W.Frag)(a:Adr)(r:Nat->List W->FR):List S->SR:=
 (dSeq (dApp 2 (dCons (dOp eq2 (dOp modW (dVar 0) (dC (.int 2))) (dC (.int 1))) dNil))
  (dSet 0 (dOp fdivW (dVar 0) (dC (.int 2)))))
noncomputable def q39(K:PySem.W.Frag)(a:Adr)(r:Nat->List W->FR):List S->SR:=
 (dSeq (dSetO 2 (dLst dNil))
  (dSeq (dForR 3 rng1 (dCons (dVar 1) dNil)
  (q43 K a r))
  (dSeq (dMut0 2 List.reverse)
  (dRet (dFn tup1 (dCons (dVar 2) dNil))))))
noncomputable def q2w(K:PySem.W.Frag)(a:Adr)(r:Nat->List W->FR):List S->SR:=
 (dRet (dOp ixW (dFz (dLst (dCons (dC (.int 1)) (dCons (dC (.int 2)) (dCons (dC (.int 4)) (dCons (dC (.int 8)) dNil)))))) (dVar 0)))
noncomputable def q3f(K:PySem.W.Frag)(a:Adr)(r:Nat->List W->FR):List S->SR:=
 (dSeq (dSet 3 (dOp modW (dVar 0) (dC (.int 7))))
  (dSeq (dSet 4 (dOp fdivW (dVar 0) (dC (.int 7))))
  (dSeq (dIfS (dOr (dTest (dOp eq2 (dVar 3) (dC (.int 0)))) (dAnd (dTest (dOp eq2 (dVar 1) (dC (.int 0)))) (dOr (dTest (dOp eq2 (dVar 2) (dC (.int 0)))) (dTest (dOp eq2 (dVar 3) (dC (.int 1)))))))
  (dRet (dTup (dCons (dC (.str "is")) (dCons (dOp eq2 (dOp modW (dVar 4) (dC (.int 2))) (dC (.int 1))) dNil))))
  dNx)
  (dSeq (dIfS (dOr (dTest (dOp eq2 (dVar 2) (dC (.int 0)))) (dTest (dOp eq2 (dVar 3) (dC (.int 1)))))
  (dRet (dTup (dCons (dC (.str "at")) (dCons (dOp modW (dVar 4) (dVar 1)) dNil))))
  dNx)
  (dSeq (dSet 5 (dCall (r q1j) (dCons (dCall (r q07) (dCons (dVar 4) (dCons (dC (.int 1)) dNil))) (dCons (dVar 1) (dCons (dOp subW (dVar 2) (dC (.int 1))) dNil)))))
  (dSeq (dIfS (dTest (dOp eq2 (dVar 3) (dC (.int 2))))
  (dRet (dTup (dCons (dC (.str "not")) (dCons (dVar 5) dNil))))
  dNx)
  (dRet (dTup (dCons (dOp ixW (dFz (dLst (dCons (dC (.str "and")) (dCons (dC (.str "or")) (dCons (dC (.str "odd")) (dCons (dC (.str "odd")) dNil)))))) (dOp subW (dVar 3) (dC (.int 3)))) (dCons (dVar 5) (dCons (dCall (r q1j) (dCons (dCall (r q07) (dCons (dVar 4) (dCons (dC (.int 2)) dNil))) (dCons (dVar 1) (dCons (dOp subW (dVar 2) (dC (.int 1))) dNil)))) dNil)))))))))))
noncomputable def q14(K:PySem.W.Frag)(a:Adr)(r:Nat->List W->FR):List S->SR:=
 (dSeq (dSet 2 (dOp ixW (dVar 0) (dC (.int 0))))
  (dSeq (dIfS (dTest (dOp eq2 (dVar 2) (dC (.str "is"))))
  (dRet (dOp ixW (dVar 0) (dC (.int 1))))
  dNx)
  (dSeq (dIfS (dTest (dOp eq2 (dVar 2) (dC (.str "at"))))
  (dRet (dOp ixW (dVar 1) (dOp ixW (dVar 0) (dC (.int 1)))))
  dNx)
  (dSeq (dSet 3 (dCall (r q0z) (dCons (dOp ixW (dVar 0) (dC (.int 1))) (dCons (dVar 1) dNil))))
  (dSeq (dIfS (dTest (dOp eq2 (dVar 2) (dC (.str "not"))))
  (dRet (dNotV (dVar 3)))
  dNx)
  (dSeq (dSet 4 (dCall (r q0z) (dCons (dOp ixW (dVar 0) (dC (.int 2))) (dCons (dVar 1) dNil))))
  (dSeq (dIfS (dTest (dOp eq2 (dVar 2) (dC (.str "and"))))
  (dRet (dAndV (dVar 3) (dVar 4)))
  dNx)
  (dSeq (dIfS (dTest (dOp eq2 (dVar 2) (dC (.str "or"))))
  (dRet (dOrV (dVar 3) (dVar 4)))
  dNx)
  (dRet (dOp ne2 (dVar 3) (dVar 4)))))))))))
noncomputable def q2q(K:PySem.W.Frag)(a:Adr)(r:Nat->List W->FR):List S->SR:=
 (dSet 3 (dTup (dCons (dC (.str "and")) (dCons (dVar 3) (dCons (dTup (dCons (dC (.str "at")) (dCons (dOp addX (dVar 0) (dVar 4)) dNil))) dNil)))))
noncomputable def q2k(K:PySem.W.Frag)(a:Adr)(r:Nat->List W->FR):List S->SR:=
 (dSeq (dSet 3 (dTup (dCons (dC (.str "is")) (dCons (dC (.bl true)) dNil))))
  (dSeq (dIfS (dTest (dOp gtW (dVar 0) (dC (.int 0))))
  (dSet 3 (dTup (dCons (dC (.str "at")) (dCons (dC (.int 0)) dNil))))
  dNx)
  (dSeq (dForR 4 rng2 (dCons (dOp addX (dVar 2) (dC (.int 1))) (dCons (dVar 1) dNil))
  (q2q K a r))
  (dRet (dTup (dCons (dC (.str "odd")) (dCons (dTup (dCons (dC (.str "at")) (dCons (dOp addX (dVar 0) (dVar 2)) dNil))) (dCons (dVar 3) dNil))))))))
noncomputable def q4a(K:PySem.W.Frag)(a:Adr)(r:Nat->List W->FR):List S->SR:=
 (dIfS (dOr (dTest (dOp ltW (dOp modW (dVar 3) (dC (.int 3))) (dC (.int 2)))) (dTest (dOp eq2 (dVar 2) (dC (.int 0)))))
  (dSet 0 (dTup (dCons (dC (.str "not")) (dCons (dVar 0) dNil))))
  (dSet 0 (dTup (dCons (dOp ixW (dFz (dLst (dCons (dC (.str "odd")) (dCons (dC (.str "and")) dNil)))) (dOp modW (dVar 3) (dC (.int 2)))) (dCons (dVar 0) (dCons (dTup (dCons (dC (.str "or")) (dCons (dTup (dCons (dC (.str "at")) (dCons (dOp modW (dVar 3) (dVar 2)) dNil))) (dCons (dTup (dCons (dC (.str "is")) (dCons (dOp eq2 (dOp modW (dVar 3) (dC (.int 2))) (dC (.int 1))) dNil))) dNil)))) dNil))))))
noncomputable def q29(K:PySem.W.Frag)(a:Adr)(r:Nat->List W->FR):List S->SR:=
 (dSeq (dForR 3 rng1 (dCons (dVar 1) dNil)
  (q4a K a r))
  (dRet (dVar 0)))
noncomputable def q2e(K:PySem.W.Frag)(a:Adr)(r:Nat->List W->FR):List S->SR:=
 (dApp 9 (dCons (dCall (r q1j) (dCons (dCall (r q07) (dCons (dCall (r q0x) (dCons (dVar 0) (dCons (dOp addX (dC (.int 6)) (dVar 6)) dNil))) (dCons (dOp addX (dC (.int 9)) (dVar 6)) dNil))) (dCons (dOp addX (dVar 2) (dVar 3)) (dCons (dVar 4) dNil)))) dNil))
noncomputable def q2f(K:PySem.W.Frag)(a:Adr)(r:Nat->List W->FR):List S->SR:=
 (dSeq (dSet 7 (dCall (r q07) (dCons (dCall (r q0x) (dCons (dVar 0) (dCons (dOp addX (dC (.int 2)) (dVar 6)) dNil))) (dCons (dVar 6) dNil))))
  (dSeq (dSet 8 (dCall (r q1j) (dCons (dOp fdivW (dVar 7) (dC (.int 2))) (dCons (dOp addX (dVar 2) (dVar 3)) (dCons (dVar 4) dNil)))))
  (dSeq (dIfS (dTest (dOp eq2 (dOp modW (dCall (r q0x) (dCons (dVar 0) (dCons (dC (.int 1)) dNil))) (dC (.int 3))) (dC (.int 1))))
  (dSet 8 (dCall (r q1w) (dCons (dVar 2) (dCons (dVar 3) (dCons (dVar 6) dNil)))))
  dNx)
  (dApp 5 (dCons (dTup (dCons (dOp eq2 (dOp modW (dVar 7) (dC (.int 2))) (dC (.int 1))) (dCons (dVar 8) dNil))) dNil)))))
noncomputable def q2x(K:PySem.W.Frag)(a:Adr)(r:Nat->List W->FR):List S->SR:=
 (dSeq (dSet 1 (dCall (r q0x) (dCons (dVar 0) (dCons (dC (.int 0)) dNil))))
  (dSeq (dSet 2 (dOp modW (dVar 1) (dC (.int 4))))
  (dSeq (dSet 3 (dOp modW (dOp fdivW (dVar 1) (dC (.int 4))) (dC (.int 5))))
  (dSeq (dSet 4 (dOp modW (dOp fdivW (dVar 1) (dC (.int 140))) (dC (.int 4))))
  (dSeq (dIfS (dTest (dOp gtW (dOp addX (dVar 2) (dVar 3)) (dC (.int 5))))
  (dSet 4 (dOp modW (dVar 4) (dC (.int 2))))
  dNx)
  (dSeq (dSetO 5 (dLst dNil))
  (dSeq (dForR 6 rng1 (dCons (dVar 3) dNil)
  (q2f K a r))
  (dSeq (dSetO 9 (dLst dNil))
  (dSeq (dForR 6 rng1 (dCons (dOp modW (dOp fdivW (dVar 1) (dC (.int 20))) (dC (.int 7))) dNil)
  (q2e K a r))
  (dSeq (dSet 10 (dOp fdivW (dCall (r q0x) (dCons (dVar 0) (dCons (dC (.int 1)) dNil))) (dC (.int 3))))
  (dSeq (dIfS (dAnd (dTest (dOp eq2 (dOp modW (dVar 10) (dC (.int 4))) (dC (.int 1)))) (dAnd (dTest (dOp ltW (dOp addX (dVar 2) (dVar 3)) (dC (.int 5)))) (dBorrowT (dTest (dOp ne2 (dVar 9) (dFz (dLst dNil)))))))
  (dPut 9 (dCall (r q0y) (dCons (dIxV 9 (dOp modW (dOp fdivW (dVar 10) (dC (.int 4))) (dFnV 9 len1))) (dCons (dOp modW (dOp fdivW (dVar 10) (dC (.int 28))) (dC (.int 50))) (dCons (dOp addX (dVar 2) (dVar 3)) dNil)))) (dOp modW (dOp fdivW (dVar 10) (dC (.int 4))) (dFnV 9 len1)))
  dNx)
  (dSeq (dIfS (dAnd (dTest (dOp eq2 (dOp modW (dVar 10) (dC (.int 4))) (dC (.int 2)))) (dAnd (dTest (dOp ltW (dOp addX (dVar 2) (dVar 3)) (dC (.int 5)))) (dTest (dOp gtW (dVar 3) (dC (.int 0))))))
  (dSeq (dSet2 11 8 (dIxV 5 (dOp modW (dOp fdivW (dVar 10) (dC (.int 4))) (dVar 3))))
  (dPut 5 (dTup (dCons (dVar 11) (dCons (dCall (r q0y) (dCons (dVar 8) (dCons (dOp modW (dOp fdivW (dVar 10) (dC (.int 28))) (dC (.int 50))) (dCons (dOp addX (dVar 2) (dVar 3)) dNil)))) dNil))) (dOp modW (dOp fdivW (dVar 10) (dC (.int 4))) (dVar 3))))
  dNx)
  (dRet (dTup (dCons (dVar 2) (dCons (dFn tup1 (dCons (dVar 5) dNil)) (dCons (dFn tup1 (dCons (dVar 9) dNil)) dNil)))))))))))))))))
noncomputable def q2a(K:PySem.W.Frag)(a:Adr)(r:Nat->List W->FR):Den W:=
 (dCall (r q0z) (dCons (dOp ixW (dVar 0) (dC (.int 1))) (dCons (dVar 1) dNil)))
noncomputable def q2b(K:PySem.W.Frag)(a:Adr)(r:Nat->List W->FR):Den W:=
 (dCall (r q0z) (dCons (dVar 0) (dCons (dVar 1) dNil)))
noncomputable def q3r(K:PySem.W.Frag)(a:Adr)(r:Nat->List W->FR):List S->SR:=
 (dSeq (dSet 3 (dOp addX (dVar 2) (dVar 1)))
  (dSeq (dSet 4 (dFn tup1 (dCons (dFz (dComp [3] (dOp ixW (dVar 0) (dC (.int 2))) dYes (q2b K a r))) dNil)))
  (dRet (dTup (dCons (dVar 4) (dCons (dFn tup1 (dCons (dFz (dComp [3] (dOp ixW (dVar 0) (dC (.int 1))) dYes (q2a K a r))) dNil)) dNil))))))
noncomputable def q2r(K:PySem.W.Frag)(a:Adr)(r:Nat->List W->FR):List S->SR:=
 (dSeq (dSet 5 (dCall (r q2d) (dCons (dVar 0) (dCons (dOp ixW (dVar 1) (dVar 3)) (dCons (dCall (r q25) (dCons (dVar 4) (dCons (dOp ixW (dVar 0) (dC (.int 0))) dNil))) dNil)))))
  (dIfS (dOr (dTest (dOp ninB (dOp ixW (dVar 5) (dC (.int 1))) (dVar 1))) (dTest (dOp ne2 (dFn repr1 (dCons (dOp ixW (dVar 2) (dVar 4)) dNil)) (dFn repr1 (dCons (dTup (dCons (dOp ixW (dVar 5) (dC (.int 0))) (dCons (dMeth "list" indexB (dVar 1) (dCons (dOp ixW (dVar 5) (dC (.int 1))) dNil)) dNil))) dNil)))))
  (dRet (dC (.bl false)))
  dNx))
noncomputable def q2l(K:PySem.W.Frag)(a:Adr)(r:Nat->List W->FR):List S->SR:=
 (dSeq (dForR 4 rng1 (dCons (dCall (r q1b) (dCons (dOp ixW (dVar 0) (dC (.int 0))) dNil)) dNil)
  (q2r K a r))
  (dRet (dC (.bl true))))
noncomputable def q1y(K:PySem.W.Frag)(a:Adr)(r:Nat->List W->FR):List S->SR:=
 (dSeq (dIfS (dTest (dOp gtW (dOp ixW (dVar 3) (dC (.int 1))) (dVar 1)))
  (dRet (dC (.bl false)))
  dNx)
  (dSet 1 (dFn max2 (dCons (dVar 1) (dCons (dOp addX (dOp ixW (dVar 3) (dC (.int 1))) (dC (.int 1))) dNil)))))
noncomputable def q3z(K:PySem.W.Frag)(a:Adr)(r:Nat->List W->FR):List S->SR:=
 (dSeq (dIfS (dTest (dOp geW (dVar 2) (dVar 1)))
  (dRet (dC (.bl false)))
  dNx)
  (dFor 3 (dOp ixW (dVar 0) (dVar 2))
  (q1y K a r)))
noncomputable def q2m(K:PySem.W.Frag)(a:Adr)(r:Nat->List W->FR):List S->SR:=
 (dSeq (dSet 1 (dC (.int 1)))
  (dSeq (dForR 2 rng1 (dCons (dFn len1 (dCons (dVar 0) dNil)) dNil)
  (q3z K a r))
  (dRet (dOp eq2 (dVar 1) (dFn len1 (dCons (dVar 0) dNil))))))
noncomputable def x4s(K:PySem.W.Frag)(a:Adr)(r:Nat->List W->FR):Den W:=
 (dOp ixW (dVar 0) (dC (.int 0)))
noncomputable def q90(K:PySem.W.Frag)(a:Adr)(r:Nat->List W->FR):List S->SR:=
 (dSeq (dIfS (dOr (dNot (dTru (dIsi K (.type "list") (dOp ixW (dOp ixW (dVar 3) (dC (.int 2))) (dVar 5))))) (dTest (dOp ne2 (dFn len1 (dCons (dOp ixW (dOp ixW (dVar 3) (dC (.int 2))) (dVar 5)) dNil)) (dCall (r q1b) (dCons (dOp ixW (dVar 1) (dC (.int 0))) dNil)))))
  (dRet (dC (.bl false)))
  dNx)
  (dIfS (dNot (dTru (dCall (r q1n) (dCons (dVar 1) (dCons (dVar 4) (dCons (dOp ixW (dOp ixW (dVar 3) (dC (.int 2))) (dVar 5)) (dCons (dVar 5) dNil)))))))
  (dRet (dC (.bl false)))
  dNx))
noncomputable def y6k(K:PySem.W.Frag)(a:Adr)(r:Nat->List W->FR):Den W:=
 (dVar 0)
noncomputable def x4t(K:PySem.W.Frag)(a:Adr)(r:Nat->List W->FR):Den Bool:=
 (dTest (dOp ne2 (dFn len1 (dCons (dVar 0) dNil)) (dCall (r q1b) (dCons (dOp ixW (dVar 1) (dC (.int 0))) dNil))))
noncomputable def q7u(K:PySem.W.Frag)(a:Adr)(r:Nat->List W->FR):List S->SR:=
 (dSeq (dSet 1 (dCall (r q1t) (dCons (dVar 0) dNil)))
  (dBase (dSeq (dSetNw 2 (dCallN (r q01) (dCons (dVar 1) dNil)))
  (dSeq (dIfS (dOr (dNot (dTru (dIsi K (.type "tuple") (dVar 2)))) (dOr (dTest (dOp ne2 (dFn len1 (dCons (dVar 2) dNil)) (dC (.int 2)))) (dNot (dTru (dIsi K (.type "list") (dOp ixW (dVar 2) (dC (.int 1))))))))
  (dRet (dC (.bl false)))
  dNx)
  (dSeq (dSet2N 3 4 (dNVar 2))
  (dSeq (dIfS (dOr (dNot (dTru (dIsi K (.type "tuple") (dVar 3)))) (dOr (dTest (dOp ne2 (dFn len1 (dCons (dVar 3) dNil)) (dC (.int 3)))) (dNot (dTru (dIsi K (.type "list") (dOp ixW (dVar 3) (dC (.int 2))))))))
  (dRet (dC (.bl false)))
  dNx)
  (dSeq (dIfS (dOr (dTest (dOp ne2 (dFn repr1 (dCons (dSlX (dVar 3) dNoPart (dPart (dC (.int 2)))) dNil)) (dFn repr1 (dCons (dTup (dCons (dOp ixW (dVar 1) (dC (.int 0))) (dCons (dFn len1 (dCons (dOp ixW (dVar 1) (dC (.int 2))) dNil)) dNil))) dNil)))) (dOr (dTest (dOp ne2 (dFn len1 (dCons (dVar 4) dNil)) (dFn len1 (dCons (dOp ixW (dVar 3) (dC (.int 2))) dNil)))) (dTest (dOp eq2 (dVar 4) (dFz (dLst dNil))))))
  (dRet (dC (.bl false)))
  dNx)
  (dSeq (dIfS (dOr (dTest (dOp ne2 (dFn repr1 (dCons (dOp ixW (dVar 4) (dC (.int 0))) dNil)) (dFn repr1 (dCons (dFn tup1 (dCons (dFz (dComp [] (dOp ixW (dVar 1) (dC (.int 1))) dYes (x4s K a r))) dNil)) dNil)))) (dTest (dOp ne2 (dUn lensetT1 (dVar 4)) (dFn len1 (dCons (dVar 4) dNil)))))
  (dRet (dC (.bl false)))
  dNx)
  (dSeq (dForR 5 rng1 (dCons (dFn len1 (dCons (dVar 4) dNil)) dNil)
  (q90 K a r))
  (dSeq (dSet 6 (dFn repr1 (dCons (dVar 2) dNil)))
  (dSeq (dSet 7 (dCall (r q1o) (dCons (dOp ixW (dVar 3) (dC (.int 2))) dNil)))
  (dSeq (dDrop (dCall (r q01) (dCons (dTup (dCons (dOp ixW (dVar 1) (dC (.int 0))) (dCons (dTup dNil) (dCons (dSlX (dOp ixW (dVar 1) (dC (.int 2))) dNoPart (dPart (dC (.int 0)))) dNil)))) dNil)))
  (dSeq (dDrop (dCall (r q01) (dCons (dTup (dCons (dOp ixW (dVar 1) (dC (.int 0))) (dCons (dTup (dCons (dTup (dCons (dC (.bl true)) (dCons (dTup (dCons (dC (.str "is")) (dCons (dC (.bl false)) dNil))) dNil))) dNil)) (dCons (dTup (dCons (dTup (dCons (dC (.str "at")) (dCons (dOp ixW (dVar 1) (dC (.int 0))) dNil))) dNil)) dNil)))) dNil)))
  (dSeq (dIfS (dTest (dOp ne2 (dFn repr1 (dCons (dVar 2) dNil)) (dVar 6)))
  (dRet (dC (.bl false)))
  dNx)
  (dMutH 3 4
  (dSeq (dIfS (dBorrowT (dTest (dOp ne2 (dFz (dComp [1] (dSlX (dOp ixW (dVar 3) (dC (.int 2))) (dPart (dC (.int 1))) dNoPart) (x4t K a r) (y6k K a r))) (dFz (dLst dNil)))))
  (dRet (dC (.bl false)))
  dNx)
  (dRet (dAndV (dVar 7) (dOp eq2 (dFn repr1 (dCons (dCall (r q01) (dCons (dVar 1) dNil)) dNil)) (dVar 6))))))))))))))))))))
noncomputable def body(K:PySem.W.Frag)(a:Adr)(r:Nat->List W->FR)(ws:List W):Nat->FR
 |0=>if ws.length=2 then(q42 K a r (init 5 ws)).fn else .no
 |1=>if ws.length=1 then(q30 K a r (init 3 ws)).fn else .no
 |2=>if ws.length=1 then(q37 K a r (init 1 ws)).fn else .no
 |3=>if ws.length=2 then(q3d K a r (init 5 ws)).fn else .no
 |4=>if ws.length=2 then(q38 K a r (init 2 ws)).fn else .no
 |5=>if ws.length=1 then(q28 K a r (init 1 ws)).fn else .no
 |6=>if ws.length=1 then(q3n K a r (init 1 ws)).fn else .no
 |7=>if ws.length=3 then(q5r K a r (init 5 ws)).fn else .no
 |8=>if ws.length=1 then(q3p K a r (init 3 ws)).fn else .no
 |9=>if ws.length=2 then(q4l K a r (init 9 ws)).fn else .no
 |10=>if ws.length=2 then(q2v K a r (init 2 ws)).fn else .no
 |11=>if ws.length=2 then(q3q K a r (init 3 ws)).fn else .no
 |12=>if ws.length=2 then(q39 K a r (init 4 ws)).fn else .no
 |13=>if ws.length=1 then(q2w K a r (init 1 ws)).fn else .no
 |14=>if ws.length=3 then(q3f K a r (init 6 ws)).fn else .no
 |15=>if ws.length=2 then(q14 K a r (init 5 ws)).fn else .no
 |16=>if ws.length=3 then(q2k K a r (init 5 ws)).fn else .no
 |17=>if ws.length=3 then(q29 K a r (init 4 ws)).fn else .no
 |18=>if ws.length=1 then(q2x K a r (init 12 ws)).fn else .no
 |19=>if ws.length=3 then(q3r K a r (init 5 ws)).fn else .no
 |20=>if ws.length=4 then(q2l K a r (init 6 ws)).fn else .no
 |21=>if ws.length=1 then(q2m K a r (init 4 ws)).fn else .no
 |22=>if ws.length=1 then(q7u K a r (init 8 ws)).fn else .no
 |23=>if ws.length=3 then exprFR (q2j K a r (ws.map .fr))else .no
 |_=>.no
noncomputable def run(K:PySem.W.Frag)(a:Adr):Nat->Nat->List W->FR
 |0,_,_=>.no
 |n+1,i,ws=>body K a (run K a n) ws i
theorem q88:run K a (n+1) q3l ws=if ws.length=2 then(q42 K a (run K a n) (init 5 ws)).fn else .no:=rfl
theorem q6m:run K a (n+1) q2o ws=if ws.length=1 then(q30 K a (run K a n) (init 3 ws)).fn else .no:=rfl
theorem q7d:run K a (n+1) q23 ws=if ws.length=1 then(q37 K a (run K a n) (init 1 ws)).fn else .no:=rfl
theorem q3s:run K a (n+1) q2u ws=if ws.length=2 then(q3d K a (run K a n) (init 5 ws)).fn else .no:=rfl
theorem q7e:run K a (n+1) q24 ws=if ws.length=2 then(q38 K a (run K a n) (init 2 ws)).fn else .no:=rfl
theorem q5d:run K a (n+1) q16 ws=if ws.length=1 then(q28 K a (run K a n) (init 1 ws)).fn else .no:=rfl
theorem q5s:run K a (n+1) q2c ws=if ws.length=1 then(q3n K a (run K a n) (init 1 ws)).fn else .no:=rfl
theorem x05:run K a (n+1) q4e ws=if ws.length=3 then(q5r K a (run K a n) (init 5 ws)).fn else .no:=rfl
theorem q5t:run K a (n+1) q01 ws=if ws.length=1 then(q3p K a (run K a n) (init 3 ws)).fn else .no:=rfl
theorem q74:run K a (n+1) q3m ws=if ws.length=2 then(q4l K a (run K a n) (init 9 ws)).fn else .no:=rfl
theorem q44:run K a (n+1) q0x ws=if ws.length=2 then(q2v K a (run K a n) (init 2 ws)).fn else .no:=rfl
theorem q5u:run K a (n+1) q07 ws=if ws.length=2 then(q3q K a (run K a n) (init 3 ws)).fn else .no:=rfl
theorem q7f:run K a (n+1) q25 ws=if ws.length=2 then(q39 K a (run K a n) (init 4 ws)).fn else .no:=rfl
theorem q45:run K a (n+1) q1b ws=if ws.length=1 then(q2w K a (run K a n) (init 1 ws)).fn else .no:=rfl
theorem q4o:run K a (n+1) q1j ws=if ws.length=3 then(q3f K a (run K a n) (init 6 ws)).fn else .no:=rfl
theorem q2y:run K a (n+1) q0z ws=if ws.length=2 then(q14 K a (run K a n) (init 5 ws)).fn else .no:=rfl
theorem q4p:run K a (n+1) q1w ws=if ws.length=3 then(q2k K a (run K a n) (init 5 ws)).fn else .no:=rfl
theorem q5e:run K a (n+1) q0y ws=if ws.length=3 then(q29 K a (run K a n) (init 4 ws)).fn else .no:=rfl
theorem q46:run K a (n+1) q1t ws=if ws.length=1 then(q2x K a (run K a n) (init 12 ws)).fn else .no:=rfl
theorem q5v:run K a (n+1) q2d ws=if ws.length=3 then(q3r K a (run K a n) (init 5 ws)).fn else .no:=rfl
theorem q4q:run K a (n+1) q1n ws=if ws.length=4 then(q2l K a (run K a n) (init 6 ws)).fn else .no:=rfl
theorem q4r:run K a (n+1) q1o ws=if ws.length=1 then(q2m K a (run K a n) (init 4 ws)).fn else .no:=rfl
theorem x4u:run K a (n+1) q5b ws=if ws.length=1 then(q7u K a (run K a n) (init 8 ws)).fn else .no:=rfl
theorem q26:run K a (n+1) q1i ws=if ws.length=3 then exprFR (q2j K a (run K a n) (ws.map .fr))else .no:=rfl
section
variable{P:Program}{w:World}{base:Heap}
structure Mks(K:PySem.W.Frag)(mg:Str->Option Value):Prop where
 machine_of:∀f oc od fd sl,mg "machine_of"=some (.ref f)->K.lookup f=some ⟨oc,od,.func fd,sl⟩->MakK K "machine_of" fd.code
structure Ats(K:PySem.W.Frag)(mg:Str->Option Value):Prop where
 row_of:At K mg "row_of" q2p ["number", "many"]
 rows_many:At K mg "rows_many" q1u ["many"]
 all_rows:At K mg "all_rows" q1x ["many"]
 value:At K mg "value" q3c ["form", "row"]
 thing_at:At K mg "thing_at" q12 ["things", "place"]
 first_state:At K mg "first_state" q08 ["circuit"]
 next_forms:At K mg "next_forms" q1h ["circuit"]
 moved:At K mg "moved" q2h ["circuit", "state", "row"]
 machine_of:At K mg "machine_of" q09 ["circuit"]
 come_to:At K mg "come_to" q18 ["begin", "pairs_of"]
 _law_cell_at:At K mg "_law_cell_at" q1c ["_law_script", "_law_k"]
 _law_mixed:At K mg "_law_mixed" q1p ["_law_cell", "_law_k"]
 _law_row:At K mg "_law_row" q13 ["_law_number", "_law_many"]
 _law_rows_of:At K mg "_law_rows_of" q1d ["_law_many"]
 _law_form:At K mg "_law_form" q1v ["_law_cell", "_law_places", "_law_deep"]
 _law_value:At K mg "_law_value" q1q ["_law_form_here", "_law_row_here"]
 _law_counting:At K mg "_law_counting" q02 ["_law_many", "_law_size", "_law_k"]
 _law_taller:At K mg "_law_taller" q1k ["_law_form_here", "_law_many", "_law_places"]
 _law_circuit:At K mg "_law_circuit" q1e ["_law_script"]
 _law_moved:At K mg "_law_moved" q1a ["_law_circuit_here", "_law_state", "_law_row_here"]
 _law_state_is:At K mg "_law_state_is" q03 ["_law_circuit_here", "_law_held", "_law_state", "_law_at"]
 _law_numbered:At K mg "_law_numbered" q04 ["_law_states"]
 law:At K mg "law" q3i ["_law_script"]
structure Cals(P:Program)(w:World)(K:PySem.W.Frag)(mg:Str->Option Value)(base:Heap)(a:Adr)(n:Nat):Prop where
 row_of:Cal P w K mg base n "row_of" ["number", "many"] (spF K (run K a n q3l))
 rows_many:Cal P w K mg base n "rows_many" ["many"] (spF K (run K a n q2o))
 all_rows:Cal P w K mg base n "all_rows" ["many"] (spF K (run K a n q23))
 value:Cal P w K mg base n "value" ["form", "row"] (spF K (run K a n q2u))
 thing_at:Cal P w K mg base n "thing_at" ["things", "place"] (spF K (run K a n q24))
 first_state:Cal P w K mg base n "first_state" ["circuit"] (spF K (run K a n q16))
 next_forms:Cal P w K mg base n "next_forms" ["circuit"] (spF K (run K a n q2c))
 moved:Cal P w K mg base n "moved" ["circuit", "state", "row"] (spF K (run K a n q4e))
 machine_of:Cal P w K mg base n "machine_of" ["circuit"] (spF K (run K a n q01))
 come_to:Cal P w K mg base n "come_to" ["begin", "pairs_of"] (spF K (run K a n q3m))
 _law_cell_at:Cal P w K mg base n "_law_cell_at" ["_law_script", "_law_k"] (spF K (run K a n q0x))
 _law_mixed:Cal P w K mg base n "_law_mixed" ["_law_cell", "_law_k"] (spF K (run K a n q07))
 _law_row:Cal P w K mg base n "_law_row" ["_law_number", "_law_many"] (spF K (run K a n q25))
 _law_rows_of:Cal P w K mg base n "_law_rows_of" ["_law_many"] (spF K (run K a n q1b))
 _law_form:Cal P w K mg base n "_law_form" ["_law_cell", "_law_places", "_law_deep"] (spF K (run K a n q1j))
 _law_value:Cal P w K mg base n "_law_value" ["_law_form_here", "_law_row_here"] (spF K (run K a n q0z))
 _law_counting:Cal P w K mg base n "_law_counting" ["_law_many", "_law_size", "_law_k"] (spF K (run K a n q1w))
 _law_taller:Cal P w K mg base n "_law_taller" ["_law_form_here", "_law_many", "_law_places"] (spF K (run K a n q0y))
 _law_circuit:Cal P w K mg base n "_law_circuit" ["_law_script"] (spF K (run K a n q1t))
 _law_moved:Cal P w K mg base n "_law_moved" ["_law_circuit_here", "_law_state", "_law_row_here"] (spF K (run K a n q2d))
 _law_state_is:Cal P w K mg base n "_law_state_is" ["_law_circuit_here", "_law_held", "_law_state", "_law_at"] (spF K (run K a n q1n))
 _law_numbered:Cal P w K mg base n "_law_numbered" ["_law_states"] (spF K (run K a n q1o))
 law:Cal P w K mg base n "law" ["_law_script"] (spF K (run K a n q5b))
 lam:FnV P w K mg base (CX1 P w) n (spV K lams (run K a n))
structure CalsH(P:Program)(w:World)(K:PySem.W.Frag)(mg:Str->Option Value)(base:Heap)(a:Adr)(n:Nat):Prop where
 z:True
theorem y2b(B:Blt mg)(M:Exs K mg a)(C:Cals P w K mg base a n)(CH:CalsH P w K mg base a n)(BM:BMain base mg)(MK:Mks K mg){outer:List Env}(hr:Room n (A.deeper (PyProof.Rows.envOfC "row_of" (defScope q2p) s.heap.objs.size f cdv))):
  DSs Z (cxOf (CX1 P w) P w K mg base ["number", "many", "truths", "rest", "step"] "row_of" (defScope q2p) f cdv A outer s H E) (fun _=>E) (defBody q2p) (q42 K a (run K a n)):=
 (q0e (q5l 2 sc_row_of.nd (q2t q0b))
  (q0e (q0q 3 sc_row_of.nd (dv 0))
  (q0e (q3u 4 sc_row_of.nd PassesOwn.leaving rfl B.b_range (q0a (dv 1) q0b)
  (q0e (q5m 2 (q0a (q55 (q0h hr) (q05 (dv 3) q0c) q0c) q0b))
  (q0f (q0q 3 sc_row_of.nd (q15 (dv 3) q0c)))))
  (q0e (q00 (q3w (q0h hr) (dv 3) q0c)
  (q0f (x2b rais1 M.e_NoRow M.m_NoRow rfl (q0a q0u q0b)))
  q0r)
  (q0f (q0m (x7p rfl B.b_tuple B.b_reversed (dv 2))))))))
theorem x2x(h:run K a (n+1) q3l ws≠.no):ws.length=2/\(q42 K a (run K a n) (init 5 ws)).fn=run K a (n+1) q3l ws:=by
 rw[q88]at h |-;split at h
 ·rename_i hl;rw[if_pos hl];exact⟨hl,rfl⟩
 ·exact absurd rfl h
theorem x8w(B:Blt mg)(M:Exs K mg a)(C:Cals P w K mg base a n)(CH:CalsH P w K mg base a n)(BM:BMain base mg)(MK:Mks K mg)(A:Ats K mg):Cal P w K mg base (n+1) "row_of" ["number", "many"] (spF K (run K a (n+1) q3l)):=
 con A.row_of sc_row_of (fun ws hw=>(x2x hw).1) fun ws hw f cdv A outer s H E Z hr=>⟨_,y2b B M C CH BM MK hr,(x2x hw).2⟩
theorem x3t(B:Blt mg)(M:Exs K mg a)(C:Cals P w K mg base a n)(CH:CalsH P w K mg base a n)(BM:BMain base mg)(MK:Mks K mg){outer:List Env}(hr:Room n (A.deeper (PyProof.Rows.envOfC "rows_many" (defScope q1u) s.heap.objs.size f cdv))):
  DSs Z (cxOf (CX1 P w) P w K mg base ["many", "count", "place"] "rows_many" (defScope q1u) f cdv A outer s H E) (fun _=>E) (defBody q1u) (q30 K a (run K a n)):=
 (q0e (q0q 1 sc_rows_many.nd q0c)
  (q0e (q3u 2 sc_rows_many.nd PassesOwn.leaving rfl B.b_range (q0a (dv 0) q0b)
  (q0f (q0q 1 sc_rows_many.nd (q63 q0c (dv 1)))))
  (q0f (q0m (dv 1)))))
theorem q75(h:run K a (n+1) q2o ws≠.no):ws.length=1/\(q30 K a (run K a n) (init 3 ws)).fn=run K a (n+1) q2o ws:=by
 rw[q6m]at h |-;split at h
 ·rename_i hl;rw[if_pos hl];exact⟨hl,rfl⟩
 ·exact absurd rfl h
theorem x2y(B:Blt mg)(M:Exs K mg a)(C:Cals P w K mg base a n)(CH:CalsH P w K mg base a n)(BM:BMain base mg)(MK:Mks K mg)(A:Ats K mg):Cal P w K mg base (n+1) "rows_many" ["many"] (spF K (run K a (n+1) q2o)):=
 con A.rows_many sc_rows_many (fun ws hw=>(q75 hw).1) fun ws hw f cdv A outer s H E Z hr=>⟨_,x3t B M C CH BM MK hr,(q75 hw).2⟩
theorem x58(B:Blt mg)(M:Exs K mg a)(C:Cals P w K mg base a n)(CH:CalsH P w K mg base a n)(BM:BMain base mg)(MK:Mks K mg){outer:List Env}(hr:Room n (A.deeper (PyProof.Rows.envOfC "all_rows" (defScope q1x) s.heap.objs.size f cdv))):
  DSs Z (cxOf (CX1 P w) P w K mg base ["many"] "all_rows" (defScope q1x) f cdv A outer s H E) (fun _=>E) (defBody q1x) (q37 K a (run K a n)):=
 (q0f (x39 (x96 (x:="number") (Nf:=["many"]) (js:=[0]) (sc:=defScope q1x) (N:=["many"]) rfl B.b_range (q0a (q0n C.rows_many hr pass1 (q0a (dv 0) q0b)) q0b) (by decide +kernel)
   (fun _ _ _ _ _ _=>q3v)
   (fun _ _ _ _ _ _=>(q0n C.row_of hr passE (q0a (dv 0) (q0a (dv 1) q0b))))
   (fun _ _ _ _ _=>q17 0 (show(["number", "many"]:List Str).Nodup by decide +kernel)))))
theorem q89(h:run K a (n+1) q23 ws≠.no):ws.length=1/\(q37 K a (run K a n) (init 1 ws)).fn=run K a (n+1) q23 ws:=by
 rw[q7d]at h |-;split at h
 ·rename_i hl;rw[if_pos hl];exact⟨hl,rfl⟩
 ·exact absurd rfl h
theorem x3u(B:Blt mg)(M:Exs K mg a)(C:Cals P w K mg base a n)(CH:CalsH P w K mg base a n)(BM:BMain base mg)(MK:Mks K mg)(A:Ats K mg):Cal P w K mg base (n+1) "all_rows" ["many"] (spF K (run K a (n+1) q23)):=
 con A.all_rows x3r (fun ws hw=>(q89 hw).1) fun ws hw f cdv A outer s H E Z hr=>⟨_,x58 B M C CH BM MK hr,(q89 hw).2⟩
theorem y6l(B:Blt mg)(M:Exs K mg a)(C:Cals P w K mg base a n)(CH:CalsH P w K mg base a n)(BM:BMain base mg)(MK:Mks K mg){outer:List Env}(hr:Room n (A.deeper (PyProof.Rows.envOfC "value" (defScope q3c) s.heap.objs.size f cdv))):
  DSs Z (cxOf (CX1 P w) P w K mg base ["form", "row", "word", "left", "right"] "value" (defScope q3c) f cdv A outer s H E) (fun _=>E) (defBody q3c) (q3d K a (run K a n)):=
 (q0e (q0q 2 sc_value.nd (q0k (dv 0) q0c))
  (q0e (q00 (q1z (q0h hr) (dv 2) q0u)
  (q0f (q0m (q0k (dv 0) q0c)))
  q0r)
  (q0e (q00 (q1z (q0h hr) (dv 2) q0u)
  (q0f (q0m (q0n C.thing_at hr pass1 (q0a (dv 1) (q0a (q0k (dv 0) q0c) q0b)))))
  q0r)
  (q0e (q00 (q1z (q0h hr) (dv 2) q0u)
  (q0f (q0m (x63 (q0n C.value hr pass1 (q0a (q0k (dv 0) q0c) (q0a (dv 1) q0b))))))
  q0r)
  (q0e (q0q 3 sc_value.nd (q0n C.value hr pass1 (q0a (q0k (dv 0) q0c) (q0a (dv 1) q0b))))
  (q0e (q0q 4 sc_value.nd (q0n C.value hr pass1 (q0a (q0k (dv 0) q0c) (q0a (dv 1) q0b))))
  (q0e (q00 (q1z (q0h hr) (dv 2) q0u)
  (q0f (q0m (x17 (dv 3) (q60 (dv 4)))))
  q0r)
  (q0e (q00 (q1z (q0h hr) (dv 2) q0u)
  (q0f (q0m (y2p (dv 3) (q60 (dv 4)))))
  q0r)
  (q0f (q0m (y2t (q0h hr) (dv 3) (dv 4))))))))))))
theorem x4v(h:run K a (n+1) q2u ws≠.no):ws.length=2/\(q3d K a (run K a n) (init 5 ws)).fn=run K a (n+1) q2u ws:=by
 rw[q3s]at h |-;split at h
 ·rename_i hl;rw[if_pos hl];exact⟨hl,rfl⟩
 ·exact absurd rfl h
theorem y2c(B:Blt mg)(M:Exs K mg a)(C:Cals P w K mg base a n)(CH:CalsH P w K mg base a n)(BM:BMain base mg)(MK:Mks K mg)(A:Ats K mg):Cal P w K mg base (n+1) "value" ["form", "row"] (spF K (run K a (n+1) q2u)):=
 con A.value sc_value (fun ws hw=>(x4v hw).1) fun ws hw f cdv A outer s H E Z hr=>⟨_,y6l B M C CH BM MK hr,(x4v hw).2⟩
theorem x59(B:Blt mg)(M:Exs K mg a)(C:Cals P w K mg base a n)(CH:CalsH P w K mg base a n)(BM:BMain base mg)(MK:Mks K mg){outer:List Env}(hr:Room n (A.deeper (PyProof.Rows.envOfC "thing_at" (defScope q12) s.heap.objs.size f cdv))):
  DSs Z (cxOf (CX1 P w) P w K mg base ["things", "place"] "thing_at" (defScope q12) f cdv A outer s H E) (fun _=>E) (defBody q12) (q38 K a (run K a n)):=
 (q0e (q00 (dt_w (q3g (q7r (dv 1) q0c) (q3k (y2u (dv 1) (q2i B.b_len (q0a (dv 0) q0b))))))
  (q0f (x2b rais1 M.e_NoPlace M.m_NoPlace rfl (q0a q0u q0b)))
  q0r)
  (q0f (q0m (q0k (dv 0) (dv 1)))))
theorem q9a(h:run K a (n+1) q24 ws≠.no):ws.length=2/\(q38 K a (run K a n) (init 2 ws)).fn=run K a (n+1) q24 ws:=by
 rw[q7e]at h |-;split at h
 ·rename_i hl;rw[if_pos hl];exact⟨hl,rfl⟩
 ·exact absurd rfl h
theorem x3v(B:Blt mg)(M:Exs K mg a)(C:Cals P w K mg base a n)(CH:CalsH P w K mg base a n)(BM:BMain base mg)(MK:Mks K mg)(A:Ats K mg):Cal P w K mg base (n+1) "thing_at" ["things", "place"] (spF K (run K a (n+1) q24)):=
 con A.thing_at x3s (fun ws hw=>(q9a hw).1) fun ws hw f cdv A outer s H E Z hr=>⟨_,x59 B M C CH BM MK hr,(q9a hw).2⟩
theorem x1i(B:Blt mg)(M:Exs K mg a)(C:Cals P w K mg base a n)(CH:CalsH P w K mg base a n)(BM:BMain base mg)(MK:Mks K mg){outer:List Env}(hr:Room n (A.deeper (PyProof.Rows.envOfC "first_state" (defScope q08) s.heap.objs.size f cdv))):
  DSs Z (cxOf (CX1 P w) P w K mg base ["circuit"] "first_state" (defScope q08) f cdv A outer s H E) (fun _=>E) (defBody q08) (q28 K a (run K a n)):=
 (q0f (q0m (q22 B.b_tuple (q0a (q3h (x2g (x:="first") (y:="form") (Nf:=[]) (js:=[]) (sc:=defScope q08) (N:=["circuit"]) rfl (q8d (q0k (dv 0) q0c)) (by decide +kernel)
   (fun _ _ _ _ _ _=>q3v)
   (fun _ _ _ _ _ _=>(dv 0))
   (fun _ _ _ _ _=>x7w (show(["first", "form"]:List Str).Nodup by decide +kernel) rfl))) q0b))))
theorem q6n(h:run K a (n+1) q16 ws≠.no):ws.length=1/\(q28 K a (run K a n) (init 1 ws)).fn=run K a (n+1) q16 ws:=by
 rw[q5d]at h |-;split at h
 ·rename_i hl;rw[if_pos hl];exact⟨hl,rfl⟩
 ·exact absurd rfl h
theorem q91(B:Blt mg)(M:Exs K mg a)(C:Cals P w K mg base a n)(CH:CalsH P w K mg base a n)(BM:BMain base mg)(MK:Mks K mg)(A:Ats K mg):Cal P w K mg base (n+1) "first_state" ["circuit"] (spF K (run K a (n+1) q16)):=
 con A.first_state q9z (fun ws hw=>(q6n hw).1) fun ws hw f cdv A outer s H E Z hr=>⟨_,x1i B M C CH BM MK hr,(q6n hw).2⟩
theorem x2z(B:Blt mg)(M:Exs K mg a)(C:Cals P w K mg base a n)(CH:CalsH P w K mg base a n)(BM:BMain base mg)(MK:Mks K mg){outer:List Env}(hr:Room n (A.deeper (PyProof.Rows.envOfC "next_forms" (defScope q1h) s.heap.objs.size f cdv))):
  DSs Z (cxOf (CX1 P w) P w K mg base ["circuit"] "next_forms" (defScope q1h) f cdv A outer s H E) (fun _=>E) (defBody q1h) (q3n K a (run K a n)):=
 (q0f (x39 (x2g (x:="first") (y:="form") (Nf:=[]) (js:=[]) (sc:=defScope q1h) (N:=["circuit"]) rfl (q8d (q0k (dv 0) q0c)) (by decide +kernel)
   (fun _ _ _ _ _ _=>q3v)
   (fun _ _ _ _ _ _=>(dv 1))
   (fun _ _ _ _ _=>x7w (show(["first", "form"]:List Str).Nodup by decide +kernel) rfl))))
theorem q7g(h:run K a (n+1) q2c ws≠.no):ws.length=1/\(q3n K a (run K a n) (init 1 ws)).fn=run K a (n+1) q2c ws:=by
 rw[q5s]at h |-;split at h
 ·rename_i hl;rw[if_pos hl];exact⟨hl,rfl⟩
 ·exact absurd rfl h
theorem x1j(B:Blt mg)(M:Exs K mg a)(C:Cals P w K mg base a n)(CH:CalsH P w K mg base a n)(BM:BMain base mg)(MK:Mks K mg)(A:Ats K mg):Cal P w K mg base (n+1) "next_forms" ["circuit"] (spF K (run K a (n+1) q2c)):=
 con A.next_forms x1h (fun ws hw=>(q7g hw).1) fun ws hw f cdv A outer s H E Z hr=>⟨_,x2z B M C CH BM MK hr,(q7g hw).2⟩
theorem y6m(B:Blt mg)(M:Exs K mg a)(C:Cals P w K mg base a n)(CH:CalsH P w K mg base a n)(BM:BMain base mg)(MK:Mks K mg){outer:List Env}(hr:Room n (A.deeper (PyProof.Rows.envOfC "moved" (defScope q2h) s.heap.objs.size f cdv))):
  DSs Z (cxOf (CX1 P w) P w K mg base ["circuit", "state", "row", "truths", "told"] "moved" (defScope q2h) f cdv A outer s H E) (fun _=>E) (defBody q2h) (q5r K a (run K a n)):=
 (q0e (q0q 3 sc_moved.nd (q1l (dv 2) (dv 1)))
  (q0e (q0q 4 sc_moved.nd (q22 B.b_tuple (q0a (q3h (q4c (x:="form") (Nf:=["truths"]) (js:=[3]) (sc:=defScope q2h) (N:=["circuit", "state", "row", "truths", "told"]) rfl (q0k (dv 0) q0c) (by decide +kernel)
   (fun _ _ _ _ _ _=>q3v)
   (fun _ _ _ _ _ _=>(q0n C.value hr passE (q0a (dv 0) (q0a (dv 1) q0b))))
   (fun _ _ _ _ _=>q17 0 (show(["form", "truths"]:List Str).Nodup by decide +kernel)))) q0b)))
  (q0f (q0m (q0v (q0a (dv 4) (q0a (q22 B.b_tuple (q0a (q3h (q4c (x:="form") (Nf:=["truths"]) (js:=[3]) (sc:=defScope q2h) (N:=["circuit", "state", "row", "truths", "told"]) rfl (q0n C.next_forms hr pass1 (q0a (dv 0) q0b)) (by decide +kernel)
   (fun _ _ _ _ _ _=>q3v)
   (fun _ _ _ _ _ _=>(q0n C.value hr passE (q0a (dv 0) (q0a (dv 1) q0b))))
   (fun _ _ _ _ _=>q17 0 (show(["form", "truths"]:List Str).Nodup by decide +kernel)))) q0b)) q0b)))))))
theorem x4w(h:run K a (n+1) q4e ws≠.no):ws.length=3/\(q5r K a (run K a n) (init 5 ws)).fn=run K a (n+1) q4e ws:=by
 rw[x05]at h |-;split at h
 ·rename_i hl;rw[if_pos hl];exact⟨hl,rfl⟩
 ·exact absurd rfl h
theorem y2d(B:Blt mg)(M:Exs K mg a)(C:Cals P w K mg base a n)(CH:CalsH P w K mg base a n)(BM:BMain base mg)(MK:Mks K mg)(A:Ats K mg):Cal P w K mg base (n+1) "moved" ["circuit", "state", "row"] (spF K (run K a (n+1) q4e)):=
 con A.moved sc_moved (fun ws hw=>(x4w hw).1) fun ws hw f cdv A outer s H E Z hr=>⟨_,y6m B M C CH BM MK hr,(x4w hw).2⟩
theorem x20(B:Blt mg)(M:Exs K mg a)(C:Cals P w K mg base a n)(CH:CalsH P w K mg base a n)(BM:BMain base mg)(MK:Mks K mg){outer:List Env}(hr:Room n (A.deeper (PyProof.Rows.envOfC "machine_of" (defScope q09) s.heap.objs.size f cdv)))(hmk:MakK K "machine_of" cdv):
  DSs Z (cxOf (CX1 P w) P w K mg base ["circuit", "rows", "found"] "machine_of" (defScope q09) f cdv A outer s H E) (fun _=>E) (defBody q09) (q3p K a (run K a n)):=
 (q0e (q0q 1 sc_machine_of.nd (q0n C.all_rows hr pass1 (q0a (q0k (dv 0) q0c) q0b)))
  (q0e (x2o 2 sc_machine_of.nd (x3q 23 q1m C.come_to hr pass1 (z1h hmk BM) (fun _=>rfl) (q0n C.first_state hr pass1 (q0a (dv 0) q0b)) (sc:=defScope q09) (N:=["circuit", "rows", "found"]) (nf:=["circuit", "rows"]) (by decide +kernel)))
  (q0f (x2n (x2m (q33 (x2m (q33 (x4h (q0k (dv 0) q0c)) (q33 (x4h (q2i B.b_len (q0a (q0k (dv 0) q0c) q0b))) (q33 (y2y 2 0) q9x)))) (q33 (y2y 2 1) q9x)))))))
theorem q7h(h:run K a (n+1) q01 ws≠.no):ws.length=1/\(q3p K a (run K a n) (init 3 ws)).fn=run K a (n+1) q01 ws:=by
 rw[q5t]at h |-;split at h
 ·rename_i hl;rw[if_pos hl];exact⟨hl,rfl⟩
 ·exact absurd rfl h
theorem x1k(B:Blt mg)(M:Exs K mg a)(C:Cals P w K mg base a n)(CH:CalsH P w K mg base a n)(BM:BMain base mg)(MK:Mks K mg)(A:Ats K mg):Cal P w K mg base (n+1) "machine_of" ["circuit"] (spF K (run K a (n+1) q01)):=
 conM A.machine_of MK.machine_of sc_machine_of (fun ws hw=>(q7h hw).1) fun ws hw f cdv A outer s H E Z hr hmk=>⟨_,x20 B M C CH BM MK hr hmk,(q7h hw).2⟩
theorem x8x(B:Blt mg)(M:Exs K mg a)(C:Cals P w K mg base a n)(CH:CalsH P w K mg base a n)(BM:BMain base mg)(MK:Mks K mg){outer:List Env}(hr:Room n (A.deeper (PyProof.Rows.envOfC "come_to" (defScope q18) s.heap.objs.size f cdv)))(hz:Z.H=H/\Z.io=[]):
  DSs Z (cxOf (CX1 P w) P w K mg base ["begin", "pairs_of", "things", "numbers", "states", "thing", "state", "told", "follower"] "come_to" (defScope q18) f cdv A outer s H E) (fun _=>E) (defBody q18) (q4l K a (run K a n)):=
 (q0e (q5l 2 sc_come_to.nd (q2t (q0a (dv 0) q0b)))
  (q0e (y1t 3 0 (.many .bl) (w:=(.int 0)) M.nt (hu1 (q0h hr)) sc_come_to.nd q6t rfl)
  (q0e (y5o 4 hz.2 sc_come_to.nd (q2t q0b))
  (q0e (x92 1000000 PassesOwn.leaving (q7r (q4v 4 B.b_len) (q4v 2 B.b_len))
  (q0e (q0q 5 sc_come_to.nd (x2c 2 (q4v 4 B.b_len)))
  (q0e (q5l 6 sc_come_to.nd (q2t q0b))
  (q0e (y4u 7 8 sc_come_to.nd PassesOwn.leaving rfl (q8d (y1b 1 C.lam hr pass1 (q0a (dv 5) q0b) (pv 1)))
  (q0e (q00 (q67 fun _=>(y5f M.nt (q0h hr) (dv 8) (dv 3)))
  (q0e (y5g 3 M.nt (q0h hr) (q4v 2 B.b_len) (dv 8))
  (q0f (q5m 2 (q0a (dv 8) q0b))))
  q0r)
  (q0f (q5m 6 (q0a (q0v (q0a (dv 7) (q0a (x7y fun _=>(y9e M.nt (q0h hr) (dv 3) (dv 8))) q0b))) q0b)))))
  (q0f (y5p 4 6 hz.1))))))
  (q0f (x2n (x2m (q33 (y9m 4 hz.1) (q33 (y9l 2) q9x)))))))))
theorem x06(h:run K a (n+1) q3m ws≠.no):ws.length=2/\(q4l K a (run K a n) (init 9 ws)).fn=run K a (n+1) q3m ws:=by
 rw[q74]at h |-;split at h
 ·rename_i hl;rw[if_pos hl];exact⟨hl,rfl⟩
 ·exact absurd rfl h
theorem x6a(B:Blt mg)(M:Exs K mg a)(C:Cals P w K mg base a n)(CH:CalsH P w K mg base a n)(BM:BMain base mg)(MK:Mks K mg)(A:Ats K mg):Cal P w K mg base (n+1) "come_to" ["begin", "pairs_of"] (spF K (run K a (n+1) q3m)):=
 conZ A.come_to sc_come_to (fun ws hw=>(x06 hw).1) fun ws hw f cdv A outer s H E Z hr hz=>⟨_,x8x B M C CH BM MK hr hz,(x06 hw).2⟩
theorem q92(B:Blt mg)(M:Exs K mg a)(C:Cals P w K mg base a n)(CH:CalsH P w K mg base a n)(BM:BMain base mg)(MK:Mks K mg){outer:List Env}(hr:Room n (A.deeper (PyProof.Rows.envOfC "_law_cell_at" (defScope q1c) s.heap.objs.size f cdv))):
  DSs Z (cxOf (CX1 P w) P w K mg base ["_law_script", "_law_k"] "_law_cell_at" (defScope q1c) f cdv A outer s H E) (fun _=>E) (defBody q1c) (q2v K a (run K a n)):=
 (q0e (q00 (q7r (dv 1) (q2i B.b_len (q0a (dv 0) q0b)))
  (q0f (q0m (q0k (dv 0) (dv 1))))
  q0r)
  (q0f (q0m q0c)))
theorem q5w(h:run K a (n+1) q0x ws≠.no):ws.length=2/\(q2v K a (run K a n) (init 2 ws)).fn=run K a (n+1) q0x ws:=by
 rw[q44]at h |-;split at h
 ·rename_i hl;rw[if_pos hl];exact⟨hl,rfl⟩
 ·exact absurd rfl h
theorem q9b(B:Blt mg)(M:Exs K mg a)(C:Cals P w K mg base a n)(CH:CalsH P w K mg base a n)(BM:BMain base mg)(MK:Mks K mg)(A:Ats K mg):Cal P w K mg base (n+1) "_law_cell_at" ["_law_script", "_law_k"] (spF K (run K a (n+1) q0x)):=
 con A._law_cell_at q86 (fun ws hw=>(q5w hw).1) fun ws hw f cdv A outer s H E Z hr=>⟨_,q92 B M C CH BM MK hr,(q5w hw).2⟩
theorem x21(B:Blt mg)(M:Exs K mg a)(C:Cals P w K mg base a n)(CH:CalsH P w K mg base a n)(BM:BMain base mg)(MK:Mks K mg){outer:List Env}(hr:Room n (A.deeper (PyProof.Rows.envOfC "_law_mixed" (defScope q1p) s.heap.objs.size f cdv))):
  DSs Z (cxOf (CX1 P w) P w K mg base ["_law_cell", "_law_k", "_law_number"] "_law_mixed" (defScope q1p) f cdv A outer s H E) (fun _=>E) (defBody q1p) (q3q K a (run K a n)):=
 (q0e (q0q 2 sc__law_mixed.nd (q05 (q63 (q1l (dv 0) (q63 q0c (dv 1))) q0c) q0c))
  (q0f (q0m (q05 (q1l (q1l (q63 (dv 2) (dv 2)) (q63 q0c (dv 2))) (dv 1)) q0c))))
theorem q7i(h:run K a (n+1) q07 ws≠.no):ws.length=2/\(q3q K a (run K a n) (init 3 ws)).fn=run K a (n+1) q07 ws:=by
 rw[q5u]at h |-;split at h
 ·rename_i hl;rw[if_pos hl];exact⟨hl,rfl⟩
 ·exact absurd rfl h
theorem x1l(B:Blt mg)(M:Exs K mg a)(C:Cals P w K mg base a n)(CH:CalsH P w K mg base a n)(BM:BMain base mg)(MK:Mks K mg)(A:Ats K mg):Cal P w K mg base (n+1) "_law_mixed" ["_law_cell", "_law_k"] (spF K (run K a (n+1) q07)):=
 con A._law_mixed sc__law_mixed (fun ws hw=>(q7i hw).1) fun ws hw f cdv A outer s H E Z hr=>⟨_,x21 B M C CH BM MK hr,(q7i hw).2⟩
theorem x6b(B:Blt mg)(M:Exs K mg a)(C:Cals P w K mg base a n)(CH:CalsH P w K mg base a n)(BM:BMain base mg)(MK:Mks K mg){outer:List Env}(hr:Room n (A.deeper (PyProof.Rows.envOfC "_law_row" (defScope q13) s.heap.objs.size f cdv))):
  DSs Z (cxOf (CX1 P w) P w K mg base ["_law_number", "_law_many", "_law_row_here", "_law_step"] "_law_row" (defScope q13) f cdv A outer s H E) (fun _=>E) (defBody q13) (q39 K a (run K a n)):=
 (q0e (q5l 2 sc__law_row.nd (q2t q0b))
  (q0e (q3u 3 sc__law_row.nd PassesOwn.leaving rfl B.b_range (q0a (dv 1) q0b)
  (q0e (q5m 2 (q0a (q55 (q0h hr) (q05 (dv 0) q0c) q0c) q0b))
  (q0f (q0q 0 sc__law_row.nd (q15 (dv 0) q0c)))))
  (q0e (y89 2)
  (q0f (q0m (q22 B.b_tuple (q0a (dv 2) q0b)))))))
theorem q9c(h:run K a (n+1) q25 ws≠.no):ws.length=2/\(q39 K a (run K a n) (init 4 ws)).fn=run K a (n+1) q25 ws:=by
 rw[q7f]at h |-;split at h
 ·rename_i hl;rw[if_pos hl];exact⟨hl,rfl⟩
 ·exact absurd rfl h
theorem x3w(B:Blt mg)(M:Exs K mg a)(C:Cals P w K mg base a n)(CH:CalsH P w K mg base a n)(BM:BMain base mg)(MK:Mks K mg)(A:Ats K mg):Cal P w K mg base (n+1) "_law_row" ["_law_number", "_law_many"] (spF K (run K a (n+1) q25)):=
 con A._law_row sc__law_row (fun ws hw=>(q9c hw).1) fun ws hw f cdv A outer s H E Z hr=>⟨_,x6b B M C CH BM MK hr,(q9c hw).2⟩
theorem q93(B:Blt mg)(M:Exs K mg a)(C:Cals P w K mg base a n)(CH:CalsH P w K mg base a n)(BM:BMain base mg)(MK:Mks K mg){outer:List Env}(hr:Room n (A.deeper (PyProof.Rows.envOfC "_law_rows_of" (defScope q1d) s.heap.objs.size f cdv))):
  DSs Z (cxOf (CX1 P w) P w K mg base ["_law_many"] "_law_rows_of" (defScope q1d) f cdv A outer s H E) (fun _=>E) (defBody q1d) (q2w K a (run K a n)):=
 (q0f (q0m (q0k (q3h (q2t (q0a q0c (q0a q0c (q0a q0c (q0a q0c q0b)))))) (dv 0))))
theorem q5x(h:run K a (n+1) q1b ws≠.no):ws.length=1/\(q2w K a (run K a n) (init 1 ws)).fn=run K a (n+1) q1b ws:=by
 rw[q45]at h |-;split at h
 ·rename_i hl;rw[if_pos hl];exact⟨hl,rfl⟩
 ·exact absurd rfl h
theorem q9d(B:Blt mg)(M:Exs K mg a)(C:Cals P w K mg base a n)(CH:CalsH P w K mg base a n)(BM:BMain base mg)(MK:Mks K mg)(A:Ats K mg):Cal P w K mg base (n+1) "_law_rows_of" ["_law_many"] (spF K (run K a (n+1) q1b)):=
 con A._law_rows_of q87 (fun ws hw=>(q5x hw).1) fun ws hw f cdv A outer s H E Z hr=>⟨_,q93 B M C CH BM MK hr,(q5x hw).2⟩
theorem x3x(B:Blt mg)(M:Exs K mg a)(C:Cals P w K mg base a n)(CH:CalsH P w K mg base a n)(BM:BMain base mg)(MK:Mks K mg){outer:List Env}(hr:Room n (A.deeper (PyProof.Rows.envOfC "_law_form" (defScope q1v) s.heap.objs.size f cdv))):
  DSs Z (cxOf (CX1 P w) P w K mg base ["_law_cell", "_law_places", "_law_deep", "_law_kind", "_law_left", "_law_one"] "_law_form" (defScope q1v) f cdv A outer s H E) (fun _=>E) (defBody q1v) (q3f K a (run K a n)):=
 (q0e (q0q 3 sc__law_form.nd (q05 (dv 0) q0c))
  (q0e (q0q 4 sc__law_form.nd (q15 (dv 0) q0c))
  (q0e (q00 (dt_w (q3g (q1z (q0h hr) (dv 3) q0c) (q3k (dt_w (q6z (q1z (q0h hr) (dv 1) q0c) (q9q (dt_w (q3g (q1z (q0h hr) (dv 2) q0c) (q3k (q1z (q0h hr) (dv 3) q0c))))))))))
  (q0f (q0m (q0v (q0a q0u (q0a (q55 (q0h hr) (q05 (dv 4) q0c) q0c) q0b)))))
  q0r)
  (q0e (q00 (dt_w (q3g (q1z (q0h hr) (dv 2) q0c) (q3k (q1z (q0h hr) (dv 3) q0c))))
  (q0f (q0m (q0v (q0a q0u (q0a (q05 (dv 4) (dv 1)) q0b)))))
  q0r)
  (q0e (q0q 5 sc__law_form.nd (q0n C._law_form hr pass1 (q0a (q0n C._law_mixed hr pass1 (q0a (dv 4) (q0a q0c q0b))) (q0a (dv 1) (q0a (x2f (dv 2) q0c) q0b)))))
  (q0e (q00 (q1z (q0h hr) (dv 3) q0c)
  (q0f (q0m (q0v (q0a q0u (q0a (dv 5) q0b)))))
  q0r)
  (q0f (q0m (q0v (q0a (q0k (q3h (q2t (q0a q0u (q0a q0u (q0a q0u (q0a q0u q0b)))))) (x2f (dv 3) q0c)) (q0a (dv 5) (q0a (q0n C._law_form hr pass1 (q0a (q0n C._law_mixed hr pass1 (q0a (dv 4) (q0a q0c q0b))) (q0a (dv 1) (q0a (x2f (dv 2) q0c) q0b)))) q0b))))))))))))
theorem q76(h:run K a (n+1) q1j ws≠.no):ws.length=3/\(q3f K a (run K a n) (init 6 ws)).fn=run K a (n+1) q1j ws:=by
 rw[q4o]at h |-;split at h
 ·rename_i hl;rw[if_pos hl];exact⟨hl,rfl⟩
 ·exact absurd rfl h
theorem x22(B:Blt mg)(M:Exs K mg a)(C:Cals P w K mg base a n)(CH:CalsH P w K mg base a n)(BM:BMain base mg)(MK:Mks K mg)(A:Ats K mg):Cal P w K mg base (n+1) "_law_form" ["_law_cell", "_law_places", "_law_deep"] (spF K (run K a (n+1) q1j)):=
 con A._law_form sc__law_form (fun ws hw=>(q76 hw).1) fun ws hw f cdv A outer s H E Z hr=>⟨_,x3x B M C CH BM MK hr,(q76 hw).2⟩
theorem x23(B:Blt mg)(M:Exs K mg a)(C:Cals P w K mg base a n)(CH:CalsH P w K mg base a n)(BM:BMain base mg)(MK:Mks K mg){outer:List Env}(hr:Room n (A.deeper (PyProof.Rows.envOfC "_law_value" (defScope q1q) s.heap.objs.size f cdv))):
  DSs Z (cxOf (CX1 P w) P w K mg base ["_law_form_here", "_law_row_here", "_law_word", "_law_one", "_law_other"] "_law_value" (defScope q1q) f cdv A outer s H E) (fun _=>E) (defBody q1q) (q14 K a (run K a n)):=
 (q0e (q0q 2 sc__law_value.nd (q0k (dv 0) q0c))
  (q0e (q00 (q1z (q0h hr) (dv 2) q0u)
  (q0f (q0m (q0k (dv 0) q0c)))
  q0r)
  (q0e (q00 (q1z (q0h hr) (dv 2) q0u)
  (q0f (q0m (q0k (dv 1) (q0k (dv 0) q0c))))
  q0r)
  (q0e (q0q 3 sc__law_value.nd (q0n C._law_value hr pass1 (q0a (q0k (dv 0) q0c) (q0a (dv 1) q0b))))
  (q0e (q00 (q1z (q0h hr) (dv 2) q0u)
  (q0f (q0m (x63 (dv 3))))
  q0r)
  (q0e (q0q 4 sc__law_value.nd (q0n C._law_value hr pass1 (q0a (q0k (dv 0) q0c) (q0a (dv 1) q0b))))
  (q0e (q00 (q1z (q0h hr) (dv 2) q0u)
  (q0f (q0m (x17 (dv 3) (q60 (dv 4)))))
  q0r)
  (q0e (q00 (q1z (q0h hr) (dv 2) q0u)
  (q0f (q0m (y2p (dv 3) (q60 (dv 4)))))
  q0r)
  (q0f (q0m (y2t (q0h hr) (dv 3) (dv 4))))))))))))
theorem q7j(h:run K a (n+1) q0z ws≠.no):ws.length=2/\(q14 K a (run K a n) (init 5 ws)).fn=run K a (n+1) q0z ws:=by
 rw[q2y]at h |-;split at h
 ·rename_i hl;rw[if_pos hl];exact⟨hl,rfl⟩
 ·exact absurd rfl h
theorem x1m(B:Blt mg)(M:Exs K mg a)(C:Cals P w K mg base a n)(CH:CalsH P w K mg base a n)(BM:BMain base mg)(MK:Mks K mg)(A:Ats K mg):Cal P w K mg base (n+1) "_law_value" ["_law_form_here", "_law_row_here"] (spF K (run K a (n+1) q0z)):=
 con A._law_value sc__law_value (fun ws hw=>(q7j hw).1) fun ws hw f cdv A outer s H E Z hr=>⟨_,x23 B M C CH BM MK hr,(q7j hw).2⟩
theorem q9e(B:Blt mg)(M:Exs K mg a)(C:Cals P w K mg base a n)(CH:CalsH P w K mg base a n)(BM:BMain base mg)(MK:Mks K mg){outer:List Env}(hr:Room n (A.deeper (PyProof.Rows.envOfC "_law_counting" (defScope q02) s.heap.objs.size f cdv))):
  DSs Z (cxOf (CX1 P w) P w K mg base ["_law_many", "_law_size", "_law_k", "_law_carry", "_law_j"] "_law_counting" (defScope q02) f cdv A outer s H E) (fun _=>E) (defBody q02) (q2k K a (run K a n)):=
 (q0e (q0q 3 sc__law_counting.nd (q0v (q0a q0u (q0a q21 q0b))))
  (q0e (q00 (x1q (dv 0) q0c)
  (q0f (q0q 3 sc__law_counting.nd (q0v (q0a q0u (q0a q0c q0b)))))
  q0r)
  (q0e (y3n 4 sc__law_counting.nd PassesOwn.leaving rfl B.b_range (q0a (q1l (dv 2) q0c) (q0a (dv 1) q0b))
  (q0f (q0q 3 sc__law_counting.nd (q0v (q0a q0u (q0a (dv 3) (q0a (q0v (q0a q0u (q0a (q1l (dv 0) (dv 4)) q0b))) q0b)))))))
  (q0f (q0m (q0v (q0a q0u (q0a (q0v (q0a q0u (q0a (q1l (dv 0) (dv 2)) q0b))) (q0a (dv 3) q0b)))))))))
theorem q5f(h:run K a (n+1) q1w ws≠.no):ws.length=3/\(q2k K a (run K a n) (init 5 ws)).fn=run K a (n+1) q1w ws:=by
 rw[q4p]at h |-;split at h
 ·rename_i hl;rw[if_pos hl];exact⟨hl,rfl⟩
 ·exact absurd rfl h
theorem q8j(B:Blt mg)(M:Exs K mg a)(C:Cals P w K mg base a n)(CH:CalsH P w K mg base a n)(BM:BMain base mg)(MK:Mks K mg)(A:Ats K mg):Cal P w K mg base (n+1) "_law_counting" ["_law_many", "_law_size", "_law_k"] (spF K (run K a (n+1) q1w)):=
 con A._law_counting sc__law_counting (fun ws hw=>(q5f hw).1) fun ws hw f cdv A outer s H E Z hr=>⟨_,q9e B M C CH BM MK hr,(q5f hw).2⟩
theorem x1n(B:Blt mg)(M:Exs K mg a)(C:Cals P w K mg base a n)(CH:CalsH P w K mg base a n)(BM:BMain base mg)(MK:Mks K mg){outer:List Env}(hr:Room n (A.deeper (PyProof.Rows.envOfC "_law_taller" (defScope q1k) s.heap.objs.size f cdv))):
  DSs Z (cxOf (CX1 P w) P w K mg base ["_law_form_here", "_law_many", "_law_places", "_law_k"] "_law_taller" (defScope q1k) f cdv A outer s H E) (fun _=>E) (defBody q1k) (q29 K a (run K a n)):=
 (q0e (q3u 3 sc__law_taller.nd PassesOwn.leaving rfl B.b_range (q0a (dv 1) q0b)
  (q0f (q00 (dt_w (q3g (q7r (q05 (dv 3) q0c) q0c) (q3k (q1z (q0h hr) (dv 2) q0c))))
  (q0f (q0q 0 sc__law_taller.nd (q0v (q0a q0u (q0a (dv 0) q0b)))))
  (q0f (q0q 0 sc__law_taller.nd (q0v (q0a (q0k (q3h (q2t (q0a q0u (q0a q0u q0b)))) (q05 (dv 3) q0c)) (q0a (dv 0) (q0a (q0v (q0a q0u (q0a (q0v (q0a q0u (q0a (q05 (dv 3) (dv 2)) q0b))) (q0a (q0v (q0a q0u (q0a (q55 (q0h hr) (q05 (dv 3) q0c) q0c) q0b))) q0b)))) q0b)))))))))
  (q0f (q0m (dv 0))))
theorem q6o(h:run K a (n+1) q0y ws≠.no):ws.length=3/\(q29 K a (run K a n) (init 4 ws)).fn=run K a (n+1) q0y ws:=by
 rw[q5e]at h |-;split at h
 ·rename_i hl;rw[if_pos hl];exact⟨hl,rfl⟩
 ·exact absurd rfl h
theorem q94(B:Blt mg)(M:Exs K mg a)(C:Cals P w K mg base a n)(CH:CalsH P w K mg base a n)(BM:BMain base mg)(MK:Mks K mg)(A:Ats K mg):Cal P w K mg base (n+1) "_law_taller" ["_law_form_here", "_law_many", "_law_places"] (spF K (run K a (n+1) q0y)):=
 con A._law_taller sc__law_taller (fun ws hw=>(q6o hw).1) fun ws hw f cdv A outer s H E Z hr=>⟨_,x1n B M C CH BM MK hr,(q6o hw).2⟩
theorem q95(B:Blt mg)(M:Exs K mg a)(C:Cals P w K mg base a n)(CH:CalsH P w K mg base a n)(BM:BMain base mg)(MK:Mks K mg){outer:List Env}(hr:Room n (A.deeper (PyProof.Rows.envOfC "_law_circuit" (defScope q1e) s.heap.objs.size f cdv))):
  DSs Z (cxOf (CX1 P w) P w K mg base ["_law_script", "_law_cell", "_law_many", "_law_size", "_law_deep", "_law_cells", "_law_k", "_law_left", "_law_form_here", "_law_outs", "_law_tall", "_law_first"] "_law_circuit" (defScope q1e) f cdv A outer s H E) (fun _=>E) (defBody q1e) (q2x K a (run K a n)):=
 (q0e (q0q 1 sc__law_circuit.nd (q0n C._law_cell_at hr pass1 (q0a (dv 0) (q0a q0c q0b))))
  (q0e (q0q 2 sc__law_circuit.nd (q05 (dv 1) q0c))
  (q0e (q0q 3 sc__law_circuit.nd (q05 (q15 (dv 1) q0c) q0c))
  (q0e (q0q 4 sc__law_circuit.nd (q05 (q15 (dv 1) q0c) q0c))
  (q0e (q00 (x1q (q1l (dv 2) (dv 3)) q0c)
  (q0f (q0q 4 sc__law_circuit.nd (q05 (dv 4) q0c)))
  q0r)
  (q0e (q5l 5 sc__law_circuit.nd (q2t q0b))
  (q0e (q3u 6 sc__law_circuit.nd PassesOwn.leaving rfl B.b_range (q0a (dv 3) q0b)
  (q0e (q0q 7 sc__law_circuit.nd (q0n C._law_mixed hr pass1 (q0a (q0n C._law_cell_at hr pass1 (q0a (dv 0) (q0a (q1l q0c (dv 6)) q0b))) (q0a (dv 6) q0b))))
  (q0e (q0q 8 sc__law_circuit.nd (q0n C._law_form hr pass1 (q0a (q15 (dv 7) q0c) (q0a (q1l (dv 2) (dv 3)) (q0a (dv 4) q0b)))))
  (q0e (q00 (q1z (q0h hr) (q05 (q0n C._law_cell_at hr pass1 (q0a (dv 0) (q0a q0c q0b))) q0c) q0c)
  (q0f (q0q 8 sc__law_circuit.nd (q0n C._law_counting hr pass1 (q0a (dv 2) (q0a (dv 3) (q0a (dv 6) q0b))))))
  q0r)
  (q0f (q5m 5 (q0a (q0v (q0a (q55 (q0h hr) (q05 (dv 7) q0c) q0c) (q0a (dv 8) q0b))) q0b)))))))
  (q0e (q5l 9 sc__law_circuit.nd (q2t q0b))
  (q0e (q3u 6 sc__law_circuit.nd PassesOwn.leaving rfl B.b_range (q0a (q05 (q15 (dv 1) q0c) q0c) q0b)
  (q0f (q5m 9 (q0a (q0n C._law_form hr pass1 (q0a (q0n C._law_mixed hr pass1 (q0a (q0n C._law_cell_at hr pass1 (q0a (dv 0) (q0a (q1l q0c (dv 6)) q0b))) (q0a (q1l q0c (dv 6)) q0b))) (q0a (q1l (dv 2) (dv 3)) (q0a (dv 4) q0b)))) q0b))))
  (q0e (q0q 10 sc__law_circuit.nd (q15 (q0n C._law_cell_at hr pass1 (q0a (dv 0) (q0a q0c q0b))) q0c))
  (q0e (q00 (dt_w (q6z (q1z (q0h hr) (q05 (dv 10) q0c) q0c) (q6z (q7r (q1l (dv 2) (dv 3)) q0c) (q9q (q67 fun _=>(q3w (q0h hr) (dv 9) (q3h (q2t q0b))))))))
  (q0f (x7s 9 (q0n C._law_taller hr pass1 (q0a (x2c 9 (q05 (q15 (dv 10) q0c) (q4v 9 B.b_len))) (q0a (q05 (q15 (dv 10) q0c) q0c) (q0a (q1l (dv 2) (dv 3)) q0b)))) (q05 (q15 (dv 10) q0c) (q4v 9 B.b_len))))
  q0r)
  (q0e (q00 (dt_w (q6z (q1z (q0h hr) (q05 (dv 10) q0c) q0c) (q6z (q7r (q1l (dv 2) (dv 3)) q0c) (q9q (x1q (dv 3) q0c)))))
  (q0e (y4w 11 8 sc__law_circuit.nd rfl (x2c 5 (q05 (q15 (dv 10) q0c) (dv 3))))
  (q0f (x7s 5 (q0v (q0a (dv 11) (q0a (q0n C._law_taller hr pass1 (q0a (dv 8) (q0a (q05 (q15 (dv 10) q0c) q0c) (q0a (q1l (dv 2) (dv 3)) q0b)))) q0b))) (q05 (q15 (dv 10) q0c) (dv 3)))))
  q0r)
  (q0f (q0m (q0v (q0a (dv 2) (q0a (q22 B.b_tuple (q0a (dv 5) q0b)) (q0a (q22 B.b_tuple (q0a (dv 9) q0b)) q0b))))))))))))))))))
theorem q5y(h:run K a (n+1) q1t ws≠.no):ws.length=1/\(q2x K a (run K a n) (init 12 ws)).fn=run K a (n+1) q1t ws:=by
 rw[q46]at h |-;split at h
 ·rename_i hl;rw[if_pos hl];exact⟨hl,rfl⟩
 ·exact absurd rfl h
theorem q9f(B:Blt mg)(M:Exs K mg a)(C:Cals P w K mg base a n)(CH:CalsH P w K mg base a n)(BM:BMain base mg)(MK:Mks K mg)(A:Ats K mg):Cal P w K mg base (n+1) "_law_circuit" ["_law_script"] (spF K (run K a (n+1) q1t)):=
 con A._law_circuit sc__law_circuit (fun ws hw=>(q5y hw).1) fun ws hw f cdv A outer s H E Z hr=>⟨_,q95 B M C CH BM MK hr,(q5y hw).2⟩
theorem x24(B:Blt mg)(M:Exs K mg a)(C:Cals P w K mg base a n)(CH:CalsH P w K mg base a n)(BM:BMain base mg)(MK:Mks K mg){outer:List Env}(hr:Room n (A.deeper (PyProof.Rows.envOfC "_law_moved" (defScope q1a) s.heap.objs.size f cdv))):
  DSs Z (cxOf (CX1 P w) P w K mg base ["_law_circuit_here", "_law_state", "_law_row_here", "_law_whole", "_law_found"] "_law_moved" (defScope q1a) f cdv A outer s H E) (fun _=>E) (defBody q1a) (q3r K a (run K a n)):=
 (q0e (q0q 3 sc__law_moved.nd (q1l (dv 2) (dv 1)))
  (q0e (q0q 4 sc__law_moved.nd (q22 B.b_tuple (q0a (q3h (q4c (x:="_law_form_here") (Nf:=["_law_whole"]) (js:=[3]) (sc:=defScope q1a) (N:=["_law_circuit_here", "_law_state", "_law_row_here", "_law_whole", "_law_found"]) rfl (q0k (dv 0) q0c) (by decide +kernel)
   (fun _ _ _ _ _ _=>q3v)
   (fun _ _ _ _ _ _=>(q0n C._law_value hr passE (q0a (dv 0) (q0a (dv 1) q0b))))
   (fun _ _ _ _ _=>q17 0 (show(["_law_form_here", "_law_whole"]:List Str).Nodup by decide +kernel)))) q0b)))
  (q0f (q0m (q0v (q0a (dv 4) (q0a (q22 B.b_tuple (q0a (q3h (q4c (x:="_law_cell") (Nf:=["_law_whole"]) (js:=[3]) (sc:=defScope q1a) (N:=["_law_circuit_here", "_law_state", "_law_row_here", "_law_whole", "_law_found"]) rfl (q0k (dv 0) q0c) (by decide +kernel)
   (fun _ _ _ _ _ _=>q3v)
   (fun _ _ _ _ _ _=>(q0n C._law_value hr passE (q0a (q0k (dv 0) q0c) (q0a (dv 1) q0b))))
   (fun _ _ _ _ _=>q17 0 (show(["_law_cell", "_law_whole"]:List Str).Nodup by decide +kernel)))) q0b)) q0b)))))))
theorem q7k(h:run K a (n+1) q2d ws≠.no):ws.length=3/\(q3r K a (run K a n) (init 5 ws)).fn=run K a (n+1) q2d ws:=by
 rw[q5v]at h |-;split at h
 ·rename_i hl;rw[if_pos hl];exact⟨hl,rfl⟩
 ·exact absurd rfl h
theorem x1o(B:Blt mg)(M:Exs K mg a)(C:Cals P w K mg base a n)(CH:CalsH P w K mg base a n)(BM:BMain base mg)(MK:Mks K mg)(A:Ats K mg):Cal P w K mg base (n+1) "_law_moved" ["_law_circuit_here", "_law_state", "_law_row_here"] (spF K (run K a (n+1) q2d)):=
 con A._law_moved sc__law_moved (fun ws hw=>(q7k hw).1) fun ws hw f cdv A outer s H E Z hr=>⟨_,x24 B M C CH BM MK hr,(q7k hw).2⟩
theorem q9g(B:Blt mg)(M:Exs K mg a)(C:Cals P w K mg base a n)(CH:CalsH P w K mg base a n)(BM:BMain base mg)(MK:Mks K mg){outer:List Env}(hr:Room n (A.deeper (PyProof.Rows.envOfC "_law_state_is" (defScope q03) s.heap.objs.size f cdv))):
  DSs Z (cxOf (CX1 P w) P w K mg base ["_law_circuit_here", "_law_held", "_law_state", "_law_at", "_law_number", "_law_due"] "_law_state_is" (defScope q03) f cdv A outer s H E) (fun _=>E) (defBody q03) (q2l K a (run K a n)):=
 (q0e (q3u 4 sc__law_state_is.nd PassesOwn.leaving rfl B.b_range (q0a (q0n C._law_rows_of hr pass1 (q0a (q0k (dv 0) q0c) q0b)) q0b)
  (q0e (q0q 5 sc__law_state_is.nd (q0n C._law_moved hr pass1 (q0a (dv 0) (q0a (q0k (dv 1) (dv 3)) (q0a (q0n C._law_row hr pass1 (q0a (dv 4) (q0a (q0k (dv 0) q0c) q0b))) q0b)))))
  (q0f (q00 (dt_w (q3g (y6h (q0h hr) (q0k (dv 5) q0c) (dv 1)) (q3k (q3w (q0h hr) (q3x (q0h hr) hr.gd B.b_repr (q0a (q0k (dv 2) (dv 4)) q0b)) (q3x (q0h hr) hr.gd B.b_repr (q0a (q0v (q0a (q0k (dv 5) q0c) (q0a (x8q (q0h hr) (dv 1) (q0a (q0k (dv 5) q0c) q0b)) q0b))) q0b))))))
  (q0f (q0m q21))
  q0r))))
  (q0f (q0m q21)))
theorem q5g(h:run K a (n+1) q1n ws≠.no):ws.length=4/\(q2l K a (run K a n) (init 6 ws)).fn=run K a (n+1) q1n ws:=by
 rw[q4q]at h |-;split at h
 ·rename_i hl;rw[if_pos hl];exact⟨hl,rfl⟩
 ·exact absurd rfl h
theorem q8k(B:Blt mg)(M:Exs K mg a)(C:Cals P w K mg base a n)(CH:CalsH P w K mg base a n)(BM:BMain base mg)(MK:Mks K mg)(A:Ats K mg):Cal P w K mg base (n+1) "_law_state_is" ["_law_circuit_here", "_law_held", "_law_state", "_law_at"] (spF K (run K a (n+1) q1n)):=
 con A._law_state_is sc__law_state_is (fun ws hw=>(q5g hw).1) fun ws hw f cdv A outer s H E Z hr=>⟨_,q9g B M C CH BM MK hr,(q5g hw).2⟩
theorem q9h(B:Blt mg)(M:Exs K mg a)(C:Cals P w K mg base a n)(CH:CalsH P w K mg base a n)(BM:BMain base mg)(MK:Mks K mg){outer:List Env}(hr:Room n (A.deeper (PyProof.Rows.envOfC "_law_numbered" (defScope q04) s.heap.objs.size f cdv))):
  DSs Z (cxOf (CX1 P w) P w K mg base ["_law_states", "_law_known", "_law_at", "_law_pair"] "_law_numbered" (defScope q04) f cdv A outer s H E) (fun _=>E) (defBody q04) (q2m K a (run K a n)):=
 (q0e (q0q 1 sc__law_numbered.nd q0c)
  (q0e (q3u 2 sc__law_numbered.nd PassesOwn.leaving rfl B.b_range (q0a (q2i B.b_len (q0a (dv 0) q0b)) q0b)
  (q0e (q00 (y2u (dv 2) (dv 1))
  (q0f (q0m q21))
  q0r)
  (q0f (y7m 3 sc__law_numbered.nd PassesOwn.leaving rfl (q0k (dv 0) (dv 2))
  (q0e (q00 (x1q (q0k (dv 3) q0c) (dv 1))
  (q0f (q0m q21))
  q0r)
  (q0f (q0q 1 sc__law_numbered.nd (y4r rfl B.b_max (q0a (dv 1) (q0a (q1l (q0k (dv 3) q0c) q0c) q0b))))))))))
  (q0f (q0m (q55 (q0h hr) (dv 1) (q2i B.b_len (q0a (dv 0) q0b)))))))
theorem q5h(h:run K a (n+1) q1o ws≠.no):ws.length=1/\(q2m K a (run K a n) (init 4 ws)).fn=run K a (n+1) q1o ws:=by
 rw[q4r]at h |-;split at h
 ·rename_i hl;rw[if_pos hl];exact⟨hl,rfl⟩
 ·exact absurd rfl h
theorem q8l(B:Blt mg)(M:Exs K mg a)(C:Cals P w K mg base a n)(CH:CalsH P w K mg base a n)(BM:BMain base mg)(MK:Mks K mg)(A:Ats K mg):Cal P w K mg base (n+1) "_law_numbered" ["_law_states"] (spF K (run K a (n+1) q1o)):=
 con A._law_numbered sc__law_numbered (fun ws hw=>(q5h hw).1) fun ws hw f cdv A outer s H E Z hr=>⟨_,q9h B M C CH BM MK hr,(q5h hw).2⟩
theorem y2z(B:Blt mg)(M:Exs K mg a)(C:Cals P w K mg base a n)(CH:CalsH P w K mg base a n)(BM:BMain base mg)(MK:Mks K mg){outer:List Env}(hr:Room n (A.deeper (PyProof.Rows.envOfC "law" (defScope q3i) s.heap.objs.size f cdv)))(hz:Z.H=H/\Z.io=[]):
  DSs Z (cxOf (CX1 P w) P w K mg base ["_law_script", "_law_circuit_here", "_law_found", "_law_machine", "_law_held", "_law_at", "_law_kept", "_law_good"] "law" (defScope q3i) f cdv A outer s H E) (fun _=>E) (defBody q3i) (q7u K a (run K a n)):=
 (q0e (q0q 1 sc_law.nd (q0n C._law_circuit hr pass1 (q0a (dv 0) q0b)))
  (y1g hz.1 hz.2 fun _ hzb hG hio=>
  (q1s (x2o 2 sc_law.nd (y9n C.machine_of hr pass1 (q0a (dv 1) q0b)))
  (q1s (q00 (dt_w (q3g (q5k (q5j (q64 (c0:=.ty _) rfl (q5o PyProof.Rows.Boot.«tuple» B.b_tuple) B.b_isinstance (dv 2)))) (q3g (q3w (q0h hr) (q2i B.b_len (q0a (dv 2) q0b)) q0c) (q3k (q5k (q5j (q64 (c0:=.ty _) rfl (q5o PyProof.Rows.Boot.«list» B.b_list) B.b_isinstance (q0k (dv 2) q0c))))))))
  (q0f (q0m q21))
  q0r)
  (q1s (y1e 3 4 sc_law.nd rfl (y9k 2))
  (q1s (q00 (dt_w (q3g (q5k (q5j (q64 (c0:=.ty _) rfl (q5o PyProof.Rows.Boot.«tuple» B.b_tuple) B.b_isinstance (dv 3)))) (q3g (q3w (q0h hr) (q2i B.b_len (q0a (dv 3) q0b)) q0c) (q3k (q5k (q5j (q64 (c0:=.ty _) rfl (q5o PyProof.Rows.Boot.«list» B.b_list) B.b_isinstance (q0k (dv 3) q0c))))))))
  (q0f (q0m q21))
  q0r)
  (q1s (q00 (dt_w (q3g (q3w (q0h hr) (q3x (q0h hr) hr.gd B.b_repr (q0a (q69 (dv 3) q9s (q9t q0c)) q0b)) (q3x (q0h hr) hr.gd B.b_repr (q0a (q0v (q0a (q0k (dv 1) q0c) (q0a (q2i B.b_len (q0a (q0k (dv 1) q0c) q0b)) q0b))) q0b))) (q3g (q3w (q0h hr) (q2i B.b_len (q0a (dv 4) q0b)) (q2i B.b_len (q0a (q0k (dv 3) q0c) q0b))) (q3k (q1z (q0h hr) (dv 4) (q3h (q2t q0b)))))))
  (q0f (q0m q21))
  q0r)
  (q1s (q00 (dt_w (q3g (q3w (q0h hr) (q3x (q0h hr) hr.gd B.b_repr (q0a (q0k (dv 4) q0c) q0b)) (q3x (q0h hr) hr.gd B.b_repr (q0a (q22 B.b_tuple (q0a (q3h (q4c (x:="_law_cell") (Nf:=[]) (js:=[]) (sc:=defScope q3i) (N:=["_law_script", "_law_circuit_here", "_law_found", "_law_machine", "_law_held", "_law_at", "_law_kept", "_law_good"]) rfl (q0k (dv 1) q0c) (by decide +kernel)
   (fun _ _ _ _ _ _=>q3v)
   (fun _ _ _ _ _ _=>(q0k (dv 0) q0c))
   (fun _ _ _ _ _=>q17 0 (show(["_law_cell"]:List Str).Nodup by decide +kernel)))) q0b)) q0b))) (q3k (q3w (q0h hr) (x56 rfl (q0h hr) B.b_len B.b_set (dv 4)) (q2i B.b_len (q0a (dv 4) q0b))))))
  (q0f (q0m q21))
  q0r)
  (q1s (q3u 5 sc_law.nd PassesOwn.leaving rfl B.b_range (q0a (q2i B.b_len (q0a (dv 4) q0b)) q0b)
  (q0e (q00 (dt_w (q3g (q5k (q5j (q64 (c0:=.ty _) rfl (q5o PyProof.Rows.Boot.«list» B.b_list) B.b_isinstance (q0k (q0k (dv 3) q0c) (dv 5))))) (q3k (q3w (q0h hr) (q2i B.b_len (q0a (q0k (q0k (dv 3) q0c) (dv 5)) q0b)) (q0n C._law_rows_of hr pass1 (q0a (q0k (dv 1) q0c) q0b))))))
  (q0f (q0m q21))
  q0r)
  (q0f (q00 (q5k (q5j (q0n C._law_state_is hr pass1 (q0a (dv 1) (q0a (dv 4) (q0a (q0k (q0k (dv 3) q0c) (dv 5)) (q0a (dv 5) q0b)))))))
  (q0f (q0m q21))
  q0r))))
  (q1s (q0q 6 sc_law.nd (q3x (q0h hr) hr.gd B.b_repr (q0a (dv 2) q0b)))
  (q1s (q0q 7 sc_law.nd (q0n C._law_numbered hr pass1 (q0a (q0k (dv 3) q0c) q0b)))
  (q1s (x38 (q0n C.machine_of hr pass1 (q0a (q0v (q0a (q0k (dv 1) q0c) (q0a (q0v q0b) (q0a (q69 (q0k (dv 1) q0c) q9s (q9t q0c)) q0b)))) q0b)))
  (q1s (x38 (q0n C.machine_of hr pass1 (q0a (q0v (q0a (q0k (dv 1) q0c) (q0a (q0v (q0a (q0v (q0a q21 (q0a (q0v (q0a q0u (q0a q21 q0b))) q0b))) q0b)) (q0a (q0v (q0a (q0v (q0a q0u (q0a (q0k (dv 1) q0c) q0b))) q0b)) q0b)))) q0b)))
  (q1s (q00 (q3w (q0h hr) (q3x (q0h hr) hr.gd B.b_repr (q0a (dv 2) q0b)) (dv 6))
  (q0f (q0m q21))
  q0r)
  (x8t 3 4 M.nt hG hio
  (q1s (q00 (q67 fun _=>(q3w (q0h hr) (q3h (q4c (x:="_law_state") (Nf:=["_law_circuit_here"]) (js:=[1]) (sc:=defScope q3i) (N:=["_law_script", "_law_circuit_here", "_law_found", "_law_machine", "_law_held", "_law_at", "_law_kept", "_law_good"]) rfl (q69 (q0k (dv 3) q0c) (q9t q0c) q9s) (by decide +kernel)
   (fun _ _ _ _ _ _=>(y3q (q3w (q0h hr) (q2i B.b_len (q0a (dv 0) q0b)) (q0n C._law_rows_of hr passE (q0a (q0k (dv 1) q0c) q0b)))))
   (fun _ _ _ _ _ _=>(dv 0))
   (fun _ _ _ _ _=>q17 0 (show(["_law_state", "_law_circuit_here"]:List Str).Nodup by decide +kernel)))) (q3h (q2t q0b))))
  (q0f (q0m q21))
  q0r)
  (y1f (q0m (x17 (dv 7) (q60 (q55 (q0h hr) (q3x (q0h hr) hr.gd B.b_repr (q0a (q0n C.machine_of hr pass1 (q0a (dv 1) q0b)) q0b)) (dv 6))))))))))))))))))))))
theorem x1t(h:run K a (n+1) q5b ws≠.no):ws.length=1/\(q7u K a (run K a n) (init 8 ws)).fn=run K a (n+1) q5b ws:=by
 rw[x4u]at h |-;split at h
 ·rename_i hl;rw[if_pos hl];exact⟨hl,rfl⟩
 ·exact absurd rfl h
theorem y9y(B:Blt mg)(M:Exs K mg a)(C:Cals P w K mg base a n)(CH:CalsH P w K mg base a n)(BM:BMain base mg)(MK:Mks K mg)(A:Ats K mg):Cal P w K mg base (n+1) "law" ["_law_script"] (spF K (run K a (n+1) q5b)):=
 conZ A.law sc_law (fun ws hw=>(x1t hw).1) fun ws hw f cdv A outer s H E Z hr hz=>⟨_,y2z B M C CH BM MK hr hz,(x1t hw).2⟩
theorem allH(A:Ats K mg)(B:Blt mg)(M:Exs K mg a):∀n,CalsH P w K mg base a n
 |0=>⟨trivial⟩
 |n+1=>⟨trivial⟩
theorem q8m(B:Blt mg)(M:Exs K mg a)(C:Cals P w K mg base a n)(CH:CalsH P w K mg base a n):LamOkC P w K mg base n q1m "state" (run K a (n+1) q1i) where
 sc:=⟨rfl,rfl,rfl,rfl,fun _ _=>rfl,fun _=>rfl,by decide +kernel,by decide +kernel⟩
 bind:=fun cl pm c' ctv u=>rfl
 len:=fun ws h=>by
  rw[q26]at h;split at h
  ·assumption
  ·exact absurd rfl h
 body:=fun ws h Z f cd cl A outer s H hr=>⟨q2j K a (run K a n),(q3h (q4c (x:="row") (Nf:=["state", "circuit"]) (js:=[0,1]) (sc:=lamScope q3y) (N:=["state", "circuit", "rows"]) rfl (dv 2) (by decide +kernel)
   (fun _ _ _ _ _ _=>q3v)
   (fun _ _ _ _ _ _=>(q0n C.moved hr passE (q0a (dv 2) (q0a (dv 1) (q0a (dv 0) q0b)))))
   (fun _ _ _ _ _=>q17 0 (show(["row", "state", "circuit"]:List Str).Nodup by decide +kernel)))),by
  rw[q26]at h |-;split at h
  ·rename_i hl;rw[if_pos hl]
  ·exact absurd rfl h⟩
theorem okl(B:Blt mg)(M:Exs K mg a)(C:Cals P w K mg base a n)(CH:CalsH P w K mg base a n):FnV P w K mg base (CX1 P w) (n+1) (spV K lams (run K a (n+1))):=y6e fun i l h=>by
 unfold lams at h;split at h
 ·cases h;exact⟨_,q8m B M C CH⟩
 ·cases h
theorem all(A:Ats K mg)(B:Blt mg)(M:Exs K mg a)(BM:BMain base mg)(MK:Mks K mg):∀n,Cals P w K mg base a n
 |0=>⟨con0 A.row_of,con0 A.rows_many,con0 A.all_rows,con0 A.value,con0 A.thing_at,con0 A.first_state,con0 A.next_forms,con0 A.moved,con0 A.machine_of,con0 A.come_to,con0 A._law_cell_at,con0 A._law_mixed,con0 A._law_row,con0 A._law_rows_of,con0 A._law_form,con0 A._law_value,con0 A._law_counting,con0 A._law_taller,con0 A._law_circuit,con0 A._law_moved,con0 A._law_state_is,con0 A._law_numbered,con0 A.law,fnV0⟩
 |n+1=>⟨x8w B M (all A B M BM MK n) (allH A B M n) BM MK A,x2y B M (all A B M BM MK n) (allH A B M n) BM MK A,x3u B M (all A B M BM MK n) (allH A B M n) BM MK A,y2c B M (all A B M BM MK n) (allH A B M n) BM MK A,x3v B M (all A B M BM MK n) (allH A B M n) BM MK A,q91 B M (all A B M BM MK n) (allH A B M n) BM MK A,x1j B M (all A B M BM MK n) (allH A B M n) BM MK A,y2d B M (all A B M BM MK n) (allH A B M n) BM MK A,x1k B M (all A B M BM MK n) (allH A B M n) BM MK A,x6a B M (all A B M BM MK n) (allH A B M n) BM MK A,q9b B M (all A B M BM MK n) (allH A B M n) BM MK A,x1l B M (all A B M BM MK n) (allH A B M n) BM MK A,x3w B M (all A B M BM MK n) (allH A B M n) BM MK A,q9d B M (all A B M BM MK n) (allH A B M n) BM MK A,x22 B M (all A B M BM MK n) (allH A B M n) BM MK A,x1m B M (all A B M BM MK n) (allH A B M n) BM MK A,q8j B M (all A B M BM MK n) (allH A B M n) BM MK A,q94 B M (all A B M BM MK n) (allH A B M n) BM MK A,q9f B M (all A B M BM MK n) (allH A B M n) BM MK A,x1o B M (all A B M BM MK n) (allH A B M n) BM MK A,q8k B M (all A B M BM MK n) (allH A B M n) BM MK A,q8l B M (all A B M BM MK n) (allH A B M n) BM MK A,y9y B M (all A B M BM MK n) (allH A B M n) BM MK A,okl B M (all A B M BM MK n) (allH A B M n)⟩
theorem law_fn{fd:FuncData}(A:Ats K mg)(B:Blt mg)(M:Exs K mg a)(BM:BMain base mg)(MK:Mks K mg)(F:Fun K "law" "law" q3i f fd)(n:Nat):FnOk P w K mg base (CX1 P w) (n+1) f fd ["_law_script"] (spF K (run K a (n+1) q5b)):=
 conFZ F sc_law (fun ws hw=>(x1t hw).1) fun ws hw cdv A' outer s H E Z hr hz=>⟨_,y2z B M (all A B M BM MK n) (allH A B M n) BM MK hr hz,(x1t hw).2⟩
end
theorem mk{l:PySem.W.OpenLaw}{w:World}{h:Heap}{fa:Addr}(X:K.In h)(G:h.Ns mainGlobals mg)(hfa:mg "law"=some (.ref fa))
  {f0:Addr}{od0 an0:Option Addr}{sl0:Array (Option Value)}{oc0 kV0 dc0 pm0 cd0 ct0:Value}
  {f1:Addr}{od1 an1:Option Addr}{sl1:Array (Option Value)}{oc1 kV1 dc1 pm1 cd1 ct1:Value}
  {f2:Addr}{od2 an2:Option Addr}{sl2:Array (Option Value)}{oc2 kV2 dc2 pm2 cd2 ct2:Value}
  {f3:Addr}{od3 an3:Option Addr}{sl3:Array (Option Value)}{oc3 kV3 dc3 pm3 cd3 ct3:Value}
  {f4:Addr}{od4 an4:Option Addr}{sl4:Array (Option Value)}{oc4 kV4 dc4 pm4 cd4 ct4:Value}
  {f5:Addr}{od5 an5:Option Addr}{sl5:Array (Option Value)}{oc5 kV5 dc5 pm5 cd5 ct5:Value}
  {f6:Addr}{od6 an6:Option Addr}{sl6:Array (Option Value)}{oc6 kV6 dc6 pm6 cd6 ct6:Value}
  {f7:Addr}{od7 an7:Option Addr}{sl7:Array (Option Value)}{oc7 kV7 dc7 pm7 cd7 ct7:Value}
  {f8:Addr}{od8 an8:Option Addr}{sl8:Array (Option Value)}{oc8 kV8 dc8 pm8 cd8 ct8:Value}
  {f9:Addr}{od9 an9:Option Addr}{sl9:Array (Option Value)}{oc9 kV9 dc9 pm9 cd9 ct9:Value}
  {f10:Addr}{od10 an10:Option Addr}{sl10:Array (Option Value)}{oc10 kV10 dc10 pm10 cd10 ct10:Value}
  {f11:Addr}{od11 an11:Option Addr}{sl11:Array (Option Value)}{oc11 kV11 dc11 pm11 cd11 ct11:Value}
  {f12:Addr}{od12 an12:Option Addr}{sl12:Array (Option Value)}{oc12 kV12 dc12 pm12 cd12 ct12:Value}
  {f13:Addr}{od13 an13:Option Addr}{sl13:Array (Option Value)}{oc13 kV13 dc13 pm13 cd13 ct13:Value}
  {f14:Addr}{od14 an14:Option Addr}{sl14:Array (Option Value)}{oc14 kV14 dc14 pm14 cd14 ct14:Value}
  {f15:Addr}{od15 an15:Option Addr}{sl15:Array (Option Value)}{oc15 kV15 dc15 pm15 cd15 ct15:Value}
  {f16:Addr}{od16 an16:Option Addr}{sl16:Array (Option Value)}{oc16 kV16 dc16 pm16 cd16 ct16:Value}
  {f17:Addr}{od17 an17:Option Addr}{sl17:Array (Option Value)}{oc17 kV17 dc17 pm17 cd17 ct17:Value}
  {f18:Addr}{od18 an18:Option Addr}{sl18:Array (Option Value)}{oc18 kV18 dc18 pm18 cd18 ct18:Value}
  {f19:Addr}{od19 an19:Option Addr}{sl19:Array (Option Value)}{oc19 kV19 dc19 pm19 cd19 ct19:Value}
  {f20:Addr}{od20 an20:Option Addr}{sl20:Array (Option Value)}{oc20 kV20 dc20 pm20 cd20 ct20:Value}
  {f21:Addr}{od21 an21:Option Addr}{sl21:Array (Option Value)}{oc21 kV21 dc21 pm21 cd21 ct21:Value}
  {f22:Addr}{od22 an22:Option Addr}{sl22:Array (Option Value)}{oc22 kV22 dc22 pm22 cd22 ct22:Value}
  {A_CircuitError:Addr}
  {A_NoPlace:Addr}
  {A_NoRow:Addr}
  {cc8 PP8:Addr}
  (a0:PySem.W.nsIn K mainGlobals "row_of"=some (some (.ref f0)))
  (l0:K.lookup f0=some ⟨oc0,od0,.func (PySem.W.fnOf "row_of" "row_of" (defArgs q2p) (defBody q2p) (defScope q2p) .none kV0 dc0 pm0 an0 cd0 ct0),sl0⟩)
  (c0:PySem.W.codeIn K cd0 "row_of"=true)
  (k0:keepIn K (.ref f0)=true)
  (a1:PySem.W.nsIn K mainGlobals "rows_many"=some (some (.ref f1)))
  (l1:K.lookup f1=some ⟨oc1,od1,.func (PySem.W.fnOf "rows_many" "rows_many" (defArgs q1u) (defBody q1u) (defScope q1u) .none kV1 dc1 pm1 an1 cd1 ct1),sl1⟩)
  (c1:PySem.W.codeIn K cd1 "rows_many"=true)
  (k1:keepIn K (.ref f1)=true)
  (a2:PySem.W.nsIn K mainGlobals "all_rows"=some (some (.ref f2)))
  (l2:K.lookup f2=some ⟨oc2,od2,.func (PySem.W.fnOf "all_rows" "all_rows" (defArgs q1x) (defBody q1x) (defScope q1x) .none kV2 dc2 pm2 an2 cd2 ct2),sl2⟩)
  (c2:PySem.W.codeIn K cd2 "all_rows"=true)
  (k2:keepIn K (.ref f2)=true)
  (a3:PySem.W.nsIn K mainGlobals "value"=some (some (.ref f3)))
  (l3:K.lookup f3=some ⟨oc3,od3,.func (PySem.W.fnOf "value" "value" (defArgs q3c) (defBody q3c) (defScope q3c) .none kV3 dc3 pm3 an3 cd3 ct3),sl3⟩)
  (c3:PySem.W.codeIn K cd3 "value"=true)
  (k3:keepIn K (.ref f3)=true)
  (a4:PySem.W.nsIn K mainGlobals "thing_at"=some (some (.ref f4)))
  (l4:K.lookup f4=some ⟨oc4,od4,.func (PySem.W.fnOf "thing_at" "thing_at" (defArgs q12) (defBody q12) (defScope q12) .none kV4 dc4 pm4 an4 cd4 ct4),sl4⟩)
  (c4:PySem.W.codeIn K cd4 "thing_at"=true)
  (k4:keepIn K (.ref f4)=true)
  (a5:PySem.W.nsIn K mainGlobals "first_state"=some (some (.ref f5)))
  (l5:K.lookup f5=some ⟨oc5,od5,.func (PySem.W.fnOf "first_state" "first_state" (defArgs q08) (defBody q08) (defScope q08) .none kV5 dc5 pm5 an5 cd5 ct5),sl5⟩)
  (c5:PySem.W.codeIn K cd5 "first_state"=true)
  (k5:keepIn K (.ref f5)=true)
  (a6:PySem.W.nsIn K mainGlobals "next_forms"=some (some (.ref f6)))
  (l6:K.lookup f6=some ⟨oc6,od6,.func (PySem.W.fnOf "next_forms" "next_forms" (defArgs q1h) (defBody q1h) (defScope q1h) .none kV6 dc6 pm6 an6 cd6 ct6),sl6⟩)
  (c6:PySem.W.codeIn K cd6 "next_forms"=true)
  (k6:keepIn K (.ref f6)=true)
  (a7:PySem.W.nsIn K mainGlobals "moved"=some (some (.ref f7)))
  (l7:K.lookup f7=some ⟨oc7,od7,.func (PySem.W.fnOf "moved" "moved" (defArgs q2h) (defBody q2h) (defScope q2h) .none kV7 dc7 pm7 an7 cd7 ct7),sl7⟩)
  (c7:PySem.W.codeIn K cd7 "moved"=true)
  (k7:keepIn K (.ref f7)=true)
  (a8:PySem.W.nsIn K mainGlobals "machine_of"=some (some (.ref f8)))
  (l8:K.lookup f8=some ⟨oc8,od8,.func (PySem.W.fnOf "machine_of" "machine_of" (defArgs q09) (defBody q09) (defScope q09) .none kV8 dc8 pm8 an8 cd8 ct8),sl8⟩)
  (c8:PySem.W.codeIn K cd8 "machine_of"=true)
  (k8:keepIn K (.ref f8)=true)
  (a9:PySem.W.nsIn K mainGlobals "come_to"=some (some (.ref f9)))
  (l9:K.lookup f9=some ⟨oc9,od9,.func (PySem.W.fnOf "come_to" "come_to" (defArgs q18) (defBody q18) (defScope q18) .none kV9 dc9 pm9 an9 cd9 ct9),sl9⟩)
  (c9:PySem.W.codeIn K cd9 "come_to"=true)
  (k9:keepIn K (.ref f9)=true)
  (a10:PySem.W.nsIn K mainGlobals "_law_cell_at"=some (some (.ref f10)))
  (l10:K.lookup f10=some ⟨oc10,od10,.func (PySem.W.fnOf "_law_cell_at" "_law_cell_at" (defArgs q1c) (defBody q1c) (defScope q1c) .none kV10 dc10 pm10 an10 cd10 ct10),sl10⟩)
  (c10:PySem.W.codeIn K cd10 "_law_cell_at"=true)
  (k10:keepIn K (.ref f10)=true)
  (a11:PySem.W.nsIn K mainGlobals "_law_mixed"=some (some (.ref f11)))
  (l11:K.lookup f11=some ⟨oc11,od11,.func (PySem.W.fnOf "_law_mixed" "_law_mixed" (defArgs q1p) (defBody q1p) (defScope q1p) .none kV11 dc11 pm11 an11 cd11 ct11),sl11⟩)
  (c11:PySem.W.codeIn K cd11 "_law_mixed"=true)
  (k11:keepIn K (.ref f11)=true)
  (a12:PySem.W.nsIn K mainGlobals "_law_row"=some (some (.ref f12)))
  (l12:K.lookup f12=some ⟨oc12,od12,.func (PySem.W.fnOf "_law_row" "_law_row" (defArgs q13) (defBody q13) (defScope q13) .none kV12 dc12 pm12 an12 cd12 ct12),sl12⟩)
  (c12:PySem.W.codeIn K cd12 "_law_row"=true)
  (k12:keepIn K (.ref f12)=true)
  (a13:PySem.W.nsIn K mainGlobals "_law_rows_of"=some (some (.ref f13)))
  (l13:K.lookup f13=some ⟨oc13,od13,.func (PySem.W.fnOf "_law_rows_of" "_law_rows_of" (defArgs q1d) (defBody q1d) (defScope q1d) .none kV13 dc13 pm13 an13 cd13 ct13),sl13⟩)
  (c13:PySem.W.codeIn K cd13 "_law_rows_of"=true)
  (k13:keepIn K (.ref f13)=true)
  (a14:PySem.W.nsIn K mainGlobals "_law_form"=some (some (.ref f14)))
  (l14:K.lookup f14=some ⟨oc14,od14,.func (PySem.W.fnOf "_law_form" "_law_form" (defArgs q1v) (defBody q1v) (defScope q1v) .none kV14 dc14 pm14 an14 cd14 ct14),sl14⟩)
  (c14:PySem.W.codeIn K cd14 "_law_form"=true)
  (k14:keepIn K (.ref f14)=true)
  (a15:PySem.W.nsIn K mainGlobals "_law_value"=some (some (.ref f15)))
  (l15:K.lookup f15=some ⟨oc15,od15,.func (PySem.W.fnOf "_law_value" "_law_value" (defArgs q1q) (defBody q1q) (defScope q1q) .none kV15 dc15 pm15 an15 cd15 ct15),sl15⟩)
  (c15:PySem.W.codeIn K cd15 "_law_value"=true)
  (k15:keepIn K (.ref f15)=true)
  (a16:PySem.W.nsIn K mainGlobals "_law_counting"=some (some (.ref f16)))
  (l16:K.lookup f16=some ⟨oc16,od16,.func (PySem.W.fnOf "_law_counting" "_law_counting" (defArgs q02) (defBody q02) (defScope q02) .none kV16 dc16 pm16 an16 cd16 ct16),sl16⟩)
  (c16:PySem.W.codeIn K cd16 "_law_counting"=true)
  (k16:keepIn K (.ref f16)=true)
  (a17:PySem.W.nsIn K mainGlobals "_law_taller"=some (some (.ref f17)))
  (l17:K.lookup f17=some ⟨oc17,od17,.func (PySem.W.fnOf "_law_taller" "_law_taller" (defArgs q1k) (defBody q1k) (defScope q1k) .none kV17 dc17 pm17 an17 cd17 ct17),sl17⟩)
  (c17:PySem.W.codeIn K cd17 "_law_taller"=true)
  (k17:keepIn K (.ref f17)=true)
  (a18:PySem.W.nsIn K mainGlobals "_law_circuit"=some (some (.ref f18)))
  (l18:K.lookup f18=some ⟨oc18,od18,.func (PySem.W.fnOf "_law_circuit" "_law_circuit" (defArgs q1e) (defBody q1e) (defScope q1e) .none kV18 dc18 pm18 an18 cd18 ct18),sl18⟩)
  (c18:PySem.W.codeIn K cd18 "_law_circuit"=true)
  (k18:keepIn K (.ref f18)=true)
  (a19:PySem.W.nsIn K mainGlobals "_law_moved"=some (some (.ref f19)))
  (l19:K.lookup f19=some ⟨oc19,od19,.func (PySem.W.fnOf "_law_moved" "_law_moved" (defArgs q1a) (defBody q1a) (defScope q1a) .none kV19 dc19 pm19 an19 cd19 ct19),sl19⟩)
  (c19:PySem.W.codeIn K cd19 "_law_moved"=true)
  (k19:keepIn K (.ref f19)=true)
  (a20:PySem.W.nsIn K mainGlobals "_law_state_is"=some (some (.ref f20)))
  (l20:K.lookup f20=some ⟨oc20,od20,.func (PySem.W.fnOf "_law_state_is" "_law_state_is" (defArgs q03) (defBody q03) (defScope q03) .none kV20 dc20 pm20 an20 cd20 ct20),sl20⟩)
  (c20:PySem.W.codeIn K cd20 "_law_state_is"=true)
  (k20:keepIn K (.ref f20)=true)
  (a21:PySem.W.nsIn K mainGlobals "_law_numbered"=some (some (.ref f21)))
  (l21:K.lookup f21=some ⟨oc21,od21,.func (PySem.W.fnOf "_law_numbered" "_law_numbered" (defArgs q04) (defBody q04) (defScope q04) .none kV21 dc21 pm21 an21 cd21 ct21),sl21⟩)
  (c21:PySem.W.codeIn K cd21 "_law_numbered"=true)
  (k21:keepIn K (.ref f21)=true)
  (a22:PySem.W.nsIn K mainGlobals "law"=some (some (.ref f22)))
  (l22:K.lookup f22=some ⟨oc22,od22,.func (PySem.W.fnOf "law" "law" (defArgs q3i) (defBody q3i) (defScope q3i) .none kV22 dc22 pm22 an22 cd22 ct22),sl22⟩)
  (c22:PySem.W.codeIn K cd22 "law"=true)
  (k22:keepIn K (.ref f22)=true)
  (v8:cd8=.ref cc8)
  (h8:codeHdIn K cc8 PP8=true)
  (m8:(mainGlobals,markO PP8 (("machine_of"++".<locals>.")++"<lambda>"))∈K)
  (n_CircuitError:PySem.W.nsIn K mainGlobals "CircuitError"=some (some (.ref A_CircuitError)))
  (n_NoPlace:PySem.W.nsIn K mainGlobals "NoPlace"=some (some (.ref A_NoPlace)))
  (n_NoRow:PySem.W.nsIn K mainGlobals "NoRow"=some (some (.ref A_NoRow)))
  (z_isinstance:PySem.W.nsIn K mainGlobals "isinstance"=some none)
  (z_len:PySem.W.nsIn K mainGlobals "len"=some none)
  (z_list:PySem.W.nsIn K mainGlobals "list"=some none)
  (z_max:PySem.W.nsIn K mainGlobals "max"=some none)
  (z_range:PySem.W.nsIn K mainGlobals "range"=some none)
  (z_repr:PySem.W.nsIn K mainGlobals "repr"=some none)
  (z_reversed:PySem.W.nsIn K mainGlobals "reversed"=some none)
  (z_set:PySem.W.nsIn K mainGlobals "set"=some none)
  (z_tuple:PySem.W.nsIn K mainGlobals "tuple"=some none)
  (e_NoPlace:excIn K A_NoPlace A_CircuitError=true)
  (e_NoRow:excIn K A_NoRow A_CircuitError=true)
  (c_NoPlace:excClsIn K A_NoPlace=true)
  (c_NoRow:excClsIn K A_NoRow=true)
  (t_NoneType_tuple:kitOne K (.type "NoneType") (.type "tuple")=some false)
  (t_bool_tuple:kitOne K (.type "bool") (.type "tuple")=some false)
  (t_int_tuple:kitOne K (.type "int") (.type "tuple")=some false)
  (t_str_tuple:kitOne K (.type "str") (.type "tuple")=some false)
  (t_tuple_tuple:kitOne K (.type "tuple") (.type "tuple")=some true)
  (t_list_tuple:kitOne K (.type "list") (.type "tuple")=some false)
  (t_NoneType_list:kitOne K (.type "NoneType") (.type "list")=some false)
  (t_bool_list:kitOne K (.type "bool") (.type "list")=some false)
  (t_int_list:kitOne K (.type "int") (.type "list")=some false)
  (t_str_list:kitOne K (.type "str") (.type "list")=some false)
  (t_tuple_list:kitOne K (.type "tuple") (.type "list")=some false)
  (t_list_list:kitOne K (.type "list") (.type "list")=some true)
  (nt:NoTup K)
  (n:Nat)(hL:∀a:Adr,Exs K mg a->∀ns:List Int,ns.length<=63->run K a (n+1) q5b [.lst (ns.map .int)]=.ok (.fr (.bl true))):
  ∃fd:FuncData,(∀(s:Shared)(v:Value),BindsTo s fd ⟨[v],[]⟩ [("_law_script", v)])/\∀base:Heap,K.In base->base.Ns mainGlobals mg->BMain base mg->FnOk l.prog w K mg base (CX1 l.prog w) (n+1) fa fd ["_law_script"] (spLaw K):=by
 have e:=hfa.symm.trans (mg_of X G a22);cases e
 have A:Ats K mg:=⟨⟨⟨_,_,q0l (st:=q2p) l0 c0 k0,mg_of X G a0,(q0l (st:=q2p) l0 c0 k0).binds (ps:=["number", "many"]) fun _ _ _ _ _ _=>us2 fun _ _=>rfl⟩⟩,
  ⟨⟨_,_,q0l (st:=q1u) l1 c1 k1,mg_of X G a1,(q0l (st:=q1u) l1 c1 k1).binds (ps:=["many"]) fun _ _ _ _ _ _=>us1 fun _=>rfl⟩⟩,
  ⟨⟨_,_,q0l (st:=q1x) l2 c2 k2,mg_of X G a2,(q0l (st:=q1x) l2 c2 k2).binds (ps:=["many"]) fun _ _ _ _ _ _=>us1 fun _=>rfl⟩⟩,
  ⟨⟨_,_,q0l (st:=q3c) l3 c3 k3,mg_of X G a3,(q0l (st:=q3c) l3 c3 k3).binds (ps:=["form", "row"]) fun _ _ _ _ _ _=>us2 fun _ _=>rfl⟩⟩,
  ⟨⟨_,_,q0l (st:=q12) l4 c4 k4,mg_of X G a4,(q0l (st:=q12) l4 c4 k4).binds (ps:=["things", "place"]) fun _ _ _ _ _ _=>us2 fun _ _=>rfl⟩⟩,
  ⟨⟨_,_,q0l (st:=q08) l5 c5 k5,mg_of X G a5,(q0l (st:=q08) l5 c5 k5).binds (ps:=["circuit"]) fun _ _ _ _ _ _=>us1 fun _=>rfl⟩⟩,
  ⟨⟨_,_,q0l (st:=q1h) l6 c6 k6,mg_of X G a6,(q0l (st:=q1h) l6 c6 k6).binds (ps:=["circuit"]) fun _ _ _ _ _ _=>us1 fun _=>rfl⟩⟩,
  ⟨⟨_,_,q0l (st:=q2h) l7 c7 k7,mg_of X G a7,(q0l (st:=q2h) l7 c7 k7).binds (ps:=["circuit", "state", "row"]) fun _ _ _ _ _ _=>us3 fun _ _ _=>rfl⟩⟩,
  ⟨⟨_,_,q0l (st:=q09) l8 c8 k8,mg_of X G a8,(q0l (st:=q09) l8 c8 k8).binds (ps:=["circuit"]) fun _ _ _ _ _ _=>us1 fun _=>rfl⟩⟩,
  ⟨⟨_,_,q0l (st:=q18) l9 c9 k9,mg_of X G a9,(q0l (st:=q18) l9 c9 k9).binds (ps:=["begin", "pairs_of"]) fun _ _ _ _ _ _=>us2 fun _ _=>rfl⟩⟩,
  ⟨⟨_,_,q0l (st:=q1c) l10 c10 k10,mg_of X G a10,(q0l (st:=q1c) l10 c10 k10).binds (ps:=["_law_script", "_law_k"]) fun _ _ _ _ _ _=>us2 fun _ _=>rfl⟩⟩,
  ⟨⟨_,_,q0l (st:=q1p) l11 c11 k11,mg_of X G a11,(q0l (st:=q1p) l11 c11 k11).binds (ps:=["_law_cell", "_law_k"]) fun _ _ _ _ _ _=>us2 fun _ _=>rfl⟩⟩,
  ⟨⟨_,_,q0l (st:=q13) l12 c12 k12,mg_of X G a12,(q0l (st:=q13) l12 c12 k12).binds (ps:=["_law_number", "_law_many"]) fun _ _ _ _ _ _=>us2 fun _ _=>rfl⟩⟩,
  ⟨⟨_,_,q0l (st:=q1d) l13 c13 k13,mg_of X G a13,(q0l (st:=q1d) l13 c13 k13).binds (ps:=["_law_many"]) fun _ _ _ _ _ _=>us1 fun _=>rfl⟩⟩,
  ⟨⟨_,_,q0l (st:=q1v) l14 c14 k14,mg_of X G a14,(q0l (st:=q1v) l14 c14 k14).binds (ps:=["_law_cell", "_law_places", "_law_deep"]) fun _ _ _ _ _ _=>us3 fun _ _ _=>rfl⟩⟩,
  ⟨⟨_,_,q0l (st:=q1q) l15 c15 k15,mg_of X G a15,(q0l (st:=q1q) l15 c15 k15).binds (ps:=["_law_form_here", "_law_row_here"]) fun _ _ _ _ _ _=>us2 fun _ _=>rfl⟩⟩,
  ⟨⟨_,_,q0l (st:=q02) l16 c16 k16,mg_of X G a16,(q0l (st:=q02) l16 c16 k16).binds (ps:=["_law_many", "_law_size", "_law_k"]) fun _ _ _ _ _ _=>us3 fun _ _ _=>rfl⟩⟩,
  ⟨⟨_,_,q0l (st:=q1k) l17 c17 k17,mg_of X G a17,(q0l (st:=q1k) l17 c17 k17).binds (ps:=["_law_form_here", "_law_many", "_law_places"]) fun _ _ _ _ _ _=>us3 fun _ _ _=>rfl⟩⟩,
  ⟨⟨_,_,q0l (st:=q1e) l18 c18 k18,mg_of X G a18,(q0l (st:=q1e) l18 c18 k18).binds (ps:=["_law_script"]) fun _ _ _ _ _ _=>us1 fun _=>rfl⟩⟩,
  ⟨⟨_,_,q0l (st:=q1a) l19 c19 k19,mg_of X G a19,(q0l (st:=q1a) l19 c19 k19).binds (ps:=["_law_circuit_here", "_law_state", "_law_row_here"]) fun _ _ _ _ _ _=>us3 fun _ _ _=>rfl⟩⟩,
  ⟨⟨_,_,q0l (st:=q03) l20 c20 k20,mg_of X G a20,(q0l (st:=q03) l20 c20 k20).binds (ps:=["_law_circuit_here", "_law_held", "_law_state", "_law_at"]) fun _ _ _ _ _ _=>us4 fun _ _ _ _=>rfl⟩⟩,
  ⟨⟨_,_,q0l (st:=q04) l21 c21 k21,mg_of X G a21,(q0l (st:=q04) l21 c21 k21).binds (ps:=["_law_states"]) fun _ _ _ _ _ _=>us1 fun _=>rfl⟩⟩,
  ⟨⟨_,_,q0l (st:=q3i) l22 c22 k22,mg_of X G a22,(q0l (st:=q3i) l22 c22 k22).binds (ps:=["_law_script"]) fun _ _ _ _ _ _=>us1 fun _=>rfl⟩⟩⟩
 have B:Blt mg:=⟨mg_none_of X G z_isinstance,mg_none_of X G z_len,mg_none_of X G z_list,mg_none_of X G z_max,mg_none_of X G z_range,mg_none_of X G z_repr,mg_none_of X G z_reversed,mg_none_of X G z_set,mg_none_of X G z_tuple⟩;have M:Exs K mg ⟨A_CircuitError,A_NoPlace,A_NoRow⟩:=⟨trivial,mg_of X G n_CircuitError,mg_of X G n_NoPlace,mg_of X G n_NoRow,e_NoPlace,e_NoRow,c_NoPlace,c_NoRow,t_NoneType_tuple,t_bool_tuple,t_int_tuple,t_str_tuple,t_tuple_tuple,t_list_tuple,t_NoneType_list,t_bool_list,t_int_list,t_str_list,t_tuple_list,t_list_list,nt⟩
 have MK:Mks K mg:=⟨fun f oc od fd sl e1 e2=>by
  have z:=(mg_of X G a8).symm.trans e1;cases z;rw[l8]at e2;cases e2;exact⟨cc8,PP8,_,v8,h8,m8⟩⟩
 exact⟨_,fun s v=>.of_eq rfl,fun base _ _ BM=>(law_fn A B M BM MK (q0l (st:=q3i) l22 c22 k22) n).imp fun vs H Q E q=>x97 (hL _ M) q⟩
local macro_rules | `(tactic| walk_at "den") => do
 let l:=(("y6j y1c x8d y1d y09 y5h y5i y5k x79 y06 x99 y43 y44 y45 y46 y01 x73 x74 x7z x5v x70 x71 x5w x5x x5y x3n y0z x72 y00 y4z y40 y4x y0y y4y y9a y85 y0n y0o x7t x7u y4t y86 y87 y4v y0q y0r y0s y0t y0u y0v x7x y88 x5t y0w y0x y7x y7y y7z y70 y71 y72 y73 y3x y3t y3u y3v x98 y7u y7v y7w y3w z0h z0i z0j z0k y74 x5o x5p x7h y75 y76 y30 dC_s z0l z0m y31 y32 y77 y78 z0n y79 y33 y8a y8b z0o y34 y8c y8d y35 y8e y8f z0p z0q z0r y36 y8g y37 y8h y8i y38 y4a y4b y0c y4c y4d y0d x7i y0e x7j y8j y4e x7k x4d y4f y4g y4h y4i y4j y0g y8k x7l z0s y8o y8p y8q y4l y8r z0u z0v y0h x7m y4m y0i y8s y8t y4n y4o y0j x5q x5r y8u y0k x7n y4p y0l y8v y8w y8x y8y y8z y4q y80 z0w z0x z0y z0z z00 z01 z02 z03 z04 ix_t ix_l z05 z06 z07 z08 z09 z1a z1b z1c z1d z1e z1f sc_i sc_b sc_s sc_n sl_l at0 at1 at2 y82 rng1 rng2 init Option.map_some Option.bind_some List.map_cons List.map_nil List.length_cons List.length_nil List.replicate_succ List.replicate_zero List.cons_append List.nil_append List.getElem?_cons_zero List.getElem?_cons_succ List.set_cons_zero List.set_cons_succ if_true if_false decide_eq_true_eq reduceIte Bool.false_eq_true ite_true ite_false Nat.reduceSub Nat.reduceAdd Nat.reduceLeDiff Nat.zero_add Nat.le_refl Int.reduceLT Int.reduceLE Int.reduceNeg true_and and_true true_or or_true false_and and_false false_or or_false not_true_eq_false not_false_eq_true decide_true decide_false Bool.not_true Bool.not_false String.reduceEq Nat.reduceEqDiff y0m y84 Int.reduceToNat Int.reducePow Nat.reduceLT cast0 cast1 Int.reduceEq Int.reduceMod Int.reduceDiv Int.reduceAdd Int.reduceSub Int.reduceMul y9h z1i y0b y5q y1h y5r y5t y9o y5u y5v y9p y9q y5w y5y y1i y1j y1k y1l y1m y1n x8f y50 q84 x8g y51 y1o y9r y52 y9s y1p y1q y1r x8h y53 y1s y54 y55 y56 y57 y9t y3y y3z y8l y8m y8n z0t y0a y58 y39 y1u y1v y1w y59 y1x y9u y6a True.intro".splitOn " ").map fun s=>Lean.mkIdent s.toName).toArray
 `(tactic| try simp only [$[$l:ident],*])
section
theorem q47(n:Nat)(ns:List Int){k:Int}(hk:0<=k):run K a (n+1) q0x [.lst (ns.map .int),.int k]=.ok (.fr (.int (ns.getD k.toNat 0))):=by
 rw[q44];unfold q2v;walk_at "den"
 by_cases h:k<ns.length
 ·rw[if_pos (by simpa using h),y81 hk]
  have e:(ns.map W.int)[k.toNat]?=some (.int (ns.getD k.toNat 0)):=by
   have:k.toNat<ns.length:=by omega
   simp[List.getD,this]
  rw[e];walk_at "den"
 ·rw[if_neg (by simpa using h)]
  have:ns.getD k.toNat 0=0:=by
   have:¬k.toNat<ns.length:=by omega
   simp[List.getD,this]
  rw[this]
set_option genInjectivity true in
inductive Fm where
 |is (b:Bool)|at (p:Nat)|not (f:Fm)|and (f g:Fm)|or (f g:Fm)|odd (f g:Fm)
noncomputable def enc:Fm->W
 |.is b=>.tup [.str "is", .bl b]
 |.at p=>.tup [.str "at", .int p]
 |.not f=>.tup [.str "not", enc f]
 |.and f g=>.tup [.str "and", enc f,enc g]
 |.or f g=>.tup [.str "or", enc f,enc g]
 |.odd f g=>.tup [.str "odd", enc f,enc g]
noncomputable def Fm.depth:Fm->Nat
 |.is _=>1
 |.at _=>1
 |.not f=>f.depth+1
 |.and f g=>max f.depth g.depth+1
 |.or f g=>max f.depth g.depth+1
 |.odd f g=>max f.depth g.depth+1
def Fm.inb(m:Nat):Fm->Prop
 |.is _=>True
 |.at p=>p<m
 |.not f=>f.inb m
 |.and f g=>f.inb m/\g.inb m
 |.or f g=>f.inb m/\g.inb m
 |.odd f g=>f.inb m/\g.inb m
noncomputable def Fm.val(row:List Bool):Fm->Bool
 |.is b=>b
 |.at p=>row.getD p false
 |.not f=>!f.val row
 |.and f g=>f.val row&&g.val row
 |.or f g=>f.val row||g.val row
 |.odd f g=>f.val row != g.val row
theorem Fm.depth_pos:∀f:Fm,1<=f.depth
 |.is _=>w0f _
 |.at _=>w0f _
 |.not f=>by simp only[Fm.depth];omega
 |.and f g=>by simp only[Fm.depth];omega
 |.or f g=>by simp only[Fm.depth];omega
 |.odd f g=>by simp only[Fm.depth];omega
theorem x8y{p:Nat}(h:p<row.length):atI (row.map W.bl) (p:Int)=some (.bl (row.getD p false)):=by
 refine q19 ?_;simp[List.getD,h]
theorem x6c(n:Nat){p:Nat}(h:p<row.length):run K a (n+1) q24 [.tup (row.map .bl),.int p]=.ok (.fr (.bl (row.getD p false))):=by
 rw[q7e];unfold q38;walk_at "den";rw[if_neg (by omega),if_neg (by simpa using h)];walk_at "den";rw[x8y h];walk_at "den"
theorem q2z:∀(f:Fm)(n:Nat){row:List Bool},f.depth<=n->f.inb row.length->run K a (n+1) q2u [enc f,.tup (row.map .bl)]=.ok (.fr (.bl (f.val row)))
 |.is b,n,row,hd,hb=>by
  rw[q3s];unfold q3d;simp only[enc];walk_at "den";rfl
 |.at p,n,row,hd,hb=>by
  rw[q3s];unfold q3d;simp only[enc];walk_at "den";obtain⟨n,rfl⟩:∃k,n=k+1:=⟨n-1,by simp only[Fm.depth]at hd;omega⟩;rw[x6c n hb];walk_at "den";rfl
 |.not f,n,row,hd,hb=>by
  rw[q3s];unfold q3d;simp only[enc];walk_at "den";obtain⟨n,rfl⟩:∃k,n=k+1:=⟨n-1,by simp only[Fm.depth]at hd;omega⟩;rw[q2z f n (by simp only[Fm.depth]at hd;omega) hb];walk_at "den";rfl
 |.and f g,n,row,hd,hb=>by
  rw[q3s];unfold q3d;simp only[enc];walk_at "den";obtain⟨n,rfl⟩:∃k,n=k+1:=⟨n-1,by simp only[Fm.depth]at hd;omega⟩;rw[q2z f n (by simp only[Fm.depth]at hd;omega) hb.1];walk_at "den";rw[q2z g n (by simp only[Fm.depth]at hd;omega) hb.2];walk_at "den";simp only[Fm.val];cases f.val row<;>simp
 |.or f g,n,row,hd,hb=>by
  rw[q3s];unfold q3d;simp only[enc];walk_at "den";obtain⟨n,rfl⟩:∃k,n=k+1:=⟨n-1,by simp only[Fm.depth]at hd;omega⟩;rw[q2z f n (by simp only[Fm.depth]at hd;omega) hb.1];walk_at "den";rw[q2z g n (by simp only[Fm.depth]at hd;omega) hb.2];walk_at "den";simp only[Fm.val];cases f.val row<;>simp
 |.odd f g,n,row,hd,hb=>by
  rw[q3s];unfold q3d;simp only[enc];walk_at "den";obtain⟨n,rfl⟩:∃k,n=k+1:=⟨n-1,by simp only[Fm.depth]at hd;omega⟩;rw[q2z f n (by simp only[Fm.depth]at hd;omega) hb.1];walk_at "den";rw[q2z g n (by simp only[Fm.depth]at hd;omega) hb.2];walk_at "den";simp only[Fm.val];cases f.val row<;>cases g.val row<;>rfl
noncomputable def Fm.size:Fm->Nat
 |.is _=>1
 |.at _=>1
 |.not f=>f.size+1
 |.and f g=>f.size+g.size+1
 |.or f g=>f.size+g.size+1
 |.odd f g=>f.size+g.size+1
theorem len_range{lo hi:Int}:(rangeW lo hi).length=(hi-lo).toNat:=by simp[rangeW]
theorem q3a{a b:String}(h:a≠b):Str.ofString a≠Str.ofString b:=fun z=>h (q65 z)
theorem q3t:∀(f:Fm),depW (enc f)<=f.depth
 |.is b=>by simp[enc,depW,depWs,Fm.depth]
 |.at p=>by simp[enc,depW,depWs,Fm.depth]
 |.not f=>by have:=q3t f;simp[enc,depW,depWs,Fm.depth];omega
 |.and f g=>by have:=q3t f;have:=q3t g;simp[enc,depW,depWs,Fm.depth];omega
 |.or f g=>by have:=q3t f;have:=q3t g;simp[enc,depW,depWs,Fm.depth];omega
 |.odd f g=>by have:=q3t f;have:=q3t g;simp[enc,depW,depWs,Fm.depth];omega
theorem q9i:∀(fs:List Fm)(d:Nat),(∀f∈fs,f.depth<=d)->depWs (fs.map enc)<=d
 |[],d,_=>w1a _
 |f::fs,d,h=>by
  have h1:=q3t f;have h2:=h f (by simp);have h3:=q9i fs d fun x hx=>h x (by simp[hx])
  show max (depW (enc f)) (depWs (fs.map enc))<=d;omega
theorem q6g(n:Nat){w:Str}{f g:Fm}(h1:w≠"is")(h2:w≠"at")(h3:w≠"not")
  (i1:run K a n q0z [enc f,.tup (row.map .bl)]=.ok (.fr (.bl (f.val row))))(i2:run K a n q0z [enc g,.tup (row.map .bl)]=.ok (.fr (.bl (g.val row)))):
  run K a (n+1) q0z [.tup [.str w,enc f,enc g],.tup (row.map .bl)]=.ok (.fr (.bl (if w="and" then f.val row&&g.val row else if w="or" then f.val row||g.val row else f.val row != g.val row))):=by
 rw[q2y];unfold q14;walk_at "den";rw[if_neg h1,if_neg h2,i1];walk_at "den";rw[if_neg h3,i2];walk_at "den"
 by_cases ha:w="and"
 ·rw[if_pos ha,if_pos ha];cases f.val row<;>simp
 ·rw[if_neg ha,if_neg ha]
  by_cases ho:w="or"
  ·rw[if_pos ho,if_pos ho];cases f.val row<;>simp
  ·rw[if_neg ho,if_neg ho];cases f.val row<;>cases g.val row<;>rfl
theorem q2n:∀(f:Fm)(n:Nat){row:List Bool},f.depth<=n->f.inb row.length->run K a n q0z [enc f,.tup (row.map .bl)]=.ok (.fr (.bl (f.val row)))
 |.is b,n,row,hd,hb=>by
  obtain⟨n,rfl⟩:∃k,n=k+1:=⟨n-1,by simp only[Fm.depth]at hd;omega⟩;rw[q2y];unfold q14;simp only[enc];walk_at "den";rfl
 |.at p,n,row,hd,hb=>by
  obtain⟨n,rfl⟩:∃k,n=k+1:=⟨n-1,by simp only[Fm.depth]at hd;omega⟩;rw[q2y];unfold q14;simp only[enc];walk_at "den";rw[x8y hb];walk_at "den";rfl
 |.not f,n,row,hd,hb=>by
  obtain⟨n,rfl⟩:∃k,n=k+1:=⟨n-1,by simp only[Fm.depth]at hd;omega⟩;rw[q2y];unfold q14;simp only[enc];walk_at "den";rw[q2n f n (by simp only[Fm.depth]at hd;omega) hb];walk_at "den";rfl
 |.and f g,n,row,hd,hb=>by
  obtain⟨n,rfl⟩:∃k,n=k+1:=⟨n-1,by simp only[Fm.depth]at hd;omega⟩;simp only[Fm.depth]at hd;have z:=q6g (K:=K) (a:=a) n (w:="and") (row:=row) (f:=f) (g:=g) (q3a (by decide)) (q3a (by decide)) (q3a (by decide)) (q2n f n (by omega) hb.1) (q2n g n (by omega) hb.2);rw[if_pos rfl]at z;exact z
 |.or f g,n,row,hd,hb=>by
  obtain⟨n,rfl⟩:∃k,n=k+1:=⟨n-1,by simp only[Fm.depth]at hd;omega⟩;simp only[Fm.depth]at hd;have z:=q6g (K:=K) (a:=a) n (w:="or") (row:=row) (f:=f) (g:=g) (q3a (by decide)) (q3a (by decide)) (q3a (by decide)) (q2n f n (by omega) hb.1) (q2n g n (by omega) hb.2);rw[if_neg (q3a (by decide)),if_pos rfl]at z;exact z
 |.odd f g,n,row,hd,hb=>by
  obtain⟨n,rfl⟩:∃k,n=k+1:=⟨n-1,by simp only[Fm.depth]at hd;omega⟩;simp only[Fm.depth]at hd;have z:=q6g (K:=K) (a:=a) n (w:="odd") (row:=row) (f:=f) (g:=g) (q3a (by decide)) (q3a (by decide)) (q3a (by decide)) (q2n f n (by omega) hb.1) (q2n g n (by omega) hb.2);rw[if_neg (q3a (by decide)),if_neg (q3a (by decide))]at z;exact z
structure Cc where
 m:Nat
 cells:List (Bool×Fm)
 outs:List Fm
noncomputable def encP(p:Bool×Fm):W:=.tup [.bl p.1,enc p.2]
noncomputable def encC(c:Cc):W:=.tup [.int (c.m:Int),.tup (c.cells.map encP),.tup (c.outs.map enc)]
def okF(q:Nat)(f:Fm):Prop:=f.inb q/\f.depth<=100/\f.size<=1000
structure Cc.Ok(c:Cc):Prop where
 few:c.m+c.cells.length<=12
 mm:c.m<=3
 cc:c.cells.length<=4
 oo:c.outs.length<=10
 outs:c.outs.length<=100
 cf:∀p∈c.cells,okF (c.m+c.cells.length) p.2
 of:∀f∈c.outs,okF (c.m+c.cells.length) f
theorem q9j(l:List (Bool×Fm)):pairsW (l.map encP)=some (l.map fun p=>(W.bl p.1,enc p.2)):=by
 induction l with
 |nil=>rfl
 |cons p l ih=>
  show(pairsW (l.map encP)).map ((W.bl p.1,enc p.2)::·)=_;rw[ih];rfl
theorem q96(n:Nat)(c:Cc)(hc:c.Ok):run K a (n+1) q2c [encC c]=.ok (.own none ((c.cells.map Prod.snd).map enc)):=by
 have:=hc.few;rw[q5s];unfold q3n encC;walk_at "den";rw[q9j];walk_at "den";rw[if_pos (by rw[w0a];omega),D.q66 (q:=fun _=>true) (g:=fun p=>p.2)]
 ·walk_at "den";rw[w4e.mpr (fun _ _=>rfl),w1g,w1g]
  rfl
 ·intro p hp;unfold q5q;walk_at "den";exact⟨_,rfl,fun _=>⟨_,rfl⟩⟩
noncomputable def movedW(c:Cc)(st row:List Bool):W:=.tup [.tup ((c.outs.map fun f=>f.val (row++st)).map .bl),.tup ((c.cells.map fun p=>p.2.val (row++st)).map .bl)]
theorem x8z(n:Nat)(c:Cc)(hc:c.Ok)(st row:List Bool)(hs:st.length=c.cells.length)(hr:row.length=c.m):run K a (n+102) q4e [encC c,.tup (st.map .bl),.tup (row.map .bl)]=.ok (.fr (movedW c st row)):=by
 have h1:=hc.few;have h2:=hc.outs;rw[x05];unfold q5r;have hix2:ixW (encC c) (.int 2)=some (.tup (c.outs.map enc)):=rfl;walk_at "den";rw[if_pos (by simp only[w0a];omega)];walk_at "den";rw[hix2];walk_at "den";rw[if_pos (by rw[w0a];omega)];simp only[frz1,pj1,w0m,w1d];rw[<- w0q]
 have val:∀(l:List Fm),(∀f∈l,okF (c.m+c.cells.length) f)->compD dYes (q3o K a (run K a (n+101))) [.fr (.tup ((row++st).map .bl))] (l.map enc)=some ((l.map fun f=>f.val (row++st)).map .bl):=by
  intro l
  induction l with
  |nil=>intro _;rfl
  |cons f l ih=>
   intro h;have hf:=h f (by simp);rw[w0y,q49];show(match q3o K a (run K a (n+101)) [.fr (enc f),.fr (.tup ((row++st).map .bl))]with|.ok y _=>(compD dYes (q3o K a (run K a (n+101))) [.fr (.tup ((row++st).map .bl))] (l.map enc)).map (y::·)|_=>none)=_;rw[ih fun g hg=>h g (by simp[hg])]
   have e1:q3o K a (run K a (n+101)) [.fr (enc f),.fr (.tup ((row++st).map .bl))]=.ok (.bl (f.val (row++st))) [.fr (enc f),.fr (.tup ((row++st).map .bl))]:=by
    unfold q3o;walk_at "den";rw[q2z f (n+100) (by have:=hf.2.1;omega) (by rw[w0x,hr,hs];exact hf.1)];walk_at "den"
   rw[e1];rfl
 have e01:x04 K a (run K a (n+101))=q3o K a (run K a (n+101)):=rfl;rw[val _ hc.of];walk_at "den";rw[q96 (n+100) c hc];walk_at "den";rw[if_pos (by simp only[w0a];omega)];simp only[frz1,pj1,w0m,w1d];rw[e01,val _ (fun f hf=>by obtain⟨p,hp,rfl⟩:=w0z.mp hf;exact hc.cf p hp)]
 walk_at "den";unfold movedW;simp only[w1g];rfl
theorem x6d(n:Nat)(c:Cc)(hc:c.Ok)(st row:List Bool)(hs:st.length=c.cells.length)(hr:row.length=c.m):run K a (n+102) q2d [encC c,.tup (st.map .bl),.tup (row.map .bl)]=.ok (.fr (movedW c st row)):=by
 have h1:=hc.few;have h2:=hc.outs;rw[q5v];unfold q3r;have hix2:ixW (encC c) (.int 2)=some (.tup (c.outs.map enc)):=rfl;have hix1:ixW (encC c) (.int 1)=some (.tup (c.cells.map encP)):=rfl;walk_at "den";rw[if_pos (by simp only[w0a];omega)];walk_at "den";rw[hix2];walk_at "den";rw[if_pos (by rw[w0a];omega)];simp only[frz1,pj1,w0m,w1d];rw[<- w0q];have lv:∀f,okF (c.m+c.cells.length) f->run K a (n+101) q0z [enc f,.tup ((row++st).map .bl)]=.ok (.fr (.bl (f.val (row++st)))):=fun f hf=>q2n f (n+101) (by have:=hf.2.1;omega) (by rw[w0x,hr,hs];exact hf.1)
 have val:∀(l:List Fm),(∀f∈l,okF (c.m+c.cells.length) f)->compD dYes (q2b K a (run K a (n+101))) [.fr (.tup ((row++st).map .bl))] (l.map enc)=some ((l.map fun f=>f.val (row++st)).map .bl):=by
  intro l
  induction l with
  |nil=>intro _;rfl
  |cons f l ih=>
   intro h;have hf:=h f (by simp);rw[w0y,q49];show(match q2b K a (run K a (n+101)) [.fr (enc f),.fr (.tup ((row++st).map .bl))]with|.ok y _=>(compD dYes (q2b K a (run K a (n+101))) [.fr (.tup ((row++st).map .bl))] (l.map enc)).map (y::·)|_=>none)=_;rw[ih fun g hg=>h g (by simp[hg])]
   have e1:q2b K a (run K a (n+101)) [.fr (enc f),.fr (.tup ((row++st).map .bl))]=.ok (.bl (f.val (row++st))) [.fr (enc f),.fr (.tup ((row++st).map .bl))]:=by
    unfold q2b;walk_at "den";rw[lv f hf];walk_at "den"
   rw[e1];rfl
 have val2:∀(l:List (Bool×Fm)),(∀p∈l,okF (c.m+c.cells.length) p.2)->compD dYes (q2a K a (run K a (n+101))) [.fr (.tup ((row++st).map .bl))] (l.map encP)=some ((l.map fun p=>p.2.val (row++st)).map .bl):=by
  intro l
  induction l with
  |nil=>intro _;rfl
  |cons p l ih=>
   intro h;have hf:=h p (by simp);rw[w0y,q49];show(match q2a K a (run K a (n+101)) [.fr (encP p),.fr (.tup ((row++st).map .bl))]with|.ok y _=>(compD dYes (q2a K a (run K a (n+101))) [.fr (.tup ((row++st).map .bl))] (l.map encP)).map (y::·)|_=>none)=_;rw[ih fun g hg=>h g (by simp[hg])]
   have e1:q2a K a (run K a (n+101)) [.fr (encP p),.fr (.tup ((row++st).map .bl))]=.ok (.bl (p.2.val (row++st))) [.fr (encP p),.fr (.tup ((row++st).map .bl))]:=by
    unfold q2a encP;walk_at "den";rw[lv p.2 hf];walk_at "den"
   rw[e1];rfl
 rw[val _ hc.of];walk_at "den";rw[hix1];walk_at "den";rw[if_pos (by simp only[w0a];omega)];simp only[frz1,pj1,w0m,w1d];rw[val2 _ hc.cf];walk_at "den";rfl
noncomputable def mix2(c k:Int):Int:=((c+7919*k)*48271%2147483647*((c+7919*k)*48271%2147483647)+7*((c+7919*k)*48271%2147483647)+k)%2147483629
theorem q6h(n:Nat)(c k:Int):run K a (n+1) q07 [.int c,.int k]=.ok (.fr (.int (mix2 c k))):=by
 rw[q5u];unfold q3q;walk_at "den";rw[if_pos (by omega)];rfl
theorem words4{j:Int}(h:j=0\/j=1\/j=2\/j=3):atI [W.str "and", W.str "or", W.str "odd", W.str "odd"] j=some (.str (if j=0 then "and" else if j=1 then "or" else "odd")):=by
 rcases h with rfl|rfl|rfl|rfl<;>rfl
noncomputable def bin4(j:Int)(f g:Fm):Fm:=if j=0 then .and f g else if j=1 then .or f g else .odd f g
theorem y6n{j:Int}(f g:Fm):(W.tup [.str (if j=0 then "and" else if j=1 then "or" else "odd"),enc f,enc g])=enc (bin4 j f g)/\(bin4 j f g).depth=max f.depth g.depth+1/\(bin4 j f g).size=f.size+g.size+1/\∀m,f.inb m->g.inb m->(bin4 j f g).inb m:=by
 unfold bin4;split
 ·exact⟨rfl,rfl,rfl,fun m h1 h2=>⟨h1,h2⟩⟩
 ·split<;>exact⟨rfl,rfl,rfl,fun m h1 h2=>⟨h1,h2⟩⟩
theorem x07 : ∀ (d n : Nat) (c : Int) (q : Nat), q <= 12 -> ∃ f : Fm, run K a (n + d + 2) q1j [.int c, .int (q : Int), .int (d : Int)] = .ok (.fr (enc f)) /\ f.inb q /\ f.depth <= d + 1 /\ f.size + 1 <= 2 ^ (d + 1) := by
 intro d
 induction d with
 | zero =>
  intro n c q hq;rw [q4o];unfold q3f;walk_at "den"
  by_cases h0 : c % 7 = 0
  ·rw [if_pos h0];exact ⟨.is _, rfl, trivial, w0f _, by show 1 + 1 <= 2 ^ (0 + 1); decide⟩
  ·rw [if_neg h0]
   by_cases hq0 : (q : Int) = 0
   ·rw [if_pos hq0];exact ⟨.is _, rfl, trivial, w0f _, by show 1 + 1 <= 2 ^ (0 + 1); decide⟩
   ·rw [if_neg hq0, if_pos (by omega)];walk_at "den";have hm := w2e (c / 7) hq0;have hm2 := w1y (c / 7) (show (0 : Int) < q by omega);obtain ⟨p, hp⟩ : ∃ p : Nat, c / 7 % (q : Int) = (p : Int) := ⟨(c / 7 % (q : Int)).toNat, by omega⟩;rw [hp];exact ⟨.at p, rfl, by show p < q; omega, w0f _, by show 1 + 1 <= 2 ^ (0 + 1); decide⟩
 | succ d ih =>
  intro n c q hq
  have hpw : 2 <= 2 ^ (d + 1) := by
   have : 2 ^ 1 <= 2 ^ (d + 1) := w0w (by decide) (by omega)
   simpa using this
  have hpw2 : 2 ^ (d + 1 + 1) = 2 ^ (d + 1) * 2 := w3z ..;rw [q4o];unfold q3f;walk_at "den";have hd0 : ¬ ((d + 1 : Nat) : Int) = 0 := by omega
  have is_ok : ∀ b : Bool, ∃ f : Fm, (FR.ok (S.fr (W.tup [.str "is", .bl b]))) = .ok (.fr (enc f)) /\ f.inb q /\ f.depth <= d + 1 + 1 /\ f.size + 1 <= 2 ^ (d + 1 + 1) := fun b => ⟨.is b, rfl, trivial, by show 1 <= _; omega, by show 1 + 1 <= _; omega⟩
  by_cases h0 : c % 7 = 0
  ·rw [if_pos h0];exact is_ok _
  ·rw [if_neg h0]
   by_cases h1 : c % 7 = 1
   ·by_cases hq0 : (q : Int) = 0
    ·rw [if_pos hq0, if_neg hd0, if_pos h1];exact is_ok _
    ·rw [if_neg hq0, if_neg hd0, if_pos h1, if_pos (by omega)];walk_at "den";have hm := w2e (c / 7) hq0;have hm2 := w1y (c / 7) (show (0 : Int) < q by omega);obtain ⟨p, hp⟩ : ∃ p : Nat, c / 7 % (q : Int) = (p : Int) := ⟨(c / 7 % (q : Int)).toNat, by omega⟩;rw [hp];exact ⟨.at p, rfl, by show p < q; omega, by show 1 <= _; omega, by show 1 + 1 <= _; omega⟩
   ·have hsub : ((d + 1 : Nat) : Int) - 1 = (d : Int) := by omega
    obtain ⟨f, f1, f2, f3, f4⟩ := ih n (mix2 (c / 7) 1) q hq;obtain ⟨g, g1, g2, g3, g4⟩ := ih n (mix2 (c / 7) 2) q hq;have rest : ∃ f : Fm, ((dSeq (dSet 5 (dCall (run K a (n + d + 2) q1j) (dCons (dCall (run K a (n + d + 2) q07) (dCons (dVar 4) (dCons (dC (.int 1)) dNil))) (dCons (dVar 1) (dCons (dOp subW (dVar 2) (dC (.int 1))) dNil)))))
  (dSeq (dIfS (dTest (dOp eq2 (dVar 3) (dC (.int 2))))
  (dRet (dTup (dCons (dC (.str "not")) (dCons (dVar 5) dNil))))
  dNx)
  (dRet (dTup (dCons (dOp ixW (dFz (dLst (dCons (dC (.str "and")) (dCons (dC (.str "or")) (dCons (dC (.str "odd")) (dCons (dC (.str "odd")) dNil)))))) (dOp subW (dVar 3) (dC (.int 3)))) (dCons (dVar 5) (dCons (dCall (run K a (n + d + 2) q1j) (dCons (dCall (run K a (n + d + 2) q07) (dCons (dVar 4) (dCons (dC (.int 2)) dNil))) (dCons (dVar 1) (dCons (dOp subW (dVar 2) (dC (.int 1))) dNil)))) dNil))))))) [.fr (.int c), .fr (.int (q : Int)), .fr (.int ((d + 1 : Nat) : Int)), .fr (.int (c % 7)), .fr (.int (c / 7)), .no]).fn = .ok (.fr (enc f)) /\ f.inb q /\ f.depth <= d + 1 + 1 /\ f.size + 1 <= 2 ^ (d + 1 + 1) := by
     walk_at "den";rw [q6h (n + d + 1)];walk_at "den";rw [hsub, f1];walk_at "den"
     by_cases h2 : c % 7 = 2
     ·rw [if_pos h2];exact ⟨.not f, rfl, f2, by show f.depth + 1 <= _; omega, by show f.size + 1 + 1 <= _; omega⟩
     ·rw [if_neg h2, words4 (by omega)];walk_at "den";rw [q6h (n + d + 1)];walk_at "den";rw [hsub, g1];walk_at "den";obtain ⟨b1, b2, b3, b4⟩ := y6n (j := c % 7 - 3) f g;rw [b1];exact ⟨_, rfl, b4 q f2 g2, by rw [b2]; omega, by rw [b3]; omega⟩
    revert rest;walk_at "den";intro rest
    by_cases hq0 : (q : Int) = 0
    ·rw [if_pos hq0, if_neg hd0, if_neg h1, if_neg hd0, if_neg h1];exact rest
    ·rw [if_neg hq0, if_neg hd0, if_neg h1];exact rest
theorem x25(n:Nat)(m s k:Nat)(hk:k<s)(hs:s<=12):∃f:Fm,run K a (n+1) q1w [.int (m:Int),.int (s:Int),.int (k:Int)]=.ok (.fr (enc f))/\f.inb (m+s)/\f.depth<=20/\f.size<=40:=by
 rw[q4p];unfold q2k
 have rest:∀f0:Fm,f0.inb (m+s)->f0.depth=1->f0.size=1->∃f:Fm,((dSeq (dForR 4 rng2 (dCons (dOp addX (dVar 2) (dC (.int 1))) (dCons (dVar 1) dNil))
  (q2q K a (run K a n)))
  (dRet (dTup (dCons (dC (.str "odd")) (dCons (dTup (dCons (dC (.str "at")) (dCons (dOp addX (dVar 0) (dVar 2)) dNil))) (dCons (dVar 3) dNil)))))) [.fr (.int (m:Int)),.fr (.int (s:Int)),.fr (.int (k:Int)),.fr (enc f0),.no]).fn=.ok (.fr (enc f))/\f.inb (m+s)/\f.depth<=20/\f.size<=40:=by
  intro f0 hf0 hd0 hz0;walk_at "den";rw[if_pos ⟨q27 (by omega) (by omega),q27 (by omega) (by omega)⟩];walk_at "den"
  obtain⟨e',h2,f,z,rfl,hf,hfd,hfz⟩:=q11 (b:=q2q K a (run K a n)) (i:=4) (lo:=(k:Int)+1) (hi:=(s:Int)) (s-(k+1)) (by omega) (fun j e=>∃(f:Fm)(z:S),e=[.fr (.int (m:Int)),.fr (.int (s:Int)),.fr (.int (k:Int)),.fr (enc f),z]/\f.inb (m+s)/\f.depth<=j+1/\f.size<=2*j+1) [.fr (.int (m:Int)),.fr (.int (s:Int)),.fr (.int (k:Int)),.fr (enc f0),.no] ⟨f0,_,rfl,hf0,by omega,by omega⟩ (by
   rintro j e hj ⟨f,z,rfl,hf,hfd,hfz⟩;unfold q2q;walk_at "den";obtain⟨p,hp⟩:∃p:Nat,(m:Int)+((k:Int)+1+(j:Int))=(p:Int):=⟨m+(k+1+j),by omega⟩;rw[hp];exact⟨_,rfl,.and f (.at p),_,rfl,⟨hf,by show p<m+s;omega⟩,by show max f.depth 1+1<=_;omega,by show f.size+1+1<=_;omega⟩)
  rw[h2];walk_at "den";obtain⟨p,hp⟩:∃p:Nat,(m:Int)+(k:Int)=(p:Int):=⟨m+k,by omega⟩;rw[hp];exact⟨.odd (.at p) f,rfl,⟨by show p<m+s;omega,hf⟩,by show max 1 f.depth+1<=_;omega,by show 1+f.size+1<=_;omega⟩
 revert rest;walk_at "den";intro rest
 by_cases hm:(m:Int)>0
 ·rw[if_pos hm];exact rest (.at 0) (by show 0<m+s;omega) rfl rfl
 ·rw[if_neg hm];exact rest (.is true) trivial rfl rfl
theorem two2{j:Int}(h:j=0\/j=1):atI [W.str "odd", W.str "and"] j=some (.str (if j=0 then "odd" else "and")):=by
 rcases h with rfl|rfl<;>rfl
theorem q9k(n:Nat)(f0:Fm)(t:Int)(h0:0<=t)(ht:t<50)(q:Nat)(hq:q<=12)(hb:f0.inb q):∃f:Fm,run K a (n+1) q0y [enc f0,.int t,.int (q:Int)]=.ok (.fr (enc f))/\f.inb q/\f.depth<=f0.depth+52/\f.size<=f0.size+200:=by
 rw[q5e];unfold q29;walk_at "den";rw[if_pos (q27 (by omega) (by omega))];walk_at "den"
 obtain⟨e',h2,f,z,rfl,hf,hfd,hfz⟩:=q11 (b:=q4a K a (run K a n)) (i:=3) (lo:=0) (hi:=t) t.toNat (by omega) (fun j e=>∃(f:Fm)(z:S),e=[.fr (enc f),.fr (.int t),.fr (.int (q:Int)),z]/\f.inb q/\f.depth<=f0.depth+2+j/\f.size<=f0.size+4*j) [.fr (enc f0),.fr (.int t),.fr (.int (q:Int)),.no] ⟨f0,_,rfl,hb,by omega,by omega⟩ (by
  rintro j e hj ⟨f,z,rfl,hf,hfd,hfz⟩;unfold q4a;walk_at "den";rw[w2l]
  by_cases h3:(j:Int)%3<2
  ·rw[if_pos h3];exact⟨_,rfl,.not f,_,rfl,hf,by show f.depth+1<=_;omega,by show f.size+1<=_;omega⟩
  ·rw[if_neg h3]
   by_cases hq0:(q:Int)=0
   ·rw[if_pos hq0];exact⟨_,rfl,.not f,_,rfl,hf,by show f.depth+1<=_;omega,by show f.size+1<=_;omega⟩
   ·rw[if_neg hq0,two2 (by omega)];walk_at "den";rw[if_pos (by omega)];walk_at "den";have hm:=w2e (j:Int) hq0;have hm2:=w1y (j:Int) (show(0:Int)<q by omega);obtain⟨p,hp⟩:∃p:Nat,(j:Int)%(q:Int)=(p:Int):=⟨((j:Int)%(q:Int)).toNat,by omega⟩;rw[hp]
    by_cases h2:(j:Int)%2=0
    ·rw[if_pos h2];exact⟨_,rfl,.odd f (.or (.at p) (.is _)),_,rfl,⟨hf,by show p<q;omega,trivial⟩,by show max f.depth (max 1 1+1)+1<=_;have:=f.depth_pos;have:=f0.depth_pos;omega,by show f.size+(1+1+1)+1<=_;omega⟩
    ·rw[if_neg h2];exact⟨_,rfl,.and f (.or (.at p) (.is _)),_,rfl,⟨hf,by show p<q;omega,trivial⟩,by show max f.depth (max 1 1+1)+1<=_;have:=f.depth_pos;have:=f0.depth_pos;omega,by show f.size+(1+1+1)+1<=_;omega⟩)
 rw[h2];walk_at "den";exact⟨f,rfl,hf,by omega,by omega⟩
noncomputable def tailP(K:PySem.W.Frag)(a:Adr)(r:Nat->List W->FR):List S->SR:=
 (dSeq (dIfS (dAnd (dTest (dOp eq2 (dOp modW (dVar 10) (dC (.int 4))) (dC (.int 2)))) (dAnd (dTest (dOp ltW (dOp addX (dVar 2) (dVar 3)) (dC (.int 5)))) (dTest (dOp gtW (dVar 3) (dC (.int 0))))))
  (dSeq (dSet2 11 8 (dIxV 5 (dOp modW (dOp fdivW (dVar 10) (dC (.int 4))) (dVar 3))))
  (dPut 5 (dTup (dCons (dVar 11) (dCons (dCall (r q0y) (dCons (dVar 8) (dCons (dOp modW (dOp fdivW (dVar 10) (dC (.int 28))) (dC (.int 50))) (dCons (dOp addX (dVar 2) (dVar 3)) dNil)))) dNil))) (dOp modW (dOp fdivW (dVar 10) (dC (.int 4))) (dVar 3))))
  dNx)
  (dRet (dTup (dCons (dVar 2) (dCons (dFn tup1 (dCons (dVar 5) dNil)) (dCons (dFn tup1 (dCons (dVar 9) dNil)) dNil))))))
noncomputable def tailO(K:PySem.W.Frag)(a:Adr)(r:Nat->List W->FR):List S->SR:=
 (dSeq (dIfS (dAnd (dTest (dOp eq2 (dOp modW (dVar 10) (dC (.int 4))) (dC (.int 1)))) (dAnd (dTest (dOp ltW (dOp addX (dVar 2) (dVar 3)) (dC (.int 5)))) (dBorrowT (dTest (dOp ne2 (dVar 9) (dFz (dLst dNil)))))))
  (dPut 9 (dCall (r q0y) (dCons (dIxV 9 (dOp modW (dOp fdivW (dVar 10) (dC (.int 4))) (dFnV 9 len1))) (dCons (dOp modW (dOp fdivW (dVar 10) (dC (.int 28))) (dC (.int 50))) (dCons (dOp addX (dVar 2) (dVar 3)) dNil)))) (dOp modW (dOp fdivW (dVar 10) (dC (.int 4))) (dFnV 9 len1)))
  dNx)
  (dSeq (dIfS (dAnd (dTest (dOp eq2 (dOp modW (dVar 10) (dC (.int 4))) (dC (.int 2)))) (dAnd (dTest (dOp ltW (dOp addX (dVar 2) (dVar 3)) (dC (.int 5)))) (dTest (dOp gtW (dVar 3) (dC (.int 0))))))
  (dSeq (dSet2 11 8 (dIxV 5 (dOp modW (dOp fdivW (dVar 10) (dC (.int 4))) (dVar 3))))
  (dPut 5 (dTup (dCons (dVar 11) (dCons (dCall (r q0y) (dCons (dVar 8) (dCons (dOp modW (dOp fdivW (dVar 10) (dC (.int 28))) (dC (.int 50))) (dCons (dOp addX (dVar 2) (dVar 3)) dNil)))) dNil))) (dOp modW (dOp fdivW (dVar 10) (dC (.int 4))) (dVar 3))))
  dNx)
  (dRet (dTup (dCons (dVar 2) (dCons (dFn tup1 (dCons (dVar 5) dNil)) (dCons (dFn tup1 (dCons (dVar 9) dNil)) dNil)))))))
noncomputable def tailL(K:PySem.W.Frag)(a:Adr)(r:Nat->List W->FR):List S->SR:=
 (dSeq (dSetO 5 (dLst dNil))
  (dSeq (dForR 6 rng1 (dCons (dVar 3) dNil)
  (q2f K a r))
  (dSeq (dSetO 9 (dLst dNil))
  (dSeq (dForR 6 rng1 (dCons (dOp modW (dOp fdivW (dVar 1) (dC (.int 20))) (dC (.int 7))) dNil)
  (q2e K a r))
  (dSeq (dSet 10 (dOp fdivW (dCall (r q0x) (dCons (dVar 0) (dCons (dC (.int 1)) dNil))) (dC (.int 3))))
  (dSeq (dIfS (dAnd (dTest (dOp eq2 (dOp modW (dVar 10) (dC (.int 4))) (dC (.int 1)))) (dAnd (dTest (dOp ltW (dOp addX (dVar 2) (dVar 3)) (dC (.int 5)))) (dBorrowT (dTest (dOp ne2 (dVar 9) (dFz (dLst dNil)))))))
  (dPut 9 (dCall (r q0y) (dCons (dIxV 9 (dOp modW (dOp fdivW (dVar 10) (dC (.int 4))) (dFnV 9 len1))) (dCons (dOp modW (dOp fdivW (dVar 10) (dC (.int 28))) (dC (.int 50))) (dCons (dOp addX (dVar 2) (dVar 3)) dNil)))) (dOp modW (dOp fdivW (dVar 10) (dC (.int 4))) (dFnV 9 len1)))
  dNx)
  (dSeq (dIfS (dAnd (dTest (dOp eq2 (dOp modW (dVar 10) (dC (.int 4))) (dC (.int 2)))) (dAnd (dTest (dOp ltW (dOp addX (dVar 2) (dVar 3)) (dC (.int 5)))) (dTest (dOp gtW (dVar 3) (dC (.int 0))))))
  (dSeq (dSet2 11 8 (dIxV 5 (dOp modW (dOp fdivW (dVar 10) (dC (.int 4))) (dVar 3))))
  (dPut 5 (dTup (dCons (dVar 11) (dCons (dCall (r q0y) (dCons (dVar 8) (dCons (dOp modW (dOp fdivW (dVar 10) (dC (.int 28))) (dC (.int 50))) (dCons (dOp addX (dVar 2) (dVar 3)) dNil)))) dNil))) (dOp modW (dOp fdivW (dVar 10) (dC (.int 4))) (dVar 3))))
  dNx)
  (dRet (dTup (dCons (dVar 2) (dCons (dFn tup1 (dCons (dVar 5) dNil)) (dCons (dFn tup1 (dCons (dVar 9) dNil)) dNil))))))))))))
theorem z1k{s:Nat}{l:List (Bool×Fm)}{os:List Fm}(hm:m<=3)(hs:s<=4)(hl:l.length=s)(ho:os.length<=10)(h1:∀p∈l,p.2.inb (m+s)/\p.2.depth<=80/\p.2.size<=300)(h2:∀f∈os,f.inb (m+s)/\f.depth<=80/\f.size<=300):Cc.Ok ⟨m,l,os⟩:=by
 refine⟨by show m+l.length<=12;omega,hm,by show l.length<=4;omega,ho,by show os.length<=100;omega,fun p hp=>?_,fun f hf=>?_⟩
 ·have z:=h1 p hp;exact⟨by show p.2.inb (m+l.length);rw[hl];exact z.1,by omega,by omega⟩
 ·have z:=h2 f hf;exact⟨by show f.inb (m+l.length);rw[hl];exact z.1,by omega,by omega⟩
theorem x4x{k:Int}(h0:0<=k)(h1:k<q):ixN q k=some k.toNat:=by
 unfold ixN;rw[if_pos h0,if_pos h1]
theorem x80(n:Nat)(w0 w1:W)(z4 z6 z7 z8 z11:S)(m s:Nat)(hm:m<=3)(hs:s<=4)(l:List (Bool×Fm))(os:List Fm)(t:Int)(hl:l.length=s)(ho:os.length<=10)(h1:∀p∈l,p.2.inb (m+s)/\p.2.depth<=20/\p.2.size<=50)(h2:∀f∈os,f.inb (m+s)/\f.depth<=80/\f.size<=300):
  ∃c:Cc,(tailP K a (run K a (n+1)) [.fr w0,.fr w1,.fr (.int (m:Int)),.fr (.int (s:Int)),z4,.own none (l.map encP),z6,z7,z8,.own none (os.map enc),.fr (.int t),z11]).fn=.ok (.fr (encC c))/\c.Ok:=by
 have plain:∀(z8 z11:S)(l:List (Bool×Fm)),l.length=s->(∀p∈l,p.2.inb (m+s)/\p.2.depth<=80/\p.2.size<=300)->∃c:Cc,((dRet (dTup (dCons (dVar 2) (dCons (dFn tup1 (dCons (dVar 5) dNil)) (dCons (dFn tup1 (dCons (dVar 9) dNil)) dNil))))) [.fr w0,.fr w1,.fr (.int (m:Int)),.fr (.int (s:Int)),z4,.own none (l.map encP),z6,z7,z8,.own none (os.map enc),.fr (.int t),z11]).fn=.ok (.fr (encC c))/\c.Ok:=by
  intro z8 z11 l hl h1;walk_at "den";exact⟨⟨m,l,os⟩,rfl,z1k hm hs hl ho h1 h2⟩
 have big:∀p∈l,p.2.inb (m+s)/\p.2.depth<=80/\p.2.size<=300:=fun p hp=>by have:=h1 p hp;exact⟨this.1,by omega,by omega⟩
 unfold tailP;revert plain;walk_at "den";intro plain
 by_cases c1:t%4=2
 ·rw[if_pos c1]
  by_cases c2:(m:Int)+(s:Int)<5
  ·rw[if_pos c2]
   by_cases c3:(s:Int)>0
   ·rw[if_pos c3];walk_at "den";have hm0:=w2e (t / 4) (show(s:Int)≠0 by omega);have hm1:=w1y (t / 4) c3;obtain⟨k,hk⟩:∃k:Nat,t / 4%(s:Int)=(k:Int):=⟨(t / 4%(s:Int)).toNat,by omega⟩;have hkl:k<l.length:=by omega
    rw[if_pos (by omega),hk];walk_at "den";have hat:atI (l.map encP) (k:Int)=some (encP l[k]):=q19 (by rw[w0g,w0d hkl];rfl);rw[hat];unfold encP;walk_at "den";have hp:=h1 l[k] (w2g hkl);have hsum:(m:Int)+(s:Int)=((m+s:Nat):Int):=by omega
    obtain⟨f,f1,f2,f3,f4⟩:=q9k (K:=K) (a:=a) n l[k].2 (t / 28%50) (by omega) (by omega) (m+s) (by omega) hp.1;rw[hsum,f1];walk_at "den";rw[if_pos (by omega),hk];walk_at "den";rw[x4x (by omega) (by simp;omega)];walk_at "den";rw[w2q];have es:(l.map fun p=>W.tup [.bl p.1,enc p.2]).set k (W.tup [.bl l[k].1,enc f])=(l.set k (l[k].1,f)).map fun p=>W.tup [.bl p.1,enc p.2]:=by rw[List.map_set]
    have z:=plain (.fr (enc l[k].2)) (.fr (.bl l[k].1)) (l.set k (l[k].1,f)) (by simpa using hl) (fun p hp'=>by
     rcases w3e hp' with q|q
     ·exact big p q
     ·rw[q];exact⟨f2,by show f.depth<=80;omega,by show f.size<=300;omega⟩)
    unfold encP at z;rw[<- es]at z;exact z
   ·rw[if_neg c3];exact plain .no .no l hl big
  ·rw[if_neg c2];exact plain .no .no l hl big
 ·rw[if_neg c1];exact plain .no .no l hl big
theorem y9z{w:W}(h:depWs (w::ws)<=100):ne2 (.lst (w::ws)) (.lst [])=some (.bl true):=by
 unfold ne2;rw[if_pos (by show depWs (w::ws)+1<=150;omega)];rfl
theorem x81(n:Nat)(w0 w1:W)(z4 z6 z7 z8 z11:S)(m s:Nat)(hm:m<=3)(hs:s<=4)(l:List (Bool×Fm))(os:List Fm)(t:Int)(hl:l.length=s)(ho:os.length<=10)(h1:∀p∈l,p.2.inb (m+s)/\p.2.depth<=20/\p.2.size<=50)(h2:∀f∈os,f.inb (m+s)/\f.depth<=20/\f.size<=50):
  ∃c:Cc,(tailO K a (run K a (n+1)) [.fr w0,.fr w1,.fr (.int (m:Int)),.fr (.int (s:Int)),z4,.own none (l.map encP),z6,z7,z8,.own none (os.map enc),.fr (.int t),z11]).fn=.ok (.fr (encC c))/\c.Ok:=by
 have big:∀f∈os,f.inb (m+s)/\f.depth<=80/\f.size<=300:=fun f hf=>by have:=h2 f hf;exact⟨this.1,by omega,by omega⟩
 have fin:=fun(os:List Fm) (ho:os.length<=10) h2=>x80 (K:=K) (a:=a) n w0 w1 z4 z6 z7 z8 z11 m s hm hs l os t hl ho h1 h2
 unfold tailO;unfold tailP at fin;revert fin;walk_at "den";intro fin
 by_cases c1:t%4=1
 ·rw[if_pos c1]
  by_cases c2:(m:Int)+(s:Int)<5
  ·rw[if_pos c2];cases hos:os with
   |nil=>
    subst hos;walk_at "den";rw[show ne2 (W.lst []) (W.lst [])=some (.bl false)from rfl];walk_at "den";have z:=fin [] (by simp) (fun f hf=>nomatch hf)
    revert z;walk_at "den";exact id
   |cons f0 r=>
    have hdep:depWs ((f0::r).map enc)<=100:=q9i (f0::r) 100 fun f hf=>by have:=h2 f (by rw[hos];exact hf);omega
    walk_at "den";rw[y9z (by simpa using hdep)];walk_at "den";have hlen:(0:Int)<((r.map enc).length+1:Nat):=by omega
    have hm0:=w2e (t / 4) (show(((r.map enc).length+1:Nat):Int)≠0 by omega);have hm1:=w1y (t / 4) hlen;obtain⟨k,hk⟩:∃k:Nat,t / 4%(((r.map enc).length+1:Nat):Int)=(k:Int):=⟨(t / 4%(((r.map enc).length+1:Nat):Int)).toNat,by omega⟩;have hkl:k<(f0::r).length:=by rw[w0a]at hm1 hk;simp;omega
    rw[if_pos hlen,hk];walk_at "den";have hat:atI (enc f0::r.map enc) (k:Int)=some (enc (f0::r)[k]):=q19 (by rw[<- w0y,w0g,w0d hkl];rfl);rw[hat];walk_at "den";have hp:=h2 (f0::r)[k] (by rw[hos];exact w2g hkl);have hsum:(m:Int)+(s:Int)=((m+s:Nat):Int):=by omega
    obtain⟨f,f1,f2,f3,f4⟩:=q9k (K:=K) (a:=a) n (f0::r)[k] (t / 28%50) (by omega) (by omega) (m+s) (by omega) hp.1;rw[hsum,f1];walk_at "den";rw[if_pos hlen,hk];walk_at "den";rw[x4x (by omega) (by rw[w0a];simp at hkl;omega)];walk_at "den";rw[w2q]
    have z:=fin ((f0::r).set k f) (by simp;rw[hos]at ho;simpa using ho) (fun g hg=>by
     rcases w3e hg with q|q
     ·exact big g (by rw[hos];exact q)
     ·rw[q];exact⟨f2,by omega,by omega⟩)
    rw[List.map_set,w0y]at z;rw[hsum]at z;exact z
  ·rw[if_neg c2];have z:=fin os ho big;exact z
 ·rw[if_neg c1];have z:=fin os ho big;exact z
theorem x6e(n:Nat)(ns:List Int)(w1:W)(m s d:Nat)(hm:m<=3)(hs:s<=4)(hd:d<=3)(j:Nat)(hj:j<s)(e:List S)(h:∃(l:List (Bool×Fm))(z6 z7 z8:S),e=[.fr (.lst (ns.map .int)),.fr w1,.fr (.int (m:Int)),.fr (.int (s:Int)),.fr (.int (d:Int)),.own none (l.map encP),z6,z7,z8,.no,.no,.no]/\l.length=j/\∀p∈l,p.2.inb (m+s)/\p.2.depth<=20/\p.2.size<=50):
  ∃e',q2f K a (run K a (n+d+2)) (e.set 6 (.fr (.int (0+(j:Int)))))=.nx e'/\∃(l:List (Bool×Fm))(z6 z7 z8:S),e'=[.fr (.lst (ns.map .int)),.fr w1,.fr (.int (m:Int)),.fr (.int (s:Int)),.fr (.int (d:Int)),.own none (l.map encP),z6,z7,z8,.no,.no,.no]/\l.length=j+1/\∀p∈l,p.2.inb (m+s)/\p.2.depth<=20/\p.2.size<=50:=by
 obtain⟨l,z6,z7,z8,rfl,hl,h1⟩:=h;unfold q2f;walk_at "den";rw[w2l,q47 (n+d+1) ns (by omega)];walk_at "den";rw[q6h (n+d+1)];walk_at "den";have hsum:(m:Int)+(s:Int)=((m+s:Nat):Int):=by omega
 obtain⟨f,f1,f2,f3,f4⟩:=x07 (K:=K) (a:=a) d n (mix2 (ns.getD (2+(j:Int)).toNat 0) (j:Int) / 2) (m+s) (by omega);have hpw:2^(d+1)<=2^4:=w0w (by decide) (by omega);have h16:(2:Nat)^4=16:=by decide
 rw[hsum,f1];walk_at "den";rw[q47 (n+d+1) ns (by decide)];walk_at "den"
 have app:∀(b:Bool)(g:Fm),g.inb (m+s)->g.depth<=20->g.size<=50->∃(l':List (Bool×Fm)),l.map encP++[W.tup [.bl b,enc g]]=l'.map encP/\l'.length=j+1/\∀p∈l',p.2.inb (m+s)/\p.2.depth<=20/\p.2.size<=50:=fun b g g1 g2 g3=>by
  refine⟨l++[(b,g)],by rw[w0q];rfl,by simp[hl],fun p hp=>?_⟩
  rcases w1h.mp hp with q|q
  ·exact h1 p q
  ·rw[w1f.mp q];exact⟨g1,g2,g3⟩
 by_cases c3:ns.getD 1 0%3=1
 ·rw[if_pos c3];obtain⟨g,g1,g2,g3,g4⟩:=x25 (K:=K) (a:=a) (n+d+1) m s j hj (by omega);rw[g1];walk_at "den";rw[if_pos (by rw[w0a];omega)];obtain⟨l',a1,a2,a3⟩:=app (decide (mix2 (ns.getD (2+(j:Int)).toNat 0) (j:Int)%2=1)) g g2 (by omega) (by omega);rw[a1];exact⟨_,rfl,l',_,_,_,rfl,a2,a3⟩
 ·rw[if_neg c3];walk_at "den";rw[if_pos (by rw[w0a];omega)];obtain⟨l',a1,a2,a3⟩:=app (decide (mix2 (ns.getD (2+(j:Int)).toNat 0) (j:Int)%2=1)) f f2 (by omega) (by omega);rw[a1];exact⟨_,rfl,l',_,_,_,rfl,a2,a3⟩
theorem x82(n:Nat)(ns:List Int)(w1:W)(cells:List W)(m s d:Nat)(hm:m<=3)(hs:s<=4)(hd:d<=3)(j:Nat)(hj:j<7)(e:List S)(h:∃(os:List Fm)(z6 z7 z8:S),e=[.fr (.lst (ns.map .int)),.fr w1,.fr (.int (m:Int)),.fr (.int (s:Int)),.fr (.int (d:Int)),.own none cells,z6,z7,z8,.own none (os.map enc),.no,.no]/\os.length=j/\∀f∈os,f.inb (m+s)/\f.depth<=20/\f.size<=50):
  ∃e',q2e K a (run K a (n+d+2)) (e.set 6 (.fr (.int (0+(j:Int)))))=.nx e'/\∃(os:List Fm)(z6 z7 z8:S),e'=[.fr (.lst (ns.map .int)),.fr w1,.fr (.int (m:Int)),.fr (.int (s:Int)),.fr (.int (d:Int)),.own none cells,z6,z7,z8,.own none (os.map enc),.no,.no]/\os.length=j+1/\∀f∈os,f.inb (m+s)/\f.depth<=20/\f.size<=50:=by
 obtain⟨os,z6,z7,z8,rfl,hl,h1⟩:=h;unfold q2e;walk_at "den";rw[w2l,q47 (n+d+1) ns (by omega)];walk_at "den";rw[q6h (n+d+1)];walk_at "den";have hsum:(m:Int)+(s:Int)=((m+s:Nat):Int):=by omega
 obtain⟨f,f1,f2,f3,f4⟩:=x07 (K:=K) (a:=a) d n (mix2 (ns.getD (6+(j:Int)).toNat 0) (9+(j:Int))) (m+s) (by omega);have hpw:2^(d+1)<=2^4:=w0w (by decide) (by omega);have h16:(2:Nat)^4=16:=by decide
 rw[hsum,f1];walk_at "den";rw[if_pos (by rw[w0a];omega)];refine⟨_,rfl,os++[f],_,_,_,by rw[w0q];rfl,by simp[hl],fun g hg=>?_⟩
 rcases w1h.mp hg with q|q
 ·exact h1 g q
 ·rw[w1f.mp q];exact⟨f2,by omega,by omega⟩
theorem x83(n:Nat)(ns:List Int)(c:Int)(m s d:Nat)(hm:m<=3)(hs:s<=4)(hd:d<=3):
  ∃cc:Cc,(tailL K a (run K a (n+d+2)) [.fr (.lst (ns.map .int)),.fr (.int c),.fr (.int (m:Int)),.fr (.int (s:Int)),.fr (.int (d:Int)),.no,.no,.no,.no,.no,.no,.no]).fn=.ok (.fr (encC cc))/\cc.Ok:=by
 have fin:=fun(z6 z7 z8:S) (l:List (Bool×Fm)) (os:List Fm) (t:Int) hl ho h1 h2=>x81 (K:=K) (a:=a) (n+d+1) (.lst (ns.map .int)) (.int c) (.fr (.int (d:Int))) z6 z7 z8 .no m s hm hs l os t hl ho h1 h2
 unfold tailL;unfold tailO at fin;walk_at "den";rw[if_pos (q27 (by omega) (by omega))];walk_at "den";obtain⟨e',k1,l,z6,z7,z8,rfl,k2,k3⟩:=q11 (b:=q2f K a (run K a (n+d+2))) (i:=6) (lo:=0) (hi:=(s:Int)) s (by omega) (fun j e=>∃(l:List (Bool×Fm))(z6 z7 z8:S),e=[.fr (.lst (ns.map .int)),.fr (.int c),.fr (.int (m:Int)),.fr (.int (s:Int)),.fr (.int (d:Int)),.own none (l.map encP),z6,z7,z8,.no,.no,.no]/\l.length=j/\∀p∈l,p.2.inb (m+s)/\p.2.depth<=20/\p.2.size<=50) [.fr (.lst (ns.map .int)),.fr (.int c),.fr (.int (m:Int)),.fr (.int (s:Int)),.fr (.int (d:Int)),.own none [],.no,.no,.no,.no,.no,.no] ⟨[],_,_,_,rfl,rfl,fun p hp=>nomatch hp⟩ (fun j e hj h=>x6e n ns (.int c) m s d hm hs hd j hj e h)
 rw[k1];walk_at "den";rw[if_pos (q27 (by omega) (by omega))];walk_at "den";obtain⟨q,hq⟩:∃q:Nat,c / 20%7=(q:Int):=⟨(c / 20%7).toNat,by omega⟩;rw[hq];obtain⟨e',k4,os,y6,y7,y8,rfl,k5,k6⟩:=q11 (b:=q2e K a (run K a (n+d+2))) (i:=6) (lo:=0) (hi:=(q:Int)) q (by omega) (fun j e=>∃(os:List Fm)(z6 z7 z8:S),e=[.fr (.lst (ns.map .int)),.fr (.int c),.fr (.int (m:Int)),.fr (.int (s:Int)),.fr (.int (d:Int)),.own none (l.map encP),z6,z7,z8,.own none (os.map enc),.no,.no]/\os.length=j/\∀f∈os,f.inb (m+s)/\f.depth<=20/\f.size<=50) [.fr (.lst (ns.map .int)),.fr (.int c),.fr (.int (m:Int)),.fr (.int (s:Int)),.fr (.int (d:Int)),.own none (l.map encP),z6,z7,z8,.own none [],.no,.no] ⟨[],_,_,_,rfl,rfl,fun p hp=>nomatch hp⟩ (fun j e hj h=>x82 n ns (.int c) (l.map encP) m s d hm hs hd j (by omega) e h)
 rw[k4];walk_at "den";rw[q47 (n+d+1) ns (by decide)];walk_at "den";have z:=fin y6 y7 y8 l os (ns.getD (1:Int).toNat 0 / 3) k2 (by omega) k3 k6;revert z;walk_at "den";exact id
theorem x3y(n:Nat)(ns:List Int):∃cc:Cc,run K a (n+6) q1t [.lst (ns.map .int)]=.ok (.fr (encC cc))/\cc.Ok:=by
 have fin:=fun(c:Int) (m s d:Nat) hm hs (hd:d<=3)=>by
  have z:=x83 (K:=K) (a:=a) (n+3-d) ns c m s d hm hs hd;rw[show n+3-d+d+2=n+5 by omega]at z;exact z
 rw[q46];unfold q2x;unfold tailL at fin;revert fin;walk_at "den";intro fin;rw[q47 (n+4) ns (by decide)];walk_at "den";generalize ns.getD 0 0=c;obtain⟨m,hm,hm2⟩:∃m:Nat,c%4=(m:Int)/\m<=3:=⟨(c%4).toNat,by omega,by omega⟩;obtain⟨s,hs,hs2⟩:∃s:Nat,c / 4%5=(s:Int)/\s<=4:=⟨(c / 4%5).toNat,by omega,by omega⟩;rw[hm,hs]
 by_cases h5:(m:Int)+(s:Int)>5
 ·rw[if_pos h5];obtain⟨d,hd,hd2⟩:∃d:Nat,c / 140%4%2=(d:Int)/\d<=3:=⟨(c / 140%4%2).toNat,by omega,by omega⟩;rw[hd];exact fin c m s d hm2 hs2 hd2
 ·rw[if_neg h5];obtain⟨d,hd,hd2⟩:∃d:Nat,c / 140%4=(d:Int)/\d<=3:=⟨(c / 140%4).toNat,by omega,by omega⟩;rw[hd];exact fin c m s d hm2 hs2 hd2
noncomputable def encB(bs:List Bool):W:=.tup (bs.map .bl)
noncomputable def outsV(c:Cc)(st row:List Bool):List Bool:=c.outs.map fun f=>f.val (row++st)
noncomputable def nextV(c:Cc)(st row:List Bool):List Bool:=c.cells.map fun p=>p.2.val (row++st)
theorem x08(c:Cc)(st row:List Bool):movedW c st row=.tup [encB (outsV c st row),encB (nextV c st row)]:=rfl
noncomputable def firstV(c:Cc):List Bool:=c.cells.map Prod.fst
theorem x84(n:Nat)(c:Cc)(hc:c.Ok):run K a (n+1) q16 [encC c]=.ok (.fr (encB (firstV c))):=by
 have:=hc.few;rw[q5d];unfold q28 encC;walk_at "den";rw[q9j];walk_at "den";rw[if_pos (by rw[w0a];omega),D.q66 (q:=fun _=>true) (g:=fun p=>p.1)]
 ·walk_at "den";rw[w4e.mpr (fun _ _=>rfl)]
  unfold encB firstV;simp only[w1g];rfl
 ·intro p hp;unfold q5c;walk_at "den";exact⟨_,rfl,fun _=>⟨_,rfl⟩⟩
theorem q6i(q:Nat):∀rs:List (List Bool),(∀r∈rs,r.length<=q)->plainWs (rs.map encB)=true/\depWs (rs.map encB)<=1/\wgts (rs.map encB)<=(q+1)*rs.length
 |[],_=>⟨rfl,by decide,by simp[wgts]⟩
 |r::rs,h=>by
  obtain⟨i1,i2,i3⟩:=q6i q rs fun u hu=>h u (by simp[hu])
  obtain⟨x1,x2,x3⟩:=q4h r;have hr:=h r (by simp);refine⟨?_,?_,?_⟩
  ·show(plainWs (r.map .bl)&&plainWs (rs.map encB))=true;rw[x1,i1];rfl
  ·show max (depWs (r.map .bl)+1) (depWs (rs.map encB))<=1;rw[x2];omega
  ·show wgts (r.map .bl)+1+wgts (rs.map encB)<=(q+1)*(rs.length+1);rw[x3,Nat.mul_succ];omega
noncomputable abbrev Pr:=List Bool×Nat
structure Mc where
 m:Nat
 wide:Nat
 states:List (List Pr)
structure Mc.Ok(c:Mc):Prop where
 few:c.m<=3
 wd:c.wide<=12
 pos:0<c.states.length
 most:c.states.length<=20
 st:∀s∈c.states,s.length=2^c.m
 pr:∀s∈c.states,∀p∈s,p.1.length=c.wide/\p.2<c.states.length
noncomputable def bN1(b:Bool):Nat:=if b=true then 1 else 0
noncomputable def numF(row:List Bool):Nat:=row.foldl (fun n b=>2*n+bN1 b) 0
theorem x4y:∀(r:List Bool)(n:Nat),r.foldl (fun n b=>2*n+bN1 b) n<(n+1)*2^r.length
 |[],n=>by simp
 |b::r,n=>by
  have ih:=x4y r (2*n+bN1 b);rw[w2y,w0u,w3z];have hb:bN1 b<=1:=by unfold bN1;split<;>omega
  have:(2*n+bN1 b+1)*2^r.length<=(n+1)*2*2^r.length:=Nat.mul_le_mul_right _ (by omega);rw[Nat.mul_comm (2^r.length) 2,<- Nat.mul_assoc];omega
theorem x4z(r:List Bool):numF r<2^r.length:=by
 have:=x4y r 0;rw[w2k,Nat.one_mul]at this;exact this
noncomputable def Mc.at(c:Mc)(s:Nat)(row:List Bool):Pr:=(c.states.getD s []).getD (numF row) ([],0)
noncomputable def encPr(p:Pr):W:=.tup [encB p.1,.int (p.2:Int)]
noncomputable def encSt(s:List Pr):W:=.lst (s.map encPr)
noncomputable def encMc(c:Mc):W:=.tup [.int (c.m:Int),.int (c.wide:Int),.lst (c.states.map encSt)]
theorem y2e(n m:Nat)(hm:m<=100):run K a (n+1) q2o [.int (m:Int)]=.ok (.fr (.int ((2^m:Nat):Int))):=by
 rw[q6m];unfold q30;walk_at "den";rw[if_pos (q27 (by omega) (by omega))];walk_at "den"
 obtain⟨e',h2,z,rfl⟩:=q11 (b:=q4n K a (run K a n)) (i:=2) (lo:=0) (hi:=(m:Int)) m (by omega) (fun j e=>∃z,e=[.fr (.int (m:Int)),.fr (.int ((2^j:Nat):Int)),z]) [.fr (.int (m:Int)),.fr (.int 1),.no] ⟨.no,rfl⟩ (by
  rintro j e hj ⟨z,rfl⟩;unfold q4n;walk_at "den";refine⟨_,rfl,.fr (.int (0+(j:Int))),?_⟩;rw[w3z,Int.natCast_mul,Int.mul_comm];rfl)
 rw[h2];walk_at "den"
open M10
theorem y6o(n:Nat)(i m:Int)(h0:0<=m)(h1:m<1000)(hi:i.natAbs<2^1000):run K a (n+1) q3l [.int i,.int m]=if rest m.toNat i=0 then .ok (.fr (.tup ((bits m.toNat i).reverse.map .bl)))else .ex (.ref a.NoRow):=by
 rw[q88];unfold q42;walk_at "den";rw[if_pos (q27 (by omega) (by omega))];walk_at "den"
 obtain⟨e',h2,z,rfl⟩:=q11 (b:=q6f K a (run K a n)) (i:=4) (lo:=0) (hi:=m) m.toNat (by omega) (fun j e=>∃z,e=[.fr (.int i),.fr (.int m),.own none ((bits j i).map .bl),.fr (.int (rest j i)),z]) [.fr (.int i),.fr (.int m),.own none [],.fr (.int i),.no] ⟨_,rfl⟩ (by
  rintro j e hj ⟨z,rfl⟩;unfold q6f;walk_at "den";rw[if_pos (by rw[w0a,q6e];omega)];walk_at "den";exact⟨_,rfl,_,by rw[x02,x03,w0q];rfl⟩)
 rw[h2];walk_at "den"
 by_cases hr:rest m.toNat i=0
 ·rw[if_pos hr];simp only[hr];walk_at "den";rw[List.map_reverse]
 ·rw[if_neg hr];simp only[hr];walk_at "den"
theorem x26:∀(n:Nat){l:List Nat},l.Nodup->(∀x∈l,x<n)->l.length<=n
 |0,l,_,h=>by
  cases l with
  |nil=>simp
  |cons x l=>exact absurd (h x (by simp)) (by omega)
 |n+1,l,hn,h=>by
  by_cases m:n∈l
  ·have e:=w3i m
   have:=x26 n (hn.erase n) (fun x hx=>by
    have:=(hn.mem_erase_iff).mp hx;have:=h x this.2;omega)
   have:0<l.length:=w3p m;omega
  ·have:=x26 n hn (fun x hx=>by
    have:=h x hx;have:x≠n:=fun z=>m (z ▸ hx)
    omega)
   omega
open M10
noncomputable def rowB(m:Nat)(k:Nat):List Bool:=(bits m (k:Int)).reverse
theorem x27(m k:Nat):(rowB m k).length=m:=by unfold rowB;rw[w2j,q6e]
theorem y6p(n:Nat)(hk:k<2^m)(hm:m<=10):run K a (n+1) q3l [.int (k:Int),.int (m:Int)]=.ok (.fr (.tup ((rowB m k).map .bl))):=by
 have h10:(2:Nat)^m<=2^10:=w0w (by decide) hm;have h1024:(2:Nat)^10=1024:=by decide
 have hk2:(k:Int)<2^m:=by exact_mod_cast hk
 rw[y6o n k m (by omega) (by omega) (w0o (show(k:Int).natAbs<2^10 by rw[Int.natAbs_natCast];omega) (w0w (by decide) (by decide))),if_pos (x8v (by omega) (by simpa using hk2))];rw[w2q];rfl
theorem x85(q:Nat):rangeW 0 (q:Int)=(List.range q).map fun k=>W.int ((k:Nat):Int):=by
 unfold rangeW;rw[w4q,w2q];apply w1n;intro k _;rw[w2l]
noncomputable def rowsB(m:Nat):List (List Bool):=(List.range (2^m)).map (rowB m)
theorem x28(n:Nat)(hm:m<=3):run K a (n+2) q23 [.int (m:Int)]=.ok (.own none ((rowsB m).map encB)):=by
 have p8:(2:Nat)^m<=8:=w0r (w0w (by decide) hm) (by decide);obtain⟨N,hN⟩:∃N,(2:Nat)^m=N:=⟨_,rfl⟩;rw[hN]at p8;rw[q7d];unfold q37;walk_at "den";rw[y2e n m (by omega),hN];walk_at "den";rw[if_pos (q27 (by omega) (by omega))];walk_at "den";rw[if_pos (by rw[len_range];omega)];simp only[frz1,pj1,w0m,w1d];rw[x85,D.q56 (g:=fun w=>match w with|.int k=>W.tup ((rowB m k.toNat).map .bl)|w=>w)]
 ·walk_at "den";unfold rowsB;rw[hN,w1g,w1g];rfl
 ·intro w hw;obtain⟨k,hk,rfl⟩:=w0z.mp hw;rw[w1o]at hk;unfold q7c;walk_at "den";rw[y6p n (by rw[hN];exact hk) (by omega)];walk_at "den";exact⟨_,rfl⟩
theorem q8n:∀r:List Bool,r.length<=4->rowB r.length (numF r)=r
 |[],_=>rfl
 |[a],_=>by cases a<;>rfl
 |[a,b],_=>by cases a<;>cases b<;>rfl
 |[a,b,c],_=>by cases a<;>cases b<;>cases c<;>rfl
 |[a,b,c,d],_=>by cases a<;>cases b<;>cases c<;>cases d<;>rfl
 |_::_::_::_::_::_,h=>by simp at h
theorem y2f{r s:List Bool}(h:r.length=s.length)(hl:r.length<=4)(e:numF r=numF s):r=s:=by
 rw[<- q8n r hl,<- q8n s (by omega),h,e]
noncomputable abbrev PrB:=List Bool×List Bool
noncomputable def encG(p:PrB):W:=.tup [encB p.1,encB p.2]
theorem x6f(l:List PrB):pairsW (l.map encG)=some (l.map fun p=>(encB p.1,encB p.2)):=by
 induction l with
 |nil=>rfl
 |cons p l ih=>
  show(pairsW (l.map encG)).map _=_;rw[ih];rfl
noncomputable def keyB(x:List Bool):Kx:=.tup (x.map .bl)
noncomputable abbrev shB:Sh:=.many .bl
theorem y20:∀bs:List Bool,kxWs (bs.map .bl)=some (bs.map .bl)
 |[]=>rfl
 |b::bs=>by
  show(match kxW (.bl b),kxWs (bs.map .bl)with|some k,some ks=>some (k::ks)|_,_=>none)=_;rw[y20 bs];rfl
theorem x40:∀bs:List Bool,ConfM (bs.map .bl) .bl
 |[]=>trivial
 |_::bs=>⟨trivial,x40 bs⟩
theorem x86:∀bs:List Bool,Kx.depths (bs.map .bl)=0
 |[]=>rfl
 |b::bs=>by show max 0 (Kx.depths (bs.map .bl))=0;rw[x86 bs];rfl
theorem q48(x:List Bool):keyT (encB x)=some (keyB x):=by
 show(kxWs (x.map .bl)).map Kx.tup=_;rw[y20];rfl
theorem q7l(x:List Bool):fits (keyB x) shB:=⟨x40 x,by show Kx.depths (x.map .bl)+1<=7;rw[x86];decide⟩
theorem x29{y:List Bool}(h:keyB x=keyB y):x=y:=by
 unfold keyB at h;injection h with h
 exact(w4i (fun x y h=>by injection h)).mp h
structure NB(q:Nat)(T:List (List Bool)):Prop where
 nd:T.Nodup
 len:∀x∈T,x.length=q
theorem NB.most(hq:q<=4){T:List (List Bool)}(h:NB q T):T.length<=16:=by
 have:=x26 16 (l:=T.map numF) (List.pairwise_map.mpr (List.Pairwise.imp_of_mem (fun {x y} hx hy hne e=>hne (y2f (by rw[h.len x hx,h.len y hy]) (by rw[h.len x hx];exact hq) e)) h.nd)) fun z hz=>by
  obtain⟨x,hx,rfl⟩:=w0z.mp hz;have h1:=x4z x;rw[h.len x hx]at h1;exact w0o h1 (w0r (w0w (by decide) hq) (by decide))
 rwa [w0a]at this
theorem x41:∀bs:List Bool,noFns (bs.map .bl)=true
 |[]=>rfl
 |b::bs=>by show(true&&noFns (bs.map .bl))=true;rw[x41 bs];rfl
theorem q6j{f:α->W}(h:∀x,noFn (f x)=true):∀l:List α,noFns (l.map f)=true
 |[]=>rfl
 |x::l=>by show(noFn (f x)&&noFns (l.map f))=true;rw[h x,q6j h l];rfl
theorem q4b:∀f:Fm,noFn (enc f)=true
 |.is b=>rfl
 |.at p=>rfl
 |.not f=>by show(true&&(noFn (enc f)&&true))=true;rw[q4b f];rfl
 |.and f g=>by show(true&&(noFn (enc f)&&(noFn (enc g)&&true)))=true;rw[q4b f,q4b g];rfl
 |.or f g=>by show(true&&(noFn (enc f)&&(noFn (enc g)&&true)))=true;rw[q4b f,q4b g];rfl
 |.odd f g=>by show(true&&(noFn (enc f)&&(noFn (enc g)&&true)))=true;rw[q4b f,q4b g];rfl
theorem nf_C(c:Cc):noFn (encC c)=true:=by
 show(true&&(noFns (c.cells.map encP)&&(noFns (c.outs.map enc)&&true)))=true;rw[q6j (f:=encP) fun p=>by show(true&&(noFn (enc p.2)&&true))=true;rw[q4b];rfl,q6j (f:=enc) q4b];rfl
theorem nf_B(b:List Bool):noFn (encB b)=true:=x41 b
noncomputable def gC(c:Cc)(st:List Bool):List PrB:=(rowsB c.m).map fun r=>(outsV c st r,nextV c st r)
theorem q7m(c:Cc)(st:List Bool):(gC c st).length=2^c.m:=by unfold gC rowsB;simp
theorem x1u(c:Cc)(st:List Bool):∀p∈gC c st,p.1.length=c.outs.length/\p.2.length=c.cells.length:=fun p hp=>by
 obtain⟨r,_,rfl⟩:=w0z.mp hp;exact⟨by unfold outsV;simp,by unfold nextV;simp⟩
theorem two8{c:Cc}(hc:c.Ok):2^c.m<=8:=w0r (w0w (by decide) hc.mm) (by decide)
noncomputable def unB:W->Bool
 |.bl b=>b
 |_=>false
noncomputable def gM(c:Cc)(st:List Bool):W->W
 |.tup ws=>movedW c st (ws.map unB)
 |w=>w
theorem x87(c:Cc)(st r:List Bool):gM c st (.tup (r.map .bl))=movedW c st r:=by
 show movedW c st ((r.map .bl).map unB)=_;rw[w1g,show(unB ∘ W.bl)=id from rfl,List.map_id]
theorem x88(n:Nat)(c:Cc)(hc:c.Ok)(st:List Bool)(hs:st.length=c.cells.length)(e:List S):callVK lams (run K a (n+103)) q1i q1m [encC c,.lst ((rowsB c.m).map encB)] [encB st] e=.ok (.lst ((gC c st).map encG)) e:=by
 refine x8e q7y (by show(noFn (encB st)&&true)=true;rw[nf_B];rfl) (by show(noFn (encC c)&&(noFns ((rowsB c.m).map encB)&&true))=true;rw[nf_C,q6j nf_B];rfl) ?_;show run K a (n+103) q1i [encB st,encC c,.lst ((rowsB c.m).map encB)]=_;have p8:=two8 hc;have hl:((rowsB c.m).map encB).length<=8:=by unfold rowsB;simp;exact p8
 rw[q26];unfold q2j;walk_at "den";rw[if_pos (by omega)];simp only[frz1,pj1,w0m,w1d];rw[D.q56 (g:=gM c st)]
 ·walk_at "den";unfold gC;rw[w1g,w1g];show FR.ok (S.fr (W.lst _))=FR.ok (S.fr (W.lst _));congr 3;refine w1n fun r _=>?_
  show gM c st (.tup (r.map .bl))=_;rw[x87,x08];rfl
 ·intro w hw;obtain⟨r,hr,rfl⟩:=w0z.mp hw;obtain⟨k,_,rfl⟩:=w0z.mp hr;have mv:=x8z (K:=K) (a:=a) n c hc st (rowB c.m k) hs (x27 _ _);unfold q36 encB;walk_at "den";rw[mv,x87];walk_at "den";exact⟨_,rfl⟩
theorem at4(h:m<=3):atI [W.int 1,.int 2,.int 4,.int 8] (m:Int)=some (.int ((2^m:Nat):Int)):=by
 have:m=0\/m=1\/m=2\/m=3:=by omega
 rcases this with rfl|rfl|rfl|rfl<;>rfl
theorem q9l(n m:Nat)(h:m<=3):run K a (n+1) q1b [.int (m:Int)]=.ok (.fr (.int ((2^m:Nat):Int))):=by
 rw[q45];unfold q2w;walk_at "den";rw[at4 h];walk_at "den"
theorem q9m(q:Nat)(r:List Bool)(h:r.length<=q):plainW (encB r)=true/\depW (encB r)=1/\wgt (encB r)<=q:=by
 obtain⟨h1,h2,h3⟩:=q4h r;refine⟨h1,?_,?_⟩
 ·show depWs (r.map .bl)+1=1;rw[h2]
 ·show wgts (r.map .bl)<=q;rw[h3];exact h
theorem q6k(h1:plainWs ws=true)(h2:depWs ws<=90)(h3:wgts ws<=1000000):∃x:Str,repr1 [.tup ws]=some (.str x):=by
 obtain⟨d,d1,d2,d3,d4,d5⟩:=x2h (.tup ws) h1;refine⟨d.shown,?_⟩;show(toD (.tup ws)).bind _=_;rw[d1];show(if d.showable=true/\d.depth<=100/\d.shown.length<=16777216 then some (W.str d.shown)else none)=_;have hw:d.weight<=2^20:=by rw[d5];exact w0r h3 (by decide)
 have hs:=PyData.shown_fits (B:=8) (by decide) (by decide) d3 hw;rw[sizeLine_eq]at hs;exact if_pos ⟨d2,by rw[d4];show depWs ws+1<=100;omega,hs⟩
theorem q97:∀bs:List Bool,flatWs (bs.map .bl)=true
 |[]=>rfl
 |b::bs=>by show(true&&flatWs (bs.map .bl))=true;rw[q97 bs];rfl
theorem y6q(p:Pr):flatW (encPr p)=true:=by
 show(flatWs (p.1.map .bl)&&(true&&true))=true;rw[q97];rfl
theorem q8o{f:α->W}(h:∀x,flatW (f x)=true):∀l:List α,flatWs (l.map f)=true
 |[]=>rfl
 |x::l=>by show(flatW (f x)&&flatWs (l.map f))=true;rw[h x,q8o h l];rfl
theorem x3a(s:List Pr):flatWs (s.map encPr)=true:=q8o y6q s
noncomputable abbrev Pq:=List Bool
noncomputable def addP(l:List Pq)(x:Pq):List Pq:=if x∈l then l else l++[x]
theorem y2g(l:List Pq)(x:Pq):∃m,addP l x=l++m:=by
 unfold addP;split
 ·exact⟨[],by simp⟩
 ·exact⟨[x],rfl⟩
theorem q98(l:List Pq)(x:Pq):x∈addP l x:=by
 unfold addP;split
 ·assumption
 ·simp
theorem q99{l:List Pq}(h:l.Nodup)(x:Pq):(addP l x).Nodup:=by
 unfold addP;split
 ·exact h
 ·rename_i hx;refine w3h.mpr ⟨h,by simp,?_⟩;intro a ha b hb e;simp at hb;subst hb;subst e;exact hx ha
theorem q4m:∀(xs l:List Pq),∃m,xs.foldl addP l=l++m
 |[],l=>⟨[],by simp⟩
 |x::xs,l=>by
  obtain⟨m1,h1⟩:=y2g l x;obtain⟨m2,h2⟩:=q4m xs (addP l x);exact⟨m1++m2,by rw[w2y,h2,h1,w1u]⟩
theorem x3b:∀(xs l:List Pq),∀x∈xs,x∈xs.foldl addP l
 |[],_,_,h=>nomatch h
 |y::xs,l,x,h=>by
  rw[w2y];rcases w0j.mp h with rfl|h
  ·obtain⟨m,e⟩:=q4m xs (addP l x);rw[e];exact w1r _ (q98 l x)
  ·exact x3b xs _ x h
theorem x3c:∀(xs:List Pq){l:List Pq},l.Nodup->(xs.foldl addP l).Nodup
 |[],_,h=>h
 |x::xs,l,h=>x3c xs (q99 h x)
theorem x09{B:Pq->Prop}:∀(xs l:List Pq),(∀x∈l,B x)->(∀x∈xs,B x)->∀x∈xs.foldl addP l,B x
 |[],_,h,_=>h
 |y::xs,l,h,g=>x09 xs (addP l y) (fun x hx=>by
   unfold addP at hx;split at hx
   ·exact h x hx
   ·rcases w1h.mp hx with z|z
    ·exact h x z
    ·rw[w1f.mp z];exact g y (by simp)) fun x hx=>g x (by simp[hx])
theorem q7v{l m:List Pq}{x:Pq}(h:x∈l):(l++m).idxOf x=l.idxOf x:=by
 rw[List.idxOf_append,if_pos h]
theorem q7w{l m:List Pq}{x:Pq}(h:x∉l):(l++x::m).idxOf x=l.length:=by
 rw[List.idxOf_append,if_neg h,List.idxOf_cons_self];omega
theorem x3d{l:List Pq}{x:Pq}(h:x∈l):l.idxOf x<l.length:=w3j.mpr h
noncomputable def bfP(g:Pq->List PrB)(b:Pq):Nat->List Pq
 |0=>[b]
 |i+1=>if i<(bfP g b i).length then((g ((bfP g b i).getD i ([]:List Bool))).map (·.2)).foldl addP (bfP g b i)else bfP g b i
theorem q7x(g:Pq->List PrB)(b:Pq)(i:Nat):∃m,bfP g b (i+1)=bfP g b i++m:=by
 show ∃m,(if i<(bfP g b i).length then((g ((bfP g b i).getD i ([]:List Bool))).map (·.2)).foldl addP (bfP g b i)else bfP g b i)=_;split
 ·exact q4m _ _
 ·exact⟨[],by simp⟩
theorem q6l(g:Pq->List PrB)(b:Pq)(i:Nat):∀d,∃m,bfP g b (i+d)=bfP g b i++m
 |0=>⟨[],by simp⟩
 |d+1=>by
  obtain⟨m1,h1⟩:=q6l g b i d;obtain⟨m2,h2⟩:=q7x g b (i+d);exact⟨m1++m2,by rw[<- w4f,h2,h1,w1u]⟩
theorem q5z(g:Pq->List PrB)(b:Pq):∀i,(bfP g b i).Nodup
 |0=>by simp[bfP]
 |i+1=>by
  unfold bfP;split
  ·exact x3c _ (q5z g b i)
  ·exact q5z g b i
theorem q4f{g:Pq->List PrB}{b:Pq}{B:Pq->Prop}(h0:B b)(hs:∀x,B x->∀p∈g x,B p.2):∀i,∀x∈bfP g b i,B x
 |0=>fun x hx=>by
  have:x=b:=by simpa [bfP]using hx
  rw[this];exact h0
 |i+1=>by
  unfold bfP;split
  ·rename_i hi;refine x09 _ _ (q4f h0 hs i) fun x hx=>?_
   obtain⟨p,hp,rfl⟩:=w0z.mp hx;refine hs _ (q4f h0 hs i _ ?_) p hp;have e:(bfP g b i).getD i ([]:List Bool)=(bfP g b i)[i]:=by simp[List.getD,hi]
   rw[e];exact w2g hi
  ·exact q4f h0 hs i
theorem y2h(g:Pq->List PrB)(b:Pq)(i:Nat):∃m,bfP g b i=b::m:=by
 obtain⟨m,h⟩:=q6l g b 0 i;rw[w2k]at h;exact⟨m,by rw[h];rfl⟩
noncomputable def numP(T:List Pq)(s:List PrB):List Pr:=s.map fun p=>(p.1,T.idxOf p.2)
theorem y2i{T m:List Pq}{s:List PrB}(h:∀p∈s,p.2∈T):numP (T++m) s=numP T s:=by
 unfold numP;refine w1n fun p hp=>?_
 rw[q7v (h p hp)]
theorem x3e{g:Pq->List PrB}{b:Pq}:∀i,i<=(bfP g b i).length->∀x∈(bfP g b i).take i,∀p∈g x,p.2∈bfP g b i
 |0,_,x,hx=>by simp at hx
 |i+1,hl,x,hx=>by
  obtain⟨m,hm⟩:=q7x g b i;intro p hp
  by_cases hi:i<(bfP g b i).length
  ·have hx':x∈(bfP g b i).take (i+1):=by
    rw[hm,w2u (by omega)]at hx;exact hx
   rw[w2p hi]at hx';rcases w1h.mp hx' with z|z
   ·rw[hm];exact w1r _ (x3e i (by omega) x z p hp)
   ·rw[w1f]at z;subst z;unfold bfP;rw[if_pos hi];refine x3b _ _ _ (w0z.mpr ⟨p,?_,rfl⟩);have e:(bfP g b i).getD i ([]:List Bool)=(bfP g b i)[i]:=by simp[List.getD,hi]
    rw[e];exact hp
  ·have e:bfP g b (i+1)=bfP g b i:=by
    show(if i<(bfP g b i).length then _ else bfP g b i)=_;rw[if_neg hi]
   rw[e]at hl;omega
theorem y90{g:Pq->List PrB}{b:Pq}(hi:i<(bfP g b i).length):((bfP g b (i+1)).take (i+1)).map (fun x=>numP (bfP g b (i+1)) (g x))=((bfP g b i).take i).map (fun x=>numP (bfP g b i) (g x))++[numP (bfP g b (i+1)) (g ((bfP g b i).getD i ([]:List Bool)))]:=by
 obtain⟨m,hm⟩:=q7x g b i;have e:(bfP g b i).getD i ([]:List Bool)=(bfP g b i)[i]:=by simp[List.getD,hi]
 have h1:(bfP g b (i+1)).take (i+1)=(bfP g b i).take i++[(bfP g b i)[i]]:=by
  rw[hm,w2u (by omega),w2p hi]
 rw[h1,w0q,e];congr 1;refine w1n fun x hx=>?_
 rw[hm];exact y2i (x3e i (by omega) x hx)
noncomputable def nI(k:Nat):W:=.int (k:Int)
theorem lk_N{f:α->List Bool}{v:α->W}:∀{l:List α},(∀q,q∈l->f q≠x)->lkW (l.map fun q=>keyB (f q)) (l.map v) (keyB x)=none
 |[],_=>rfl
 |q::l,h=>by
  show(if keyB (f q)=keyB x then _ else _)=_;rw[if_neg fun z=>h q (by simp) (x29 z)]
  exact lk_N fun q' hq=>h q' (by simp[hq])
theorem y21{f:α->List Bool}{v:α->W}{q:α}:∀{l:List α},(l.map f).Nodup->q∈l->lkW (l.map fun q=>keyB (f q)) (l.map v) (keyB (f q))=some (v q)
 |p::l,hn,h=>by
  rw[w0y,w1v]at hn;show(if keyB (f p)=keyB (f q)then some (v p)else _)=_;rcases w0j.mp h with rfl|h
  ·rw[if_pos rfl]
  ·rw[if_neg fun z=>hn.1 (by rw[x29 z];exact w0z.mpr ⟨q,h,rfl⟩)]
   exact y21 hn.2 h
noncomputable def nvP(L:List Pq):List W:=L.map fun y=>nI (L.idxOf y)
noncomputable def nmP(L:List Pq):S:=.dw shB (L.map keyB) (nvP L)
theorem x3f{L:List Pq}{y:Pq}(h:y∉L):nvP (L++[y])=nvP L++[nI L.length]:=by
 unfold nvP;rw[w0q];congr 1
 ·refine w1n fun z hz=>?_
  rw[q7v hz]
 ·rw[w0y,List.map_nil,q7w h]
theorem x3g{L:List Pq}(hn:L.Nodup){y:Pq}(h:y∈L):lkW (L.map keyB) (nvP L) (keyB y)=some (nI (L.idxOf y)):=y21 (f:=id) (v:=fun y=>nI (L.idxOf y)) (by simpa using hn) h
theorem x42{L:List Pq}{y:Pq}(h:y∉L):lkW (L.map keyB) (nvP L) (keyB y)=none:=lk_N (f:=id) (v:=fun y=>nI (L.idxOf y)) fun q hq e=>h (by rw[<- (show q=y from e)];exact hq)
theorem x89(r:Nat->List W->FR)(w0 w1:W)(T:List Pq)(hT:T.length<=1000)(hn:T.Nodup)(sts:List W)(z5:W)(st:List Pr)(hst:st.length<=100)(t:List Bool)(y:Pq):
  q3e K a r [.fr w0,.fr w1,.own none (T.map encB),nmP T,.x (.acc sts),.fr z5,.own none (st.map encPr),.fr (encB t),.fr (encB y)] =
   .nx [.fr w0,.fr w1,.own none ((addP T y).map encB),nmP (addP T y),.x (.acc sts),.fr z5,.own none ((st++[(t,(addP T y).idxOf y)]).map encPr),.fr (encB t),.fr (encB y)]:=by
 have en:=y9f (fz:=false) (sh:=shB) (ks:=T.map keyB) (ws:=nvP T) (q48 y) (q7l y);have nd2:=q99 hn y;unfold q3e nmP;walk_at "den";rw[en];walk_at "den"
 by_cases h:y∈T
 ·have e:addP T y=T:=if_pos h;rw[e,x3g hn h];walk_at "den";rw[if_neg (by simp),y2x (q48 y) (q7l y),x3g hn h];walk_at "den";rw[if_pos (by rfl),if_pos (by rw[w0a];omega),w0q];rfl
 ·have e:addP T y=T++[y]:=if_neg h;rw[e]at nd2 |-
  have lk2:=x3g nd2 (show y∈T++[y] by simp);rw[x3f h,q7w h,w0q]at lk2;have lk2:lkW (T.map keyB++[keyB y]) (nvP T++[nI T.length]) (keyB y)=some (nI T.length):=lk2;have hl:(nvP T).length=T.length:=by unfold nvP;rw[w0a]
  rw[x42 h];walk_at "den";rw[if_pos (by rfl),w0a,show(W.int (T.length:Int))=nI T.length from rfl,y5j (q48 y) (by rw[w0a];omega) (by rfl) (q7l y) (x42 h)];walk_at "den";rw[if_pos (by rw[w0a];omega)];walk_at "den";rw[y2x (q48 y) (q7l y),lk2];walk_at "den";rw[if_pos (by rfl),if_pos (by rw[w0a];omega),x3f h,q7w h,w0q,w0q,w0q];rfl
theorem x3h(r:Nat->List W->FR)(w0 w1:W)(sts:List W)(z5:W):∀(ps:List PrB)(T:List Pq)(st:List Pr)(z7 z8:S),isT z7=false->isT z8=false->T.Nodup->T.length+ps.length<=1000->st.length+ps.length<=100 ->
  ∃z7' z8',(isT z7'=false/\isT z8'=false)/\forP 7 8 (q3e K a r) (ps.map fun p=>(encB p.1,encB p.2)) [.fr w0,.fr w1,.own none (T.map encB),nmP T,.x (.acc sts),.fr z5,.own none (st.map encPr),z7,z8] =
   .nx [.fr w0,.fr w1,.own none (((ps.map (·.2)).foldl addP T).map encB),nmP ((ps.map (·.2)).foldl addP T),.x (.acc sts),.fr z5,.own none ((st++numP ((ps.map (·.2)).foldl addP T) ps).map encPr),z7',z8']
 |[],T,st,z7,z8,t7,t8,_,_,_=>⟨z7,z8,⟨t7,t8⟩,by show SR.nx _=_;simp[numP]⟩
 |p::ps,T,st,z7,z8,t7,t8,hn,h1,h2=>by
  have q:=x89 (K:=K) (a:=a) r w0 w1 T (by simp at h1;omega) hn sts z5 st (by simp at h2;omega) p.1 p.2;have hl:(addP T p.2).length<=T.length+1:=by unfold addP;split<;>simp
  obtain⟨z7',z8',tt,g⟩:=x3h r w0 w1 sts z5 ps (addP T p.2) (st++[(p.1,(addP T p.2).idxOf p.2)]) (.fr (encB p.1)) (.fr (encB p.2)) rfl rfl (q99 hn p.2) (by simp at h1;omega) (by simp at h2 |-;omega);refine⟨z7',z8',tt,?_⟩;show(q3e K a r [.fr w0,.fr w1,.own none (T.map encB),nmP T,.x (.acc sts),.fr z5,.own none (st.map encPr),.fr (encB p.1),.fr (encB p.2)]).turnT (forP 7 8 (q3e K a r) (ps.map fun p=>(encB p.1,encB p.2)))=_
  rw[q];walk_at "den";rw[g];show _=SR.nx [.fr w0,.fr w1,.own none (((ps.map (·.2)).foldl addP (addP T p.2)).map encB),nmP ((ps.map (·.2)).foldl addP (addP T p.2)),.x (.acc sts),.fr z5,.own none ((st++numP ((ps.map (·.2)).foldl addP (addP T p.2)) (p::ps)).map encPr),z7',z8'];obtain⟨m,hm⟩:=q4m (ps.map (·.2)) (addP T p.2)
  have e:(st++[(p.1,(addP T p.2).idxOf p.2)])++numP ((ps.map (·.2)).foldl addP (addP T p.2)) ps=st++numP ((ps.map (·.2)).foldl addP (addP T p.2)) (p::ps):=by
   unfold numP;rw[w0y,w1u];congr 2;rw[hm,q7v (q98 T p.2)];rfl
  rw[e]
theorem x43(hq:q<=4){l:List Pq}(hn:l.Nodup)(h:∀x∈l,x.length=q):l.length<=400:=by
 have:=NB.most hq ⟨hn,h⟩;omega
structure TldP(K:PySem.W.Frag)(a:Adr)(n:Nat)(q:Nat)(j:Nat)(l:Lm)(caps:List W)(g:Pq->List PrB)(B:Pq->Prop):Prop where
 call:∀x,B x->∀e,callVK lams (run K a n) j l caps [encB x] e=.ok (.lst ((g x).map encG)) e
 next:∀x,B x->∀p∈g x,B p.2
 few:∀x,B x->x.length=q
 hq:q<=4
 len:∀x,B x->(g x).length<=8
noncomputable def pEnv(w0 w1:W)(g:Pq->List PrB)(b:Pq)(i:Nat)(z5 z6 z7 z8:S):List S:=[.fr w0,.fr w1,.own none ((bfP g b i).map encB),nmP (bfP g b i),.x (.acc ((((bfP g b i).take i).map fun x=>numP (bfP g b i) (g x)).map encSt)),z5,z6,z7,z8]
theorem at_N{L:List Pq}(h:i<L.length):atI (L.map encB) (i:Int)=some (encB (L.getD i ([]:List Bool))):=by
 refine q19 ?_;rw[w0g,w0d h];simp[List.getD,h]
theorem x1a(n:Nat){j:Nat}{l:Lm}{caps:List W}{g:Pq->List PrB}{B:Pq->Prop}(H:TldP K a n q j l caps g B)(w0:W)(b:Pq)(hb:B b):∀(fuel i:Nat)(z5 z6 z7 z8:S),isT z5=false->isT z6=false->isT z7=false->isT z8=false->i<=(bfP g b i).length->401<=i+fuel ->
  ∃(I:Nat)(y5 y6 y7 y8:S),(isT y5=false/\isT y6=false/\isT y7=false/\isT y8=false)/\(bfP g b I).length=I/\whileD (q31 K a (run K a n)) (q32 K a (run K a n)) (fuel+1) (pEnv w0 (.fn j l caps) g b i z5 z6 z7 z8)=.nx (pEnv w0 (.fn j l caps) g b I y5 y6 y7 y8)
 |0,i,z5,z6,z7,z8,t5,t6,t7,t8,hi,hf=>by
  have:=x43 H.hq (q5z g b i) (fun x hx=>H.few x (q4f hb H.next i x hx))
  omega
 |fuel+1,i,z5,z6,z7,z8,t5,t6,t7,t8,hi,hf=>by
  have hl:=x43 H.hq (q5z g b i) (fun x hx=>H.few x (q4f hb H.next i x hx))
  have ht:(((bfP g b i).take i).map fun x=>numP (bfP g b i) (g x)).length=i:=by rw[w0a,w2c];omega
  have hw:q31 K a (run K a n) (pEnv w0 (.fn j l caps) g b i z5 z6 z7 z8)=.ok (decide (i<(bfP g b i).length)) (pEnv w0 (.fn j l caps) g b i z5 z6 z7 z8):=by
   unfold q31 pEnv nmP;walk_at "den";have ht2:((((bfP g b i).take i).map fun x=>numP (bfP g b i) (g x)).map encSt).length=i:=by rw[w0a];exact ht
   rw[ht2,w0a];congr 1;rw[decide_eq_decide];omega
  rw[y4k,hw]
  by_cases h:i<(bfP g b i).length
  ·have hB:B ((bfP g b i).getD i ([]:List Bool)):=q4f hb H.next i _ (by rw[show(bfP g b i).getD i ([]:List Bool)=(bfP g b i)[i] by simp[List.getD,h]];exact w2g h);have hgl:=H.len _ hB
   have he:bfP g b (i+1)=((g ((bfP g b i).getD i ([]:List Bool))).map (·.2)).foldl addP (bfP g b i):=by
    show(if i<(bfP g b i).length then _ else _)=_;rw[if_pos h]
   obtain⟨y7,y8,⟨u7,u8⟩,q⟩:=x3h (K:=K) (a:=a) (run K a n) w0 (.fn j l caps) ((((bfP g b i).take i).map fun x=>numP (bfP g b i) (g x)).map encSt) (encB ((bfP g b i).getD i ([]:List Bool))) (g ((bfP g b i).getD i ([]:List Bool))) (bfP g b i) [] z7 z8 t7 t8 (q5z g b i) (by omega) (by rw[List.length_nil];omega)
   rw[<- he]at q
   have hbd:q32 K a (run K a n) (pEnv w0 (.fn j l caps) g b i z5 z6 z7 z8)=.nx (pEnv w0 (.fn j l caps) g b (i+1) (.fr (encB ((bfP g b i).getD i ([]:List Bool)))) .no y7 y8):=by
    unfold q32 pEnv;unfold nmP at q |-
    walk_at "den";rw[w0a,ht,at_N h];walk_at "den";rw[H.call _ hB];walk_at "den";rw[x6f];walk_at "den";rw[show([]:List W)=([]:List Pr).map encPr from rfl,q];walk_at "den"
    rw[y5s,if_pos ⟨⟨by rw[w0a,ht];omega,x3a _⟩,by
     simp only[w4n,w3b,w2v,List.all_nil,u7,u8];rfl⟩,y90 h,w0q]
    rfl
   rw[decide_eq_true h];walk_at "den";rw[hbd];walk_at "den";obtain⟨m,hm⟩:=q7x g b i
   exact x1a n H w0 b hb fuel (i+1) _ _ _ _ rfl rfl u7 u8 (by
    have hp:(bfP g b i).length<=(bfP g b (i+1)).length:=by rw[hm];simp
    omega) (by omega)
  ·rw[decide_eq_false h];walk_at "den";exact⟨i,z5,z6,z7,z8,⟨t5,t6,t7,t8⟩,by omega,rfl⟩
theorem x3i{g:Pq->List PrB}{b:Pq}(h:(bfP g b k).length<=k):∀d,bfP g b (k+d)=bfP g b k
 |0=>rfl
 |d+1=>by
  have ih:=x3i h d;show(if k+d<(bfP g b (k+d)).length then _ else bfP g b (k+d))=_;rw[ih,if_neg (by omega)]
theorem y91{g:Pq->List PrB}{b:Pq}{I:Nat}(hI:(bfP g b I).length=I)(hk:k<I):k<(bfP g b k).length:=by
 rcases Nat.lt_or_ge k (bfP g b k).length with h|h
 ·exact h
 ·have:=x3i h (I-k);rw[show k+(I-k)=I by omega]at this;rw[this]at hI;omega
theorem x6g{T m L:List Pq}{y:Pq}(h:L=addP T y++m):L.idxOf y<=T.length/\max T.length (L.idxOf y+1)=(addP T y).length:=by
 rw[h,q7v (q98 T y)];unfold addP;split
 ·rename_i hy;have:=x3d hy;omega
 ·rename_i hy;rw[q7w hy,w0x];simp
theorem tldC(n:Nat){c:Cc}(hc:c.Ok):TldP K a (n+103) c.cells.length q1i q1m [encC c,.lst ((rowsB c.m).map encB)] (gC c) (fun x=>x.length=c.cells.length) where
 call:=fun x hx e=>x88 n c hc x hx e
 next:=fun x hx p hp=>(x1u c x p hp).2
 few:=fun x hx=>hx
 hq:=hc.cc
 len:=fun x hx=>by rw[q7m];exact two8 hc
theorem y92(l:List (List Bool)):flatWs (l.map encB)=true:=q8o (f:=encB) (fun b=>q97 b) l
theorem q7n(c:Cc):(firstV c).length=c.cells.length:=by unfold firstV;rw[w0a]
theorem x9a(n:Nat){c:Cc}(hc:c.Ok):∃I:Nat,(bfP (gC c) (firstV c) I).length=I /\
  run K a (n+104) q3m [encB (firstV c),.fn q1i q1m [encC c,.lst ((rowsB c.m).map encB)]]=.ok (.x (.new (.tup [.lst (((bfP (gC c) (firstV c) I).map fun x=>numP (bfP (gC c) (firstV c) I) (gC c x)).map encSt),.lst ((bfP (gC c) (firstV c) I).map encB)]))):=by
 obtain⟨I,y5,y6,y7,y8,⟨t5,t6,t7,t8⟩,h1,h2⟩:=x1a (K:=K) (a:=a) (n+103) (tldC n hc) (encB (firstV c)) (firstV c) (q7n c) 999999 0 .no .no .no .no rfl rfl rfl rfl (by simp) (by omega);have h2:whileD (q31 K a (run K a (n+103))) (q32 K a (run K a (n+103))) 1000000 [.fr (encB (firstV c)),.fr (.fn q1i q1m [encC c,.lst ((rowsB c.m).map encB)]),.own none [encB (firstV c)],.dw (.many .bl) [keyB (firstV c)] [nI ([firstV c].idxOf (firstV c))],.x (.acc []),.no,.no,.no,.no]=_:=h2;rw[show[firstV c].idxOf (firstV c)=0 by simp]at h2;rw[q74];unfold q4l;walk_at "den";rw[q48,show ∀e:List S,setDVC 3 (.many .bl) (.int 0) e (some (keyB (firstV c)))=.nx (e.set 3 (.dw (.many .bl) [keyB (firstV c)] [.int 0]))from fun e=>if_pos (q7l _)]
 walk_at "den";rw[show W.int 0=nI 0 from rfl,h2];unfold pEnv nmP;walk_at "den"
 rw[y5z,if_pos (by
  simp only[w4n,w3b,w2v,List.all_nil,t5,t6,t7,t8];rfl)]
 walk_at "den";rw[y5x,if_pos (y92 _)];walk_at "den";refine⟨I,h1,?_⟩;rw[w3r (by omega)]
noncomputable def mcC(c:Cc)(L:List Pq):Mc:=⟨c.m,c.outs.length,L.map fun x=>numP L (gC c x)⟩
theorem q8p(n:Nat){c:Cc}(hc:c.Ok):∃I:Nat,(bfP (gC c) (firstV c) I).length=I /\
  run K a (n+105) q01 [encC c]=.ok (.x (.new (.tup [encMc (mcC c (bfP (gC c) (firstV c) I)),.lst ((bfP (gC c) (firstV c) I).map encB)]))):=by
 obtain⟨I,h1,g⟩:=x9a (K:=K) (a:=a) n hc;refine⟨I,h1,?_⟩;have ar:=x28 (K:=K) (a:=a) (n+102) hc.mm;have fr:=x84 (K:=K) (a:=a) (n+103) c hc;rw[q5t];unfold q3p;walk_at "den";rw[show ixW (encC c) (.int 0)=some (.int (c.m:Int))from rfl];walk_at "den";rw[ar];walk_at "den";rw[fr];walk_at "den";rw[show capsOf [0,1] [S.fr (encC c),S.fr (W.lst ((rowsB c.m).map encB)),S.no]=some [encC c,.lst ((rowsB c.m).map encB)]from rfl,q84,g];walk_at "den";rw[show ixW (encC c) (.int 0)=some (.int (c.m:Int))from rfl];walk_at "den";rw[show ixW (encC c) (.int 2)=some (.tup (c.outs.map enc))from rfl];walk_at "den";rw[w0a];rfl
theorem x9b(n:Nat)(c:Int)(m:Nat)(hm:m<=1000):run K a (n+1) q25 [.int c,.int (m:Int)]=.ok (.fr (encB (M10.bits m c).reverse)):=by
 rw[q7f];unfold q39;walk_at "den";rw[if_pos (q27 (by omega) (by omega))];walk_at "den"
 obtain⟨e',h2,bs,c',z,rfl,hl,hb⟩:=q11 (b:=q43 K a (run K a n)) (i:=3) (lo:=0) (hi:=(m:Int)) m (by omega) (fun j e=>∃(bs:List Bool)(c':Int)(z:S),e=[.fr (.int c'),.fr (.int (m:Int)),.own none (bs.map .bl),z]/\bs.length=j/\M10.bits m c=bs++M10.bits (m-j) c') [.fr (.int c),.fr (.int (m:Int)),.own none [],.no] ⟨[],_,_,rfl,rfl,rfl⟩ (by
  rintro j e hj ⟨bs,c',z,rfl,hl,hb⟩;unfold q43;walk_at "den";rw[if_pos (by rw[w0a];omega)];walk_at "den";refine⟨_,rfl,bs++[decide (c'%2=1)],_,_,by rw[w0q];rfl,by simp[hl],?_⟩;rw[hb,show m-j=(m-(j+1))+1 by omega,w1u];rfl)
 rw[h2];walk_at "den";rw[Nat.sub_self,show M10.bits 0 c'=[]from rfl,w1i]at hb;rw[hb,<- List.map_reverse];rfl
theorem z1l(c:Cc)(x:List Bool){r:Nat}(hr:r<2^c.m):(gC c x)[r]?=some (outsV c x (rowB c.m r),nextV c x (rowB c.m r)):=by
 unfold gC rowsB;rw[w1g,w0g,w0d (by simpa using hr)];simp
theorem x44(l:List (List Bool)):l.map encB=l.map bW:=rfl
theorem x3z(n:Nat){c:Cc}(hc:c.Ok)(L:List Pq)(hL:L.length<=16)(hk:L[k]?=some x)(hx:x.length=c.cells.length)(hcl:∀p∈gC c x,p.2∈L){r:Nat}(hr:r<2^c.m)(z5:S):
  ∃y5,q2r K a (run K a (n+102)) [.fr (encC c),.fr (.lst (L.map encB)),.fr (encSt (numP L (gC c x))),.fr (.int (k:Int)),.fr (.int (r:Int)),z5]=.nx [.fr (encC c),.fr (.lst (L.map encB)),.fr (encSt (numP L (gC c x))),.fr (.int (k:Int)),.fr (.int (r:Int)),y5]:=by
 have hg:=z1l c x hr;have hin:=hcl _ (w0l hg);have hout:=(x1u c x _ (w0l hg)).1;have mv:=x6d (K:=K) (a:=a) n c hc x (rowB c.m r) hx (x27 _ _);have rw1:=x9b (K:=K) (a:=a) (n+101) (r:Int) c.m (by have:=hc.mm;omega);have oo:=hc.oo;rw[x08]at mv
 have hpr:atI ((numP L (gC c x)).map encPr) (r:Int)=some (encPr (outsV c x (rowB c.m r),L.idxOf (nextV c x (rowB c.m r)))):=by
  refine q19 ?_;unfold numP;rw[w0g,w0g,hg];rfl
 have hxk:atI (L.map encB) (k:Int)=some (encB x):=by
  refine q19 ?_;rw[w0g,hk];rfl
 have hlt:=x3d hin;unfold q2r;walk_at "den";rw[hxk];walk_at "den";rw[show ixW (encC c) (.int 0)=some (.int (c.m:Int))from rfl];walk_at "den";rw[rw1];walk_at "den";rw[show encB x=.tup (x.map .bl)from rfl,show encB (M10.bits c.m (r:Int)).reverse=.tup ((rowB c.m r).map .bl)from rfl,mv];walk_at "den";generalize outsV c x (rowB c.m r)=o at *;generalize nextV c x (rowB c.m r)=y at *;have hin:y∈L:=hin;have hout:o.length=c.outs.length:=hout
 obtain⟨s,hs⟩:∃s:Str,repr1 [encPr (o,L.idxOf y)]=some (.str s):=by
  obtain⟨b1,b2,b3⟩:=q9m 12 o (by omega);have w1:=q5p (n:=L.idxOf y) (by have hlt:L.idxOf y<L.length:=hlt;omega);have hlt:L.idxOf y<L.length:=hlt;refine q6k ?_ ?_ ?_
  ·show(plainW (encB o)&&(decide (0<=((L.idxOf y:Nat):Int)/\((L.idxOf y:Nat):Int)<512)&&true))=true;rw[b1,decide_eq_true (by omega)];rfl
  ·show max (depW (encB o)) (max 0 0)<=90;omega
  ·show wgt (encB o)+1+(wgt (.int ((L.idxOf y:Nat):Int))+1+0)<=_;omega
 rw[show ninB (encB y) (.lst (L.map encB))=some (.bl false) by rw[x44,show encB y=bW y from rfl,y6i,decide_eq_true hin];rfl];walk_at "den";rw[show ixW (encSt (numP L (gC c x))) (.int (r:Int))=atI ((numP L (gC c x)).map encPr) (r:Int)from rfl,hpr];walk_at "den";rw[hs];walk_at "den";rw[show indexB (.lst (L.map encB)) [encB y]=some (.int (L.idxOf y:Nat)) by rw[x44];exact x8r hin];walk_at "den";rw[show W.tup [encB o,.int ((L.idxOf y:Nat):Int)]=encPr (o,L.idxOf y)from rfl,hs];walk_at "den";exact⟨_,rfl⟩
theorem x6h(n:Nat){c:Cc}(hc:c.Ok)(L:List Pq)(hL:L.length<=16)(hk:L[k]?=some x)(hx:x.length=c.cells.length)(hcl:∀p∈gC c x,p.2∈L):
  run K a (n+103) q1n [encC c,.lst (L.map encB),encSt (numP L (gC c x)),.int (k:Int)]=.ok (.fr (.bl true)):=by
 have p8:=two8 hc;rw[q4q];unfold q2l;walk_at "den";rw[show ixW (encC c) (.int 0)=some (.int (c.m:Int))from rfl];walk_at "den";have rr:=q9l (K:=K) (a:=a) (n+101) c.m hc.mm;obtain⟨q,hq⟩:∃q,2^c.m=q:=⟨_,rfl⟩;rw[hq]at rr p8;rw[rr];walk_at "den";rw[if_pos (q27 (by omega) (by omega))];walk_at "den"
 obtain⟨e',h2,y4,y5,rfl⟩:=q11 (b:=q2r K a (run K a (n+102))) (i:=4) (lo:=0) (hi:=(q:Int)) q (by omega) (fun r e=>∃y4 y5,e=[.fr (encC c),.fr (.lst (L.map encB)),.fr (encSt (numP L (gC c x))),.fr (.int (k:Int)),y4,y5])
  [.fr (encC c),.fr (.lst (L.map encB)),.fr (encSt (numP L (gC c x))),.fr (.int (k:Int)),.no,.no] ⟨_,_,rfl⟩ (by
  rintro r e hr ⟨y4,y5,rfl⟩;rw[w2l];obtain⟨u5,q⟩:=x3z (K:=K) (a:=a) n hc L hL hk hx hcl (by rw[hq];exact hr) y5;exact⟨_,q,_,u5,rfl⟩)
 rw[h2];walk_at "den"
theorem y2j(r:Nat->List W->FR)(w0:W)(L:List Pq)(hL:L.length<=400)(T m:List Pq)(t:List Bool)(y:Pq)(h:L=addP T y++m)(z2:S):
  q1y K a r [.fr w0,.fr (.int (T.length:Int)),z2,.fr (encPr (t,L.idxOf y))]=.nx [.fr w0,.fr (.int ((addP T y).length:Int)),z2,.fr (encPr (t,L.idxOf y))]:=by
 obtain⟨n1,n2⟩:=x6g h;have ix:ixW (encPr (t,L.idxOf y)) (.int 1)=some (.int ((L.idxOf y:Nat):Int)):=rfl;unfold q1y;walk_at "den";rw[ix];walk_at "den";rw[if_neg (by simp;omega),ix];walk_at "den"
 have e:(if((L.idxOf y:Nat):Int)+1>(T.length:Int)then((L.idxOf y:Nat):Int)+1 else(T.length:Int))=((addP T y).length:Int):=by
  rw[<- n2];split<;>omega
 rw[e]
theorem x45(r:Nat->List W->FR)(w0:W)(L:List Pq)(hL:L.length<=400)(z2:S):∀(ps:List PrB)(T m:List Pq)(z3:S),L=(ps.map (·.2)).foldl addP T++m ->
  ∃y3,forD 3 (q1y K a r) ((numP L ps).map encPr) [.fr w0,.fr (.int (T.length:Int)),z2,z3]=.nx [.fr w0,.fr (.int (((ps.map (·.2)).foldl addP T).length:Int)),z2,y3]
 |[],T,m,z3,h=>⟨z3,rfl⟩
 |p::ps,T,m,z3,h=>by
  have h:L=(ps.map (·.2)).foldl addP (addP T p.2)++m:=h;obtain⟨m1,h1⟩:=q4m (ps.map (·.2)) (addP T p.2);have q:=y2j (K:=K) (a:=a) r w0 L hL T (m1++m) p.1 p.2 (by rw[<- w1u,<- h1];exact h) z2;obtain⟨y3,g⟩:=x45 r w0 L hL z2 ps (addP T p.2) m (.fr (encPr (p.1,L.idxOf p.2))) h;refine⟨y3,?_⟩;show(q1y K a r [.fr w0,.fr (.int (T.length:Int)),z2,.fr (encPr (p.1,L.idxOf p.2))]).turnT (forD 3 (q1y K a r) ((numP L ps).map encPr))=_;rw[q];walk_at "den";rw[g];rfl
theorem y6r(n:Nat)(g:Pq->List PrB)(b:Pq)(I:Nat)(hI:(bfP g b I).length=I)(hIn:I<=400):
  run K a (n+1) q1o [.lst (((bfP g b I).map fun x=>numP (bfP g b I) (g x)).map encSt)]=.ok (.fr (.bl true)):=by
 rw[q4r];unfold q2m;walk_at "den";rw[w0a,w0a,hI,if_pos (q27 (by omega) (by omega))];walk_at "den"
 obtain⟨e',h2,y2,y3,rfl⟩:=q11 (b:=q3z K a (run K a n)) (i:=2) (lo:=0) (hi:=(I:Int)) I (by omega) (fun k e=>∃y2 y3,e=[.fr (.lst (((bfP g b I).map fun x=>numP (bfP g b I) (g x)).map encSt)),.fr (.int ((bfP g b k).length:Int)),y2,y3])
  [.fr (.lst (((bfP g b I).map fun x=>numP (bfP g b I) (g x)).map encSt)),.fr (.int 1),.no,.no] ⟨_,_,rfl⟩ (by
  rintro k e hk ⟨y2,y3,rfl⟩;rw[w2l];have hlt:=y91 hI hk;obtain⟨m0,hm0⟩:=q6l g b k (I-k);rw[show k+(I-k)=I by omega]at hm0;have hkI:k<(bfP g b I).length:=by omega
  have hkx:(bfP g b I).getD k ([]:List Bool)=(bfP g b k).getD k ([]:List Bool):=by
   rw[hm0];simp[List.getD,w1z hlt]
  have he:bfP g b (k+1)=((g ((bfP g b k).getD k ([]:List Bool))).map (·.2)).foldl addP (bfP g b k):=by
   show(if k<(bfP g b k).length then _ else _)=_;rw[if_pos hlt]
  obtain⟨m1,hm1⟩:=q6l g b (k+1) (I-(k+1));rw[show k+1+(I-(k+1))=I by omega,he]at hm1
  have hst:atI (((bfP g b I).map fun x=>numP (bfP g b I) (g x)).map encSt) (k:Int)=some (encSt (numP (bfP g b I) (g ((bfP g b k).getD k ([]:List Bool))))):=by
   refine q19 ?_;rw[w0g,w0g,w0d hkI,<- hkx];simp[List.getD,hkI]
  obtain⟨u3,q⟩:=x45 (K:=K) (a:=a) (run K a n) (.lst (((bfP g b I).map fun x=>numP (bfP g b I) (g x)).map encSt)) (bfP g b I) (by omega) (.fr (.int (k:Int))) (g ((bfP g b k).getD k ([]:List Bool))) (bfP g b k) m1 y3 hm1
  refine⟨_,?_,.fr (.int (k:Int)),u3,rfl⟩;unfold q3z;walk_at "den";rw[if_neg (by omega),hst];show forD 3 _ _ _=_;rw[q,he])
 rw[h2];walk_at "den";rw[w0a,w0a,hI];simp
theorem x1b{wide size:Nat}(hw:wide<=24)(hs:size<=400):∀s:List Pr,(∀p∈s,p.1.length=wide/\p.2<size)->plainWs (s.map encPr)=true/\depWs (s.map encPr)<=2/\wgts (s.map encPr)<=60*s.length
 |[],_=>⟨rfl,w1a _,w1a _⟩
 |p::s,h=>by
  obtain⟨i1,i2,i3⟩:=x1b hw hs s fun q hq=>h q (by simp[hq])
  obtain⟨p1,p2⟩:=h p (by simp);obtain⟨b1,b2,b3⟩:=q9m 24 p.1 (by omega);have hi:plainW (.int (p.2:Int))=true:=decide_eq_true ⟨by omega,by omega⟩;have hg:=y03 (n:=p.2) (by omega);refine⟨?_,?_,?_⟩
  ·show((plainW (encB p.1)&&(plainW (.int (p.2:Int))&&true))&&plainWs (s.map encPr))=true;rw[b1,hi,i1];rfl
  ·show max (max (depW (encB p.1)) (max 0 0)+1) (depWs (s.map encPr))<=2;rw[b2];omega
  ·show(wgt (encB p.1)+1+(wgt (.int (p.2:Int))+1+0))+1+wgts (s.map encPr)<=60*(s.length+1);omega
theorem x1c{wide size:Nat}(hm:m<=3)(hw:wide<=24)(hs:size<=400):∀l:List (List Pr),(∀s∈l,s.length=2^m/\∀p∈s,p.1.length=wide/\p.2<size)->plainWs (l.map encSt)=true/\depWs (l.map encSt)<=3/\wgts (l.map encSt)<=500*l.length
 |[],_=>⟨rfl,w1a _,w1a _⟩
 |s::l,h=>by
  obtain⟨i1,i2,i3⟩:=x1c hm hw hs l fun q hq=>h q (by simp[hq])
  obtain⟨s1,s2⟩:=h s (by simp);obtain⟨b1,b2,b3⟩:=x1b hw hs s s2;have hp:2^m<=2^3:=w0w (by decide) hm;have hp8:(2:Nat)^3=8:=rfl;refine⟨?_,?_,?_⟩
  ·show(plainWs (s.map encPr)&&plainWs (l.map encSt))=true;rw[b1,i1];rfl
  ·show max (depWs (s.map encPr)+1) (depWs (l.map encSt))<=3;omega
  ·show wgts (s.map encPr)+1+wgts (l.map encSt)<=500*(l.length+1);omega
theorem x9c(c:Mc)(few:c.m<=3)(wd:c.wide<=24)(most:c.states.length<=400)(st:∀s∈c.states,s.length=2^c.m/\∀p∈s,p.1.length=c.wide/\p.2<c.states.length):plainW (encMc c)=true/\depW (encMc c)<=6/\wgt (encMc c)<=201000:=by
 obtain⟨b1,b2,b3⟩:=x1c few wd most c.states st;have h1:plainW (.int (c.m:Int))=true:=decide_eq_true ⟨by omega,by omega⟩;have h2:plainW (.int (c.wide:Int))=true:=decide_eq_true ⟨by omega,by omega⟩;have g1:=q5p (n:=c.m) (by omega);have g2:=q5p (n:=c.wide) (by omega);refine⟨?_,?_,?_⟩
 ·show(plainW (.int (c.m:Int))&&(plainW (.int (c.wide:Int))&&(plainWs (c.states.map encSt)&&true)))=true;rw[h1,h2,b1];rfl
 ·show max 0 (max 0 (max (depWs (c.states.map encSt)+1) 0))+1<=6;omega
 ·show wgt (.int (c.m:Int))+1+(wgt (.int (c.wide:Int))+1+(wgts (c.states.map encSt)+1+0))<=201000;omega
theorem x9d{f:α->Int}{p q:α}(h:f p=f q):∀l:List α,(l.map f).Nodup->p∈l->q∈l->p=q
 |[],_,z,_=>by cases z
 |x::l,n,a,b=>by
  rw[w0y,w1v]at n;rcases w0j.mp a with e1|a1
  ·rcases w0j.mp b with e2|b1
   ·rw[e1,e2]
   ·exact absurd (w0z.mpr ⟨q,b1,by rw[<- e1,h]⟩) n.1
  ·rcases w0j.mp b with e2|b1
   ·exact absurd (w0z.mpr ⟨p,a1,by rw[<- e2,h]⟩) n.1
   ·exact x9d h l n.2 a1 b1
noncomputable def hB(x:List Bool):Int:=hT (x.map .bl)
theorem z1m:∀q:Fin 5,((rowsB q.val).map hB).Nodup:=by decide +kernel
theorem y93{y:List Bool}(hl:x.length=y.length)(h4:x.length<=4)(h:hB x=hB y):x=y:=by
 have mem:∀z:List Bool,z.length<=4->z∈rowsB z.length:=fun z hz=>w0z.mpr ⟨numF z,w1o.mpr (x4z z),q8n z hz⟩
 have m2:=mem y (by omega);rw[<- hl]at m2;exact x9d h _ (z1m ⟨x.length,by omega⟩) (mem x h4) m2
theorem y22:∀x:List Bool,scKs (x.map .bl)=some (x.map .bl)
 |[]=>rfl
 |b::x=>by
  show(match scK (.bl b),scKs (x.map .bl)with|some k,some ks=>some (k::ks)|_,_=>none)=_;rw[y22 x];rfl
theorem x9e:∀L:List Pq,tupKs (L.map encB)=some (L.map fun x=>x.map .bl)
 |[]=>rfl
 |x::L=>by
  show(match scKs (x.map .bl),tupKs (L.map encB)with|some k,some ks=>some (k::ks)|_,_=>none)=_;rw[x9e L,y22];rfl
theorem y2k(hq:q<=4){L:List Pq}(h:NB q L):lensetT1 (.lst (L.map encB))=some (.int (L.length:Int)):=by
 have hl:=h.most hq;rw[x8n (x9e L) (by rw[w0a];omega),w0a];rw[w1g];refine List.pairwise_map.mpr (List.Pairwise.imp_of_mem (fun {x y} hx hy hne e=>hne (y93 (by rw[h.len x hx,h.len y hy]) (by rw[h.len x hx];exact hq) e)) h.nd)
theorem z1n{c:Cc}{L:List Pq}(hcl:∀x∈L,∀p∈gC c x,p.2∈L):∀s∈(mcC c L).states,s.length=2^c.m/\∀p∈s,p.1.length=c.outs.length/\p.2<(mcC c L).states.length:=by
 intro s hs;obtain⟨x,hx,rfl⟩:=w0z.mp hs;refine⟨by unfold numP;rw[w0a,q7m],fun p hp=>?_⟩
 obtain⟨q,hq,rfl⟩:=w0z.mp hp;refine⟨(x1u c x q hq).1,?_⟩;show L.idxOf q.2<(L.map _).length;rw[w0a];exact x3d (hcl x hx q hq)
theorem y2l{c:Cc}(hc:c.Ok){L:List Pq}(hl:L.length<=16)(hlen:∀x∈L,x.length=c.cells.length)(hcl:∀x∈L,∀p∈gC c x,p.2∈L):∃x:Str,repr1 [.tup [encMc (mcC c L),.lst (L.map encB)]]=some (.str x):=by
 obtain⟨a1,a2,a3⟩:=x9c (mcC c L) hc.mm (by show c.outs.length<=24;have:=hc.oo;omega) (by show(L.map _).length<=400;rw[w0a];omega) (z1n hcl);obtain⟨b1,b2,b3⟩:=q6i 4 L fun x hx=>by rw[hlen x hx];exact hc.cc
 refine q6k ?_ ?_ ?_
 ·show(plainW (encMc (mcC c L))&&(plainWs (L.map encB)&&true))=true;rw[a1,b1];rfl
 ·show max (depW (encMc (mcC c L))) (max (depWs (L.map encB)+1) 0)<=90;omega
 ·show wgt (encMc (mcC c L))+1+(wgts (L.map encB)+1+0)<=1000000;omega
theorem x46{cc:Den Bool}{d:Den W}{pe:List S}:∀ws:List W,(∀w∈ws,∃e1,cc (.fr w::pe)=.ok false e1)->compD cc d pe ws=some []
 |[],_=>rfl
 |w::ws,h=>by
  obtain⟨e1,h1⟩:=h w (by simp);rw[q49,h1];exact x46 ws fun w' hw=>h w' (by simp[hw])
theorem y6s{s:List Pr}(h:s≠[]):isSt (encSt s)=true:=by
 cases s with
 |nil=>exact absurd rfl h
 |cons p s=>exact x3a (p::s)
theorem y94(x:List Bool):(x.map W.bl).all isB=true:=by
 rw[w3x];exact w0v.mpr fun _ _=>rfl
theorem y6t{dd:List S->SR}{e:List S}{x0:Pq}{L1:List Pq}{f:Pq->List Pr}{u v:Int}(h:∀x∈x0::L1,f x≠[]):mutHK dd i e (some (.x (.new (.tup [.int u,.int v,.lst (((x0::L1).map f).map encSt)])))) (some (.x (.new (.lst ((x0::L1).map encB)))))=dd ((e.map rew).set i (.x (.new (.tup [.int u,.int v,.lst (.lst []::(L1.map f).map encSt)])))):=by
 have h0:=h x0 (by simp);cases hf:f x0 with
 |nil=>exact absurd hf h0
 |cons p ps=>
  show mutHK dd i e (some (.x (.new (.tup [.int u,.int v,.lst (encSt (f x0)::(L1.map f).map encSt)])))) _=_;rw[hf]
  exact if_pos ⟨y94 x0,by
   rw[w3x,w3x];exact w0v.mpr fun x hx=>y6s (h x (by simp[hx]))⟩
noncomputable def fstW:W->W
 |.tup (b::_)=>b
 |w=>w
theorem x9f(c:Cc):(c.cells.map encP).map fstW=(firstV c).map .bl:=by
 unfold firstV;rw[w1g,w1g];rfl
theorem law46(M:Exs K mg a)(R:Nat->List W->FR)(A:W){c:Cc}(hc:c.Ok){L:List Pq}{x0:Pq}{L1:List Pq}(hL0:L=x0::L1)(hx0:x0=firstV c)(nb:NB c.cells.length L)(hcl:∀x∈L,∀p∈gC c x,p.2∈L){v0 v1:W}
  (cr:R q1t [A]=.ok (.fr (encC c)))
  (t1:R q01 [encC c]=.ok (.x (.new (.tup [encMc (mcC c L),.lst (L.map encB)]))))
  (t2:R q01 [.tup [.int (c.m:Int),.tup [],.tup []]]=.ok (.x (.new v0)))
  (t3:R q01 [.tup [.int (c.m:Int),.tup [.tup [.bl true,.tup [.str "is", .bl false]]],.tup [.tup [.str "at", .int (c.m:Int)]]]]=.ok (.x (.new v1)))
  (st:∀(k:Nat) x,L[k]?=some x->R q1n [encC c,.lst (L.map encB),encSt (numP L (gC c x)),.int (k:Int)]=.ok (.fr (.bl true)))
  (nu:R q1o [.lst ((L.map fun x=>numP L (gC c x)).map encSt)]=.ok (.fr (.bl true)))
  (ro:R q1b [.int (c.m:Int)]=.ok (.fr (.int ((2^c.m:Nat):Int)))):
  (q7u K a R [.fr A,.no,.no,.no,.no,.no,.no,.no]).fn=.ok (.fr (.bl true)):=by
 have hl:=nb.most hc.cc;obtain⟨s,hs⟩:=y2l hc hl nb.len hcl;have ls:=y2k hc.cc nb;have ew:encMc (mcC c L)=.tup [.int (c.m:Int),.int (c.outs.length:Int),.lst ((L.map fun x=>numP L (gC c x)).map encSt)]:=rfl
 rw[ew]at hs t1;have slen:((L.map fun x=>numP L (gC c x)).map encSt).length=L.length:=by rw[w0a,w0a]
 obtain⟨s4,hs4⟩:∃x:Str,repr1 [encB (firstV c)]=some (.str x):=by
  obtain⟨b1,b2,b3⟩:=q4h (firstV c);have:=hc.cc;exact q6k b1 (by omega) (by rw[b3,q7n];omega)
 have eqn:eq2 (.lst (L.map encB)) (.lst [])=some (.bl false):=by
  obtain⟨b1,b2,b3⟩:=q6i 4 L fun x hx=>by rw[nb.len x hx];exact hc.cc
  show(if depWs (L.map encB)+1<=150 then(eqWs (L.map encB) []).map W.bl else none)=_;rw[if_pos (by omega),hL0];rfl
 obtain⟨s3,hs3⟩:∃x:Str,repr1 [.tup [.int (c.m:Int),.int (c.outs.length:Int)]]=some (.str x):=by
  have:=hc.mm;have:=hc.oo;have w1:=q5p (n:=c.m) (by omega);have w2:=q5p (n:=c.outs.length) (by omega);refine q6k ?_ (show max 0 (max 0 0)<=90 by decide) ?_
  ·show(decide (0<=(c.m:Int)/\(c.m:Int)<512)&&(decide (0<=(c.outs.length:Int)/\(c.outs.length:Int)<512)&&true))=true;rw[decide_eq_true (by omega),decide_eq_true (by omega)];rfl
  ·show wgt (.int (c.m:Int))+1+(wgt (.int (c.outs.length:Int))+1+0)<=_;omega
 unfold q7u;walk_at "den";rw[cr];walk_at "den";rw[t1];walk_at "den";rw[x4e M.t_tuple_tuple];walk_at "den";rw[show isiW K (.type "list") (.lst (L.map encB))=some (.bl true)from q9u M.t_list_list];walk_at "den";rw[x4e M.t_tuple_tuple];walk_at "den";rw[q9u M.t_list_list];walk_at "den";rw[if_neg (by decide),if_neg (by decide),show slX (.tup [W.int (c.m:Int),.int (c.outs.length:Int),.lst ((L.map fun x=>numP L (gC c x)).map encSt)]) none (some 2)=some (.tup [.int (c.m:Int),.int (c.outs.length:Int)])from rfl]
 walk_at "den";rw[hs3];walk_at "den";rw[show ixW (encC c) (.int 0)=some (.int (c.m:Int))from rfl];walk_at "den";rw[show ixW (encC c) (.int 2)=some (.tup (c.outs.map enc))from rfl];walk_at "den";rw[w0a,hs3];walk_at "den";rw[w0a,slen];rw[if_neg (by simp),eqn];walk_at "den";rw[show(L.map encB)[0]?=some (encB (firstV c)) by rw[hL0,hx0];rfl];walk_at "den";rw[hs4];walk_at "den";rw[show ixW (encC c) (.int 1)=some (.tup (c.cells.map encP))from rfl];walk_at "den"
 rw[if_pos (by rw[w0a];have:=hc.cc;omega),D.q56 (g:=fstW) _ (fun w hw=>by
  obtain⟨p,_,rfl⟩:=w0z.mp hw;unfold x4s encP;walk_at "den";exact⟨_,rfl⟩),x9f]
 walk_at "den";rw[show W.tup ((firstV c).map .bl)=encB (firstV c)from rfl,hs4];walk_at "den";rw[ls];walk_at "den";rw[w0a,if_neg (by simp),if_pos (q27 (by omega) (by omega))];walk_at "den"
 obtain⟨e',h2,y5,hy5,rfl⟩:=q11 (b:=q90 K a R) (i:=5) (lo:=0) (hi:=(L.length:Int)) L.length (by omega) (fun k e=>∃y5,((k=0/\y5=.no)\/∃j:Int,y5=.fr (.int j))/\e=[S.x (.old A),.x (.old (encC c)),.x (.new (.tup [.tup [.int (c.m:Int),.int (c.outs.length:Int),.lst ((L.map fun x=>numP L (gC c x)).map encSt)],.lst (L.map encB)])),.x (.new (.tup [.int (c.m:Int),.int (c.outs.length:Int),.lst ((L.map fun x=>numP L (gC c x)).map encSt)])),.x (.new (.lst (L.map encB))),y5,.no,.no])
  [S.x (.old A),.x (.old (encC c)),.x (.new (.tup [.tup [.int (c.m:Int),.int (c.outs.length:Int),.lst ((L.map fun x=>numP L (gC c x)).map encSt)],.lst (L.map encB)])),.x (.new (.tup [.int (c.m:Int),.int (c.outs.length:Int),.lst ((L.map fun x=>numP L (gC c x)).map encSt)])),.x (.new (.lst (L.map encB))),.no,.no,.no] ⟨_,.inl ⟨rfl,rfl⟩,rfl⟩ (by
  rintro k e hk ⟨y5,_,rfl⟩;rw[w2l];have hx:L[k]?=some L[k]:=w0d hk
  have hst:atI ((L.map fun x=>numP L (gC c x)).map encSt) (k:Int)=some (encSt (numP L (gC c L[k]))):=by
   refine q19 ?_;rw[w0g,w0g,hx];rfl
  have hsl:(numP L (gC c L[k])).length=2^c.m:=by unfold numP;rw[w0a,q7m]
  refine⟨_,?_,.fr (.int (k:Int)),.inr ⟨_,rfl⟩,rfl⟩;unfold q90;walk_at "den";rw[hst];walk_at "den";rw[show encSt (numP L (gC c L[k]))=.lst ((numP L (gC c L[k])).map encPr)from rfl,q9u M.t_list_list];walk_at "den";rw[hst];walk_at "den";rw[show len1 [encSt (numP L (gC c L[k]))]=some (.int ((2^c.m:Nat):Int)) by rw[<- hsl,show encSt (numP L (gC c L[k]))=.lst ((numP L (gC c L[k])).map encPr)from rfl];show some (W.int _)=_;rw[w0a]];walk_at "den";rw[show ixW (encC c) (.int 0)=some (.int (c.m:Int))from rfl];walk_at "den";rw[ro];walk_at "den";rw[hst];walk_at "den";rw[st k L[k] hx];walk_at "den")
 obtain⟨j5,rfl⟩:∃j:Int,y5=.fr (.int j):=by
  rcases hy5 with⟨z,_⟩|z
  ·rw[hL0]at z;cases z
  ·exact z
 rw[h2];walk_at "den";rw[hs];walk_at "den";rw[nu];walk_at "den";rw[show ixW (encC c) (.int 0)=some (.int (c.m:Int))from rfl];walk_at "den";rw[show ixW (encC c) (.int 2)=some (.tup (c.outs.map enc))from rfl];walk_at "den"
 rw[show slX (.tup (c.outs.map enc)) none (some 0)=some (.tup []) by
  by_cases h:c.outs=[]
  ·rw[h];rfl
  ·have:0<c.outs.length:=List.length_pos_iff.mpr h;rw[z1j]
   ·unfold cutW;simp[HT.sIx]
   ·simp[HT.sIx,h];omega]
 walk_at "den";rw[t2];walk_at "den";rw[show ixW (encC c) (.int 0)=some (.int (c.m:Int))from rfl];walk_at "den";rw[show ixW (encC c) (.int 0)=some (.int (c.m:Int))from rfl];walk_at "den";rw[t3];walk_at "den";rw[hs];walk_at "den"
 have mp:=fun dd e=>y6t (dd:=dd) (i:=3) (e:=e) (x0:=x0) (L1:=L1) (f:=fun x=>numP L (gC c x)) (u:=(c.m:Int)) (v:=(c.outs.length:Int)) fun x _ z=>by
  have:=congrArg List.length z;rw[show(numP L (gC c x)).length=2^c.m by unfold numP;rw[w0a,q7m]]at this;have h0:0<2^c.m:=Nat.pow_pos (by decide);rw[this]at h0;cases h0
 rw[<- hL0]at mp;rw[mp];walk_at "den"
 have cd:∀(w:W)(ws:List W),cutW (w::ws) (some 1) none=ws:=fun w ws=>by
  unfold cutW;simp[HT.sIx]
 have hl1:L1.length<=16:=by rw[hL0]at hl;simp at hl;omega
 rw[show rew (S.fr (W.bl true))=.fr (.bl true)from rfl,cd,if_pos (by rw[w0a,w0a];omega)];simp only[frz1,pj1,w0m,w1d]
 rw[x46 _ (fun w hw=>by
  obtain⟨s',hs',rfl⟩:=w0z.mp hw;obtain⟨x,hx,rfl⟩:=w0z.mp hs';unfold x4t;walk_at "den"
  rw[show len1 [encSt (numP L (gC c x))]=some (.int ((2^c.m:Nat):Int)) by
   show some (W.int (((numP L (gC c x)).map encPr).length:Int))=_;rw[w0a,show(numP L (gC c x)).length=2^c.m by unfold numP;rw[w0a,q7m]]]
  walk_at "den";rw[show ixW (encC c) (.int 0)=some (.int (c.m:Int))from rfl];walk_at "den";rw[ro];walk_at "den";exact⟨_,congrArg (fun b=>D.R.ok b _) (by simp)⟩)]
 walk_at "den";rw[show ne2 (W.lst []) (.lst [])=some (.bl false)from rfl];walk_at "den";rw[t1];walk_at "den";rw[hs];walk_at "den"
theorem y2m(M:Exs K mg a)(ns:List Int)(hl:ns.length<=63):run K a 151 q5b [.lst (ns.map .int)]=.ok (.fr (.bl true)):=by
 obtain⟨c,cr,hc⟩:=x3y (K:=K) (a:=a) 144 ns;obtain⟨I,hI,t1⟩:=q8p (K:=K) (a:=a) 45 hc;have hm:=hc.mm;have hc0:Cc.Ok ⟨c.m,[],[]⟩:=⟨by show c.m+0<=12;omega,hm,by show 0<=4;omega,by show 0<=10;omega,by show 0<=100;omega,(fun p h=>nomatch h),(fun p h=>nomatch h)⟩
 have hc1:Cc.Ok ⟨c.m,[(true,.is false)],[.at c.m]⟩:=by
  refine⟨by show c.m+1<=12;omega,hm,by show 1<=4;omega,by show 1<=10;omega,by show 1<=100;omega,fun p h=>?_,fun p h=>?_⟩
  ·rw[w1f.mp h];exact⟨trivial,by decide,by decide⟩
  ·rw[w1f.mp h];exact⟨by show c.m<c.m+1;omega,by show 1<=100;decide,by show 1<=1000;decide⟩
 obtain⟨I0,_,t2⟩:=q8p (K:=K) (a:=a) 45 hc0;obtain⟨I1,_,t3⟩:=q8p (K:=K) (a:=a) 45 hc1;have all:∀x∈bfP (gC c) (firstV c) I,x.length=c.cells.length:=q4f (q7n c) (fun x hx p hp=>(x1u c x p hp).2) I
 have nb:NB c.cells.length (bfP (gC c) (firstV c) I):=⟨q5z _ _ I,all⟩;have hl16:=nb.most hc.cc;have hcl:∀x∈bfP (gC c) (firstV c) I,∀p∈gC c x,p.2∈bfP (gC c) (firstV c) I:=fun x hx=>x3e I (by omega) x (by rw[w3r (by omega)];exact hx)
 obtain⟨m0,hh⟩:=y2h (gC c) (firstV c) I;have q:=law46 (K:=K) (a:=a) M (run K a 150) (.lst (ns.map .int)) hc hh rfl nb hcl cr t1 t2 t3 (fun k x hk=>x6h (K:=K) (a:=a) 47 hc _ hl16 hk (all x (w0l hk)) (hcl x (w0l hk))) (y6r (K:=K) (a:=a) 149 (gC c) (firstV c) I hI (by omega)) (q9l (K:=K) (a:=a) 149 c.m hm)
 rw[x4u,if_pos (show[W.lst (ns.map .int)].length=1 from rfl)];exact q
end
theorem walk{l:PySem.W.OpenLaw}{q:Program}{loose:List Str}{XP:(Str->Option Value)->Heap->Prop}{YP:World->Heap->Prop}{d:DefRec}{K:Params->PySem.W.Frag}{tabs:List (Addr×Str)}(hn:l.most=some 63)(hdf:d.params.defaults=[])
  (hY:∀(w:World)(h:Heap),YP w h->(K w.params).In h)(hT:∀(w:World)(h:Heap),YP w h->∀P∈tabs.map (·.1),h.get? P=some (tabObj #[]))
  (hG:∀w:World,((D.dropT (K w.params)).lookup mainGlobals).isSome=true)(hNM:∀w:World,noMark (K w.params)=true)(hd:tabs.all (fun p=>tabs.lookup p.1==some p.2)=true)
  (hK:∀w:World,tabs.all (fun p=>((D.dropT (K w.params)).lookup p.1).isNone)=true)(hc:∀w:World,∀p∈tabs,∃c,codeHdIn (K w.params) c p.1=true)
  (F:∀(w:World)(mg:Str->Option Value)(fa:Addr)(h:Heap),(D.markT (D.dropT (K w.params)) tabs).In h->h.Ns mainGlobals mg->mg d.name=some (.ref fa) ->
   ∃fd:FuncData,(∀(s:Shared)(u:Value),BindsTo s fd ⟨[u],[]⟩ [("_law_script", u)])/\∀base:Heap,(D.markT (D.dropT (K w.params)) tabs).In base->base.Ns mainGlobals mg->BMain base mg->FnOk l.prog w (D.markT (D.dropT (K w.params)) tabs) mg base (CX1 l.prog w) 151 fa fd ["_law_script"] (spLaw (D.markT (D.dropT (K w.params)) tabs))):
  PySem.W.WalkO q loose XP YP l.row.toRowW d [] (fun f vs=>PySem.call f vs):=
 L2.y1a (K:=fun p=>D.markT (D.dropT (K p)) tabs) (tabs:=tabs) (n:=63) (k:=151) (x:="_law_script") (CX:=fun w=>CX1 l.prog w) (sp:=fun w=>spLaw (D.markT (D.dropT (K w.params)) tabs)) hn (by decide) hdf ⟨rfl,by decide,by decide,rfl⟩ (fun w h Y=>D.in_m (hG w) (D.y07 (hY w h Y))) F (fun _ _ a ns hl hS=>⟨a,ns,rfl,hS,hl,fun _=>rfl⟩) (fun _ _ _ _ _ z=>y7t z)
  (fun w=>D.x52 (D.x3p (hNM w)) hd) (fun w h Y=>D.y5l (hY w h Y) (hT w h Y) (hc w)) (fun w=>D.tabs_none (hG w) (hK w))
end Q
open PySem PySem.W PyProof.Rows
set_option maxRecDepth 100000 in
set_option maxHeartbeats 0 in
theorem PySem.Challenge.cw_circuits_k46_machine_of_told_holds : PySem.Challenge.rw_circuits_k46_machine_of_told.Holds := by
 w_on; o_law; k_head; (case hw => w_witness2)
 k_fill
 refine Q.walk (l := PySem.Challenge.rw_circuits_k46_machine_of_told) (tabs := [(101, ("machine_of" ++ ".<locals>.") ++ "<lambda>")]) rfl rfl (fun w h Y => PySem.W.km_in_of Y) (fun w h Y => PySem.W.km_tabs_of Y) (fun w => by kernel_rfl) (fun w => by kernel_rfl) (by decide +kernel) (fun w => by kernel_rfl) (fun w => List.forall_mem_cons.mpr ⟨⟨105, by kernel_rfl⟩, fun _ h => nomatch h⟩) ?F
 case F =>
  intro w mg fa h KX G hmg;refine' Q.mk KX G hmg ?a0 ?l0 ?c0 ?k0 ?a1 ?l1 ?c1 ?k1 ?a2 ?l2 ?c2 ?k2 ?a3 ?l3 ?c3 ?k3 ?a4 ?l4 ?c4 ?k4 ?a5 ?l5 ?c5 ?k5 ?a6 ?l6 ?c6 ?k6 ?a7 ?l7 ?c7 ?k7 ?a8 ?l8 ?c8 ?k8 ?a9 ?l9 ?c9 ?k9 ?a10 ?l10 ?c10 ?k10 ?a11 ?l11 ?c11 ?k11 ?a12 ?l12 ?c12 ?k12 ?a13 ?l13 ?c13 ?k13 ?a14 ?l14 ?c14 ?k14 ?a15 ?l15 ?c15 ?k15 ?a16 ?l16 ?c16 ?k16 ?a17 ?l17 ?c17 ?k17 ?a18 ?l18 ?c18 ?k18 ?a19 ?l19 ?c19 ?k19 ?a20 ?l20 ?c20 ?k20 ?a21 ?l21 ?c21 ?k21 ?a22 ?l22 ?c22 ?k22 ?v8 ?h8 ?m8 ?n_CircuitError ?n_NoPlace ?n_NoRow ?z_isinstance ?z_len ?z_list ?z_max ?z_range ?z_repr ?z_reversed ?z_set ?z_tuple ?e_NoPlace ?e_NoRow ?c_NoPlace ?c_NoRow ?t_NoneType_tuple ?t_bool_tuple ?t_int_tuple ?t_str_tuple ?t_tuple_tuple ?t_list_tuple ?t_NoneType_list ?t_bool_list ?t_int_list ?t_str_list ?t_tuple_list ?t_list_list ?nt 150 ?hL
  (case a0 => exact D.ns_m (D.q0i (by k_is) (by kernel_rfl)))
  (case l0 => exact D.q06 (D.q0j (by k_is) (by kernel_rfl)))
  (case c0 => exact D.q1f (D.q0o (by k_is) (by kernel_rfl)))
  (case k0 => exact D.q1g (by kernel_rfl))
  (case a1 => exact D.ns_m (D.q0i (by k_is) (by kernel_rfl)))
  (case l1 => exact D.q06 (D.q0j (by k_is) (by kernel_rfl)))
  (case c1 => exact D.q1f (D.q0o (by k_is) (by kernel_rfl)))
  (case k1 => exact D.q1g (by kernel_rfl))
  (case a2 => exact D.ns_m (D.q0i (by k_is) (by kernel_rfl)))
  (case l2 => exact D.q06 (D.q0j (by k_is) (by kernel_rfl)))
  (case c2 => exact D.q1f (D.q0o (by k_is) (by kernel_rfl)))
  (case k2 => exact D.q1g (by kernel_rfl))
  (case a3 => exact D.ns_m (D.q0i (by k_is) (by kernel_rfl)))
  (case l3 => exact D.q06 (D.q0j (by k_is) (by kernel_rfl)))
  (case c3 => exact D.q1f (D.q0o (by k_is) (by kernel_rfl)))
  (case k3 => exact D.q1g (by kernel_rfl))
  (case a4 => exact D.ns_m (D.q0i (by k_is) (by kernel_rfl)))
  (case l4 => exact D.q06 (D.q0j (by k_is) (by kernel_rfl)))
  (case c4 => exact D.q1f (D.q0o (by k_is) (by kernel_rfl)))
  (case k4 => exact D.q1g (by kernel_rfl))
  (case a5 => exact D.ns_m (D.q0i (by k_is) (by kernel_rfl)))
  (case l5 => exact D.q06 (D.q0j (by k_is) (by kernel_rfl)))
  (case c5 => exact D.q1f (D.q0o (by k_is) (by kernel_rfl)))
  (case k5 => exact D.q1g (by kernel_rfl))
  (case a6 => exact D.ns_m (D.q0i (by k_is) (by kernel_rfl)))
  (case l6 => exact D.q06 (D.q0j (by k_is) (by kernel_rfl)))
  (case c6 => exact D.q1f (D.q0o (by k_is) (by kernel_rfl)))
  (case k6 => exact D.q1g (by kernel_rfl))
  (case a7 => exact D.ns_m (D.q0i (by k_is) (by kernel_rfl)))
  (case l7 => exact D.q06 (D.q0j (by k_is) (by kernel_rfl)))
  (case c7 => exact D.q1f (D.q0o (by k_is) (by kernel_rfl)))
  (case k7 => exact D.q1g (by kernel_rfl))
  (case a8 => exact D.ns_m (D.q0i (by k_is) (by kernel_rfl)))
  (case l8 => exact D.q06 (D.q0j (by k_is) (by kernel_rfl)))
  (case c8 => exact D.q1f (D.q0o (by k_is) (by kernel_rfl)))
  (case k8 => exact D.q1g (by kernel_rfl))
  (case a9 => exact D.ns_m (D.q0i (by k_is) (by kernel_rfl)))
  (case l9 => exact D.q06 (D.q0j (by k_is) (by kernel_rfl)))
  (case c9 => exact D.q1f (D.q0o (by k_is) (by kernel_rfl)))
  (case k9 => exact D.q1g (by kernel_rfl))
  (case a10 => exact D.ns_m (D.q0i (by k_is) (by kernel_rfl)))
  (case l10 => exact D.q06 (D.q0j (by k_is) (by kernel_rfl)))
  (case c10 => exact D.q1f (D.q0o (by k_is) (by kernel_rfl)))
  (case k10 => exact D.q1g (by kernel_rfl))
  (case a11 => exact D.ns_m (D.q0i (by k_is) (by kernel_rfl)))
  (case l11 => exact D.q06 (D.q0j (by k_is) (by kernel_rfl)))
  (case c11 => exact D.q1f (D.q0o (by k_is) (by kernel_rfl)))
  (case k11 => exact D.q1g (by kernel_rfl))
  (case a12 => exact D.ns_m (D.q0i (by k_is) (by kernel_rfl)))
  (case l12 => exact D.q06 (D.q0j (by k_is) (by kernel_rfl)))
  (case c12 => exact D.q1f (D.q0o (by k_is) (by kernel_rfl)))
  (case k12 => exact D.q1g (by kernel_rfl))
  (case a13 => exact D.ns_m (D.q0i (by k_is) (by kernel_rfl)))
  (case l13 => exact D.q06 (D.q0j (by k_is) (by kernel_rfl)))
  (case c13 => exact D.q1f (D.q0o (by k_is) (by kernel_rfl)))
  (case k13 => exact D.q1g (by kernel_rfl))
  (case a14 => exact D.ns_m (D.q0i (by k_is) (by kernel_rfl)))
  (case l14 => exact D.q06 (D.q0j (by k_is) (by kernel_rfl)))
  (case c14 => exact D.q1f (D.q0o (by k_is) (by kernel_rfl)))
  (case k14 => exact D.q1g (by kernel_rfl))
  (case a15 => exact D.ns_m (D.q0i (by k_is) (by kernel_rfl)))
  (case l15 => exact D.q06 (D.q0j (by k_is) (by kernel_rfl)))
  (case c15 => exact D.q1f (D.q0o (by k_is) (by kernel_rfl)))
  (case k15 => exact D.q1g (by kernel_rfl))
  (case a16 => exact D.ns_m (D.q0i (by k_is) (by kernel_rfl)))
  (case l16 => exact D.q06 (D.q0j (by k_is) (by kernel_rfl)))
  (case c16 => exact D.q1f (D.q0o (by k_is) (by kernel_rfl)))
  (case k16 => exact D.q1g (by kernel_rfl))
  (case a17 => exact D.ns_m (D.q0i (by k_is) (by kernel_rfl)))
  (case l17 => exact D.q06 (D.q0j (by k_is) (by kernel_rfl)))
  (case c17 => exact D.q1f (D.q0o (by k_is) (by kernel_rfl)))
  (case k17 => exact D.q1g (by kernel_rfl))
  (case a18 => exact D.ns_m (D.q0i (by k_is) (by kernel_rfl)))
  (case l18 => exact D.q06 (D.q0j (by k_is) (by kernel_rfl)))
  (case c18 => exact D.q1f (D.q0o (by k_is) (by kernel_rfl)))
  (case k18 => exact D.q1g (by kernel_rfl))
  (case a19 => exact D.ns_m (D.q0i (by k_is) (by kernel_rfl)))
  (case l19 => exact D.q06 (D.q0j (by k_is) (by kernel_rfl)))
  (case c19 => exact D.q1f (D.q0o (by k_is) (by kernel_rfl)))
  (case k19 => exact D.q1g (by kernel_rfl))
  (case a20 => exact D.ns_m (D.q0i (by k_is) (by kernel_rfl)))
  (case l20 => exact D.q06 (D.q0j (by k_is) (by kernel_rfl)))
  (case c20 => exact D.q1f (D.q0o (by k_is) (by kernel_rfl)))
  (case k20 => exact D.q1g (by kernel_rfl))
  (case a21 => exact D.ns_m (D.q0i (by k_is) (by kernel_rfl)))
  (case l21 => exact D.q06 (D.q0j (by k_is) (by kernel_rfl)))
  (case c21 => exact D.q1f (D.q0o (by k_is) (by kernel_rfl)))
  (case k21 => exact D.q1g (by kernel_rfl))
  (case a22 => exact D.ns_m (D.q0i (by k_is) (by kernel_rfl)))
  (case l22 => exact D.q06 (D.q0j (by k_is) (by kernel_rfl)))
  (case c22 => exact D.q1f (D.q0o (by k_is) (by kernel_rfl)))
  (case k22 => exact D.q1g (by kernel_rfl))
  (case v8 => exact rfl)
  (case h8 => exact (show codeHdIn _ _ 101 = true by kernel_rfl))
  (case m8 => exact w0t _ (by simp))
  (case n_CircuitError => exact D.ns_m (D.q0i (by k_is) (by kernel_rfl)))
  (case n_NoPlace => exact D.ns_m (D.q0i (by k_is) (by kernel_rfl)))
  (case n_NoRow => exact D.ns_m (D.q0i (by k_is) (by kernel_rfl)))
  (case z_isinstance => exact D.ns_m (D.q0i (by k_is) (by kernel_rfl)))
  (case z_len => exact D.ns_m (D.q0i (by k_is) (by kernel_rfl)))
  (case z_list => exact D.ns_m (D.q0i (by k_is) (by kernel_rfl)))
  (case z_max => exact D.ns_m (D.q0i (by k_is) (by kernel_rfl)))
  (case z_range => exact D.ns_m (D.q0i (by k_is) (by kernel_rfl)))
  (case z_repr => exact D.ns_m (D.q0i (by k_is) (by kernel_rfl)))
  (case z_reversed => exact D.ns_m (D.q0i (by k_is) (by kernel_rfl)))
  (case z_set => exact D.ns_m (D.q0i (by k_is) (by kernel_rfl)))
  (case z_tuple => exact D.ns_m (D.q0i (by k_is) (by kernel_rfl)))
  (case e_NoPlace => kernel_rfl)
  (case e_NoRow => kernel_rfl)
  (case c_NoPlace => kernel_rfl)
  (case c_NoRow => kernel_rfl)
  (case t_NoneType_tuple => kernel_rfl)
  (case t_bool_tuple => kernel_rfl)
  (case t_int_tuple => kernel_rfl)
  (case t_str_tuple => kernel_rfl)
  (case t_tuple_tuple => kernel_rfl)
  (case t_list_tuple => kernel_rfl)
  (case t_NoneType_list => kernel_rfl)
  (case t_bool_list => kernel_rfl)
  (case t_int_list => kernel_rfl)
  (case t_str_list => kernel_rfl)
  (case t_tuple_list => kernel_rfl)
  (case t_list_list => kernel_rfl)
  (case nt => exact D.no_m (by kernel_rfl) D.y08)
  (case hL => exact fun a M ns hl => Q.y2m M ns hl)
