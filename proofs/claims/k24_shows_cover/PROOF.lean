import PyProof.Rows.All
import Wide.All
import OpenK.AllK
import Wide.FinOn
import PyProof.TupleKey
import PyProof.EqAt
import PyProof.EqKinds
import Wide.Seal
import Lean
import PyProof.TupleCall
import KE.KTryMore
import KE.KRevIter
import PyProof.CollectIter
import PyProof.ConsumeWalk
import PyProof.TupleOfStr
import KE.KIsAll
import PyProof.ExcArgs
import PyProof.ExcAttrAll.ValueError
import PyProof.CompUse
import PyProof.NeKinds
import PyProof.EnumIter
import PyProof.EnumFor
import PyProof.EnumMake
import PyProof.EnumStmt
import PyProof.ListMulRoad
import PyProof.ZipIter
import PyProof.TupleIter
import PyProof.Rows.SortWalk
import PyProof.SetKind
import PyProof.Rows.SetFrom
import PyProof.FactsAll.set_1
import KE.KDictSum
import PyProof.FactsAll.set_2
import PyProof.FactsAll.tuple_2
import PyProof.ReprRoads
import PyProof.Rows.SeqMore
import PyProof.ReprLen
import PyProof.WalkInts
import PyProof.SeqI3
import PyProof.Rows.TupIter
import PyProof.ListRange
import PyProof.SumWalk
import KE.RegMulBits
import PyProof.DictIter
import PyProof.DictWalks
import PyProof.DictRoadsH
import PyProof.DictTruth
import KE.KDictList
import PyProof.Rows.TupDisplay
import PyProof.Draws
import PyProof.StrBlockI
import PyProof.StrLawsIn
import PyProof.StrOps2
import PyProof.ReprStr
import PyProof.ListNew
import PyProof.Rows.SortRev
import PySem.Challenge.RW_circuits_k24_shows_cover
set_option Elab.async false
set_option linter.all false
set_option maxRecDepth 100000
set_option maxHeartbeats 1000000
local macro_rules | `(tactic| omega) => `(tactic| first | with_reducible assumption | decide | with_reducible exact Nat.le_refl _ | with_reducible exact Nat.zero_le _ | lia)
set_option genSizeOf false
set_option genInjectivity false
local macro_rules | `(tactic| walk_at "1") => `(tactic| (first | exact Or.inl rfl | exact Or.inr (Or.inl rfl) | exact Or.inr (Or.inr rfl)))
local macro_rules | `(tactic| walk_at "2") => `(tactic| (first | exact .inl rfl | exact .inr rfl | assumption))
local macro_rules | `(tactic| walk_at "3") => `(tactic| (first | exact Or.inl rfl | exact Or.inr rfl))
open PySem.W (exmOne findIn hideAll_get keepIn kia_one kitOne methodObj mg_none_of mg_of pyHash_slot specialIn takesIn)
def w0a:=@List.length_map
def w0b:=@List.getElem?_eq_getElem
def w0c:=@List.getElem?_eq_some_iff
def w0d:=@List.size_toArray
def w0e:=@Nat.le_refl
def w0f:=@List.getElem?_cons_succ
def w0g:=@Nat.le_trans
def w0h:=@List.mem_cons
def w0i:=@List.length_append
def w0j:=@List.getElem?_cons_zero
def w0k:=@List.getElem?_set_ne
def w0l:=@List.map_cons
def w0m:=@List.mem_append_right
def w0n:=@Option.map_eq_some_iff
def w0o:=@List.length_cons
def w0p:=@List.getElem?_set_self
def w0q:=@Bool.false_ne_true
def w0r:=@Bool.and_eq_true
def w0s:=@Nat.lt_of_lt_of_le
def w0t:=@Nat.ne_of_lt
def w0u:=@List.mem_singleton
def w0v:=@List.getElem?_map
def w0w:=@List.mem_range
def w0x:=@List.length_filter_le
def w0y:=@List.not_mem_nil
def w0z:=@List.mem_cons_of_mem
def w1a:=@List.getD_eq_getElem?_getD
def w1b:=@List.all_eq_true
def w1c:=@Nat.pow_le_pow_right
def w1d:=@List.mem_filter
def w1e:=@List.lookup_cons
def w1f:=@List.mem_of_getElem?
def w1g:=@List.mem_map
def w1h:=@List.mem_cons_self
def w1i:=@Nat.zero_le
def w1j:=@List.mem_append
def w1k:=@Int.toNat_natCast
def w1l:=@Bool.eq_iff_iff
def w1m:=@List.replicate_succ
def w1n:=@List.length_range
def w1o:=@List.getElem?_eq_none
def w1p:=@List.map_append
def w1q:=@List.filter_cons
def w1r:=@List.getElem?_replicate
def w1s:=@List.all_cons
def w1t:=@Bool.false_and
def w1u:=@List.reverse_cons
def w1v:=@List.length_nil
def w1w:=@List.getElem_mem
def w1x:=@Bool.false_eq_true
def w1y:=@Nat.lt_irrefl
def w1z:=@List.map_map
def w2a:=@Int.emod_lt_of_pos
def w2b:=@Array.getElem?_eq_getElem
def w2c:=@List.mem_iff_getElem
def w2d:=@List.mem_append_left
def w2e:=@Bool.eq_false_iff
def w2f:=@List.flatten_cons
def w2g:=@List.length_zip
def w2h:=@Bool.true_and
def w2i:=@List.length_take
def w2j:=@List.any_eq_true
def w2k:=@List.find?_cons
def w2l:=@Int.emod_nonneg
def w2m:=@List.getElem?_append_right
def w2n:=@List.getElem?_append_left
def w2o:=@List.map_nil
def w2p:=@List.forIn_cons
def w2q:=@List.append_nil
def w2r:=@List.any_cons
def w2s:=@List.pairwise_cons
def w2t:=@List.filter_cons_of_pos
def w2u:=@List.zip_cons_cons
def w2v:=@List.ext_getElem?
def w2w:=@List.append_assoc
def w2x:=@Nat.lt_succ_of_lt
def w2y:=@List.length_replicate
def w2z:=@List.length_singleton
def w3a:=@Array.getElem?_toList
def w3b:=@Nat.pow_succ
def w3c:=@List.length_drop
def w3d:=@Int.mul_le_mul_of_nonneg_left
def w3e:=@List.filterMap_cons
def w3f:=@Array.length_toList
def w3g:=@List.nodup_cons
def w3h:=@List.length_reverse
def w3i:=@Array.getElem?_append_left
def w3j:=@Array.getElem?_eq_some_iff
def w3k:=@Nat.ne_of_gt
def w3l:=@List.mem_filterMap
def w3m:=@List.all_map
def w3n:=@List.set_cons_succ
def w3o:=@List.set_cons_zero
def w3p:=@List.drop_eq_getElem_cons
def w3q:=@Option.isSome_iff_exists
def w3r:=@Bool.or_false
def w3s:=@List.filter_cons_of_neg
def w3t:=@List.length_eq_zero_iff
def w3u:=@Nat.le_mul_of_pos_right
def w3v:=@Nat.min_le_right
def w3w:=@List.drop_length
def w3x:=@List.getElem_zip
def w3y:=@Array.getElem?_eq_none
def w3z:=@List.find?_cons_of_pos
def w4a:=@List.of_mem_zip
def w4b:=@Nat.le_of_ble_eq_true
def w4c:=@Nat.mul_comm
def w4d:=@Int.pow_succ
def w4e:=@Bool.and_assoc
def w4f:=@Bool.and_false
def w4g:=@Nat.le_succ
def w4h:=@List.getElem_of_mem
def w4i:=@List.map_congr_left
def w4j:=@List.length_pos_iff
def w4k:=@Nat.mul_le_mul_left
def w4l:=@Array.forIn_toList
def w4m:=@Bool.and_true
def w4n:=@Nat.not_lt
def w4o:=@Nat.le_of_lt
def w4p:=@Int.sub_zero
def w4q:=@Nat.zero_add
def w4r:=@List.any_map
def w4s:=@Int.zero_add
def w4t:=@Nat.pow_pos
namespace PySem.W.Fast
theorem tw7233991291307778450:True:=trivial
theorem tw7365065450248561252:True:=trivial
theorem tw3934634755952536797:True:=trivial
theorem tw16297633314514298058:True:=trivial
theorem tw17791674799246062153:True:=trivial
theorem tw10502016736607116889:True:=trivial
theorem tw18329302777531270710:True:=trivial
theorem tw11289207984683171888:True:=trivial
theorem tw6240664572103403995:True:=trivial
theorem tw10903480061407038099:True:=trivial
theorem tw11824964835015475679:True:=trivial
theorem tw11681542372138435713:True:=trivial
theorem tw17125365097325189765:True:=trivial
theorem tw14449880257295972368:True:=trivial
theorem tw5234259997496763831:True:=trivial
theorem tw15478986222715859208:True:=trivial
theorem tw11986168874291212964:True:=trivial
theorem tw3737610732346258974:True:=trivial
theorem tw2323312227790754570:True:=trivial
theorem tw5856505088427633455:True:=trivial
theorem tw9585987362201797691:True:=trivial
theorem tw766047351080101001:True:=trivial
theorem tw11365075907454235380:True:=trivial
theorem tw5187467421478507231:True:=trivial
theorem tw5847396399121516852:True:=trivial
theorem tw14711862497022578815:True:=trivial
theorem tw3613520393386556005:True:=trivial
theorem tw3747596674111877294:True:=trivial
theorem tw6106800385026963519:True:=trivial
theorem tw6951080830378900505:True:=trivial
theorem tw7209630778493708588:True:=trivial
theorem tw5869609194173508714:True:=trivial
theorem tw7990140052395270464:True:=trivial
theorem tw10852620524503213445:True:=trivial
theorem tw12390126936709147544:True:=trivial
theorem tw13952049485924389508:True:=trivial
theorem tw634802511047241491:True:=trivial
theorem tw14196115834634403124:True:=trivial
theorem tw12557834519549876057:True:=trivial
theorem tw12808760179979519600:True:=trivial
theorem tw10152923516950088185:True:=trivial
theorem tw11454920267384756522:True:=trivial
theorem tw327987606371299758:True:=trivial
theorem tw12737039018223997107:True:=trivial
theorem tw4936898284351793:True:=trivial
theorem tw17173102309628709983:True:=trivial
theorem tw10676306896361685715:True:=trivial
theorem tw6277038382537401592:True:=trivial
theorem tw4172887930204322696:True:=trivial
theorem tw18101404603500898238:True:=trivial
theorem tw11843732664243769899:True:=trivial
theorem tw5334479719545876930:True:=trivial
theorem tw9431527040779052840:True:=trivial
theorem tw2123408313870473123:True:=trivial
theorem tw4836629853477488486:True:=trivial
theorem tw6743134734375421882:True:=trivial
theorem tw2983418180619129535:True:=trivial
theorem tw14173696160319474082:True:=trivial
theorem tw17158071813904205192:True:=trivial
theorem tw10115479989031999354:True:=trivial
end PySem.W.Fast
namespace L2
open PySem PySem.Spec PyProof.Rows
variable{C a b:Addr}{A:Around}{op:CmpOp}{c e tg:Expr}{fd:FuncData}{base h h':Heap}{pins:List (Addr×Obj)}{ch fp:List Addr}{es:List Expr}{N ps:List Str}{us:List Value}{M:Model}{i t':Nat}{p pos:Pos}{P prog:Program}{K:PySem.W.Frag}{s:Shared}{x:Str}{mg:Str->Option Value}{u:Value}{E:Value->Shared->Prop}{f:Value->Value->Sem Value}{w:World}
set_option genInjectivity true in
inductive Kx where
 |non|bl (b:Bool)|int (i:Int)|str (x:Str)|tup (ks:List Kx)
inductive Sh where
 |ob|bl|int|str|tup (ss:List Sh)|many (s:Sh)
noncomputable instance:DecidableEq Kx:=fun _ _=>Classical.propDecidable _
mutual
noncomputable def Kx.depth:Kx->Nat
 |.tup ks=>Kx.depths ks+1
 |_=>0
noncomputable def Kx.depths:List Kx->Nat
 |[]=>0
 |k::ks=>max k.depth (Kx.depths ks)
end
mutual
def Conf:Kx->Sh->Prop
 |.non,.ob=>True
 |.bl _,.ob=>True
 |.bl _,.bl=>True
 |.int _,.int=>True
 |.str _,.str=>True
 |.tup ks,.tup ss=>Confs ks ss
 |.tup ks,.many s=>ConfM ks s
 |_,_=>False
def Confs:List Kx->List Sh->Prop
 |[],[]=>True
 |k::ks,s::ss=>Conf k s/\Confs ks ss
 |_,_=>False
def ConfM:List Kx->Sh->Prop
 |[],_=>True
 |k::ks,s=>Conf k s/\ConfM ks s
end
mutual
def KIs(h:Heap):Kx->Value->Prop
 |.non,v=>v=.none
 |.bl b,v=>v=.bool b
 |.int i,v=>∃t,v=.int i t
 |.str x,v=>∃t,v=.str x t
 |.tup ks,v=>∃a o items n,v=.ref a/\h.get? a=some o/\o.cls=.type "tuple" /\ o.data=.seq items n/\KAre h ks items.toList
def KAre(h:Heap):List Kx->List Value->Prop
 |[],vs=>vs=[]
 |k::ks,vs=>∃v r,vs=v::r/\KIs h k v/\KAre h ks r
end
mutual
theorem x7m{h:Heap}:∀(k k':Kx){v:Value},KIs h k v->KIs h k' v->k=k'
 |.non,k',v,x,y=>by
  cases(show v=.none from x);cases k' with
  |non=>rfl
  |bl c=>cases(show Value.none=.bool c from y)
  |int i=>obtain⟨t,e⟩:=y;cases e
  |str i=>obtain⟨t,e⟩:=y;cases e
  |tup ks=>obtain⟨_,_,_,_,e,_⟩:=y;cases e
 |.bl b,k',v,x,y=>by
  cases(show v=.bool b from x);cases k' with
  |non=>cases(show Value.bool b=.none from y)
  |bl c=>cases(show Value.bool b=.bool c from y);rfl
  |int i=>obtain⟨t,e⟩:=y;cases e
  |str i=>obtain⟨t,e⟩:=y;cases e
  |tup ks=>obtain⟨_,_,_,_,e,_⟩:=y;cases e
 |.int b,k',v,x,y=>by
  obtain⟨t,rfl⟩:=x;cases k' with
  |non=>cases y
  |bl c=>cases y
  |int i=>obtain⟨t,e⟩:=y;cases e;rfl
  |str i=>obtain⟨t,e⟩:=y;cases e
  |tup ks=>obtain⟨_,_,_,_,e,_⟩:=y;cases e
 |.str b,k',v,x,y=>by
  obtain⟨t,rfl⟩:=x;cases k' with
  |non=>cases y
  |bl c=>cases y
  |int i=>obtain⟨t,e⟩:=y;cases e
  |str i=>obtain⟨t,e⟩:=y;cases e;rfl
  |tup ks=>obtain⟨_,_,_,_,e,_⟩:=y;cases e
 |.tup ks,k',v,x,y=>by
  obtain⟨a,o,it,n,rfl,h1,h2,h3,h4⟩:=x;cases k' with
  |non=>cases y
  |bl c=>cases y
  |int i=>obtain⟨t,e⟩:=y;cases e
  |str i=>obtain⟨t,e⟩:=y;cases e
  |tup ks'=>
   obtain⟨a',o',it',n',e,g1,g2,g3,g4⟩:=y;cases e;rw[h1]at g1;cases g1;rw[h3]at g3;injection g3 with e1 _
   subst e1;rw[x0d ks ks' h4 g4]
theorem x0d{h:Heap}:∀(ks ks':List Kx){vs:List Value},KAre h ks vs->KAre h ks' vs->ks=ks'
 |[],ks',vs,x,y=>by
  cases(show vs=[]from x);cases ks' with
  |nil=>rfl
  |cons k ks'=>obtain⟨v,r,e,_⟩:=y;cases e
 |k::ks,ks',vs,x,y=>by
  obtain⟨v,r,rfl,h1,h2⟩:=x;cases ks' with
  |nil=>cases(show v::r=[]from y)
  |cons k' ks'=>
   obtain⟨v',r',e,g1,g2⟩:=y;cases e;rw[x7m k k' h1 g1,x0d ks ks' h2 g2]
end
mutual
theorem x2x{h h':Heap}(hk:∀a o,h.get? a=some o->o.cls=.type "tuple"->(∃it n,o.data=.seq it n)->h'.get? a=some o):∀(k:Kx){v:Value},KIs h k v->KIs h' k v
 |.non,v,x=>x
 |.bl b,v,x=>x
 |.int b,v,x=>x
 |.str b,v,x=>x
 |.tup ks,v,x=>by
  obtain⟨a,o,it,n,rfl,h1,h2,h3,h4⟩:=x;exact⟨a,o,it,n,rfl,hk a o h1 h2 ⟨it,n,h3⟩,h2,h3,x0v hk ks h4⟩
theorem x0v{h h':Heap}(hk:∀a o,h.get? a=some o->o.cls=.type "tuple"->(∃it n,o.data=.seq it n)->h'.get? a=some o):∀(ks:List Kx){vs:List Value},KAre h ks vs->KAre h' ks vs
 |[],vs,x=>x
 |k::ks,vs,x=>by
  obtain⟨v,r,rfl,h1,h2⟩:=x;exact⟨v,r,rfl,x2x hk k h1,x0v hk ks h2⟩
end
theorem KAre.length:∀(ks:List Kx){vs:List Value},KAre h ks vs->vs.length=ks.length
 |[],vs,x=>by cases(show vs=[]from x);rfl
 |k::ks,vs,x=>by
  obtain⟨v,r,rfl,h1,h2⟩:=x;rw[w0o,w0o,KAre.length ks h2]
mutual
noncomputable def kHash(w:World):Kx->Int
 |.non=>PySem.W.hashW w.params .none
 |.bl b=>reduceHash (if b=true then 1 else 0)
 |.int i=>hashInt i
 |.str x=>hashStr w x
 |.tup ks=>reduceHash (Builtin.Tuple.tupleHashOf (kHashes w ks))
noncomputable def kHashes(w:World):List Kx->List Int
 |[]=>[]
 |k::ks=>kHash w k::kHashes w ks
end
mutual
noncomputable def kDraws:Kx->Nat
 |.tup ks=>kDrawss ks+1
 |_=>1
noncomputable def kDrawss:List Kx->Nat
 |[]=>0
 |k::ks=>kDraws k+kDrawss ks
end
mutual
theorem x7n:∀(k:Kx)(v:Value)(A:Around)(s:Shared)(Q:Int->Shared->Prop),KIs s.heap k v->A.units+k.depth<cLine->Q (kHash w k) {s with toks:=s.toks+kDraws k}->wpAny (model prog w) A (pyHash v) Q E s
 |.non,v,A,s,Q,x,hu,h=>by
  cases(show v=.none from x);exact pyHash_slot (T:="NoneType") rfl F.slot_NoneType_hash F.entry_NoneType_hash (F.args_NoneType_hash_1 _) (beq_builtin_none _) (.inr (by omega)) (wpAny_bind (wpAny_pure (wpAny_bind (wpAny_mkInt (wpAny_pure ⟨_,_,rfl,h⟩)))))
 |.bl b,v,A,s,Q,x,hu,h=>by
  cases(show v=.bool b from x);refine pyHash_slot (T:="bool") rfl F.slot_bool_hash entry_int_hash (args_int_hash _) (beq_builtin_none _) (.inr (by omega)) ?_;cases b
  ·exact(show wpAny _ _ (do ret (<- mkInt 0)) _ _ s from wpAny_bind (wpAny_mkInt (wpAny_pure ⟨_,_,rfl,h⟩)))
  ·exact(show wpAny _ _ (do ret (<- mkInt 1)) _ _ s from wpAny_bind (wpAny_mkInt (wpAny_pure ⟨_,_,rfl,h⟩)))
 |.int i,v,A,s,Q,x,hu,h=>by
  obtain⟨t,rfl⟩:=x;exact wpAny_pyHash_int h
 |.str i,v,A,s,Q,x,hu,h=>by
  obtain⟨t,rfl⟩:=x;exact wpAny_pyHash_str h
 |.tup ks,v,A,s,Q,x,hu,h=>by
  obtain⟨a,o,it,n,rfl,h1,h2,h3,h4⟩:=x;refine pyHash_slot (T:="tuple") ⟨_,h1,h2⟩ F.slot_tuple_hash F.entry_tuple_hash (F.args_tuple_hash_1 _) (beq_builtin_none _) (.inr (by omega)) ?_;show wpAny _ _ (Builtin.Tuple.tupleItemsOf (.ref a) >>= _) _ _ s;refine wpAny_bind (wpAny_tupleItemsOf h1 h3 ?_);refine wpAny_bind ?_;rw[<- w4l];refine x2y ks it.toList A.in1 s #[] _ h4 (by simp only[Kx.depth,Around.in1_units]at hu |-;omega) fun b hb=>?_
  show wpAny _ _ (retInt (Builtin.Tuple.tupleHashOf b.toList)) _ _ _;rw[hb];exact wpAny_bind (wpAny_mkInt (wpAny_pure ⟨_,_,rfl,by simpa [kHash,kDraws,Nat.add_assoc]using h⟩))
theorem x2y:∀(ks:List Kx)(vs:List Value)(A:Around)(s:Shared)(b:Array Int)(Q:Array Int->Shared->Prop),KAre s.heap ks vs->A.units+Kx.depths ks<cLine ->
  (∀b',b'.toList=b.toList++kHashes w ks->Q b' {s with toks:=s.toks+kDrawss ks}) ->
  wpAny (model prog w) A (forIn vs b fun x r=>do let h <- pyHash x;pure PUnit.unit;pure (ForInStep.yield (r.push h))) Q E s
 |[],vs,A,s,b,Q,x,hu,h=>by
  cases(show vs=[]from x);exact wpAny_pure (h b (by simp[kHashes]))
 |k::ks,vs,A,s,b,Q,x,hu,h=>by
  obtain⟨v,r,rfl,h1,h2⟩:=x;simp only[Kx.depths]at hu;rw[w2p];refine wpAny_bind (wpAny_bind (x7n k v A s _ h1 (by omega) ?_));refine wpAny_bind (wpAny_pure (wpAny_pure ?_))
  exact x2y ks r A _ _ Q h2 (by omega) fun b' hb=>by
   have:=h b' (by simp[hb,kHashes])
   simpa [kDrawss,Nat.add_assoc]using this
end
theorem x7o(a b:Bool):decide (Kx.bl a=Kx.bl b)=(a==b):=by
 by_cases e:a=b
 ·subst e;simp
 ·rw[decide_eq_false (fun z=>e (by injection z))];exact(beq_eq_false_iff_ne.mpr e).symm
theorem y13(a b:Int):decide (Kx.int a=Kx.int b)=(a==b):=by
 by_cases e:a=b
 ·subst e;simp
 ·rw[decide_eq_false (fun z=>e (by injection z))];exact(beq_eq_false_iff_ne.mpr e).symm
theorem y14(a b:Str):decide (Kx.str a=Kx.str b)=(a==b):=by
 by_cases e:a=b
 ·subst e;simp
 ·rw[decide_eq_false (fun z=>e (by injection z))];exact(beq_eq_false_iff_ne.mpr e).symm
noncomputable def sameAt(ks ks':List Kx)(j:Nat):Bool:=decide (ks[j]?=ks'[j]?)
theorem y15:∀ks ks':List Kx,((List.range (min ks.length ks'.length)).all (sameAt ks ks')&&ks.length==ks'.length)=decide (Kx.tup ks=Kx.tup ks'):=by
 intro ks ks'
 by_cases e:ks=ks'
 ·subst e;rw[decide_eq_true rfl];simp[sameAt]
 ·rw[decide_eq_false (fun z=>e (by injection z))]
  rw[Bool.and_eq_false_iff]
  by_cases hl:ks.length=ks'.length
  ·left
   rw[w2e];intro ha;refine e (w2v fun j=>?_)
   by_cases hj:j<ks.length
   ·have:=w1b.mp ha j (w0w.mpr (by omega));exact of_decide_eq_true this
   ·rw[w1o (by omega),w1o (by omega)]
  ·right
   simpa using hl
theorem q7q:∀(ks:List Kx){vs:List Value},KAre h ks vs->∀(j:Nat)(v:Value),vs[j]?=some v->∃k,ks[j]?=some k/\KIs h k v
 |[],vs,x,j,v,e=>by cases(show vs=[]from x);simp at e
 |k::ks,vs,x,j,v,e=>by
  obtain⟨u,r,rfl,h1,h2⟩:=x;cases j with
  |zero=>cases e;exact⟨k,rfl,h1⟩
  |succ j=>exact q7q ks h2 j v (by simpa using e)
theorem q8q:∀(ks:List Kx)(j:Nat)(k:Kx),ks[j]?=some k->k.depth<=Kx.depths ks
 |[],j,k,e=>by simp at e
 |x::ks,j,k,e=>by
  simp only[Kx.depths];cases j with
  |zero=>cases e;omega
  |succ j=>have:=q8q ks j k (by simpa using e);omega
theorem q8r:∀(ks:List Kx)(ss:List Sh),Confs ks ss->∀(j:Nat)(k:Kx),ks[j]?=some k->∃s,ss[j]?=some s/\Conf k s
 |[],ss,_,j,k,e=>by simp at e
 |x::ks,[],c,j,k,e=>c.elim
 |x::ks,s::ss,c,j,k,e=>by
  cases j with
  |zero=>cases e;exact⟨s,rfl,c.1⟩
  |succ j=>exact q8r ks ss c.2 j k (by simpa using e)
theorem q8s:∀(ks:List Kx)(s:Sh),ConfM ks s->∀(j:Nat)(k:Kx),ks[j]?=some k->Conf k s
 |[],s,_,j,k,e=>by simp at e
 |x::ks,s,c,j,k,e=>by
  cases j with
  |zero=>cases e;exact c.1
  |succ j=>exact q8s ks s c.2 j k (by simpa using e)
theorem z1j(s:Shared):∀(n:Nat)(k k':Kx)(sh:Sh)(v v':Value)(A:Around),k.depth<=n->Conf k sh->Conf k' sh->KIs s.heap k v->KIs s.heap k' v'->A.units+n<cLine->SeqAt.EqAt A s v v' (decide (k=k')):=by
 intro n
 induction n with
 |zero=>
  intro k k' sh v v' A hd c c' x y hu;cases k with
  |non=>
   cases sh with
   |ob=>
    cases k' with
    |non=>cases(show v=.none from x);cases(show v'=.none from y);rw[decide_eq_true rfl];exact .same _
    |bl b=>cases(show v=.none from x);cases(show v'=.bool b from y);rw[decide_eq_false (fun z=>nomatch z)];exact .none_bool b
    |_=>exact c'.elim
   |_=>exact c.elim
  |bl a=>
   cases sh with
   |ob=>
    cases k' with
    |non=>cases(show v=.bool a from x);cases(show v'=.none from y);rw[decide_eq_false (fun z=>nomatch z)];exact .bool_none a
    |bl b=>cases(show v=.bool a from x);cases(show v'=.bool b from y);rw[x7o];exact .bool_bool a b
    |_=>exact c'.elim
   |bl=>
    cases k' with
    |bl b=>cases(show v=.bool a from x);cases(show v'=.bool b from y);rw[x7o];exact .bool_bool a b
    |_=>exact c'.elim
   |_=>exact c.elim
  |int a=>
   cases sh with
   |int=>
    cases k' with
    |int b=>obtain⟨t,rfl⟩:=x;obtain⟨u,rfl⟩:=y;rw[y13];exact .int_int a t b u
    |_=>exact c'.elim
   |_=>exact c.elim
  |str a=>
   cases sh with
   |str=>
    cases k' with
    |str b=>obtain⟨t,rfl⟩:=x;obtain⟨u,rfl⟩:=y;rw[y14];exact .str_str a t b u
    |_=>exact c'.elim
   |_=>exact c.elim
  |tup ks=>simp only[Kx.depth]at hd;omega
 |succ n ih=>
  intro k k' sh v v' A hd c c' x y hu;cases k with
  |non=>exact ih .non k' sh v v' A (w1i _) c c' x y (by omega)
  |bl a=>exact ih (.bl a) k' sh v v' A (w1i _) c c' x y (by omega)
  |int a=>exact ih (.int a) k' sh v v' A (w1i _) c c' x y (by omega)
  |str a=>exact ih (.str a) k' sh v v' A (w1i _) c c' x y (by omega)
  |tup ks=>
   obtain⟨a,o,it,m,rfl,h1,h2,h3,h4⟩:=x
   have tail:∀ks',k'=.tup ks'->(∀(j:Nat)(u u':Kx),ks[j]?=some u->ks'[j]?=some u'->∃s,Conf u s/\Conf u' s)->SeqAt.EqAt A s (.ref a) v' (decide (Kx.tup ks=k')):=by
    rintro ks' rfl hc;obtain⟨b,o',it',m',rfl,g1,g2,g3,g4⟩:=y
    by_cases hab:a=b
    ·subst hab;rw[h1]at g1;cases g1;rw[h3]at g3;injection g3 with e1 _
     subst e1;rw[x0d ks ks' h4 g4,decide_eq_true rfl];exact .same _
    ·have l1:=KAre.length ks h4;have l2:=KAre.length ks' g4;rw[<- y15]
     have:=SeqAt.RcAt.tuples (A:=A) (s:=s) (e:=sameAt ks ks') (show s.heap.IsTuple a it from⟨o,h1,h2,m,h3⟩) (show s.heap.IsTuple b it' from⟨o',g1,g2,m',g3⟩) (by omega) (fun j j1 j2=>by
      obtain⟨u,u1,u2⟩:=q7q ks h4 j it[j] (by simp[j1]);obtain⟨u',u1',u2'⟩:=q7q ks' g4 j it'[j] (by simp[j2]);obtain⟨sh',c1,c2⟩:=hc j u u' u1 u1';have hdj:=q8q ks j u u1;simp only[Kx.depth]at hd;have z:=ih u u' sh' _ _ A.in1 (by omega) c1 c2 u2 u2' (by rw[Around.in1_units];omega)
      have e:sameAt ks ks' j=decide (u=u'):=by
       unfold sameAt;rw[u1,u1']
       by_cases q:u=u'
       ·rw[q];simp
       ·rw[decide_eq_false q,decide_eq_false (fun z=>q (Option.some.inj z))]
      rw[e];exact z)
     rw[show it.size=ks.length by simpa using l1,show it'.size=ks'.length by simpa using l2]at this;exact .of_refs hab this
   cases sh with
   |tup ss=>
    cases k' with
    |tup ks'=>
     refine tail ks' rfl fun j u u' e1 e2=>?_
     obtain⟨s1,q1,q2⟩:=q8r ks ss c j u e1;obtain⟨s2,q3,q4⟩:=q8r ks' ss c' j u' e2;rw[q1]at q3;cases q3;exact⟨s1,q2,q4⟩
    |_=>exact c'.elim
   |many s1=>
    cases k' with
    |tup ks'=>exact tail ks' rfl fun j u u' e1 e2=>⟨s1,q8s ks s1 c j u e1,q8s ks' s1 c' j u' e2⟩
    |_=>exact c'.elim
   |_=>exact c.elim
theorem y16:∀(n:Nat)(k:Kx)(v:Value)(s:Shared)(Q:Bool->Shared->Prop),k.depth<=n->KIs s.heap k v->Q true s->wpAny (model prog w) A (eqIsQuiet n v) Q E s:=by
 intro n
 induction n with
 |zero=>
  intro k v s Q hd x h;cases k with
  |non=>cases(show v=.none from x);rw[eqIsQuiet_byValue _ rfl];exact wpAny_pure h
  |bl b=>cases(show v=.bool b from x);rw[eqIsQuiet_byValue _ rfl];exact wpAny_pure h
  |int i=>obtain⟨t,rfl⟩:=x;rw[eqIsQuiet_byValue _ rfl];exact wpAny_pure h
  |str i=>obtain⟨t,rfl⟩:=x;rw[eqIsQuiet_byValue _ rfl];exact wpAny_pure h
  |tup ks=>simp only[Kx.depth]at hd;omega
 |succ n ih=>
  intro k v s Q hd x h;cases k with
  |non=>cases(show v=.none from x);rw[eqIsQuiet_byValue _ rfl];exact wpAny_pure h
  |bl b=>cases(show v=.bool b from x);rw[eqIsQuiet_byValue _ rfl];exact wpAny_pure h
  |int i=>obtain⟨t,rfl⟩:=x;rw[eqIsQuiet_byValue _ rfl];exact wpAny_pure h
  |str i=>obtain⟨t,rfl⟩:=x;rw[eqIsQuiet_byValue _ rfl];exact wpAny_pure h
  |tup ks=>
   obtain⟨a,o,it,m,rfl,h1,h2,h3,h4⟩:=x;have hT:s.TypeIs (.ref a) "tuple":=⟨o,h1,h2⟩;unfold eqIsQuiet;refine wpAny_bind (wpAny_specialOf hT F.slot_tuple_eq.lookup ?_);show wpAny _ _ (isInstance (.ref a) (.type "tuple") >>= _) _ _ s;refine wpAny_bind (wpAny_isInstance hT isSubtype_tuple_tuple ?_);simp only[Bool.not_true,w1x,if_false];refine wpAny_bind (wpAny_seqItems h1 h3 ?_);refine wpAny_bind ?_;show wpAny _ _ (forIn it _ _) _ _ s;rw[<- w4l];refine wpAny_forIn_list _ (fun rest r s'=>r.1=none/\s'=s/\∀v∈rest,∃k:Kx,k.depth<=n/\KIs s.heap k v) _ ?_ ?_ _ _ ⟨rfl,rfl,fun v hv=>?_⟩
   ·rintro v rest r s' ⟨hr,rfl,hall⟩;obtain⟨k,k1,k2⟩:=hall v w1h;refine wpAny_bind (ih k v _ _ k1 k2 ?_);simp only[Bool.not_true,w1x,if_false];exact wpAny_pure ⟨rfl,rfl,fun u hu'=>hall u (w0z _ hu')⟩
   ·rintro⟨r1,r2⟩ s' ⟨hr,rfl,_⟩;simp only at hr;subst hr;exact wpAny_pure h
   ·obtain⟨j,hj,e⟩:=w2c.mp hv;obtain⟨k,k1,k2⟩:=q7q ks h4 j v (by rw[w0b hj,e]);have:=q8q ks j k k1;simp only[Kx.depth]at hd;exact⟨k,by omega,k2⟩
noncomputable def treeKind(prog:Program)(w:World)(sh:Sh):HeapKind prog w Kx where
 is:=fun h k a=>KIs h k (.ref a)/\Conf k sh/\k.depth<=7
 hash:=kHash w
 draws:=kDraws
 room:=fun A=>A.units+8<cLine
 inj:=fun hx hy=>x7m _ _ hx.1 hy.1
 keeps:=fun {h h' k a d o es ep} x ho hd hs=>⟨x2x (fun b ob e1 e2 e3=>by
  have hne:b≠d:=by
   rintro rfl;rw[ho]at e1;cases e1;obtain⟨it,n,e⟩:=e3;rw[hd]at e;cases e
  exact(hs.2 b hne).trans e1) _ x.1,x.2⟩
 pyHash:=fun {A E s k a Q} hu hk h=>x7n k _ A s Q hk.1 (by have:=hk.2.2;omega) h
 eqBool:=fun {A E s x y a b Q} hu hx hy h=>z1j s 7 x y sh _ _ A hx.2.2 hx.2.1 hy.2.1 hx.1 hy.1 (by omega) prog w E Q h
 quiet:=fun {A E s k a Q} hk h=>y16 8 k _ s Q (by have:=hk.2.2;omega) hk.1 h
set_option Elab.async false
set_option linter.all false
set_option maxRecDepth 100000
noncomputable abbrev Key:=Sum Int Str
noncomputable def keyIs:Key->Value->Bool
 |.inl k,v=>Value.isInt k v
 |.inr x,v=>Value.isStrOf x v
noncomputable def keyH(w:World):Key->Int
 |.inl k=>hashInt k
 |.inr x=>hashStr w x
theorem q15:∀{k:Key}{v:Value},keyIs k v=true->(∃i t,k=Sum.inl i/\v=Value.int i t)\/(∃x t,k=Sum.inr x/\v=Value.str x t)
 |.inl i,v,h=>by
  obtain⟨t,e⟩:=Value.isInt_shape (k:=i) (v:=v) h;exact .inl ⟨i,t,rfl,e⟩
 |.inr x,v,h=>by
  obtain⟨t,e⟩:=Value.isStrOf_shape (x:=x) (v:=v) h;exact .inr ⟨x,t,rfl,e⟩
theorem x9i(i:Int)(t:Tok):keyIs (.inl i) (.int i t)=true:=by simp[keyIs,Value.isInt]
theorem x9j(x:Str)(t:Tok):keyIs (.inr x) (.str x t)=true:=by simp[keyIs,Value.isStrOf]
theorem y7y(a b:Int):decide ((Sum.inl a:Key)=Sum.inl b)=(a==b):=by
 by_cases e:a=b
 ·subst e;simp
 ·have h:¬(Sum.inl a:Key)=Sum.inl b:=fun q=>e (Sum.inl.inj q)
  rw[decide_eq_false h];exact(beq_eq_false_iff_ne.mpr e).symm
theorem y7z(a b:Str):decide ((Sum.inr a:Key)=Sum.inr b)=decide (a=b):=by
 by_cases e:a=b
 ·subst e;simp
 ·have h:¬(Sum.inr a:Key)=Sum.inr b:=fun q=>e (Sum.inr.inj q)
  rw[decide_eq_false h,decide_eq_false e]
theorem y70(a:Int)(b:Str):decide ((Sum.inl a:Key)=Sum.inr b)=false:=decide_eq_false (fun q=>nomatch q)
theorem y71(a:Str)(b:Int):decide ((Sum.inr a:Key)=Sum.inl b)=false:=decide_eq_false (fun q=>nomatch q)
noncomputable def mixKind(prog:Program)(w:World):PySem.KeyKind prog w Key where
 is:=keyIs
 hash:=keyH w
 inj:=fun v a b ha hb=>by
  rcases q15 ha with⟨i,t,rfl,rfl⟩|⟨x,t,rfl,rfl⟩
  ·rcases q15 hb with⟨j,u,rfl,e⟩|⟨y,u,rfl,e⟩
   ·injection e with e1 _;rw[e1]
   ·exact nomatch e
  ·rcases q15 hb with⟨j,u,rfl,e⟩|⟨y,u,rfl,e⟩
   ·exact nomatch e
   ·injection e with e1 _;rw[e1]
 byValue:=fun k v h=>by
  rcases q15 h with⟨i,t,rfl,rfl⟩|⟨x,t,rfl,rfl⟩<;>rfl
 pyHash:=fun hv h=>by
  rcases q15 hv with⟨i,t,rfl,rfl⟩|⟨x,t,rfl,rfl⟩
  ·exact wpAny_pyHash_int h
  ·exact wpAny_pyHash_str h
 eqBool:=fun hu hv h=>by
  rcases q15 hu with⟨i,t,rfl,rfl⟩|⟨x,t,rfl,rfl⟩
  ·rcases q15 hv with⟨j,u,rfl,rfl⟩|⟨y,u,rfl,rfl⟩
   ·rw[y7y]at h;exact wpAny_eqBool_int h
   ·rw[y70]at h;exact SeqAt.EqAt.int_str i t y u _ _ _ _ h
  ·rcases q15 hv with⟨j,u,rfl,rfl⟩|⟨y,u,rfl,rfl⟩
   ·rw[y71]at h;exact SeqAt.EqAt.str_int x t j u _ _ _ _ h
   ·rw[y7z]at h;exact wpAny_eqBool_str h
 «strs»:=fun k x t v h=>by
  rcases q15 h with⟨i,u,rfl,e⟩|⟨y,u,rfl,e⟩
  ·exact nomatch e
  ·injection e with e1 _
   subst e1;cases v<;>rfl
theorem x6n(prog:Program)(w:World)(i:Int)(t:Tok):(mixKind prog w).is (.inl i) (.int i t)=true:=x9i i t
theorem x6o(prog:Program)(w:World)(x:Str)(t:Tok):(mixKind prog w).is (.inr x) (.str x t)=true:=x9j x t
set_option genInjectivity true in
inductive V where
 |non|bl (b:Bool)|int (i:Int)|str (x:Str)|byt (b:Array UInt8)|flt (b:UInt64)|ref (a:Addr)|ty (n:String)
 deriving DecidableEq
variable{xs:List V}{v:V}
def RelV:V->Value->Prop
 |.non,u=>u=Value.none
 |.bl b,u=>u=Value.bool b
 |.int i,u=>∃t,u=Value.int i t
 |.str x,u=>∃t,u=Value.str x t
 |.byt b,u=>∃t,u=Value.bytes b t
 |.flt b,u=>∃t,u=Value.float b t
 |.ref a,u=>u=Value.ref a
 |.ty n,u=>u=Value.type n
abbrev Vals:List V->List Value->Prop:=Paired RelV
theorem Vals.length(r:Vals xs us):xs.length=us.length:=Paired.length r
theorem Vals.get:∀{xs:List V}{us:List Value}{i:Nat}{x:V},Vals xs us->xs[i]?=some x->∃u,us[i]?=some u/\RelV x u
 |_,_,_,_,.nil,e=>by simp at e
 |_,_,0,_,.cons r _,e=>by simp at e;subst e;exact⟨_,rfl,r⟩
 |_,_,i+1,x,.cons _ t,e=>by
  obtain⟨u,h1,h2⟩:=Vals.get (i:=i) (x:=x) t (by simpa using e);exact⟨u,by simpa using h1,h2⟩
theorem Vals.append:∀{xs ys:List V}{us ws:List Value},Vals xs us->Vals ys ws->Vals (xs++ys) (us++ws)
 |_,_,_,_,.nil,s=>s
 |_,_,_,_,.cons r t,s=>.cons r (Vals.append t s)
theorem Vals.take:∀{xs:List V}{us:List Value}(n:Nat),Vals xs us->Vals (xs.take n) (us.take n)
 |_,_,0,_=>.nil
 |_,_,_+1,.nil=>.nil
 |_,_,n+1,.cons r t=>.cons r (Vals.take n t)
theorem Vals.drop:∀{xs:List V}{us:List Value}(n:Nat),Vals xs us->Vals (xs.drop n) (us.drop n)
 |_,_,0,r=>r
 |_,_,_+1,.nil=>.nil
 |_,_,n+1,.cons _ t=>Vals.drop n t
def RelO:Option V->Option Value->Prop
 |some v,some u=>RelV v u
 |none,none=>True
 |_,_=>False
def KV{κ:Type}:List (κ×V)->List (κ×Value)->Prop:=Paired fun(p:κ×V) (q:κ×Value)=>p.1=q.1/\RelV p.2 q.2
noncomputable def kV:Key->V
 |.inl i=>.int i
 |.inr x=>.str x
inductive HO where
 /-- a list -/
 |lst (xs:List V)
 /-- a tuple (never changes) -/
 |tup (xs:List V)
 /-- a dict whose keys are ints and texts;one whose keys are tuples of ints and texts (the empty one is both) -/
 |dK (kvs:List (Key×V))|dT (sh:Sh) (kvs:List (Kx×V)) (kas:List Addr)
 /-- a set of ints: its members,its size -/
 |set (S:Int->Bool) (n:Nat)
 /-- an instance of the class at C,its dict at dx,its attributes -/
 |ins (C dx:Addr) (fs:List (Str×V))
 /-- the dict of the instance at x -/
 |own (x:Addr)
 /-- the dict of an exception -/
 |xd (fs:List (Str×V))
 /-- a bound method,f of x -/
 |met (f x:Addr)
 /-- a range object lo,lo+1,.. below hi -/
 |rng (lo hi:Int)
 /-- a thing that is known to the object (the script;a dict while a loop walks it): read,never written while it is so -/
 |frz (o:Obj) (u:HO)
 /-- a code object's table -/
 |tbl (ps:Array Value)
 /-- any other thing,by what is true of its one object (a def of one's own: SetO a S n:=HO.ext fun h=>..) -/
 |ext (φ:Heap->Prop)
noncomputable abbrev Hp:=Addr->Option HO
variable{H H':Hp}
def TupLike:HO->Prop
 |.tup _=>True
 |.frz _ (.tup _)=>True
 |.frz _ (.own _)=>True
 |_=>False
mutual
def KRep(H:Hp):Kx->V->Prop
 |.non,v=>v=.non
 |.bl b,v=>v=.bl b
 |.int i,v=>v=.int i
 |.str x,v=>v=.str x
 |.tup ks,v=>∃a xs,v=.ref a/\(H a=some (.tup xs)\/∃o,H a=some (.frz o (.tup xs)))/\KReps H ks xs
def KReps(H:Hp):List Kx->List V->Prop
 |[],vs=>vs=[]
 |k::ks,vs=>∃v r,vs=v::r/\KRep H k v/\KReps H ks r
end
mutual
theorem KRep.keeps{H H':Hp}(ht:∀b u,TupLike u->H b=some u->H' b=some u):∀(k:Kx){v:V},KRep H k v->KRep H' k v
 |.non,_,x=>x
 |.bl _,_,x=>x
 |.int _,_,x=>x
 |.str _,_,x=>x
 |.tup ks,_,x=>by
  obtain⟨a,xs,e,q,r⟩:=x;refine⟨a,xs,e,?_,KReps.keeps ht ks r⟩;rcases q with q|⟨o,q⟩
  ·exact .inl (ht _ _ True.intro q)
  ·exact .inr ⟨o,ht _ _ True.intro q⟩
theorem KReps.keeps{H H':Hp}(ht:∀b u,TupLike u->H b=some u->H' b=some u):∀(ks:List Kx){vs:List V},KReps H ks vs->KReps H' ks vs
 |[],_,x=>x
 |k::ks,_,x=>by
  obtain⟨v,r,e,h1,h2⟩:=x;exact⟨v,r,e,KRep.keeps ht k h1,KReps.keeps ht ks h2⟩
end
noncomputable def upd(H:Hp)(a:Addr)(o:HO):Hp:=fun b=>if b=a then some o else H b
theorem q0m{o:HO}:upd H a o a=some o:=by unfold upd;rw[if_pos rfl]
theorem q0f{o:HO}(h:b≠a):upd H a o b=H b:=by unfold upd;rw[if_neg h]
theorem q09{o u:HO}(h:H a=some o)(h':H b=some u)(d:o≠u):a≠b:=by
 intro e;subst e;rw[h]at h';exact d (Option.some.inj h')
theorem q0s{o:HO}(h:H a=some o)(h':H b=none):a≠b:=by
 intro e;subst e;rw[h]at h';cases h'
section
variable(P:Program)(w:World)
def BareT(h:Heap)(a:Addr):Prop:=∃o,h.get? a=some o/\o.dict=none
def ObjOk(H:Hp)(h:Heap)(a:Addr):HO->Prop
 |.lst xs=>xs.length<=sizeLine/\∃(its:List Value)(n:Nat),Vals xs its/\h.get? a=some {cls:=.type "list", data:=.seq its.toArray n}
 |.tup xs=>xs.length<=sizeLine/\∃its:List Value,Vals xs its/\IsTup h a its.toArray/\BareT h a
 |.dK kvs=>kvs.length<=sizeLine/\(a==sysModules)=false/\∃vs,KV kvs vs/\h.DictOf (mixKind P w) a vs
 |.dT sh kvs kas=>kvs.length<=sizeLine/\(a==sysModules)=false/\∃xs:List (Kx×Addr×Value),
   Paired (fun(p:Kx×V) (q:Kx×Addr×Value)=>p.1=q.1/\(KRep H p.1 (.ref q.2.1)/\Conf p.1 sh/\p.1.depth<=7)/\RelV p.2 q.2.2) kvs xs/\xs.map (·.2.1)=kas /\
   ∃o es ep,h.get? a=some o/\o.ExactDict/\o.data=.dict es ep/\es.toList=xs.map (entryOfKey (treeKind P w sh))/\(xs.map (·.1)).Nodup
 |.set S n=>h.SetOf (intKind P w) a S n
 |.ins C dx fs=>H dx=some (.own a)/\fs.length<=1000/\dx≠a/\h.get? a=some (PySem.W.instObj C dx) /\
   ∃mA,h.Ns1 dx mA/\(∀f,RelO (fs.lookup f) (mA f))/\PySem.Within mA (fs.map (·.1))
 |.own _=>∃o,h.get? a=some o
 |.xd fs=>∃mA,h.Ns1 a mA/\∀f,RelO (fs.lookup f) (mA f)
 |.rng lo hi=>∃t u v,h.get? a=some {cls:=.type "range", data:=.fields #[.int lo t,.int hi u,.int 1 v]}
 |.frz o u=>h.get? a=some o/\ObjOk H h a u
 |.tbl ps=>(∃(q:Str)(qs:Array Value),ps[0]?=some (.bool true)/\ps[1]?=some (.str q 0)/\h.get? a=some {cls:=.none,data:=.fields qs}/\TriplesOk qs.toList/\∀(pos:Pos)(cv:Value),codeAmong pos qs.toList=some cv ->
   ∃(c:Addr)(oc:Obj)(vs:Array Value)(t:Tok),cv=.ref c/\H c=some (.frz oc (.own 0))/\oc.data=.fields vs/\vs[1]?=some (.str q t)) \/
   ∃(q:Str)(c:Addr)(oc ob:Obj)(vs:Array Value)(t:Tok),ps[0]?=some (.bool false)/\ps[1]?=some (.str q 0)/\ps[2]?=some (.ref c)/\H c=some (.frz oc (.own 0))/\oc.data=.fields vs/\vs[1]?=some (.str q t)/\h.get? a=some ob
 |.met f x=>h.get? a=some (methodObj (.ref f) (.ref x))
 |.ext φ=>φ h/\(∃o,h.get? a=some o)/\∀h1 h2:Heap,φ h1->(∀o,h1.get? a=some o->h2.get? a=some o)->φ h2
def HOk(H:Hp)(h:Heap):Prop:=∀a o,H a=some o->ObjOk P w H h a o
end
section
variable{o:HO}
theorem ObjOk.lt(x:ObjOk P w H h a o):a<h.objs.size:=by
 cases o with
 |lst xs=>obtain⟨_,_,_,_,e⟩:=x;exact Heap.lt_size e
 |tup xs=>obtain⟨_,_,_,p,_⟩:=x;exact p.lt
 |dK kvs=>obtain⟨_,_,_,_,o,_,_,e,_⟩:=x;exact Heap.lt_size e
 |dT sh kvs kas=>obtain⟨_,_,_,_,_,o,_,_,e,_⟩:=x;exact Heap.lt_size e
 |set S n=>obtain⟨o,_,_,_,e,_⟩:=x;exact Heap.lt_size e
 |ins C dx fs=>obtain⟨_,_,_,e,_⟩:=x;exact Heap.lt_size e
 |own y=>obtain⟨_,e⟩:=x;exact Heap.lt_size e
 |xd fs=>obtain⟨_,⟨_,_,_,e,_⟩,_⟩:=x;exact Heap.lt_size e
 |rng lo hi=>obtain⟨_,_,_,e⟩:=x;exact Heap.lt_size e
 |frz ob u=>obtain⟨e,_⟩:=x;exact Heap.lt_size e
 |tbl ps=>rcases x with⟨_,_,_,_,e,_⟩|⟨_,_,_,_,_,_,_,_,_,_,_,_,e⟩<;>exact Heap.lt_size e
 |met f y=>exact Heap.lt_size (show h.get? a=some _ from x)
 |ext φ=>obtain⟨_,⟨_,e⟩,_⟩:=x;exact Heap.lt_size e
theorem Paired.mapP{α β:Type}{F G:α->β->Prop}:∀{l₁:List α}{l₂:List β},Paired F l₁ l₂->(∀a b,F a b->G a b)->Paired G l₁ l₂
 |_,_,.nil,_=>.nil
 |_,_,.cons r t,f=>.cons (f _ _ r) (Paired.mapP t f)
theorem ObjOk.stay(x:ObjOk P w H h a o)(k:∀b u,(b=a\/H b=some (.own a))->h.get? b=some u->h'.get? b=some u)
  (ho:∀b,H b=some (.own a)->H' b=some (.own a))(ht:∀b u,TupLike u->H b=some u->H' b=some u):ObjOk P w H' h' a o:=by
 induction o with
 |lst xs=>obtain⟨z,its,n,r,e⟩:=x;exact⟨z,its,n,r,k _ _ (.inl rfl) e⟩
 |tup xs=>obtain⟨z,its,r,⟨ob,e,c⟩,⟨o2,e2,c2⟩⟩:=x;exact⟨z,its,r,⟨ob,k _ _ (.inl rfl) e,c⟩,⟨o2,k _ _ (.inl rfl) e2,c2⟩⟩
 |dK kvs=>obtain⟨z,y,vs,r,ob,es,ep,e,c⟩:=x;exact⟨z,y,vs,r,ob,es,ep,k _ _ (.inl rfl) e,c⟩
 |dT sh kvs kas=>
  obtain⟨z,y,xs,r,ka,ob,es,ep,e,c⟩:=x;exact⟨z,y,xs,Paired.mapP r fun p q z=>⟨z.1,⟨KRep.keeps ht _ z.2.1.1,z.2.1.2⟩,z.2.2⟩,ka,ob,es,ep,k _ _ (.inl rfl) e,c⟩
 |set S n=>obtain⟨ob,es,ep,t,e,c⟩:=x;exact⟨ob,es,ep,t,k _ _ (.inl rfl) e,c⟩
 |ins C dx fs=>
  obtain⟨d,z,ne,e,mA,⟨od,es,ep,e2,c⟩,r⟩:=x;exact⟨ho _ d,z,ne,k _ _ (.inl rfl) e,mA,⟨od,es,ep,k _ _ (.inr d) e2,c⟩,r⟩
 |own y=>obtain⟨ob,e⟩:=x;exact⟨ob,k _ _ (.inl rfl) e⟩
 |xd fs=>obtain⟨mA,⟨od,es,ep,e,c⟩,r⟩:=x;exact⟨mA,⟨od,es,ep,k _ _ (.inl rfl) e,c⟩,r⟩
 |rng lo hi=>obtain⟨t,u,v,e⟩:=x;exact⟨t,u,v,k _ _ (.inl rfl) e⟩
 |frz ob u ih=>obtain⟨e,q⟩:=x;exact⟨k _ _ (.inl rfl) e,ih q⟩
 |tbl ps=>
  rcases x with⟨q,qs,p0,p1,e,tr,cd⟩|⟨q,c,oc,ob,vs,t,p0,p1,p2,h3,h4,h5,e⟩
  ·refine .inl ⟨q,qs,p0,p1,k _ _ (.inl rfl) e,tr,fun pos cv z=>?_⟩
   obtain⟨c,oc,vs,t,h1,h3,h4,h5⟩:=cd pos cv z;exact⟨c,oc,vs,t,h1,ht _ _ True.intro h3,h4,h5⟩
  ·exact .inr ⟨q,c,oc,ob,vs,t,p0,p1,p2,ht _ _ True.intro h3,h4,h5,k _ _ (.inl rfl) e⟩
 |met f y=>
  have e:h.get? a=some (methodObj (.ref f) (.ref y)):=x;show h'.get? a=some (methodObj (.ref f) (.ref y));exact k a _ (.inl rfl) e
 |ext φ=>obtain⟨p,⟨o,e⟩,st⟩:=x;exact⟨st _ _ p fun o q=>k _ _ (.inl rfl) q,⟨o,k _ _ (.inl rfl) e⟩,st⟩
theorem HOk.lt(x:HOk P w H h)(e:H a=some o):a<h.objs.size:=(x a o e).lt
theorem HOk.fresh(x:HOk P w H h)(e:h.objs.size<=a):H a=none:=by
 cases q:H a with
 |none=>rfl
 |some u=>exact absurd (w0s (x.lt q) e) (w1y _)
theorem HOk.kept(x:HOk P w H h)(k:∀b u,h.get? b=some u->h'.get? b=some u):HOk P w H h':=fun a o e=>
 (x a o e).stay (fun b u _ q=>k b u q) (fun _ q=>q) fun _ _ _ q=>q
theorem HOk.laid(x:HOk P w H h)(k:∀b u,h.get? b=some u->h'.get? b=some u)(hp:h.objs.size<=a)(new:ObjOk P w (upd H a o) h' a o):HOk P w (upd H a o) h':=fun b u e=>by
 have hn:=x.fresh hp
 by_cases hb:b=a
 ·subst hb;rw[q0m]at e;cases e;exact new
 ·rw[q0f hb]at e;exact(x b u e).stay (fun c v _ q=>k c v q) (fun c q=>by rw[q0f (q0s q hn)];exact q) fun c xs _ q=>by rw[q0f (q0s q hn)];exact q
end
def Rd(H:Hp)(a:Addr)(u:HO):Prop:=H a=some u\/∃o,H a=some (.frz o u)
theorem Rd.ok{u:HO}(r:Rd H a u)(x:HOk P w H h):ObjOk P w H h a u:=by
 rcases r with r|⟨o,r⟩
 ·exact x a u r
 ·obtain⟨_,q⟩:=x a _ r;exact q
def Mut:Option HO->Prop
 |some (.lst _)=>True
 |some (.dK _)=>True
 |some (.dT _ _ _)=>True
 |some (.set _ _)=>True
 |some (.ins _ _ _)=>True
 |some (.ext _)=>True
 |_=>False
section
variable{x e:Addr}{o':HO}
theorem HOk.write(ok:HOk P w H h)(mu:Mut (H x))(he:e=x\/H e=some (.own x))(k:∀b u,b≠e->h.get? b=some u->h'.get? b=some u)(heo:∃u,h'.get? e=some u)
  (new:ObjOk P w (upd H x o') h' x o'):HOk P w (upd H x o') h':=fun b u q=>by
 have nown:∀c y,H c=some (.own y)->c≠x:=fun c y r z=>by subst z;rw[r]at mu;exact mu
 have ntup:∀c u,TupLike u->H c=some u->c≠x:=fun c u t r z=>by
  subst z;rw[r]at mu;cases u<;>first|exact mu|exact t
 by_cases hb:b=x
 ·subst hb;rw[q0m]at q;cases q;exact new
 ·rw[q0f hb]at q
  by_cases hbe:b=e
  ·have q':H b=some (.own x):=by
    rcases he with z|z
    ·exact absurd (hbe.trans z) hb
    ·rw[hbe];exact z
   rw[q]at q';cases q';obtain⟨v,hv⟩:=heo;exact⟨v,by rw[hbe];exact hv⟩
  ·refine(ok b u q).stay (fun c v hc r=>k c v ?_ r) (fun c r=>by rw[q0f (nown c b r)];exact r) fun c xs t r=>by rw[q0f (ntup c xs t r)];exact r
   rcases hc with rfl|hc
   ·exact hbe
   ·rintro rfl;rcases he with z|z
    ·exact nown c b hc z
    ·rw[hc]at z;cases z;exact hb rfl
end
structure Un(fs ex:List Addr)(H H':Hp)(h h':Heap):Prop where
 keep:∀b o,h.get? b=some o->H b=none->b∉fs->b∉ex->h'.get? b=some o
 slot:∀b o,h.get? b=some o->H b=none->b∈fs->b∉ex->∃sl,h'.get? b=some {o with slots:=sl}
 free:∀b o,h.get? b=some o->H b=none->b∉ex->H' b=none
 there:∀b o,h.get? b=some o->b∉ex->∃o',h'.get? b=some o'
 tups:∀b xs,H b=some (.tup xs)->H' b=some (.tup xs)
 frzs:∀b o u,H b=some (.frz o u)->H' b=some (.frz o u)
 tbls:∀b ps,H b=some (.tbl ps)->∃more,H' b=some (.tbl (ps++more))
section
variable{fs fs' ex ex':List Addr}{H1 H2:Hp}{h1 h2:Heap}{x e:Addr}{o:HO}
theorem Un.any(u:Un fs ex H H1 h h1){ob:Obj}(q:h.get? b=some ob)(n:H b=none)(hx:b∉ex):∃sl,h1.get? b=some {ob with slots:=sl}:=by
 by_cases hb:b∈fs
 ·exact u.slot b ob q n hb hx
 ·exact⟨ob.slots,u.keep b ob q n hb hx⟩
theorem Un.kept(k:∀b u,h.get? b=some u->h'.get? b=some u):Un fs ex H H h h':=
 ⟨fun b ob q _ _ _=>k b ob q,fun b ob q _ _ _=>⟨ob.slots,k b ob q⟩,fun _ _ _ n _=>n,fun b ob q _=>⟨ob,k b ob q⟩,fun _ _ q=>q,fun _ _ _ q=>q,fun _ ps q=>⟨#[],by rw[q];simp⟩⟩
theorem Un.refl:Un fs ex H H h h:=Un.kept fun _ _ q=>q
theorem Un.laid(k:∀b u,h.get? b=some u->h'.get? b=some u)(hp:h.objs.size<=a)(hn:H a=none):Un fs ex H (upd H a o) h h' where
 keep:=fun b u q _ _ _=>k b u q
 slot:=fun b u q _ _ _=>⟨u.slots,k b u q⟩
 free:=fun b u q n _=>by rw[q0f (w0t (w0s (Heap.lt_size q) hp))];exact n
 there:=fun b u q _=>⟨u,k b u q⟩
 tups:=fun b xs q=>by rw[q0f (q0s q hn)];exact q
 frzs:=fun b u xs q=>by rw[q0f (q0s q hn)];exact q
 tbls:=fun b ps q=>⟨#[],by rw[q0f (q0s q hn),q];simp⟩
theorem Un.write(mu:Mut (H x))(he:e=x\/H e=some (.own x))(k:∀b u,b≠e->h.get? b=some u->h'.get? b=some u)(heo:∃u,h'.get? e=some u):Un fs ex H (upd H x o) h h':=by
 have hx:∀b,H b=none->b≠x:=fun b n z=>by subst z;rw[n]at mu;exact mu
 have hb:∀b,H b=none->b≠e:=fun b n z=>by
  subst z;rcases he with r|r
  ·exact hx b n r
  ·rw[n]at r;cases r
 have hm:∀b u,H b=some u->¬Mut (some u)->b≠x:=fun b u q nm z=>by subst z;rw[q]at mu;exact nm mu
 refine⟨fun b u q n _ _=>k b u (hb b n) q,fun b u q n _ _=>⟨u.slots,k b u (hb b n) q⟩,fun b u q n _=>by rw[q0f (hx b n)];exact n,fun b u q _=>?_,
  fun b xs q=>by rw[q0f (hm b _ q fun z=>z)];exact q,fun b u xs q=>by rw[q0f (hm b _ q fun z=>z)];exact q,fun b ps q=>⟨#[],by rw[q0f (hm b _ q fun z=>z),q];simp⟩⟩
 by_cases hbe:b=e
 ·subst hbe;exact heo
 ·exact⟨u,k b u hbe q⟩
end
noncomputable def trk(h:Heap)(H:Hp):List Addr:=(List.range h.objs.size).filter fun a=>(H a).isSome
noncomputable def hidT(h:Heap)(H:Hp):Heap:=PySem.W.hideAll h (trk h H)
theorem x9k(h:Heap)(H:Hp):(hidT h H).objs.size=h.objs.size:=PySem.W.hideAll_size _ _
theorem y17{o:Obj}(e:h.get? b=some o)(n:H b=none):(hidT h H).get? b=some o:=
 hideAll_get _ e fun hm=>by
  have q:(H b).isSome=true:=(w1d.mp hm).2;rw[n]at q;simp at q
theorem y4t{o:Obj}(e:(hidT h H).get? b=some o):h.get? b=some o/\H b=none:=by
 have e':h.get? b=some o:=PySem.W.of_hideAll (trk h H) e;refine⟨e',?_⟩;cases q:H b with
 |none=>rfl
 |some x=>
  have hm:b∈trk h H:=w1d.mpr ⟨w0w.mpr (Heap.lt_size e'),by simp[q]⟩;have z:(hidT h H).get? b=none:=PySem.W.hideAll_none (trk h H) hm;rw[z]at e;cases e
noncomputable def allNews(g h:Heap)(L:Addr):List (Addr×Obj):=(List.range h.objs.size).filterMap fun a=>if a=L\/(g.get? a).isSome=true then none else(h.get? a).map fun o=>(a,o)
noncomputable def rest(g h:Heap)(L d:Addr):List (Addr×Obj):=(allNews g h L).filter fun p=>decide (p.1≠d)
structure Mod(K:PySem.W.Frag)(mg:Str->Option Value)(base:Heap):Prop where
 kin:K.In base
 glob:base.Ns mainGlobals mg
 blt:∃mb,base.Ns builtinsNs mb/\∀x:Str,x≠"__name__"->mb x=bootBuiltins x
 nolimit:base.NoLimit
structure Cx where
 prog:Program
 w:World
 K:PySem.W.Frag
 mg:Str->Option Value
 base:Heap
 A:Around
 N:List Str
 s₀:Shared
 H₀:Hp
 env:Env
 outer:List Env
 stack:List Env
 ex:List Addr
 fn:Str->Bool
 calm:Bool
 pn:List (Addr×Obj)
 xe:Value->Shared->Prop
variable{X:Cx}
noncomputable def frs(l:List Env):List Addr:=l.filterMap (·.frame)
noncomputable abbrev Cx.fs(X:Cx):List Addr:=frs X.outer
def Vis(sc:Scope)(x:Str):Prop:=sc.names.lookup x=some .local\/sc.names.lookup x=some .cell\/sc.names.lookup x=some .free
def Loc(sc:Scope)(x:Str):Prop:=sc.names.lookup x=some .local\/sc.names.lookup x=some .cell
def Look(env:Env)(h:Heap)(m:Str->Option Value)(x:Str)(u:Value):Prop:=
 (env.kindOf x=some .local/\m x=some u)\/((env.kindOf x=some .cell\/env.kindOf x=some .free)/\∃c,env.cells.lookup x=some c/\h.IsCell c (some u))
noncomputable abbrev markO(P:Addr)(q:Str):Obj:={cls:=.str q 0,data:=.fields #[.ref P]}
def TabOk(K:PySem.W.Frag)(H:Hp):Prop:=∀(a:Addr)(q:Str)(P:Addr),(a,markO P q)∈K->∃ps:Array Value,H P=some (.tbl ps)/\ps[0]?=some (.bool true)/\ps[1]?=some (.str q 0)
noncomputable def noMark(K:PySem.W.Frag):Bool:=K.all fun p=>match p.2.cls with
 |.str _ _=>false
 |_=>true
theorem TabOk.vac(h:noMark K=true):TabOk K H:=fun a q P m=>by
 have:=w1b.mp h _ m;cases this
theorem TabOk.un{fs ex:List Addr}{h':Heap}(t:TabOk K H)(u:Un fs ex H H' h h'):TabOk K H':=fun a q P m=>by
 obtain⟨ps,e,p0,p1⟩:=t a q P m;obtain⟨more,e'⟩:=u.tbls P ps e;refine⟨_,e',?_,?_⟩
 ·rw[w3i (by obtain⟨z,_⟩:=w3j.mp p0;exact z)];exact p0
 ·rw[w3i (by obtain⟨z,_⟩:=w3j.mp p1;exact z)];exact p1
theorem TabOk.laid{D:Addr}{o:HO}(t:TabOk K H)(hn:H D=none):TabOk K (upd H D o):=fun a q P m=>by
 obtain⟨ps,e,p⟩:=t a q P m;exact⟨ps,by rw[q0f (q0s e hn)];exact e,p⟩
structure Cx.Ok(X:Cx):Prop where
 mod:Mod X.K X.mg X.base
 kind:X.env.scope.kind=.function
 glob:X.env.globals=mainGlobals
 blt:X.env.builtins=builtinsNs
 above:X.s₀.heap.objs.size<=X.env.locals
 inj:∀x y c,X.env.cells.lookup x=some c->X.env.cells.lookup y=some c->x=y
 has:∀x,(X.env.kindOf x=some .cell\/X.env.kindOf x=some .free)->∃c,X.env.cells.lookup x=some c
 cab:∀x c,X.fn x=true->X.env.cells.lookup x=some c->X.s₀.heap.objs.size<=c
 hd:X.calm=true->X.A.handled=none
 frames:X.A.frames=some X.stack
 stk:X.stack=X.outer\/(X.stack=X.env::X.outer/\X.env.frame=some X.env.locals)
 exf:∀b∈X.ex,b≠X.env.locals/\∀x c,X.env.cells.lookup x=some c->c≠b
 bs:∀b o,X.base.get? b=some o->X.s₀.heap.get? b=some o/\X.H₀ b=none
 bsz:X.base.objs.size<=X.s₀.heap.objs.size
 noex:∀b o,X.base.get? b=some o->b∉X.ex
 exfs:∀b∈X.ex,b∉X.fs
 funs:X.s₀.heap.FunFrames X.base X.outer
 frf:∀b∈X.fs,X.H₀ b=none
 tab:TabOk X.K X.H₀
structure Inv(X:Cx)(pins:List (Addr×Obj))(σ:List (Option V))(H:Hp)(s:Shared):Prop where
 ok:X.Ok
 os:s.os=X.s₀.os
 bare:AllBare s.gens
 base:Un X.fs X.ex X.H₀ H X.s₀.heap s.heap
 loc:∃m,s.heap.Ns X.env.locals m/\∀(i:Nat)(x:Str)(v:V),X.N[i]?=some x->σ[i]?=some (some v)->Vis X.env.scope x->∃u,RelV v u/\Look X.env s.heap m x u
 cell:∀x c,X.env.cells.lookup x=some c->∃v,s.heap.IsCell c v
 free:H X.env.locals=none
 freeC:∀x c,X.env.cells.lookup x=some c->H c=none
 pin:∀p∈X.pn++pins,s.heap.get? p.1=some p.2/\H p.1=none/\p.1≠X.env.locals/\p.1∉X.fs/\∀v,p.2.data≠.cell v
 hok:HOk X.prog X.w H s.heap
 len:σ.length=X.N.length
section
variable{σ:List (Option V)}
theorem Cx.Ok.nofr(ok:X.Ok){o:Obj}(e:X.base.get? b=some o):b∉X.fs:=fun hb=>by
 have:=(ok.funs.mem hb).1
 rw[e]at this;cases this
theorem Inv.bs(I:Inv X pins σ H s):∀b o,X.base.get? b=some o->s.heap.get? b=some o/\H b=none:=fun b o e=>
 ⟨I.base.keep b o (I.ok.bs b o e).1 (I.ok.bs b o e).2 (I.ok.nofr e) (I.ok.noex b o e),I.base.free b o (I.ok.bs b o e).1 (I.ok.bs b o e).2 (I.ok.noex b o e)⟩
theorem Inv.bk(I:Inv X pins σ H s):∀b o,X.base.get? b=some o->s.heap.get? b=some o:=fun b o e=>(I.bs b o e).1
theorem Inv.mod(I:Inv X pins σ H s):Mod X.K X.mg X.base:=I.ok.mod
theorem Inv.kIn(I:Inv X pins σ H s):X.K.In s.heap:=I.ok.mod.kin.keeps I.bk
theorem Inv.fr(I:Inv X pins σ H s):∃m,Fr X.base X.env.locals s.heap m:=
 let ⟨m,hn,_⟩:=I.loc
 ⟨m,hn,I.bk,w0g I.ok.bsz I.ok.above⟩
theorem Inv.lt(I:Inv X pins σ H s):X.env.locals<s.heap.objs.size:=let ⟨_,hn,_⟩:=I.loc;hn.lt
theorem Inv.sz(I:Inv X pins σ H s):X.s₀.heap.objs.size<=s.heap.objs.size:=w0g I.ok.above (w4o I.lt)
theorem Inv.nofs(I:Inv X pins σ H s)(h:s.heap.objs.size<=a):a∉X.fs:=fun hb=>by
 obtain⟨_,o,ho,_⟩:=I.ok.funs.mem hb
 exact absurd (w0s (Heap.lt_size ho) (w0g I.sz h)) (w1y _)
theorem Inv.cne(I:Inv X pins σ H s):∀x c,X.env.cells.lookup x=some c->c≠X.env.locals:=fun x c e z=>by
 obtain⟨v,o,ho,hd⟩:=I.cell x c e;obtain⟨m,⟨o',es,ep,ho',hd',_⟩,_⟩:=I.loc;rw[z,ho']at ho;cases ho;rw[hd']at hd;cases hd
theorem Inv.funs(I:Inv X pins σ H s):s.heap.FunFrames X.base X.outer:=by
 have all:∀(l:List Env),(∀b∈frs l,b∈X.fs)->X.s₀.heap.FunFrames X.base l->s.heap.FunFrames X.base l:=by
  intro l
  induction l with
  |nil=>intro _ _;trivial
  |cons env r ih=>
   intro hs hl;obtain⟨hk,⟨L,o,hf,hn,ho,hd⟩,hr⟩:=hl;have hL:L∈X.fs:=hs L (by unfold frs;rw[w3e,hf];exact w1h);obtain⟨sl,e⟩:=I.base.slot L o ho (I.ok.frf L hL) hL fun z=>I.ok.exfs L z hL
   exact⟨hk,⟨L,_,hf,hn,e,hd⟩,ih (fun b hb=>hs b (by unfold frs;rw[w3e,hf];exact w0z _ hb)) hr⟩
 exact all X.outer (fun _ hb=>hb) I.ok.funs
theorem Inv.stack(I:Inv X pins σ H s):s.heap.FunFrames X.base X.stack:=by
 rcases I.ok.stk with e|⟨e,hf⟩
 ·rw[e];exact I.funs
 ·rw[e];obtain⟨m,hn,_⟩:=I.loc;refine .cons (by rw[I.ok.kind];decide) hf hn ?_ I.funs
  exact Heap.get?_none_of_le (w0g I.ok.bsz I.ok.above)
theorem Inv.stkSub(I:Inv X pins σ H s):∀b∈frs X.stack,b∈X.env.locals::X.fs:=fun b hb=>by
 rcases I.ok.stk with e|⟨e,hf⟩
 ·rw[e]at hb;exact w0z _ hb
 ·rw[e]at hb;unfold frs at hb;rw[w3e,hf]at hb;exact hb
theorem Inv.stkFree(I:Inv X pins σ H s):∀b∈frs X.stack,H b=none:=fun b hb=>by
 rcases w0h.mp (I.stkSub b hb)with e|hb
 ·rw[e];exact I.free
 ·obtain⟨_,o,ho,_⟩:=I.ok.funs.mem hb
  exact I.base.free b o ho (I.ok.frf b hb) fun z=>I.ok.exfs b z hb
theorem Inv.step{g':Array GenState}{d':Drawn}{ch:List Addr}(I:Inv X pins σ H s)
  (hch:∀b∈ch,(b∈X.ex\/X.s₀.heap.objs.size<=b)/\b≠X.env.locals/\(∀x c,X.env.cells.lookup x=some c->c≠b)/\∀p∈X.pn++pins,p.1≠b)
  (keep:∀b o,b≠X.env.locals->b∉X.fs->b∉ch->s.heap.get? b=some o->H b=none->h'.get? b=some o)
  (slot:∀b o,b≠X.env.locals->b∈X.fs->b∉ch->s.heap.get? b=some o->H b=none->∃sl,h'.get? b=some {o with slots:=sl})(free:∀b o,b∉ch->s.heap.get? b=some o->H b=none->H' b=none)
  (there:∀b o,b∉ch->s.heap.get? b=some o->∃o',h'.get? b=some o')
  (tups:∀b xs,H b=some (.tup xs)->H' b=some (.tup xs))(frzs:∀b o u,H b=some (.frz o u)->H' b=some (.frz o u))(tbls:∀b ps,H b=some (.tbl ps)->∃more,H' b=some (.tbl (ps++more)))
  (ns:∀m,s.heap.Ns X.env.locals m->h'.Ns X.env.locals m)(hok:HOk X.prog X.w H' h')(hg:AllBare g'):
  Inv X pins σ H' {s with heap:=h',gens:=g',drawn:=d',toks:=t'}:=by
 have neL:∀b o,X.s₀.heap.get? b=some o->b≠X.env.locals:=fun b o e=>w0t (w0s (Heap.lt_size e) I.ok.above)
 have neC:∀b o,X.s₀.heap.get? b=some o->b∉X.ex->b∉ch:=fun b o e hx hb=>by
  rcases(hch b hb).1 with z|z
  ·exact hx z
  ·exact absurd (w0s (Heap.lt_size e) z) (w1y _)
 have cellK:∀x c,X.env.cells.lookup x=some c->∀v,s.heap.IsCell c v->h'.IsCell c v:=fun x c e v ⟨o,ho,hd⟩=>by
  have nch:c∉ch:=fun z=>(hch c z).2.2.1 x c e rfl
  by_cases hc:c∈X.fs
  ·obtain⟨sl,q⟩:=slot c o (I.cne x c e) hc nch ho (I.freeC x c e);exact⟨_,q,hd⟩
  ·exact⟨o,keep c o (I.cne x c e) hc nch ho (I.freeC x c e),hd⟩
 refine⟨I.ok,I.os,hg,⟨fun b o e n hb hx=>?_,fun b o e n hb hx=>?_,fun b o e n hx=>?_,fun b o e hx=>?_,fun b xs e=>tups b xs (I.base.tups b xs e),fun b o xs e=>frzs b o xs (I.base.frzs b o xs e),fun b ps e=>?_⟩,?_,fun x c e=>?_,?_,fun x c e=>?_,fun p hp=>?_,hok,I.len⟩
 ·exact keep b o (neL b o e) hb (neC b o e hx) (I.base.keep b o e n hb hx) (I.base.free b o e n hx)
 ·obtain⟨sl,e1⟩:=I.base.slot b o e n hb hx;obtain⟨sl',e2⟩:=slot b _ (neL b o e) hb (neC b o e hx) e1 (I.base.free b o e n hx);exact⟨sl',e2⟩
 ·obtain⟨o',e1⟩:=I.base.there b o e hx;exact free b o' (neC b o e hx) e1 (I.base.free b o e n hx)
 ·obtain⟨o',e1⟩:=I.base.there b o e hx;exact there b o' (neC b o e hx) e1
 ·obtain⟨m1,e1⟩:=I.base.tbls b ps e;obtain⟨m2,e2⟩:=tbls b _ e1;exact⟨m1++m2,by rw[e2,Array.append_assoc]⟩
 ·obtain⟨m,hn,hl⟩:=I.loc;refine⟨m,ns m hn,fun i x v e1 e2 e3=>?_⟩
  obtain⟨u,r,l⟩:=hl i x v e1 e2 e3;refine⟨u,r,?_⟩;rcases l with l|⟨k,c,e,z⟩
  ·exact .inl l
  ·exact .inr ⟨k,c,e,cellK x c e _ z⟩
 ·obtain⟨v,z⟩:=I.cell x c e;exact⟨v,cellK x c e v z⟩
 ·obtain⟨m,⟨o,_,_,ho,_⟩,_⟩:=I.loc;exact free _ o (fun z=>(hch _ z).2.1 rfl) ho I.free
 ·obtain⟨v,o,ho,hd⟩:=I.cell x c e;exact free c o (fun z=>(hch c z).2.2.1 x c e rfl) ho (I.freeC x c e)
 ·obtain⟨e,n,ne,nf,d⟩:=I.pin p hp;have nch:p.1∉ch:=fun z=>(hch p.1 z).2.2.2 p hp rfl
  exact⟨keep p.1 p.2 ne nf nch e n,free p.1 p.2 nch e n,ne,nf,d⟩
theorem Inv.un(I:Inv X pins σ H s)(u:Un X.fs [] H H' s.heap h')(hok:HOk X.prog X.w H' h'):Inv X pins σ H' {s with heap:=h',toks:=t'}:=by
 obtain⟨m,⟨o,es,ep,ho,r⟩,_⟩:=id I.loc;obtain⟨sl,hL⟩:=u.any ho I.free (by simp)
 exact I.step (g':=s.gens) (d':=s.drawn) (ch:=[]) (fun _ z=>nomatch z) (fun b o _ hb _ e n=>u.keep b o e n hb (by simp)) (fun b o _ hb _ e n=>u.slot b o e n hb (by simp)) (fun b o _ e n=>u.free b o e n (by simp)) (fun b o _ e=>u.there b o e (by simp)) u.tups u.frzs u.tbls (fun m' hm=>by
  obtain⟨o',es',ep',ho',r'⟩:=hm;rw[ho]at ho';cases ho';exact⟨_,es',ep',hL,r'⟩) hok I.bare
theorem Inv.call{g':Array GenState}{d':Drawn}(I:Inv X pins σ H s)(u:Un (frs X.stack) ch H H' s.heap h')(hok:HOk X.prog X.w H' h')(hg:AllBare g')
  (hch:∀b∈ch,(b∈X.ex\/X.s₀.heap.objs.size<=b)/\b≠X.env.locals/\(∀x c,X.env.cells.lookup x=some c->c≠b)/\∀p∈X.pn++pins,p.1≠b):
  Inv X pins σ H' {s with heap:=h',gens:=g',drawn:=d',toks:=t'}:=by
 obtain⟨m,⟨o,es,ep,ho,r⟩,_⟩:=id I.loc;obtain⟨sl,hL⟩:=u.any ho I.free fun z=>(hch _ z).2.1 rfl
 exact I.step (ch:=ch) hch (fun b o hL hb hc e n=>u.keep b o e n (fun z=>(w0h.mp (I.stkSub b z)).elim hL hb) hc) (fun b o _ _ hc e n=>u.any e n hc) (fun b o hc e n=>u.free b o e n hc) (fun b o hc e=>u.there b o e hc) u.tups u.frzs u.tbls (fun m' hm=>by
  obtain⟨o',es',ep',ho',r'⟩:=hm;rw[ho]at ho';cases ho';exact⟨_,es',ep',hL,r'⟩) hok hg
theorem Inv.turned{t':Nat}{it:Addr}(I:Inv X pins σ H s)(k:∀b o,b≠it->s.heap.get? b=some o->h'.get? b=some o)(hn:H it=none)(hL:it≠X.env.locals)
  (h1:it∈X.ex\/X.s₀.heap.objs.size<=it)(h2:∀x c,X.env.cells.lookup x=some c->c≠it)(h3:∀p∈X.pn++pins,p.1≠it):Inv X pins σ H {s with heap:=h',toks:=t'}:=by
 have nit:∀b u,H b=some u->b≠it:=fun b u e z=>by rw[z,hn]at e;cases e
 refine I.step (g':=s.gens) (d':=s.drawn) (ch:=[it]) (fun b hb=>?_) (fun b o _ _ hc e _=>k b o (fun z=>hc (by simp[z])) e) (fun b o _ _ hc e _=>⟨o.slots,k b o (fun z=>hc (by simp[z])) e⟩) (fun _ _ _ _ n=>n)
  (fun b o hc e=>⟨o,k b o (fun z=>hc (by simp[z])) e⟩) (fun _ _ e=>e) (fun _ _ _ e=>e) (fun b ps e=>⟨#[],by rw[e];simp⟩) (fun m hm=>?_) (fun b u e=>?_) I.bare
 ·have e:b=it:=by simpa using hb
  subst e;exact⟨h1,hL,h2,h3⟩
 ·obtain⟨o,es,ep,ho,r⟩:=hm;exact⟨o,es,ep,k _ o (Ne.symm hL) ho,r⟩
 ·refine(I.hok b u e).stay (fun c v hc q=>k c v ?_ q) (fun _ q=>q) fun _ _ _ q=>q
  rcases hc with z|z
  ·rw[z];exact nit b u e
  ·exact nit c _ z
theorem Inv.tok(I:Inv X pins σ H s)(t:Nat):Inv X pins σ H {s with toks:=t}:=I.un (h':=s.heap) (t':=t) Un.refl I.hok
theorem Inv.kept{t':Nat}(I:Inv X pins σ H s)(k:∀b u,s.heap.get? b=some u->h'.get? b=some u):Inv X pins σ H {s with heap:=h',toks:=t'}:=I.un (Un.kept k) (I.hok.kept k)
theorem Inv.laid{a:Addr}{o:HO}{t':Nat}(I:Inv X pins σ H s)(k:∀b u,s.heap.get? b=some u->h'.get? b=some u)(hp:s.heap.objs.size<=a)(new:ObjOk X.prog X.w (upd H a o) h' a o):
  Inv X pins σ (upd H a o) {s with heap:=h',toks:=t'}:=I.un (Un.laid k hp (I.hok.fresh hp)) (I.hok.laid k hp new)
theorem Inv.write{x e:Addr}{o:HO}(I:Inv X pins σ H s)(mu:Mut (H x))(he:e=x\/H e=some (.own x))(k:∀b u,b≠e->s.heap.get? b=some u->h'.get? b=some u)(heo:∃u,h'.get? e=some u)
  (new:ObjOk X.prog X.w (upd H x o) h' x o):Inv X pins σ (upd H x o) {s with heap:=h',toks:=t'}:=I.un (Un.write mu he k heo) (I.hok.write mu he k heo new)
theorem Inv.weak{σ':List (Option V)}(I:Inv X pins σ H s)(hl:σ'.length=σ.length)(w:∀(i:Nat) v,σ'[i]?=some (some v)->σ[i]?=some (some v)):Inv X pins σ' H s:=
 ⟨I.ok,I.os,I.bare,I.base,let ⟨m,hn,hl'⟩:=I.loc;⟨m,hn,fun i x v e1 e2 e3=>hl' i x v e1 (w i v e2) e3⟩,I.cell,I.free,I.freeC,I.pin,I.hok,hl.trans I.len⟩
theorem Inv.pins_of{pins':List (Addr×Obj)}(I:Inv X pins σ H s)(h:∀p∈pins',s.heap.get? p.1=some p.2/\H p.1=none/\p.1≠X.env.locals/\p.1∉X.fs/\∀v,p.2.data≠.cell v):Inv X pins' σ H s:=
 ⟨I.ok,I.os,I.bare,I.base,I.loc,I.cell,I.free,I.freeC,fun p hp=>(w1j.mp hp).elim (fun z=>I.pin p (w2d _ z)) (h p),I.hok,I.len⟩
theorem x4k(hN:N.Nodup){j:Nat}(a:N[i]?=some x)(b:N[j]?=some x):i=j:=by
 obtain⟨h1,e1⟩:=w0c.mp a;obtain⟨h2,e2⟩:=w0c.mp b;exact(List.getElem_inj hN).mp (e1.trans e2.symm)
theorem x9l{Q:Unit->Shared->Prop}(I:Inv X pins σ H s)(hN:X.N.Nodup)(hi:X.N[i]?=some x)(hx:Loc X.env.scope x)(r:RelV v u)
  (h:∀s',Inv X pins (σ.set i (some v)) H s'->(∃a,Heap.SameBut a s.heap s'.heap/\(a=X.env.locals\/X.env.cells.lookup x=some a))->Q () s')(hf:X.fn x=true\/X.env.scope.names.lookup x=some .local:=by walk_at "2"):wpAny M A (storeName X.env x u) Q E s:=by
 obtain⟨m,hn,hl⟩:=id I.loc;have hcls:(X.env.scope.kind==.class||(X.env.scope.kind==.module&&X.env.locals != X.env.globals))=false:=by rw[I.ok.kind];rfl
 have hiσ:i<σ.length:=by rw[I.len];exact(w0c.mp hi).1
 have cne:=I.cne
 have tracked:∀{a:Addr}{h':Heap},(∃o,s.heap.get? a=some o/\H a=none)->Heap.SameBut a s.heap h'->HOk X.prog X.w H h':=fun {a h'} ha hs b ob e=>by
  obtain⟨_,_,hfree⟩:=ha;refine(I.hok b ob e).stay (fun c w' hc q=>(hs.2 c ?_).trans q) (fun _ q=>q) fun _ _ _ q=>q
  rintro rfl;rcases hc with rfl|hc
  ·rw[hfree]at e;cases e
  ·rw[hfree]at hc;cases hc
 rcases hx with hk|hk
 ·refine wpAny_storeName_local hk hn (fun h' hn' hs=>?_) hcls
  obtain⟨oL,_,_,hoL,_⟩:=id hn;refine h _ ⟨I.ok,I.os,I.bare,⟨fun b o e n hb hx=>?_,fun b o e n hb hx=>?_,I.base.free,fun b o e hx=>?_,I.base.tups,I.base.frzs,I.base.tbls⟩,⟨_,hn',fun j y v' e1 e2 e3=>?_⟩,fun y c e=>?_,I.free,I.freeC,fun p hp=>?_,tracked ⟨oL,hoL,I.free⟩ hs,by simpa using I.len⟩ ⟨_,hs,.inl rfl⟩
  ·exact(hs.2 b (w0t (w0s (Heap.lt_size e) I.ok.above))).trans (I.base.keep b o e n hb hx)
  ·obtain⟨sl,e1⟩:=I.base.slot b o e n hb hx;exact⟨sl,(hs.2 b (w0t (w0s (Heap.lt_size e) I.ok.above))).trans e1⟩
  ·obtain⟨o',e1⟩:=I.base.there b o e hx;exact⟨o',(hs.2 b (w0t (w0s (Heap.lt_size e) I.ok.above))).trans e1⟩
  ·by_cases hj:j=i
   ·subst hj;rw[hi]at e1;cases e1;rw[w0p hiσ]at e2;cases e2;exact⟨u,r,.inl ⟨hk,by simp⟩⟩
   ·rw[w0k (Ne.symm hj)]at e2;obtain⟨u',r',q⟩:=hl j y v' e1 e2 e3;refine⟨u',r',?_⟩;rcases q with⟨k,e⟩|⟨k,c,e,z⟩
    ·refine .inl ⟨k,?_⟩;have:y≠x:=fun e=>hj (x4k hN e1 (e ▸ hi))
     simp[this,e]
    ·exact .inr ⟨k,c,e,z.sameBut hs (cne y c e)⟩
  ·obtain⟨w',z⟩:=I.cell y c e;exact⟨w',z.sameBut hs (cne y c e)⟩
  ·obtain⟨e,n,ne,nf,d⟩:=I.pin p hp;exact⟨(hs.2 p.1 ne).trans e,n,ne,nf,d⟩
 ·have hfn:X.fn x=true:=by
   rcases hf with z|z
   ·exact z
   ·rw[z]at hk;cases hk
  obtain⟨c,hc⟩:=I.ok.has x (.inl hk);obtain⟨w',z⟩:=I.cell x c hc;refine wpAny_storeName_cell I.ok.kind hk hc z (fun h' hc' hs=>?_)
  obtain⟨oc,hoc,hocd⟩:=id z;refine h {s with heap:=h'} ⟨I.ok,I.os,I.bare,⟨fun b o e n hb hx=>?_,fun b o e n hb hx=>?_,I.base.free,fun b o e hx=>?_,I.base.tups,I.base.frzs,I.base.tbls⟩,⟨m,hn.sameBut hs (Ne.symm (cne x c hc)),fun j y v' e1 e2 e3=>?_⟩,fun y c' e=>?_,I.free,I.freeC,fun p hp=>?_,tracked ⟨oc,hoc,I.freeC x c hc⟩ hs,by simpa using I.len⟩ ⟨c,hs,.inr hc⟩
  ·exact(hs.2 b (w0t (w0s (Heap.lt_size e) (I.ok.cab x c hfn hc)))).trans (I.base.keep b o e n hb hx)
  ·obtain⟨sl,e1⟩:=I.base.slot b o e n hb hx;exact⟨sl,(hs.2 b (w0t (w0s (Heap.lt_size e) (I.ok.cab x c hfn hc)))).trans e1⟩
  ·obtain⟨o',e1⟩:=I.base.there b o e hx;exact⟨o',(hs.2 b (w0t (w0s (Heap.lt_size e) (I.ok.cab x c hfn hc)))).trans e1⟩
  ·by_cases hj:j=i
   ·subst hj;rw[hi]at e1;cases e1;rw[w0p hiσ]at e2;cases e2;exact⟨u,r,.inr ⟨.inl hk,c,hc,hc'⟩⟩
   ·rw[w0k (Ne.symm hj)]at e2;obtain⟨u',r',q⟩:=hl j y v' e1 e2 e3;refine⟨u',r',?_⟩;rcases q with q|⟨k,c',e,z'⟩
    ·exact .inl q
    ·refine .inr ⟨k,c',e,z'.sameBut hs ?_⟩;rintro rfl;exact hj (x4k hN e1 (I.ok.inj _ _ _ e hc ▸ hi))
  ·by_cases hcc:c'=c
   ·subst hcc;exact⟨_,hc'⟩
   ·obtain⟨w2,z2⟩:=I.cell y c' e;exact⟨w2,z2.sameBut hs hcc⟩
  ·obtain⟨e,n,ne,nf,d⟩:=I.pin p hp;refine⟨(hs.2 p.1 ?_).trans e,n,ne,nf,d⟩;intro q;rw[q,hoc]at e;have q':oc=p.2:=Option.some.inj e;exact d w' (by rw[<- q'];exact hocd)
theorem x0e{Q:Unit->Shared->Prop}(I:Inv X pins σ H s)(hN:X.N.Nodup)(hi:X.N[i]?=some x)(hx:Loc X.env.scope x)(r:RelV v u)
  (h:∀s',Inv X pins (σ.set i (some v)) H s'->Q () s')(hf:X.fn x=true\/X.env.scope.names.lookup x=some .local:=by walk_at "2"):wpAny M A (storeName X.env x u) Q E s:=
 x9l I hN hi hx r (fun s' I' _=>h s' I') hf
theorem Inv.call'{s':Shared}{ch:List Addr}(I:Inv X pins σ H s)(ho:s'.os=s.os)(u:Un (frs X.stack) ch H H' s.heap s'.heap)(hok:HOk X.prog X.w H' s'.heap)(hg:AllBare s'.gens)
  (hch:∀b∈ch,(b∈X.ex\/X.s₀.heap.objs.size<=b)/\b≠X.env.locals/\(∀x c,X.env.cells.lookup x=some c->c≠b)/\∀p∈X.pn++pins,p.1≠b):Inv X pins σ H' s':=by
 obtain⟨h',g',d',t',o'⟩:=s';have e:o'=s.os:=ho;subst e;exact I.call (g':=g') (t':=t') (d':=d') u hok hg hch
end
abbrev XK:=Value->Option Addr->Hp->Prop
noncomputable abbrev St:=List (Option V)
variable{σ:St}
abbrev VK:=V->Hp->Prop
abbrev TE:=St->Hp->VK->Prop
variable{ta te:TE}
abbrev TT:=St->Hp->(Bool->Hp->Prop)->Prop
abbrev TA:=St->Hp->(List V->Hp->Prop)->Prop
variable{t:TA}
structure Ends where
 nx:St->Hp->Prop
 rt:VK
 bk:St->Hp->Prop:=fun _ _=>False
 ct:St->Hp->Prop:=fun _ _=>False
abbrev TS:=Ends->St->Hp->Prop
variable{tb:TS}
def EP(X:Cx)(pins:List (Addr×Obj))(σ:St)(Q:VK)(u:Value)(s':Shared):Prop:=∃v H',Inv X pins σ H' s'/\RelV v u/\Q v H'
def TP(X:Cx)(pins:List (Addr×Obj))(σ:St)(Q:Bool->Hp->Prop)(b:Bool)(s':Shared):Prop:=∃H',Inv X pins σ H' s'/\Q b H'
def AP(X:Cx)(pins:List (Addr×Obj))(σ:St)(Q:List V->Hp->Prop)(us:List Value)(s':Shared):Prop:=∃vs H',Inv X pins σ H' s'/\Vals vs us/\Q vs H'
def SP(X:Cx)(pins:List (Addr×Obj))(D:Ends)(f:Flow)(s':Shared):Prop:=
 match f with
 |.next=>∃σ' H',Inv X pins σ' H' s'/\D.nx σ' H'
 |.brk=>∃σ' H',Inv X pins σ' H' s'/\D.bk σ' H'
 |.cont=>∃σ' H',Inv X pins σ' H' s'/\D.ct σ' H'
 |.ret u=>∃v σ' H',Inv X pins σ' H' s'/\RelV v u/\D.rt v H'
def PE(X:Cx)(e:Expr)(t:TE):Prop:=
 ∀(pins:List (Addr×Obj))(s:Shared)(σ:St)(H:Hp)(Q:VK),Inv X pins σ H s->t σ H Q->wpAny (model X.prog X.w) X.A (eval e X.env) (EP X pins σ Q) X.xe s
def PT(X:Cx)(e:Expr)(t:TT):Prop:=
 ∀(pins:List (Addr×Obj))(s:Shared)(σ:St)(H:Hp)(Q:Bool->Hp->Prop),Inv X pins σ H s->t σ H Q->wpAny (model X.prog X.w) X.A (isTrue e X.env (eval e X.env)) (TP X pins σ Q) X.xe s
def PW(X:Cx)(e:Expr)(t:TT):Prop:=
 ∀(whole:Sem Value)(pins:List (Addr×Obj))(s:Shared)(σ:St)(H:Hp)(Q:Bool->Hp->Prop),Inv X pins σ H s->t σ H Q->wpAny (model X.prog X.w) X.A (isTrue e X.env whole) (TP X pins σ Q) X.xe s
theorem PW.pt{t:TT}(h:PW X e t):PT X e t:=h _
def PA(X:Cx)(es:List Expr)(t:TA):Prop:=
 ∀(pos:Pos)(pins:List (Addr×Obj))(s:Shared)(σ:St)(H:Hp)(Q:List V->Hp->Prop),Inv X pins σ H s->t σ H Q->wpAny (model X.prog X.w) X.A (spliced (backTo pos (starEach es X.env))) (AP X pins σ Q) X.xe s
def PS(X:Cx)(st:Stmt)(t:TS):Prop:=
 ∀(pins:List (Addr×Obj))(s:Shared)(σ:St)(H:Hp)(D:Ends),Inv X pins σ H s->t D σ H->wpAny (model X.prog X.w) X.A (exec st X.env) (SP X pins D) X.xe s
def PSs(X:Cx)(st:List Stmt)(t:TS):Prop:=
 ∀(pins:List (Addr×Obj))(s:Shared)(σ:St)(H:Hp)(D:Ends),Inv X pins σ H s->t D σ H->wpAny (model X.prog X.w) X.A (execs st X.env) (SP X pins D) X.xe s
theorem thn{α:Type}{t:Sem α}{Q Q':α->Shared->Prop}(h:wpAny M A t Q E s)(hQ:∀a s,Q a s->Q' a s):wpAny M A t Q' E s:=wpAny_mono h hQ fun _ _ x=>x
section
def tVar(i:Nat):TE:=fun σ H Q=>∃v,σ[i]?=some (some v)/\Q v H
def tC(v:V):TE:=fun _ H Q=>Q v H
theorem y72(hN:X.N[i]?=some x)(hv:Vis X.env.scope x)(hd:(x==("__debug__":Str))=false:=by decide)(hcd:(x==("__classdict__":Str))=false:=by decide):PE X (.Name x pos) (tVar i):=by
 intro pins s σ H Q I h;obtain⟨v,e,h⟩:=h;obtain⟨m,hn,hl⟩:=I.loc;obtain⟨u,r,l⟩:=hl i x v hN e hv;have fin:EP X pins σ Q u s:=⟨v,H,I,r,h⟩;rcases l with⟨hk,hm⟩|⟨hk,c,hc,hcell⟩
 ·exact wpAny_Name (wpAny_loadName_local I.ok.kind hk hn hm fin) hd
 ·rcases hk with hk|hk
  ·exact wpAny_Name (wpAny_loadName_cell I.ok.kind hk hc hcell fin) hd
  ·exact wpAny_Name (wpAny_loadName_free I.ok.kind hk hc hcell fin hcd) hd
theorem y73{i j pos}:PE X (.Constant (.int i) j pos) (tC (.int i)):=fun _ _ _ H _ I h=>wpAny_Constant_int ⟨.int i,H,I.tok _,⟨_,rfl⟩,h⟩
theorem z1k{b j pos}:PE X (.Constant (.bool b) j pos) (tC (.bl b)):=fun _ _ _ H _ I h=>Constant_bool ⟨.bl b,H,I,rfl,h⟩
theorem y74{j pos}:PE X (.Constant .none j pos) (tC .non):=fun _ _ _ H _ I h=>Constant_none ⟨.non,H,I,rfl,h⟩
theorem y75{x j pos}:PE X (.Constant (.str x) j pos) (tC (.str x)):=fun _ _ _ H _ I h=>Calls.Constant_str ⟨.str x,H,I.tok _,⟨_,rfl⟩,h⟩
def Gl(X:Cx)(x:Str):Prop:=X.env.kindOf x=some .globalImplicit
theorem q9n{Q:Value->Shared->Prop}(I:Inv X pins σ H s)(hg:Gl X x)(hm:X.mg x=some u)(h:Q u s)
  (hd:(x==("__debug__":Str))=false:=by decide):wpAny (model X.prog X.w) X.A (eval (.Name x pos) X.env) Q E s:=
 Calls.Name_function_global I.ok.kind hg (Calls.loadGlobal_global (by rw[I.ok.glob];exact I.mod.glob.keeps I.bk) hm h) hd
theorem q5s{Q:Value->Shared->Prop}(I:Inv X pins σ H s)(hg:Gl X x)(hm:X.mg x=none)(hv:bootBuiltins x=some u)(h:Q u s)
  (hn:x≠"__name__":=by decide)(hd:(x==("__debug__":Str))=false:=by decide):wpAny (model X.prog X.w) X.A (eval (.Name x pos) X.env) Q E s:=by
 obtain⟨mb,h1,h2⟩:=I.mod.blt;exact Calls.Name_function_global I.ok.kind hg (Calls.loadGlobal_builtin (by rw[I.ok.glob];exact I.mod.glob.keeps I.bk) hm (by rw[I.ok.blt];exact h1.keeps I.bk) ((h2 x hn).trans hv) h) hd
theorem x7p{v:V}(hg:Gl X x)(hm:X.mg x=some u)(r:RelV v u)(hd:(x==("__debug__":Str))=false:=by decide):PE X (.Name x pos) (tC v):=
 fun _ _ _ H _ I h=>q9n I hg hm ⟨v,H,I,r,h⟩ hd
theorem y4u{v:V}(hg:Gl X x)(hm:X.mg x=none)(hv:bootBuiltins x=some u)(r:RelV v u)(hn:x≠"__name__":=by decide)(hd:(x==("__debug__":Str))=false:=by decide):PE X (.Name x pos) (tC v):=
 fun _ _ _ H _ I h=>q5s I hg hm hv ⟨v,H,I,r,h⟩ hn hd
variable{a b:Expr}{tb:TE}
def PC(X:Cx)(op:CmpOp)(a b:Expr)(t:TE):Prop:=
 ∀(pins:List (Addr×Obj))(s:Shared)(σ:St)(H:Hp)(Q:VK),Inv X pins σ H s->t σ H Q ->
  wpAny (model X.prog X.w) X.A (eval a X.env) (fun v s₁=>wpAny (model X.prog X.w) X.A (eval b X.env) (fun u s₂=>wpAny (model X.prog X.w) X.A (compareOp op v u) (EP X pins σ Q) X.xe s₂) X.xe s₁) X.xe s
variable{tA tB':TT}{rest:List Expr}
def tAnd(t u:TT):TT:=fun σ H Q=>t σ H fun c H1=>if c=true then u σ H1 Q else Q false H1
def tOr(t u:TT):TT:=fun σ H Q=>t σ H fun c H1=>if c=true then Q true H1 else u σ H1 Q
def tNot(t:TT):TT:=fun σ H Q=>t σ H fun c H1=>Q (!c) H1
theorem y4v(ha:PT X a tA):PW X (.BoolOp .And [a] pos) tA:=by
 intro wh pins s σ H Q I h;refine isTrue_and (thn (ha pins s σ H Q I h) fun c s1 e=>?_)
 cases c with
 |true=>exact isTrue_and_nil e
 |false=>exact e
theorem y76(ha:PT X a tA):PW X (.BoolOp .Or [a] pos) tA:=by
 intro wh pins s σ H Q I h;refine isTrue_or (thn (ha pins s σ H Q I h) fun c s1 e=>?_)
 cases c with
 |false=>exact isTrue_or_nil e
 |true=>exact e
theorem y77(ha:PT X a tA)(hb:PW X (.BoolOp .And (b::rest) pos) tB'):PW X (.BoolOp .And (a::b::rest) pos) (tAnd tA tB'):=by
 intro wh pins s σ H Q I h;refine isTrue_and (thn (ha pins s σ H _ I h) fun c s1 ⟨H1,I1,q1⟩=>?_)
 cases c with
 |true=>exact hb wh pins s1 σ H1 Q I1 q1
 |false=>exact⟨H1,I1,q1⟩
theorem z1l(ha:PT X a tA)(hb:PW X (.BoolOp .Or (b::rest) pos) tB'):PW X (.BoolOp .Or (a::b::rest) pos) (tOr tA tB'):=by
 intro wh pins s σ H Q I h;refine isTrue_or (thn (ha pins s σ H _ I h) fun c s1 ⟨H1,I1,q1⟩=>?_)
 cases c with
 |true=>exact⟨H1,I1,q1⟩
 |false=>exact hb wh pins s1 σ H1 Q I1 q1
theorem y78(ha:PT X a tA):PT X (.UnaryOp .Not a pos) (tNot tA):=by
 intro pins s σ H Q I h;exact isTrue_not (ha pins s σ H (fun c H1=>Q (!c) H1) I h)
def tAndV(ta tb:TE):TE:=fun σ H Q=>ta σ H fun x H1=>∃c,x=.bl c/\if c=true then tb σ H1 Q else Q (.bl false) H1
def tOrV(ta tb:TE):TE:=fun σ H Q=>ta σ H fun x H1=>∃c,x=.bl c/\if c=true then Q (.bl true) H1 else tb σ H1 Q
def tNotV(ta:TE):TE:=fun σ H Q=>ta σ H fun x H1=>∃c,x=.bl c/\Q (.bl (!c)) H1
theorem y79{op}{t:TE}(h:PE X a t):PE X (.BoolOp op [a] pos) t:=fun pins s σ H Q I hw=>BoolOp_one (h pins s σ H Q I hw)
theorem y8a(ha:PE X a ta)(hb:PE X (.BoolOp .And (b::rest) pos) tb):PE X (.BoolOp .And (a::b::rest) pos) (tAndV ta tb):=by
 intro pins s σ H Q I h;refine BoolOp_and (thn (ha pins s σ H _ I h) fun v s1 ⟨x,H1,I1,r1,q1⟩=>?_)
 obtain⟨c,rfl,q1⟩:=q1;cases r1;refine wpAny_truthy_bool ?_;cases c with
 |true=>exact hb pins s1 σ H1 Q I1 q1
 |false=>exact⟨.bl false,H1,I1,rfl,q1⟩
theorem z1m(ha:PE X a ta)(hb:PE X (.BoolOp .Or (b::rest) pos) tb):PE X (.BoolOp .Or (a::b::rest) pos) (tOrV ta tb):=by
 intro pins s σ H Q I h;refine BoolOp_or (thn (ha pins s σ H _ I h) fun v s1 ⟨x,H1,I1,r1,q1⟩=>?_)
 obtain⟨c,rfl,q1⟩:=q1;cases r1;refine wpAny_truthy_bool ?_;cases c with
 |false=>exact hb pins s1 σ H1 Q I1 q1
 |true=>exact⟨.bl true,H1,I1,rfl,q1⟩
theorem y8b(ha:PE X a ta):PE X (.UnaryOp .Not a pos) (tNotV ta):=by
 intro pins s σ H Q I h;refine UnaryOp_ (thn (ha pins s σ H _ I h) fun v s1 ⟨x,H1,I1,r1,q1⟩=>?_)
 obtain⟨c,rfl,q1⟩:=q1;cases r1;exact not_of (wpAny_truthy_bool ⟨.bl (!c),H1,I1,rfl,q1⟩)
def tIf(t:TT)(ta tb:TE):TE:=fun σ H Q=>t σ H fun c H1=>if c=true then ta σ H1 Q else tb σ H1 Q
theorem y18(hc:PT X c tA)(ha:PE X a ta)(hb:PE X b tb):PE X (.IfExp c a b pos) (tIf tA ta tb):=by
 intro pins s σ H Q I h;refine wpAny_IfExp (thn (hc pins s σ H _ I h) fun d s1 ⟨H1,I1,q1⟩=>?_)
 cases d with
 |true=>exact ha pins s1 σ H1 Q I1 q1
 |false=>exact hb pins s1 σ H1 Q I1 q1
end
def SqL(K:PySem.W.Frag)(H:Hp)(a:Addr)(xs:List V):Prop:=
 Rd H a (.lst xs) \/
  ∃(o:Obj)(its:Array Value)(n:Nat),K.lookup a=some o/\o.cls=.type "list" /\ o.dict=none/\o.data=.seq its n/\its.size<=sizeLine/\Vals xs its.toList
def SqT(K:PySem.W.Frag)(H:Hp)(a:Addr)(xs:List V):Prop:=
 Rd H a (.tup xs) \/
  ∃(o:Obj)(its:Array Value)(n:Nat),K.lookup a=some o/\o.cls=.type "tuple" /\ o.dict=none/\o.data=.seq its n/\its.size<=sizeLine/\Vals xs its.toList
noncomputable def absV:Value->Option V
 |.none=>some .non
 |.bool b=>some (.bl b)
 |.int i _=>some (.int i)
 |.str x _=>some (.str x)
 |.bytes b _=>some (.byt b)
 |.float b _=>some (.flt b)
 |.ref a=>some (.ref a)
 |.type n=>some (.ty n)
 |_=>none
theorem RelV.abs{x:V}(r:RelV x u):absV u=some x:=by
 cases x with
 |non=>cases r;rfl
 |bl _=>cases r;rfl
 |int _=>obtain⟨t,rfl⟩:=r;rfl
 |str _=>obtain⟨t,rfl⟩:=r;rfl
 |byt _=>obtain⟨t,rfl⟩:=r;rfl
 |flt _=>obtain⟨t,rfl⟩:=r;rfl
 |ref _=>cases r;rfl
 |ty _=>cases r;rfl
theorem RelV.inj{x y:V}(r:RelV x u)(q:RelV y u):x=y:=Option.some.inj (r.abs.symm.trans q.abs)
theorem Vals.inj:∀{xs ys:List V}{us:List Value},Vals xs us->Vals ys us->xs=ys
 |_,_,_,.nil,.nil=>rfl
 |_,_,_,.cons r t,.cons r' t'=>by rw[r.inj r',Vals.inj t t']
section
variable{ys:List V}
theorem SqL.of(h:H a=some (.lst xs)):SqL K H a xs:=.inl (.inl h)
theorem SqT.of(h:H a=some (.tup xs)):SqT K H a xs:=.inl (.inl h)
theorem Inv.list(I:Inv X pins σ H s)(h:SqL X.K H a xs):∃its:List Value,Vals xs its/\PlainL s.heap a its.toArray/\xs.length<=sizeLine:=by
 rcases h with h|⟨o,its,n,hk,hc,hd,hs,hz,r⟩
 ·obtain⟨z,its,n,r,e⟩:=h.ok I.hok;exact⟨its,r,⟨_,n,e,rfl,rfl,rfl⟩,z⟩
 ·refine⟨its.toList,r,⟨o,n,I.kIn a o hk,hc,hd,by simpa using hs⟩,?_⟩;have e:=r.length;simp only[w3f]at e;omega
theorem Inv.tuple(I:Inv X pins σ H s)(h:SqT X.K H a xs):∃its:List Value,Vals xs its/\IsTup s.heap a its.toArray/\xs.length<=sizeLine:=by
 rcases h with h|⟨o,its,n,hk,hc,_,hs,hz,r⟩
 ·obtain⟨z,its,r,p,_⟩:=h.ok I.hok;exact⟨its,r,p,z⟩
 ·refine⟨its.toList,r,⟨o,I.kIn a o hk,hc,n,by simpa using hs⟩,?_⟩;have e:=r.length;simp only[w3f]at e;omega
theorem Inv.list_inj(I:Inv X pins σ H s)(h:SqL X.K H a xs)(h':SqL X.K H a ys):xs=ys:=by
 obtain⟨its,r,⟨o,n,e,_,_,d⟩,_⟩:=I.list h;obtain⟨its',r',⟨o',n',e',_,_,d'⟩,_⟩:=I.list h';rw[e]at e';cases e';rw[d]at d';injection d' with d1 _
 have:its=its':=by simpa using congrArg Array.toList d1
 subst this;exact r.inj r'
theorem Inv.tuple_inj(I:Inv X pins σ H s)(h:SqT X.K H a xs)(h':SqT X.K H a ys):xs=ys:=by
 obtain⟨its,r,⟨o,e,_,n,d⟩,_⟩:=I.tuple h;obtain⟨its',r',⟨o',e',_,n',d'⟩,_⟩:=I.tuple h';rw[e]at e';cases e';rw[d]at d';injection d' with d1 _
 have:its=its':=by simpa using congrArg Array.toList d1
 subst this;exact r.inj r'
end
section
variable{st:Stmt}{rest:List Stmt}{t u:TS}
def tNext:TS:=fun D σ H=>D.nx σ H
def tSeq(t u:TS):TS:=fun D σ H=>t {D with nx:=u D} σ H
theorem y4w:PSs X [] tNext:=fun _ _ σ H _ I h=>wpAny_execs_nil ⟨σ,H,I,h⟩
theorem y19(h1:PS X st t)(h2:PSs X rest u):PSs X (st::rest) (tSeq t u):=by
 intro pins s σ H D I h;refine wpAny_execs_cons (thn (h1 pins s σ H {D with nx:=u D} I h) fun f s1 q=>?_)
 cases f with
 |next=>
  obtain⟨σ',H',I',q⟩:=q;exact h2 pins s1 σ' H' D I' q
 |ret v=>exact q
 |brk=>exact q
 |cont=>exact q
theorem y4x(h1:PS X st t):PSs X [st] t:=by
 intro pins s σ H D I h;refine wpAny_execs_cons (thn (h1 pins s σ H D I h) fun f s1 q=>?_)
 cases f with
 |next=>exact wpAny_execs_nil q
 |ret v=>exact q
 |brk=>exact q
 |cont=>exact q
theorem Inv.quiet(I:Inv X pins σ H s):interactive X.env=false:=by simp[interactive,I.ok.kind]
def tDrop(te:TE):TS:=fun D σ H=>te σ H fun _ H1=>D.nx σ H1
theorem x13(he:PE X e te)(hs:swapsWith e none pos.line X.env=pure false:=by rfl):PS X (.Expr e pos) (tDrop te):=by
 intro pins s σ H D I h;exact wpAny_Expr_any (thn (he pins s σ H _ I h) fun v s1 ⟨x,H1,I1,r1,q1⟩=>⟨σ,H1,I1,q1⟩) I.quiet hs
def tRet(te:TE):TS:=fun D σ H=>te σ H D.rt
theorem x4l(he:PE X e te):PS X (.Return (some e) pos) (tRet te):=by
 intro pins s σ H D I h;exact wpAny_Return_some (thn (he pins s σ H _ I h) fun v s1 ⟨x,H1,I1,r1,q1⟩=>⟨x,σ,H1,I1,r1,q1⟩)
def tIfS(c:TT)(t u:TS):TS:=fun D σ H=>c σ H fun b H1=>if b=true then t D σ H1 else u D σ H1
theorem z1n{a b:List Stmt}{tc:TT}(hc:PT X c tc)(ha:PSs X a t)(hb:PSs X b u):PS X (.If c a b pos) (tIfS tc t u):=by
 intro pins s σ H D I h;refine wpAny_If (thn (hc pins s σ H _ I h) fun d s1 ⟨H1,I1,q1⟩=>?_)
 cases d with
 |true=>exact ha pins s1 σ H1 D I1 q1
 |false=>exact hb pins s1 σ H1 D I1 q1
end
abbrev TG:=V->St->Hp->(St->Hp->Prop)->Prop
abbrev TGs:=List V->St->Hp->(St->Hp->Prop)->Prop
def PG(X:Cx)(target:Expr)(t:TG):Prop:=
 ∀(pins:List (Addr×Obj))(s:Shared)(σ:St)(H:Hp)(v:V)(u:Value)(Q:St->Hp->Prop),Inv X pins σ H s->RelV v u->t v σ H Q ->
  wpAny (model X.prog X.w) X.A (assign target X.env u) (fun _ s'=>∃σ' H',Inv X pins σ' H' s'/\Q σ' H') X.xe s
def PGs(X:Cx)(ts:List Expr)(t:TGs):Prop:=
 ∀(pins:List (Addr×Obj))(s:Shared)(σ:St)(H:Hp)(vs:List V)(us:List Value)(Q:St->Hp->Prop),Inv X pins σ H s->Vals vs us->t vs σ H Q ->
  wpAny (model X.prog X.w) X.A (assignInOrder ((assignEach ts X.env).map (·.2)) us) (fun _ s'=>∃σ' H',Inv X pins σ' H' s'/\Q σ' H') X.xe s
def gName(i:Nat):TG:=fun v σ H Q=>Q (σ.set i (some v)) H
theorem y4y(hN:X.N.Nodup)(hi:X.N[i]?=some x)(hx:Loc X.env.scope x)(hf:X.fn x=true\/X.env.scope.names.lookup x=some .local:=by walk_at "2"):PG X (.Name x pos) (gName i):=by
 intro pins s σ H v u Q I r h;exact wpAny_assign_Name (x0e I hN hi hx r (fun s' I'=>⟨_,H,I',h⟩) hf)
noncomputable def gNil:TGs:=fun vs σ H Q=>vs=[]/\Q σ H
noncomputable def gCons(t:TG)(u:TGs):TGs:=fun vs σ H Q=>∃v r,vs=v::r/\t v σ H fun σ' H'=>u r σ' H' Q
theorem y4z:PGs X [] gNil:=by
 intro pins s σ H vs us Q I r h;obtain⟨e,h⟩:=h;subst e;cases r;exact assignInOrder_nil ⟨σ,H,I,h⟩
theorem x4m{t:TG}{u:TGs}(h1:PG X e t)(h2:PGs X es u)
  (hs:(assignEach (e::es) X.env).map (·.2)=assign e X.env::(assignEach es X.env).map (·.2):=by rfl):PGs X (e::es) (gCons t u):=by
 intro pins s σ H vs us Q I r h;obtain⟨v,vr,e1,h⟩:=h;subst e1;cases r with
 |cons r rr=>
  rw[hs];refine assignInOrder_cons (thn (h1 pins s σ H _ _ _ I r h) fun _ s1 ⟨σ1,H1,I1,q1⟩=>?_)
  exact h2 pins s1 σ1 H1 _ _ Q I1 rr q1
def gTup(K:PySem.W.Frag)(n:Nat)(t:TGs):TG:=fun v σ H Q=>∃a xs,v=.ref a/\SqT K H a xs/\xs.length=n/\t xs σ H Q
theorem y8c{k:Nat}{t:TGs}{n:Nat}(hc:X.calm=true)(h:PGs X es t)
  (hn:(assignEach es X.env).length=n:=by rfl)(hst:(assignEach es X.env).findIdx? (·.1)=none:=by rfl):PG X (.Tuple es k pos) (gTup X.K n t):=by
 intro pins s σ H v u Q I r hw;obtain⟨a,xs,e1,hq,hl,hw⟩:=hw;subst e1;cases r;obtain⟨its,rv,ht,hz⟩:=I.tuple hq;refine assign_Tuple_tuple (I.ok.hd hc) ht (by simp[hn,<- hl,rv.length]) hst fun h' hx=>?_
 have I1:Inv X pins σ H {s with heap:=h'}:=I.kept (t':=s.toks) fun b o e=>hx b o (w0t (Heap.lt_size e)) e
 exact h pins _ σ H xs _ Q I1 (by simpa using rv) hw
def tAsg(te:TE)(g:TG):TS:=fun D σ H=>te σ H fun x H1=>g x σ H1 D.nx
theorem y8d{pos':Pos}(hN:X.N.Nodup)(hi:X.N[i]?=some x)(hx:Loc X.env.scope x)(he:PE X e te)(hs:swapsWith e (some (.Name x pos')) pos.line X.env=pure false:=by rfl)(hf:X.fn x=true\/X.env.scope.names.lookup x=some .local:=by walk_at "2"):
  PS X (.Assign [.Name x pos'] e pos) (tAsg te (gName i)):=by
 intro pins s σ H D I h;refine wpAny_Assign_Name (thn (he pins s σ H _ I h) fun v s1 ⟨y,H1,I1,r1,q1⟩=>?_) hs
 exact x0e I1 hN hi hx r1 (fun s2 I2=>⟨_,H1,I2,q1⟩) hf
structure It where
 go:Nat->Hp->Prop
 yld:Nat->Hp->V->Hp->Prop
 stop:Nat->Hp->Prop
def FpOk(X:Cx)(pins:List (Addr×Obj))(H:Hp)(b:Addr):Prop:=
 H b=none/\b≠X.env.locals/\b∉X.fs/\(b∈X.ex\/X.s₀.heap.objs.size<=b)/\(∀x c,X.env.cells.lookup x=some c->c≠b)/\∀p∈X.pn++pins,p.1≠b
theorem Inv.fpOk(I:Inv X pins σ H s)(hb:s.heap.objs.size<=b)(hn:H' b=none):FpOk X pins H' b:=by
 refine⟨hn,w3k (w0s I.lt hb),I.nofs hb,.inr (w0g I.sz hb),fun x c e z=>?_,fun p hp z=>?_⟩
 ·obtain⟨v,q⟩:=I.cell x c e;exact absurd (w0s q.lt (by rw[z];exact hb)) (w1y _)
 ·exact absurd (w0s (Heap.lt_size (I.pin p hp).1) (by rw[z];exact hb)) (w1y _)
structure Turn(P:Program)(w:World)(K:PySem.W.Frag)(tg:Expr)(J:It)(fp:List Addr)(it:Addr)(tn:Nat->Heap->Prop):Prop where
 mem:it∈fp
 obj:∀i h,tn i h->∀b∈fp,∃o,h.get? b=some o/\∀v,o.data≠.cell v
 keep:∀i h h',tn i h->(∀b∈fp,∀o,h.get? b=some o->h'.get? b=some o)->tn i h'
 item:∀(X:Cx),X.prog=P->X.w=w->X.K=K->X.calm=true->∀(i:Nat)(pins:List (Addr×Obj))(s:Shared)(σ:St)(H:Hp)(E:Value->Shared->Prop),Inv X pins σ H s->(∀b∈fp,FpOk X pins H b)->tn i s.heap->J.go i H ->
  wpAny (model P w) X.A (pyNext (.ref it)) (fun r s1=>∃u,r=some u /\
   wpAny (model P w) X.A (letOwnedTupleGo tg (.ref it) u) (fun _ s2=>∃x H',Inv X pins σ H' s2/\RelV x u/\J.yld i H x H'/\tn (i+1) s2.heap/\∀b∈fp,H' b=none) E s1) E s
 done:∀(X:Cx),X.prog=P->X.w=w->X.K=K->X.calm=true->∀(i:Nat)(pins:List (Addr×Obj))(s:Shared)(σ:St)(H:Hp)(E:Value->Shared->Prop),Inv X pins σ H s->(∀b∈fp,FpOk X pins H b)->tn i s.heap->J.stop i H ->
  wpAny (model P w) X.A (pyNext (.ref it)) (fun r s1=>r=none/\Inv X pins σ H s1) E s
 self:∀(A:Around)(i:Nat)(s:Shared)(Q:Value->Shared->Prop)(E:Value->Shared->Prop),tn i s.heap->Q (.ref it) s->wpAny (model P w) A (pyIter (.ref it)) Q E s
abbrev TI:=St->Hp->(It->Hp->Prop)->Prop
def PIE(X:Cx)(pins:List (Addr×Obj))(σ:St)(tg:Expr)(R:It->Hp->Prop)(itv:Value)(s2:Shared):Prop:=
 ∃(it:Addr)(fp:List Addr)(tn:Nat->Heap->Prop)(J:It)(H':Hp),itv=.ref it/\Inv X pins σ H' s2/\Turn X.prog X.w X.K tg J fp it tn/\tn 0 s2.heap/\(∀b∈fp,FpOk X pins H' b)/\R J H'
def PI(X:Cx)(tg iter:Expr)(wi:TI):Prop:=
 ∀(pins:List (Addr×Obj))(s:Shared)(σ:St)(H:Hp)(R:It->Hp->Prop),Inv X pins σ H s->wi σ H R ->
  wpAny (model X.prog X.w) X.A (eval iter X.env) (fun v s1=>wpAny (model X.prog X.w) X.A (pyIter v) (PIE X pins σ tg R) X.xe s1) X.xe s
theorem x8i{E : Value -> Shared -> Prop}{s : Shared}{it : Addr}{o : Obj}{n : String}{vs : Array Value}{Q : Unit -> Shared -> Prop}(ho : s.heap.get? it = some o)(hc : o.cls = .type n)(hd : o.data = .fields vs)
    (hn : ["enumerate", "zip", "dict_itemiterator", "dict_reverseitemiterator", "odict_iterator", "itertools.zip_longest", "itertools.pairwise"].contains n = false)(hQ : Q () s) : wpAny M A (letOwnedTupleGo tg (.ref it) u) Q E s := by
  unfold letOwnedTupleGo
  cases tg <;> first
    | exact wpAny_pure hQ
    | (cases u <;> first
        | exact wpAny_pure hQ
        | (refine wpAny_bind (wpAny_load ho ?_)
           rw [hc, hd];show wpAny M A (if (["enumerate", "zip", "dict_itemiterator", "dict_reverseitemiterator", "odict_iterator", "itertools.zip_longest", "itertools.pairwise"].contains n && vs[0]? == some (rawInt _)) = true then _ else _) Q E s;rw [if_neg (by intro h; rw [hn, w1t] at h; cases h)];exact wpAny_pure hQ))
noncomputable def Itl(K:PySem.W.Frag)(a:Addr):It:=
 ⟨fun i H=>∃xs x,SqL K H a xs/\xs[i]?=some x,fun i H x H'=>H'=H/\∀xs,SqL K H a xs->xs[i]?=some x,fun i H=>∃xs,SqL K H a xs/\xs.length<=i⟩
noncomputable def Itt(K:PySem.W.Frag)(a:Addr):It:=
 ⟨fun i H=>∃xs x,SqT K H a xs/\xs[i]?=some x,fun i H x H'=>H'=H/\∀xs,SqT K H a xs->xs[i]?=some x,fun i H=>∃xs,SqT K H a xs/\xs.length<=i⟩
noncomputable def Itr(lo:Int)(n:Nat):It:=⟨fun i _=>i<n,fun i H x H'=>H'=H/\x=.int (lo+i),fun i _=>n<=i⟩
theorem x9m(a it:Addr):Turn P w K tg (Itl K a) [it] it (fun i h=>h.IsListIter it a i) where
 mem:=by simp
 obj:=fun i h st b hb=>by
  have e:b=it:=by simpa using hb
  subst e;obtain⟨o,e,c,d⟩:=st;exact⟨o,e,fun v z=>by rw[d]at z;cases z⟩
 keep:=fun i h h' st k=>st.at fun o e=>k it (by simp) o e
 item:=by
  intro X hP hw hK hc i pins s σ H E I hf st hg;subst hP hw hK;obtain⟨xs,x,hq,hx⟩:=hg;obtain⟨its,rv,p,hz⟩:=I.list hq;obtain⟨u,hu,ru⟩:=rv.get hx;obtain⟨f0,f1,f2,f3,f4,f5⟩:=hf it (by simp);refine wpAny_pyNext_list_item st p.isList (x:=u) (by simpa using hu) fun h' st' sb=>?_
  have I1:Inv X pins σ H {s with heap:=h'}:=I.turned (t':=s.toks) (fun b o hb e=>(sb.2 b hb).trans e) f0 f1 f3 f4 f5
  obtain⟨o,e,c,d⟩:=id st';exact⟨u,rfl,x8i (s:={s with heap:=h'}) e c d (by decide) ⟨x,H,I1,ru,⟨rfl,fun ys hy=>by rw[I.list_inj hy hq];exact hx⟩,st',fun b hb=>(hf b hb).1⟩⟩
 done:=by
  intro X hP hw hK hc i pins s σ H E I hf st hg;subst hP hw hK;obtain⟨xs,hq,hx⟩:=hg;obtain⟨its,rv,p,hz⟩:=I.list hq;obtain⟨f0,f1,f2,f3,f4,f5⟩:=hf it (by simp);have hl:=rv.length;exact wpAny_pyNext_list_end (I.ok.hd hc) st p.isList (by simp;omega) fun h' eb=>⟨rfl,I.turned (t':=s.toks) (fun b o hb e=>eb b o hb e) f0 f1 f3 f4 f5⟩
 self:=fun _ _ _ _ _ st h=>wpAny_pyIter_listiter st h
theorem x8j(a it:Addr):Turn P w K tg (Itt K a) [it] it (fun i h=>h.IsTupleIter it a i) where
 mem:=by simp
 obj:=fun i h st b hb=>by
  have e:b=it:=by simpa using hb
  subst e;obtain⟨o,e,c,d⟩:=st;exact⟨o,e,fun v z=>by rw[d]at z;cases z⟩
 keep:=fun i h h' st k=>st.at fun o e=>k it (by simp) o e
 item:=by
  intro X hP hw hK hc i pins s σ H E I hf st hg;subst hP hw hK;obtain⟨xs,x,hq,hx⟩:=hg;obtain⟨its,rv,p,hz⟩:=I.tuple hq;obtain⟨u,hu,ru⟩:=rv.get hx;obtain⟨f0,f1,f2,f3,f4,f5⟩:=hf it (by simp);refine wpAny_pyNext_tuple_item st (show s.heap.IsTuple a its.toArray from p) (x:=u) (by simpa using hu) fun h' st' sb=>?_
  have I1:Inv X pins σ H {s with heap:=h'}:=I.turned (t':=s.toks) (fun b o hb e=>(sb.2 b hb).trans e) f0 f1 f3 f4 f5
  obtain⟨o,e,c,d⟩:=id st';exact⟨u,rfl,x8i (s:={s with heap:=h'}) e c d (by decide) ⟨x,H,I1,ru,⟨rfl,fun ys hy=>by rw[I.tuple_inj hy hq];exact hx⟩,st',fun b hb=>(hf b hb).1⟩⟩
 done:=by
  intro X hP hw hK hc i pins s σ H E I hf st hg;subst hP hw hK;obtain⟨xs,hq,hx⟩:=hg;obtain⟨its,rv,p,hz⟩:=I.tuple hq;obtain⟨f0,f1,f2,f3,f4,f5⟩:=hf it (by simp);have hl:=rv.length;exact wpAny_pyNext_tuple_end (I.ok.hd hc) st (show s.heap.IsTuple a its.toArray from p) (by simp;omega) fun h' eb=>⟨rfl,I.turned (t':=s.toks) (fun b o hb e=>eb b o hb e) f0 f1 f3 f4 f5⟩
 self:=fun _ _ _ _ _ st h=>wpAny_pyIter_tupleiter st h
theorem x8k(it:Addr)(lo:Int)(n:Nat):Turn P w K tg (Itr lo n) [it] it (fun i h=>IsRangeIter h it (lo+(i:Nat)*1) ((n:Int)-(i:Nat)) 1) where
 mem:=by simp
 obj:=fun i h st b hb=>by
  have e:b=it:=by simpa using hb
  subst e
  exact⟨_,st,fun v z=>by
   have z':Data.fields _=Data.cell v:=z;cases z'⟩
 keep:=fun i h h' st k=>k it (by simp) _ st
 item:=by
  intro X hP hw hK hc i pins s σ H E I hf st hg;subst hP hw hK;obtain⟨f0,f1,f2,f3,f4,f5⟩:=hf it (by simp);have W:=Walks.range (prog:=X.prog) (w:=X.w) (I.ok.hd hc) it lo 1 n;refine W.item i s _ _ hg st fun v h' tk hv st' kk=>?_
  obtain⟨t,rfl⟩:=hv;have I1:Inv X pins σ H {s with heap:=h',toks:=tk}:=I.turned (fun b o hb e=>kk b o (by simpa using hb) e) f0 f1 f3 f4 f5
  refine⟨_,rfl,x8i (s:={s with heap:=h',toks:=tk}) (n:="range_iterator") st' rfl rfl (by decide) ⟨.int (lo+i),H,I1,⟨t,?_⟩,⟨rfl,rfl⟩,st',fun b hb=>(hf b hb).1⟩⟩
  rw[Int.mul_one]
 done:=by
  intro X hP hw hK hc i pins s σ H E I hf st hg;subst hP hw hK;obtain⟨f0,f1,f2,f3,f4,f5⟩:=hf it (by simp);exact wpAny_pyNext_range_end (I.ok.hd hc) st (by have:n<=i:=hg;omega) fun h' eb=>⟨rfl,I.turned (t':=s.toks) (fun b o hb e=>eb b o hb e) f0 f1 f3 f4 f5⟩
 self:=fun _ _ _ _ _ st h=>wpAny_pyIter_rangeiter st h
theorem y2a{R:It->Hp->Prop}{lo hi:Int}{t u v:Tok}{tk:Nat}(I:Inv X pins σ H s)(h1:-(2^62)<=lo)(h2:lo<2^62)(h3:-(2^62)<=hi)(h4:hi<2^62)
  (q:R (Itr lo (hi-lo).toNat) H):wpAny (model X.prog X.w) X.A (pyIter (.ref s.heap.objs.size)) (PIE X pins σ tg R) E {s with heap:=s.heap.push {cls:=.type "range", data:=.fields #[.int lo t,.int hi u,.int 1 v]},toks:=tk}:=by
 refine wpAny_pyIter_range (IsRange.new ..) (small_one h1 h2 h3 h4) ?_;have I1:Inv X pins σ H {s with heap:=s.heap.push {cls:=.type "range", data:=.fields #[.int lo t,.int hi u,.int 1 v]},toks:=tk}:=I.kept fun b o e=>Heap.get?_push_of_some _ e
 refine⟨(s.heap.push {cls:=.type "range", data:=.fields #[.int lo t,.int hi u,.int 1 v]}).objs.size,[(s.heap.push {cls:=.type "range", data:=.fields #[.int lo t,.int hi u,.int 1 v]}).objs.size],_,_,H,rfl,
  I1.kept (t':=tk) fun b o e=>Heap.get?_push_of_some _ e,x8k _ lo (hi-lo).toNat,?_,fun b hb=>?_,q⟩
 ·have e1:lo+((0:Nat):Int)*1=lo:=by simp
  have e2:(((hi-lo).toNat:Nat):Int)-((0:Nat):Int)=Builtin.Range.rangeSize lo hi 1:=by rw[rangeSize_one];split<;>omega
  show IsRangeIter _ _ (lo+((0:Nat):Int)*1) ((((hi-lo).toNat:Nat):Int)-((0:Nat):Int)) 1;rw[e1,e2];exact Heap.get?_push_size _ rfl
 ·have e:b=(s.heap.push {cls:=.type "range", data:=.fields #[.int lo t,.int hi u,.int 1 v]}).objs.size:=by simpa using hb
  subst e;exact I1.fpOk (w0e _) (I1.hok.fresh (w0e _))
def iRng1(ta:TA):TI:=fun σ H R=>ta σ H fun vs H1=>∃j:Int,vs=[.int j]/\-(2^62)<=j/\j<2^62/\R (Itr 0 j.toNat) H1
theorem q8t{a:Expr}{ta:TA}(hg:Gl X "range")(hm:X.mg "range"=none)(ha:PA X [a] ta)(hs:starEach [a] X.env=[(false,eval a X.env)]:=by rfl):PI X tg (.Call (.Name "range" p) [a] [] pos) (iRng1 ta):=by
 intro pins s σ H R I h;refine Call_ (q5s I hg hm boot_range (PyProof.Rows.callWith_type1 (thn (ha pos pins s σ H _ I h) fun us s1 ⟨vs,H1,I1,r1,q1⟩=>?_) hs rfl))
 obtain⟨j,e,q1,q2,q⟩:=q1;subst e;cases r1 with
 |cons r rr=>
  cases rr;obtain⟨t,rfl⟩:=r;exact call_range_1 (y2a I1 (by omega) (by omega) q1 q2 (by simpa using q))
def tFor(wi:TI)(g:TG)(tb:TS):TS:=fun D σ H=>wi σ H fun J H1=>∃W:Nat->Nat->St->Hp->Prop,(∃m,W 0 m σ H1)/\∀i m σ H,W i m σ H ->
 (J.stop i H/\D.nx σ H)\/(J.go i H/\∃N:St->Hp->Prop,(∀σ' H',N σ' H'->∃m',m'<m/\W (i+1) m' σ' H')/\∀x H',J.yld i H x H'->g x σ H' fun σ2 H2=>tb {D with nx:=N,ct:=N,bk:=D.nx} σ2 H2)
noncomputable def pinsAt(fp:List Addr)(h:Heap):List (Addr×Obj):=fp.filterMap fun b=>(h.get? b).map fun o=>(b,o)
theorem q3s{o:Obj}(hb:b∈fp)(e:h.get? b=some o):(b,o)∈pinsAt fp h:=w3l.mpr ⟨b,hb,by rw[e];rfl⟩
theorem x9n{p:Addr×Obj}(hp:p∈pinsAt fp h):p.1∈fp/\h.get? p.1=some p.2:=by
 obtain⟨b,hb,e⟩:=w3l.mp hp;cases q:h.get? b with
 |none=>rw[q]at e;cases e
 |some o=>
  rw[q]at e;have e':(b,o)=p:=Option.some.inj e;subst e';exact⟨hb,q⟩
theorem Inv.pinned(I:Inv X pins σ H s)(hf:∀b∈fp,FpOk X pins H b)(ho:∀b∈fp,∃o,s.heap.get? b=some o/\∀v,o.data≠.cell v):Inv X (pins++pinsAt fp s.heap) σ H s:=
 I.pins_of fun p hp=>(w1j.mp hp).elim (fun z=>I.pin p (w0m _ z)) fun z=>by
  obtain⟨hb,e⟩:=x9n z;obtain⟨f0,f1,f2,_⟩:=hf p.1 hb;obtain⟨o,e',d⟩:=ho p.1 hb;rw[e]at e';cases e';exact⟨e,f0,f1,f2,d⟩
theorem Inv.unpinned{pl:List (Addr×Obj)}(I:Inv X (pins++pl) σ H s):Inv X pins σ H s:=I.pins_of fun p hp=>I.pin p (w0m _ (w2d _ hp))
theorem x9o{iter:Expr}{body:List Stmt}{wi:TI}{g:TG}(hp:PassesOwn (model X.prog X.w) X.A X.env X.xe)(hc:X.calm=true)(hi:PI X tg iter wi)(hg:PG X tg g)(hb:PSs X body tb)
  (hs:∀x,foldedSetIterable iter X.env x=pure x:=by intro _;rfl):PS X (.For tg iter body [] pos) (tFor wi g tb):=by
 intro pins s σ H D I h;refine wpAny_For (thn (hi pins s σ H _ I h) fun v s1 h1=>thn h1 fun itv s2 h2=>?_) hs
 obtain⟨it,fp,tn,J,H2,e,I2,T,st2,f2,W,⟨m0,w0⟩,turn⟩:=h2;subst e;have stat:∀{H':Hp},(∀b∈fp,H' b=none)->∀b∈fp,FpOk X pins H' b:=fun hn b hb=>⟨hn b hb,(f2 b hb).2⟩
 refine codeAny_forLoop_any (fun n s'=>∃i σ' H',Inv X pins σ' H' s'/\tn i s'.heap/\(∀b∈fp,H' b=none)/\W i n σ' H') ?_ m0 ⟨0,σ,H2,I2,st2,fun b hb=>(f2 b hb).1,w0⟩
 rintro n s3 ⟨i,σ3,H3,I3,st3,fr3,w3⟩;rcases turn i n σ3 H3 w3 with⟨stop,qn⟩|⟨go,N,hN,step⟩
 ·refine wpAny_passesOwn hp (thn (T.done X rfl rfl rfl hc i pins s3 σ3 H3 X.xe I3 (stat fr3) st3 stop) fun r s4 ⟨hr,I4⟩=>?_)
  subst hr;exact wpAny_execs_nil ⟨σ3,H3,I4,qn⟩
 ·refine wpAny_passesOwn hp (thn (T.item X rfl rfl rfl hc i pins s3 σ3 H3 X.xe I3 (stat fr3) st3 go) fun r s4 ⟨u,hr,h4⟩=>?_)
  subst hr;refine wpAny_passesOwn hp (thn h4 fun _ s5 ⟨x,H5,I5,r5,y5,st5,fr5⟩=>?_)
  have I5':=I5.pinned (stat fr5) (T.obj _ _ st5);refine wpAny_passesOwn hp (thn (hg _ s5 σ3 H5 x u _ I5' r5 (step x H5 y5)) fun _ s6 ⟨σ6,H6,I6,q6⟩=>?_)
  refine wpAny_passesOwn hp (thn (hb _ s6 σ6 H6 _ I6 q6) fun f s7 q7=>?_)
  have again:∀{σ7:St}{H7:Hp},Inv X (pins++pinsAt fp s5.heap) σ7 H7 s7->N σ7 H7->∃m,m<n/\∃i σ' H',Inv X pins σ' H' s7/\tn i s7.heap/\(∀b∈fp,H' b=none)/\W i m σ' H':=fun {σ7 H7} I7 n7=>by
   obtain⟨m',hm,w7⟩:=hN σ7 H7 n7;refine⟨m',hm,i+1,σ7,H7,I7.unpinned,T.keep _ _ _ st5 fun b hb o e=>(I7.pin (b,o) (w0m _ (w0m _ (q3s hb e)))).1,fun b hb=>?_,w7⟩
   obtain⟨o,e,d⟩:=T.obj _ _ st5 b hb;exact(I7.pin (b,o) (w0m _ (w0m _ (q3s hb e)))).2.1
  cases f with
  |next=>obtain⟨σ7,H7,I7,n7⟩:=q7;exact again I7 n7
  |cont=>obtain⟨σ7,H7,I7,n7⟩:=q7;exact again I7 n7
  |brk=>obtain⟨σ7,H7,I7,q7⟩:=q7;exact⟨σ7,H7,I7.unpinned,q7⟩
  |ret v=>obtain⟨x7,σ7,H7,I7,r7,q7⟩:=q7;exact⟨x7,σ7,H7,I7.unpinned,r7,q7⟩
theorem y2b{g:TG}{D:Ends}(Pv:Nat->St->Hp->Prop)(h0:Pv 0 σ H)(hl:∀i σ H,i<=xs.length->Pv i σ H->SqL K H a xs)
  (hs:∀i x σ H,xs[i]?=some x->Pv i σ H->g x σ H fun σ2 H2=>tb {D with nx:=Pv (i+1),ct:=Pv (i+1),bk:=D.nx} σ2 H2)(hd:∀σ H,Pv xs.length σ H->D.nx σ H):
  ∃W:Nat->Nat->St->Hp->Prop,(∃m,W 0 m σ H)/\∀i m σ H,W i m σ H ->
   ((Itl K a).stop i H/\D.nx σ H)\/((Itl K a).go i H/\∃N:St->Hp->Prop,(∀σ' H',N σ' H'->∃m',m'<m/\W (i+1) m' σ' H')/\∀x H',(Itl K a).yld i H x H'->g x σ H' fun σ2 H2=>tb {D with nx:=N,ct:=N,bk:=D.nx} σ2 H2):=by
 refine⟨fun i m σ H=>m=xs.length-i/\i<=xs.length/\Pv i σ H,⟨xs.length,by simp,w1i _,h0⟩,?_⟩
 rintro i m σ H ⟨rfl,hi,p⟩;have q:=hl i σ H hi p
 by_cases hlt:i<xs.length
 ·refine .inr ⟨⟨xs,xs[i],q,by simp[hlt]⟩,Pv (i+1),fun σ' H' p'=>⟨xs.length-(i+1),by omega,rfl,hlt,p'⟩,fun x H' y=>?_⟩
  obtain⟨e,y⟩:=y;subst e;exact hs i x σ _ (y xs q) p
 ·have e:i=xs.length:=by omega
  subst e;exact .inl ⟨⟨xs,q,w0e _⟩,hd σ H p⟩
theorem y40{g:TG}{D:Ends}(Pv:Nat->St->Hp->Prop)(h0:Pv 0 σ H)(hl:∀i σ H,i<=xs.length->Pv i σ H->SqT K H a xs)
  (hs:∀i x σ H,xs[i]?=some x->Pv i σ H->g x σ H fun σ2 H2=>tb {D with nx:=Pv (i+1),ct:=Pv (i+1),bk:=D.nx} σ2 H2)(hd:∀σ H,Pv xs.length σ H->D.nx σ H):
  ∃W:Nat->Nat->St->Hp->Prop,(∃m,W 0 m σ H)/\∀i m σ H,W i m σ H ->
   ((Itt K a).stop i H/\D.nx σ H)\/((Itt K a).go i H/\∃N:St->Hp->Prop,(∀σ' H',N σ' H'->∃m',m'<m/\W (i+1) m' σ' H')/\∀x H',(Itt K a).yld i H x H'->g x σ H' fun σ2 H2=>tb {D with nx:=N,ct:=N,bk:=D.nx} σ2 H2):=by
 refine⟨fun i m σ H=>m=xs.length-i/\i<=xs.length/\Pv i σ H,⟨xs.length,by simp,w1i _,h0⟩,?_⟩
 rintro i m σ H ⟨rfl,hi,p⟩;have q:=hl i σ H hi p
 by_cases hlt:i<xs.length
 ·refine .inr ⟨⟨xs,xs[i],q,by simp[hlt]⟩,Pv (i+1),fun σ' H' p'=>⟨xs.length-(i+1),by omega,rfl,hlt,p'⟩,fun x H' y=>?_⟩
  obtain⟨e,y⟩:=y;subst e;exact hs i x σ _ (y xs q) p
 ·have e:i=xs.length:=by omega
  subst e;exact .inl ⟨⟨xs,q,w0e _⟩,hd σ H p⟩
theorem x9p{lo:Int}{n:Nat}{g:TG}{D:Ends}(Pv:Nat->St->Hp->Prop)(h0:Pv 0 σ H)
  (hs:∀i σ H,i<n->Pv i σ H->g (.int (lo+i)) σ H fun σ2 H2=>tb {D with nx:=Pv (i+1),ct:=Pv (i+1),bk:=D.nx} σ2 H2)(hd:∀σ H,Pv n σ H->D.nx σ H):
  ∃W:Nat->Nat->St->Hp->Prop,(∃m,W 0 m σ H)/\∀i m σ H,W i m σ H ->
   ((Itr lo n).stop i H/\D.nx σ H)\/((Itr lo n).go i H/\∃N:St->Hp->Prop,(∀σ' H',N σ' H'->∃m',m'<m/\W (i+1) m' σ' H')/\∀x H',(Itr lo n).yld i H x H'->g x σ H' fun σ2 H2=>tb {D with nx:=N,ct:=N,bk:=D.nx} σ2 H2):=by
 refine⟨fun i m σ H=>m=n-i/\i<=n/\Pv i σ H,⟨n,by simp,w1i _,h0⟩,?_⟩
 rintro i m σ H ⟨rfl,hi,p⟩
 by_cases hlt:i<n
 ·refine .inr ⟨hlt,Pv (i+1),fun σ' H' p'=>⟨n-(i+1),by omega,rfl,hlt,p'⟩,fun x H' y=>?_⟩
  obtain⟨e,y⟩:=y;subst e y;exact hs i σ _ hlt p
 ·have e:i=n:=by omega
  subst e;exact .inl ⟨w0e _,hd σ H p⟩
abbrev R2:=V->V->Hp->VK->Prop
variable{r:R2}
def OpR(X:Cx)(f:Value->Value->Sem Value)(r:R2):Prop:=
 ∀(pins:List (Addr×Obj))(s:Shared)(σ:St)(H:Hp)(x y:V)(v u:Value)(Q:VK),Inv X pins σ H s->RelV x v->RelV y u->r x y H Q ->
  wpAny (model X.prog X.w) X.A (f v u) (EP X pins σ Q) X.xe s
def UnR(X:Cx)(f:Value->Sem Value)(r:V->Hp->VK->Prop):Prop:=
 ∀(pins:List (Addr×Obj))(s:Shared)(σ:St)(H:Hp)(x:V)(v:Value)(Q:VK),Inv X pins σ H s->RelV x v->r x H Q ->
  wpAny (model X.prog X.w) X.A (f v) (EP X pins σ Q) X.xe s
def CallR(X:Cx)(f:Value)(r:List V->Hp->VK->Prop):Prop:=
 ∀(pins:List (Addr×Obj))(s:Shared)(σ:St)(H:Hp)(xs:List V)(us:List Value)(Q:VK),Inv X pins σ H s->Vals xs us->r xs H Q ->
  wpAny (model X.prog X.w) X.A (call f us) (EP X pins σ Q) X.xe s
def TruR(X:Cx)(r:V->Hp->(Bool->Hp->Prop)->Prop):Prop:=
 ∀(pins:List (Addr×Obj))(s:Shared)(σ:St)(H:Hp)(x:V)(v:Value)(Q:Bool->Hp->Prop),Inv X pins σ H s->RelV x v->r x H Q ->
  wpAny (model X.prog X.w) X.A (truthy v) (TP X pins σ Q) X.xe s
def tOp(r:R2)(ta tb:TE):TE:=fun σ H Q=>ta σ H fun x H1=>tb σ H1 fun y H2=>r x y H2 Q
def tUn(r:V->Hp->VK->Prop)(ta:TE):TE:=fun σ H Q=>ta σ H fun x H1=>r x H1 Q
def rI(C:Int->Int->Prop)(g:Int->Int->V):R2:=fun x y H Q=>∃i j,x=.int i/\y=.int j/\C i j/\Q (g i j) H
def rI0(g:Int->Int->V):R2:=fun x y H Q=>∃i j,x=.int i/\y=.int j/\Q (g i j) H
def rU(g:Int->V):V->Hp->VK->Prop:=fun x H Q=>∃i,x=.int i/\Q (g i) H
section
variable{a b:Expr}{tb tc:TE}
theorem binT(ha:PE X a ta)(hb:PE X b tb){R:V->V->Hp->Prop}(I:Inv X pins σ H s)
  (h:ta σ H fun x H1=>tb σ H1 fun y H2=>R x y H2){Q:Value->Shared->Prop}
  (hf:∀v u s2 x y H2,Inv X pins σ H2 s2->RelV x v->RelV y u->R x y H2->wpAny (model X.prog X.w) X.A (f v u) Q X.xe s2):
  wpAny (model X.prog X.w) X.A (eval a X.env) (fun v s₁=>wpAny (model X.prog X.w) X.A (eval b X.env) (fun u s₂=>wpAny (model X.prog X.w) X.A (f v u) Q X.xe s₂) X.xe s₁) X.xe s:=by
 refine thn (ha pins s σ H _ I h) fun v s1 ⟨x,H1,I1,r1,q1⟩=>?_
 refine thn (hb pins s1 σ H1 _ I1 q1) fun u s2 ⟨y,H2,I2,r2,q2⟩=>?_
 exact hf v u s2 x y H2 I2 r1 r2 q2
theorem z1o{op:Operator}(ho:OpR X (binaryOp op) r)(ha:PE X a ta)(hb:PE X b tb):PE X (.BinOp a op b pos) (tOp r ta tb):=by
 intro pins s σ H Q I h;exact wpAny_BinOp (binT ha hb I h fun v u s2 x y H2 I2 rx ry q=>ho pins s2 σ H2 x y v u Q I2 rx ry q)
theorem z1p{op:UnaryOp}{r:V->Hp->VK->Prop}(ho:UnR X (unaryOp op) r)(ha:PE X a ta):PE X (.UnaryOp op a pos) (tUn r ta):=by
 intro pins s σ H Q I h;exact UnaryOp_ (thn (ha pins s σ H _ I h) fun v s1 ⟨x,H1,I1,r1,q1⟩=>ho pins s1 σ H1 x v Q I1 r1 q1)
theorem opI{C:Int->Int->Prop}{g:Int->Int->Int}
  (rule:∀(i j:Int)(t u:Tok)(s:Shared)(Q:Value->Shared->Prop)(E:Value->Shared->Prop),C i j->Q (.int (g i j) s.toks) {s with toks:=s.toks+1}->wpAny (model X.prog X.w) X.A (f (.int i t) (.int j u)) Q E s):
  OpR X f (rI C fun i j=>.int (g i j)):=by
 intro pins s σ H x y v u Q I rx ry h;obtain⟨i,j,rfl,rfl,hc,q⟩:=h;obtain⟨t,rfl⟩:=rx;obtain⟨t',rfl⟩:=ry;exact rule i j t t' s _ _ hc ⟨.int (g i j),H,I.tok _,⟨_,rfl⟩,q⟩
theorem opI0{g:Int->Int->Int}
  (rule:∀(i j:Int)(t u:Tok)(s:Shared)(Q:Value->Shared->Prop)(E:Value->Shared->Prop),Q (.int (g i j) s.toks) {s with toks:=s.toks+1}->wpAny (model X.prog X.w) X.A (f (.int i t) (.int j u)) Q E s):
  OpR X f (rI0 fun i j=>.int (g i j)):=by
 intro pins s σ H x y v u Q I rx ry h;obtain⟨i,j,rfl,rfl,q⟩:=h;obtain⟨t,rfl⟩:=rx;obtain⟨t',rfl⟩:=ry;exact rule i j t t' s _ _ ⟨.int (g i j),H,I.tok _,⟨_,rfl⟩,q⟩
theorem opB0{g:Int->Int->Bool}
  (rule:∀(i j:Int)(t u:Tok)(s:Shared)(Q:Value->Shared->Prop)(E:Value->Shared->Prop),Q (.bool (g i j)) s->wpAny (model X.prog X.w) X.A (f (.int i t) (.int j u)) Q E s):
  OpR X f (rI0 fun i j=>.bl (g i j)):=by
 intro pins s σ H x y v u Q I rx ry h;obtain⟨i,j,rfl,rfl,q⟩:=h;obtain⟨t,rfl⟩:=rx;obtain⟨t',rfl⟩:=ry;exact rule i j t t' s _ _ ⟨.bl (g i j),H,I,rfl,q⟩
def CDiv(i j:Int):Prop:=0<j/\j<1073741824
def CMul(i j:Int):Prop:=(-(2^64)<i/\i<2^64)\/(-(2^64)<j/\j<2^64)
theorem CMul.ok{i j:Int}(h:CMul i j):IntMulOk i j:=by
 rcases h with⟨h1,h2⟩|⟨h1,h2⟩
 ·exact .of_left (intBits_le_64 h1 h2)
 ·exact .of_right (intBits_le_64 h1 h2)
theorem op_add:OpR X (binaryOp .Add) (rI0 fun i j=>.int (i+j)):=opI0 fun _ _ _ _ _ _ _ q=>add_int q
theorem y8e:OpR X (binaryOp .Sub) (rI0 fun i j=>.int (i-j)):=opI0 fun _ _ _ _ _ _ _ q=>sub_int q
theorem y8f:OpR X (binaryOp .Mult) (rI CMul fun i j=>.int (i*j)):=opI fun _ _ _ _ _ _ _ hc q=>mul_int q hc.ok
theorem y41:OpR X (binaryOp .FloorDiv) (rI CDiv fun i j=>.int (i / j)):=opI fun i j _ _ _ _ _ hc q=>by
 have h1:(0:Int)<j:=hc.1;have h2:j<1073741824:=hc.2;exact floordiv_int (by omega) (by rw[Int.fdiv_eq_ediv_of_nonneg i (by omega)];exact q) (.inl (PyProof.noPylong_small (by omega)))
theorem y8g:OpR X (binaryOp .Mod) (rI (fun _ j=>0<j) fun i j=>.int (i%j)):=opI fun i j _ _ _ _ _ hc q=>by
 have h1:(0:Int)<j:=hc;exact mod_int' (by omega) (by rw[Int.fmod_eq_emod_of_nonneg i (by omega)];exact q)
theorem unI{f:Value->Sem Value}{g:Int->Int}
  (rule:∀(i:Int)(t:Tok)(s:Shared)(Q:Value->Shared->Prop)(E:Value->Shared->Prop),Q (.int (g i) s.toks) {s with toks:=s.toks+1}->wpAny (model X.prog X.w) X.A (f (.int i t)) Q E s):
  UnR X f (rU fun i=>.int (g i)):=by
 intro pins s σ H x v Q I rx h;obtain⟨i,rfl,q⟩:=h;obtain⟨t,rfl⟩:=rx;exact rule i t s _ _ ⟨.int (g i),H,I.tok _,⟨_,rfl⟩,q⟩
theorem y8h:UnR X (unaryOp .USub) (rU fun i=>.int (-i)):=unI fun _ _ _ _ _ q=>neg_int q
end
section
variable{a b:Expr}{tb tc:TE}
theorem x9q{Q:VK}{k k':Bool}(I:Inv X pins σ H s)(q:Q (.bl k) H)(e:k=k'):EP X pins σ Q (.bool k') s:=by
 subst e;exact⟨.bl k,H,I,rfl,q⟩
theorem z1q:OpR X (compareOp .Lt) (rI0 fun i j=>.bl (decide (i<j))):=opB0 fun _ _ _ _ _ _ _ q=>lt_int q
theorem y4f:OpR X (compareOp .Gt) (rI0 fun i j=>.bl (decide (j<i))):=opB0 fun _ _ _ _ _ _ _ q=>gt_int q
theorem OpR.or{r':R2}(h:OpR X f r)(h':OpR X f r'):OpR X f (fun x y H Q=>r x y H Q\/r' x y H Q):=by
 intro pins s σ H x y v u Q I rx ry q;rcases q with q|q
 ·exact h pins s σ H x y v u Q I rx ry q
 ·exact h' pins s σ H x y v u Q I rx ry q
theorem nomark(b:Expr)(h:op≠.In:=by decide)(h2:op≠.NotIn:=by decide):behindInMarks op b=false:=by
 have e1:(op==CmpOp.In)=false:=by cases op<;>first|rfl|exact absurd rfl h
 have e2:(op==CmpOp.NotIn)=false:=by cases op<;>first|rfl|exact absurd rfl h2
 cases b<;>simp[behindInMarks,e1,e2]
theorem y42(ho:OpR X (compareOp op) r)(ha:PE X a ta)(hb:PE X b tb)(hm:behindInMarks op b=false):PE X (.Compare a [op] [b] pos) (tOp r ta tb):=by
 intro pins s σ H Q I h;exact wpAny_Compare1 (binT ha hb I h fun v u s2 x y H2 I2 rx ry q=>ho pins s2 σ H2 x y v u Q I2 rx ry q) hm
def tTest(t:TE):TT:=fun σ H Q=>t σ H fun x H'=>∃k,x=.bl k/\Q k H'
theorem y43(ho:OpR X (compareOp op) r)(ha:PE X a ta)(hb:PE X b tb)(hm:behindInMarks op b=false):PT X (.Compare a [op] [b] pos) (tTest (tOp r ta tb)):=by
 intro pins s σ H Q I h
 refine wpAny_isTrue_Compare1 (thn (ha pins s σ H _ I h) fun v s1 ⟨x,H1,I1,r1,q1⟩=>thn (hb pins s1 σ H1 _ I1 q1) fun u s2 ⟨y,H2,I2,r2,q2⟩=>
  thn (ho pins s2 σ H2 x y v u _ I2 r1 r2 q2) fun c s3 ⟨z,H3,I3,r3,k,e,q3⟩=>?_) hm
 subst e;cases r3;exact wpAny_truthy_bool ⟨H3,I3,q3⟩
def TruV(K:PySem.W.Frag)(x:V)(H:Hp)(k:Bool):Prop:=
 match x with
 |.non=>k=false
 |.bl b=>k=b
 |.int i=>k=(i != 0)
 |.str y=>y.length<=sizeLine/\k=((y.length:Int) != 0)
 |.byt y=>y.size<=sizeLine/\k=((y.size:Int) != 0)
 |.ref p=>(∃xs,SqL K H p xs/\k=!xs.isEmpty)\/(∃xs,SqT K H p xs/\k=!xs.isEmpty)\/∃kvs,H p=some (.dK kvs)/\k=!kvs.isEmpty
 |_=>False
theorem x8l{κ:Type}{kvs:List (κ×V)}{vs:List (κ×Value)}(r:KV kvs vs):(!vs.isEmpty)=!kvs.isEmpty:=by
 cases r<;>rfl
theorem x0w{its:List Value}(r:Vals xs its):(!its.toArray.isEmpty)=!xs.isEmpty:=by
 cases r<;>simp
theorem line63:(sizeLine:Nat)<2^63:=by rw[sizeLine_eq];decide
theorem y8i:TruR X (fun x H Q=>∃k,TruV X.K x H k/\Q k H):=by
 intro pins s σ H x v Q I rx h;obtain⟨k,e,q⟩:=h;have hl:=line63;have hs:sizeLine=16777216:=sizeLine_eq;cases x with
 |non=>
  cases rx;have e':k=false:=e;subst e';exact truthy_none ⟨H,I,q⟩
 |bl b=>
  cases rx;have e':k=b:=e;subst e';exact wpAny_truthy_bool ⟨H,I,q⟩
 |int i=>
  obtain⟨t,rfl⟩:=rx;have e':k=(i != 0):=e;subst e';exact PySem.P.truthy_int ⟨H,I,q⟩
 |str y=>
  obtain⟨t,rfl⟩:=rx;obtain⟨hy,e'⟩:y.length<=sizeLine/\k=((y.length:Int) != 0):=e;subst e';exact PySem.P.truthy_str (by omega) ⟨H,I.tok _,q⟩
 |byt y=>
  obtain⟨t,rfl⟩:=rx;obtain⟨hy,e'⟩:y.size<=sizeLine/\k=((y.size:Int) != 0):=e;subst e';exact PySem.W.truthy_bytes (by omega) ⟨H,I.tok _,q⟩
 |ref p=>
  cases rx;have e':(∃xs,SqL X.K H p xs/\k=!xs.isEmpty)\/(∃xs,SqT X.K H p xs/\k=!xs.isEmpty)\/∃kvs,H p=some (.dK kvs)/\k=!kvs.isEmpty:=e;rcases e' with⟨xs,hx,e'⟩|⟨xs,hx,e'⟩|⟨kvs,hx,e'⟩
  ·subst e';obtain⟨its,r,pl,hz⟩:=I.list hx;have hlen:=r.length;exact wpAny_truthy_list pl.isList (by simp only[w0d];omega) ⟨H,I.tok _,by rw[x0w r];exact q⟩
  ·subst e';obtain⟨its,r,pl,hz⟩:=I.tuple hx;have hlen:=r.length;exact truthy_tuple pl (by simp only[w0d];omega) ⟨H,I.tok _,by rw[x0w r];exact q⟩
  ·subst e';obtain⟨hz,hS,vs,r,m⟩:kvs.length<=sizeLine/\(p==sysModules)=false/\∃vs,KV kvs vs/\s.heap.DictOf (mixKind X.prog X.w) p vs:=I.hok p _ hx;have hlen:kvs.length=vs.length:=Paired.length r;exact wpAny_truthy_dict hS m (by omega) ⟨H,I.tok _,by rw[x8l r];exact q⟩
 |_=>exact(show False from e).elim
theorem y2c(ha:PE X a ta)(he:∀whole,isTrue a X.env whole=(do let v <- whole;standAt a.pos;holding [v] (truthy v))):
  PT X a (fun σ H Q=>ta σ H fun x H'=>∃k,TruV X.K x H' k/\Q k H'):=by
 intro pins s σ H Q I h;exact isTrue_plain (thn (ha pins s σ H _ I h) fun v s1 ⟨x,H1,I1,r1,q1⟩=>y8i pins s1 σ H1 x v Q I1 r1 q1) (he _)
theorem op_add_str:OpR X (binaryOp .Add) (fun x y H Q=>∃i j,x=.str i/\y=.str j/\i.length+j.length<=sizeLine/\Q (.str (i++j)) H):=by
 intro pins s σ H x y v u Q I rx ry h;obtain⟨i,j,rfl,rfl,hz,q⟩:=h;obtain⟨t,rfl⟩:=rx;obtain⟨t',rfl⟩:=ry;exact add_str (fun t' tk=>⟨.str (i++j),H,I.tok _,⟨_,rfl⟩,q⟩) hz
theorem vals1{x:V}(r:Vals [x] us):∃u,us=[u]/\RelV x u:=by
 cases r with
 |cons r1 r2=>cases r2;exact⟨_,rfl,r1⟩
theorem vals2{x y:V}(r:Vals [x,y] us):∃u w',us=[u,w']/\RelV x u/\RelV y w':=by
 cases r with
 |cons r1 r2=>
  cases r2 with
  |cons r3 r4=>cases r4;exact⟨_,_,rfl,r1,r3⟩
theorem x9r:CallR X (.type "int") (fun xs H Q=>(∃i,xs=[.int i]/\Q (.int i) H)\/∃k,xs=[.bl k]/\Q (.int (if k then 1 else 0)) H):=by
 intro pins s σ H xs us Q I r h;rcases h with⟨i,rfl,q⟩|⟨k,rfl,q⟩
 ·obtain⟨u,rfl,t,rfl⟩:=vals1 r;exact call_int_int ⟨.int i,H,I,⟨_,rfl⟩,q⟩
 ·obtain⟨u,rfl,r1⟩:=vals1 r;cases r1;exact call_int_bool ⟨.int (if k then 1 else 0),H,I.tok _,⟨_,rfl⟩,q⟩
def LenV(K:PySem.W.Frag)(x:V)(H:Hp)(n:Nat):Prop:=
 match x with
 |.str y=>y.length<=sizeLine/\n=y.length
 |.byt y=>y.size<=sizeLine/\n=y.size
 |.ref p=>(∃xs,SqL K H p xs/\n=xs.length)\/∃xs,SqT K H p xs/\n=xs.length
 |_=>False
theorem y2d:CallR X (.builtin "len") (fun xs H Q=>∃x n,xs=[x]/\LenV X.K x H n/\Q (.int n) H):=by
 intro pins s σ H xs us Q I r h;obtain⟨x,n,rfl,e,q⟩:=h;obtain⟨u,rfl,rx⟩:=vals1 r;have hl:=line63;have hs:sizeLine=16777216:=sizeLine_eq;cases x with
 |str y=>
  obtain⟨t,rfl⟩:=rx;obtain⟨hy,e'⟩:y.length<=sizeLine/\n=y.length:=e;subst e';exact len_str (by omega) ⟨.int _,H,I.tok _,⟨_,rfl⟩,q⟩
 |byt y=>
  obtain⟨t,rfl⟩:=rx;obtain⟨hy,e'⟩:y.size<=sizeLine/\n=y.size:=e;subst e';exact PySem.W.len_bytes (by omega) ⟨.int _,H,I.tok _,⟨_,rfl⟩,q⟩
 |ref p=>
  cases rx;have e':(∃xs,SqL X.K H p xs/\n=xs.length)\/∃xs,SqT X.K H p xs/\n=xs.length:=e;rcases e' with⟨xs,hx,e'⟩|⟨xs,hx,e'⟩
  ·subst e';obtain⟨its,r',pl,hz⟩:=I.list hx;have hlen:=r'.length;exact Calls.call_len_list pl.isList (by simp only[w0d];omega) ⟨.int xs.length,H,I.tok _,⟨_,by simp only[w0d];rw[hlen]⟩,q⟩
  ·subst e';obtain⟨its,r',pl,hz⟩:=I.tuple hx;have hlen:=r'.length;exact len_tuple pl (by simp only[w0d];omega) ⟨.int xs.length,H,I.tok _,⟨_,by simp only[w0d];rw[hlen]⟩,q⟩
 |_=>exact(show False from e).elim
end
structure ObjM(h:Heap)(x dx C:Addr)(mA:Str->Option Value):Prop where
 obj:h.get? x=some (PySem.W.instObj C dx)
 ns:h.Ns1 dx mA
 ne:dx≠x
theorem RelO.some_of{v:V}{o:Option Value}(r:RelO (some v) o):∃u,o=some u/\RelV v u:=by
 cases o with
 |none=>exact(show False from r).elim
 |some u=>exact⟨u,rfl,r⟩
structure Cls(K:PySem.W.Frag)(C:Addr):Prop where
 pg:PySem.W.plainGet K C Str.empty=true
 hd:PySem.W.hasDictIn K C=true
 po:PySem.W.plainOver K C=true
 sa:findIn K (.ref C) "__setattr__"=some (some (.builtin "object.__setattr__"))
structure Con(K:PySem.W.Frag)(C:Addr)(f:Str)(v:V)(u:Value):Prop where
 at_:findIn K (.ref C) f=some (some u)
 rel:RelV v u
 get:specialIn K u "__get__"=some none
 cp:PySem.W.copiedNames.contains f=false
structure Meth(K:PySem.W.Frag)(C:Addr)(m:Str)(f:Addr):Prop where
 at_:findIn K (.ref C) m=some (some (.ref f))
 fn:PySem.W.isFn K (.ref f)=true
 kp:keepIn K (.ref f)=true
section
variable{Q:Value->Shared->Prop}{c:Value}{b:Bool}
inductive TyOf(K:PySem.W.Frag)(H:Hp):V->Value->Prop where
 |non:TyOf K H .non (.type "NoneType")
 |bl (x:Bool):TyOf K H (.bl x) (.type "bool")
 |int (i:Int):TyOf K H (.int i) (.type "int")
 |str (x:Str):TyOf K H (.str x) (.type "str")
 |flt (x:UInt64):TyOf K H (.flt x) (.type "float")
 |lst {a:Addr} {xs:List V} (e:H a=some (.lst xs)):TyOf K H (.ref a) (.type "list")
 |frz {a:Addr} {o:Obj} {xs:List V} (e:H a=some (.frz o (.lst xs))):TyOf K H (.ref a) (.type "list")
 |tup {a:Addr} {xs:List V} (e:H a=some (.tup xs)):TyOf K H (.ref a) (.type "tuple")
 |dK {a:Addr} {kvs:List (Key×V)} (e:H a=some (.dK kvs)):TyOf K H (.ref a) (.type "dict")
 |dT {a:Addr} {sh:Sh} {kvs:List (Kx×V)} {kas:List Addr} (e:H a=some (.dT sh kvs kas)):TyOf K H (.ref a) (.type "dict")
 |ins {a C dx:Addr} {fs:List (Str×V)} (e:H a=some (.ins C dx fs)) (cl:Cls K C) (ha:findIn K (.ref C) "__class__"=some (some (.builtin "object.__class__")))
   (hn:specialIn K (.builtin "object.__class__") "__get__"=some (some (.builtin "getset_descriptor.__get__"))) (htk:takesIn K (.builtin "object.__class__")=some true)
   (hm:PySem.W.mroIn K C (.type "object")=some true):TyOf K H (.ref a) (.ref C)
end
structure Room(k:Nat)(A:Around):Prop where
 hd:A.handled=none
 dp:A.depth+3*k+5<recursionLimit
 un:A.units+16*k+200<cLine
 gd:A.guards=some []
theorem Room.deeper{k:Nat}(r:Room (k+1) A)(env:Env):Room k (A.deeper env):=
 ⟨r.hd,by have:=r.dp;show A.depth+1+3*k+5<_;omega,by have:=r.un;show A.units+3+16*k+200<_;omega,r.gd⟩
theorem Room.depth{k:Nat}(r:Room k A):A.depth<recursionLimit:=by have:=r.dp;omega
def tNil:TA:=fun _ H Q=>Q [] H
def tCons(ta:TE)(tr:TA):TA:=fun σ H Q=>ta σ H fun x H1=>tr σ H1 fun xs H2=>Q (x::xs) H2
theorem x4n:PA X [] tNil:=fun _ _ _ _ H Q I h=>Calls.spliced_nil ⟨[],H,I,.nil,h⟩
theorem q9o(ha:PE X e te)(hr:PA X es t)(hs:starEach (e::es) X.env=(false,eval e X.env)::starEach es X.env:=by rfl):PA X (e::es) (tCons te t):=by
 intro pos pins s σ H Q I h;rw[hs];show wpAny _ _ (spliced ((false,eval e X.env)::backTo pos (starEach es X.env))) _ _ s;refine Calls.spliced_cons (thn (ha pins s σ H _ I h) fun u s1 ⟨x,H1,I1,r1,q1⟩=>?_)
 exact thn (hr pos pins s1 σ H1 _ I1 q1) fun us s2 ⟨xs,H2,I2,r2,q2⟩=>⟨x::xs,H2,I2,.cons r1 r2,q2⟩
def tTup(t:TA):TE:=fun σ H Q=>t σ H fun xs H1=>xs.length<=sizeLine/\∀p,H1 p=none->Q (.ref p) (upd H1 p (.tup xs))
def tLst(t:TA):TE:=fun σ H Q=>t σ H fun xs H1=>xs.length<=sizeLine/\∀p,H1 p=none->Q (.ref p) (upd H1 p (.lst xs))
theorem y8j{x1}(h:PA X es t):PE X (.Tuple es x1 pos) (tTup t):=by
 intro pins s σ H Q I hq;refine wpAny_Tuple_spliced (thn (h pos pins s σ H _ I hq) fun us s1 ⟨xs,H1,I1,r,z,q⟩=>⟨by rw[<- r.length];exact z,?_⟩)
 have hf:H1 s1.heap.objs.size=none:=I1.hok.fresh (w0e _);refine⟨.ref s1.heap.objs.size,upd H1 s1.heap.objs.size (.tup xs),I1.laid (t':=s1.toks) (fun b u e=>Heap.get?_push_of_some _ e) (w0e _) ?_,rfl,q _ hf⟩
 exact⟨z,us,r,⟨_,Heap.get?_push_size _ rfl,rfl,_,rfl⟩,⟨_,Heap.get?_push_size _ rfl,rfl⟩⟩
theorem y8k(h:PA X es t):PE X (.List es pos) (tLst t):=by
 intro pins s σ H Q I hq;refine wpAny_List_spliced (thn (h pos pins s σ H _ I hq) fun us s1 ⟨xs,H1,I1,r,z,q⟩=>⟨by rw[<- r.length];exact z,?_⟩)
 have hf:H1 s1.heap.objs.size=none:=I1.hok.fresh (w0e _);refine⟨.ref s1.heap.objs.size,upd H1 s1.heap.objs.size (.lst xs),I1.laid (t':=s1.toks) (fun b u e=>Heap.get?_push_of_some _ e) (w0e _) ?_,rfl,q _ hf⟩
 exact⟨z,us,0,r,Heap.get?_push_size _ rfl⟩
abbrev Sp:=List V->Hp->VK->XK->Prop
variable{sp:Sp}
abbrev CXT:=List Env->Hp->Shared->XK->Value->Shared->Prop
variable{CX:CXT}
structure Env0(P:Program)(w:World)(K:PySem.W.Frag)(mg:Str->Option Value)(base:Heap)(A:Around)(outer:List Env)(s:Shared)(H:Hp):Prop where
 frames:A.frames=some outer
 mod:Mod K mg base
 bs:∀b o,base.get? b=some o->s.heap.get? b=some o/\H b=none
 bsz:base.objs.size<=s.heap.objs.size
 funs:s.heap.FunFrames base outer
 frf:∀b∈frs outer,H b=none
 hok:HOk P w H s.heap
 bare:AllBare s.gens
 tab:TabOk K H
def CE(outer:List Env)(P:Program)(w:World)(H:Hp)(s:Shared)(Q:VK)(u:Value)(s':Shared):Prop:=
 ∃v H',s'.os=s.os/\AllBare s'.gens/\Un (frs outer) [] H H' s.heap s'.heap/\HOk P w H' s'.heap/\RelV v u/\Q v H'
def CR(CX:CXT)(outer:List Env)(P:Program)(w:World)(H:Hp)(s:Shared)(Q:VK)(E:XK)(r:Result)(s':Shared):Prop:=
 match r with
 |.ok (.ret u)=>CE outer P w H s Q u s'
 |.ok _=>False
 |.error e=>CX outer H s E e s'
structure FnOk(P:Program)(w:World)(K:PySem.W.Frag)(mg:Str->Option Value)(base:Heap)(CX:CXT)(k:Nat)(f:Addr)(fd:FuncData)(ps:List Str)(sp:Sp):Prop where
 len:∀vs H Q E,sp vs H Q E->vs.length=ps.length
 run:∀(A:Around)(outer:List Env)(s:Shared)(H:Hp)(args:Args)(us:List Value)(vs:List V)(Q:VK)(E:XK),Room k A->Env0 P w K mg base A outer s H->BindsTo s fd args (ps.zip us)->Vals vs us->sp vs H Q E ->
  codeAny (model P w) A (.call (.ref f) args) (CR CX outer P w H s Q E) s
theorem FnOk.imp{k:Nat}{f:Addr}{sp':Sp}(F:FnOk P w K mg base CX k f fd ps sp)
  (h:∀vs H Q E,sp' vs H Q E->sp vs H Q E):FnOk P w K mg base CX k f fd ps sp':=
 ⟨fun vs H Q E q=>F.len vs H Q E (h _ _ _ _ q),fun A outer s H args us vs Q E hr he hb hv hs=>F.run A outer s H args us vs Q E hr he hb hv (h _ _ _ _ hs)⟩
section
variable{s':Shared}
theorem Inv.env0(I:Inv X pins σ H s):Env0 X.prog X.w X.K X.mg X.base X.A X.stack s H:=
 ⟨I.ok.frames,I.ok.mod,I.bs,w0g I.ok.bsz I.sz,I.stack,I.stkFree,I.hok,I.bare,I.ok.tab.un I.base⟩
theorem Inv.after{Q:VK}(I:Inv X pins σ H s)(h:CE X.stack X.prog X.w H s Q u s'):EP X pins σ Q u s':=by
 obtain⟨v,H',os,bare,un,hok,r,q⟩:=h;obtain⟨hh,g,d,t,os'⟩:=s';obtain rfl:os'=s.os:=os;exact⟨v,H',I.call (h':=hh) (g':=g) (d':=d) (t':=t) (ch:=[]) un hok bare (fun b z=>absurd z (by simp)),r,q⟩
end
def Binds(K:PySem.W.Frag)(fd:FuncData)(ps:List Str)(ds:List Value):Prop:=
 ∀(s:Shared)(us:List Value),K.In s.heap->(us++ds).length=ps.length->BindsTo s fd ⟨us,[]⟩ (ps.zip (us++ds))
theorem Binds.all(h:∀us:List Value,us.length=ps.length->bindArgs fd ⟨us,[]⟩=pure (ps.zip us)):Binds K fd ps []:=fun s us _ hl=>by
 rw[w2q]at hl |-
 exact .of_eq (h us hl)
section
variable{k:Nat}{f:Addr}{dvs:List V}{ds:List Value}{E:XK}{m:Str}{apos:Pos}{o:Expr}
structure Mk(K:PySem.W.Frag)(C f:Addr):Prop where
 makes:PySem.W.makesIn K C=true
 init:findIn K (.ref C) "__init__"=some (some (.ref f))
 fn:PySem.W.isFn K (.ref f)=true
 kp:keepIn K (.ref C)=true
end
section
variable{k:Nat}{f:Addr}{ks:List Str}{E:XK}{m:Str}{apos kpos:Pos}{o:Expr}{kws:List Keyword}{tk:TA}{nm:Option Str}
structure KBinds(K:PySem.W.Frag)(fd:FuncData)(ps ks:List Str)(g:List Value->List Value->List Value)(gV:List V->List V->List V):Prop where
 to:∀(s:Shared)(us ws:List Value),K.In s.heap->(g us ws).length=ps.length->BindsTo s fd ⟨us,ks.zip ws⟩ (ps.zip (g us ws))
 rel:∀{vs:List V}{us:List Value}{zs:List V}{ws:List Value},Vals vs us->Vals zs ws->Vals (gV vs zs) (g us ws)
variable{g:List Value->List Value->List Value}{gV:List V->List V->List V}
end
structure FnScope(N P:List Str)(sc:Scope):Prop where
 kind:sc.kind=.function
 co:sc.isCoroutine=false
 gen:sc.isGenerator=false
 nd:N.Nodup
 pre:N.take P.length=P
 par:∀x∈P,sc.names.lookup x=some .local\/sc.names.lookup x=some .cell
 nofree:∀y∈sc.names,y.2≠.free
theorem x2z{kindOf:Str->Option NameKind}:∀{binds:List (Str×Value)}{m:Str->Option Value},(∀v,(x,v)∉binds)->bindL kindOf binds m x=m x
 |[],_,_=>rfl
 |(n,v)::r,m,h=>by
  unfold bindL;rw[x2z fun w hw=>h w (w0z _ hw)]
  split
  ·have:x≠n:=by rintro rfl;exact h v w1h
   simp[this]
  ·rfl
theorem x20{kindOf:Str->Option NameKind}:∀{binds:List (Str×Value)}{m:Str->Option Value},(∀v,(x,v)∉binds)->bindC kindOf binds m x=m x
 |[],_,_=>rfl
 |(n,v)::r,m,h=>by
  unfold bindC;rw[x20 fun w hw=>h w (w0z _ hw)]
  split
  ·rfl
  ·have:x≠n:=by rintro rfl;exact h v w1h
   simp[this]
theorem x21{kindOf:Str->Option NameKind}{x:Str}{v:Value}:∀{P:List Str}{vs:List Value}{i:Nat}{m:Str->Option Value},P.Nodup->P[i]?=some x->vs[i]?=some v->kindOf x=some .local ->
  bindL kindOf (P.zip vs) m x=some v
 |[],_,_,_,_,h,_,_=>by simp at h
 |_::_,[],_,_,_,_,h,_=>by simp at h
 |p::P,w::vs,0,m,nd,h1,h2,hk=>by
  simp at h1 h2;subst h1;subst h2;show bindL kindOf ((p,w)::P.zip vs) m p=_;unfold bindL;rw[x2z fun v hv=>(w3g.mp nd).1 (w4a hv).1,if_pos hk]
  simp
 |p::P,w::vs,i+1,m,nd,h1,h2,hk=>by
  show bindL kindOf ((p,w)::P.zip vs) m x=_;unfold bindL;exact x21 (i:=i) (w3g.mp nd).2 (by simpa using h1) (by simpa using h2) hk
theorem x22{kindOf:Str->Option NameKind}{x:Str}{v:Value}:∀{P:List Str}{vs:List Value}{i:Nat}{m:Str->Option Value},P.Nodup->P[i]?=some x->vs[i]?=some v->kindOf x≠some .local ->
  bindC kindOf (P.zip vs) m x=some v
 |[],_,_,_,_,h,_,_=>by simp at h
 |_::_,[],_,_,_,_,h,_=>by simp at h
 |p::P,w::vs,0,m,nd,h1,h2,hk=>by
  simp at h1 h2;subst h1;subst h2;show bindC kindOf ((p,w)::P.zip vs) m p=_;unfold bindC;rw[x20 fun v hv=>(w3g.mp nd).1 (w4a hv).1,if_neg hk]
  simp
 |p::P,w::vs,i+1,m,nd,h1,h2,hk=>by
  show bindC kindOf ((p,w)::P.zip vs) m x=_;unfold bindC;exact x22 (i:=i) (w3g.mp nd).2 (by simpa using h1) (by simpa using h2) hk
noncomputable def start(N:List Str)(vs:List V):St:=vs.map some++List.replicate (N.length-vs.length) none
noncomputable def cxOf(CX:CXT)(P:Program)(w:World)(K:PySem.W.Frag)(mg:Str->Option Value)(base:Heap)(N:List Str)(qual:Str)(scope:Scope)(f:Addr)(cd:Value)(A:Around)(outer:List Env)(s:Shared)(H:Hp)(E:XK):Cx where
 prog:=P
 w:=w
 K:=K
 mg:=mg
 base:=base
 A:=A.deeper (envOfC qual scope s.heap.objs.size f cd)
 N:=N
 s₀:=s
 H₀:=H
 env:=envOfC qual scope s.heap.objs.size f cd
 outer:=outer
 stack:=envOfC qual scope s.heap.objs.size f cd::outer
 ex:=[]
 calm:=true
 fn:=fun _=>true
 pn:=[]
 xe:=fun e s'=>wpAny (model P w) (A.deeper (envOfC qual scope s.heap.objs.size f cd)) (leaving (envOfC qual scope s.heap.objs.size f cd) e) (fun _ s''=>CX outer H s E e s'') (fun e' s''=>CX outer H s E e' s'') s'
theorem x4o{sc:Scope}{n:Nat}(h:sc.names.lookup x=some .cell):∃c,(cellsFrom n sc.names []).lookup x=some c:=by
 have q:=PySem.W.cellsFrom_some sc.names n [] (.inl h);exact w3q.mp q
theorem x9s{qual:Str}{scope:Scope}{f:Addr}{cd:Value}{outer:List Env}{s1:Shared}{E:XK}{vs:List V}
  (S:FnScope N ps scope)(hd:A.handled=none)(e0:Env0 P w K mg base A outer s H)(hl:vs.length=ps.length)(r:Vals vs us)
  (x:InCallC s s.heap.objs.size (bindL (envOfC qual scope s.heap.objs.size f cd).kindOf (ps.zip us) fun _=>none) (cellsFrom (s.heap.objs.size+1) scope.names []) (bindC (envOfC qual scope s.heap.objs.size f cd).kindOf (ps.zip us) fun _=>none) s1):
  Inv (cxOf CX P w K mg base N qual scope f cd A outer s H E) [] (start N vs) H s1:=by
 have hpl:ps.length<=N.length:=by have:=congrArg List.length S.pre;rw[w2i]at this;omega
 obtain⟨h1,tk,rfl,hk⟩:=x.done;have noA:∀b:Addr,b∉(cxOf CX P w K mg base N qual scope f cd A outer s H E).ex:=fun b z=>absurd (show b∈([]:List Addr)from z) (by simp)
 refine⟨⟨e0.mod,S.kind,rfl,rfl,w0e _,fun y z c h1 h2=>?_,fun y hy=>?_,fun y c _ h=>?_,fun _=>hd,Around.frames_deeper e0.frames,.inr ⟨rfl,rfl⟩,fun b z=>absurd z (noA b),e0.bs,e0.bsz,fun b _ _=>noA b,fun b z=>absurd z (noA b),e0.funs,e0.frf,e0.tab⟩,
  rfl,e0.bare,Un.kept hk,⟨_,x.toInCall.ns,fun i y v h1 h2 h3=>?_⟩,fun y c h=>⟨_,x.cell y c h⟩,e0.hok.fresh (w0e _),fun y c h=>?_,fun p hp=>absurd (show p∈([]:List (Addr×Obj))from hp) (by simp),e0.hok.kept hk,?_⟩
 ·exact name_of_addr x.apart (PySem.mem_of_lookup h1) (PySem.mem_of_lookup h2)
 ·have hy:scope.names.lookup y=some .cell\/scope.names.lookup y=some .free:=hy;rcases hy with hy|hy
  ·exact x4o hy
  ·exact absurd rfl (S.nofree _ (PySem.mem_of_lookup hy))
 ·exact w4o (x.above y c (PySem.mem_of_lookup h))
 ·have hi:i<vs.length:=by
   unfold start at h2
   by_cases hi:i<vs.length
   ·exact hi
   ·rw[w2m (by simpa using hi)]at h2;rw[w1r]at h2;split at h2<;>cases h2
  have ha:vs[i]?=some v:=by
   unfold start at h2;rw[w2n (by simpa using hi),w0v]at h2;cases e:vs[i]? with
   |none=>rw[e]at h2;cases h2
   |some a=>rw[e]at h2;cases h2;rfl
  obtain⟨u,hu,rv⟩:=r.get ha
  have hp:ps[i]?=some y:=by
   rw[<- S.pre,List.getElem?_take_of_lt (by omega)];exact h1
  have ndP:ps.Nodup:=by rw[<- S.pre];exact S.nd.sublist (List.take_sublist _ _)
  refine⟨u,rv,?_⟩;rcases S.par y (w1f hp)with k|k
  ·exact .inl ⟨k,x21 ndP hp hu k⟩
  ·obtain⟨c,e⟩:=x4o (n:=s.heap.objs.size+1) k;refine .inr ⟨.inl k,c,e,?_⟩;have q:=x.cell y c e;rw[x22 ndP hp hu (by show scope.names.lookup y≠_;rw[k];decide)]at q;exact q
 ·exact e0.hok.fresh (w4o (x.above y c (PySem.mem_of_lookup h)))
 ·unfold start;show _=N.length;rw[w0i,w0a,w2y];omega
theorem z1r{k:Nat}{f:Addr}{name qual:Str}{params:Arguments}{body:List Stmt}{scope:Scope}{dV kV doc pm cdv ct oc:Value}{an od:Option Addr}
  {osl:Array (Option Value)}(lk:K.lookup f=some ⟨oc,od,.func (PySem.W.fnOf name qual params body scope dV kV doc pm an cdv ct),osl⟩)(hcd:PySem.W.codeIn K cdv qual=true)(S:FnScope N ps scope)
  (len:∀vs H Q E,sp vs H Q E->vs.length=ps.length)
  (hbody:∀(A:Around)(outer:List Env)(s:Shared)(H:Hp)(vs:List V)(Q:VK)(E:XK),Room k (A.deeper (envOfC qual scope s.heap.objs.size f cdv))->sp vs H Q E ->
   ∃t,PSs (cxOf CX P w K mg base N qual scope f cdv A outer s H E) body t/\t {nx:=fun _ H'=>Q .non H',rt:=Q} (start N vs) H):
  FnOk P w K mg base CX (k+1) f (PySem.W.fnOf name qual params body scope dV kV doc pm an cdv ct) ps sp:=by
 refine⟨len,fun A outer s H args us vs Q E hr e0 hb r hsp=>?_⟩
 have hl:=len _ _ _ _ hsp;have KX:K.In s.heap:=e0.mod.kin.keeps fun b o e=>(e0.bs b o e).1
 have lim:s.heap.NoLimit:=e0.mod.nolimit.keeps fun b o e=>(e0.bs b o e).1
 have hkind:∀y∈ps.zip us,scope.names.lookup y.1=some .local\/(scope.names.lookup y.1=some .cell/\((cellsFrom (s.heap.objs.size+1) scope.names []).lookup y.1).isSome=true):=fun⟨n,v⟩ hy=>by
  rcases S.par n (w4a hy).1 with q|q
  ·exact .inl q
  ·exact .inr ⟨q,PySem.W.cellsFrom_some _ _ _ (.inl q)⟩
 refine codeAny_call_function hr.depth (KX _ _ lk) rfl S.co S.gen rfl (PySem.W.codeRec_of KX hcd) (hb _ _ _ _ ?_)
 refine wpAny_newFunctionEnv_cells S.kind hkind fun env he s1 x=>?_
 subst he;refine⟨lim.keeps x.toInCall.keep,codeAny_func ?_⟩
 obtain⟨t,ht,hq⟩:=hbody A outer s H vs Q E (hr.deeper _) hsp;have I:Inv (cxOf CX P w K mg base N qual scope f cdv A outer s H E) [] (start N vs) H s1:=x9s S hr.hd e0 hl r x;refine wpAny_mono (ht [] s1 (start N vs) H _ I hq) (fun fl s' hs=>?_) fun e s' hs=>hs
 have fin:∀{σ':St}{H':Hp}{v:V}{u:Value},Inv (cxOf CX P w K mg base N qual scope f cdv A outer s H E) [] σ' H' s'->RelV v u->Q v H'->CE outer P w H s Q u s':=
  fun {σ' H' v u} J rv q=>⟨v,H',J.os,J.bare,J.base,J.hok,rv,q⟩
 cases fl with
 |ret u=>
  obtain⟨v,σ',H',J,rv,q⟩:=hs;exact fin J rv q
 |next=>
  obtain⟨σ',H',J,q⟩:=hs;exact fin (v:=V.non) (u:=Value.none) J rfl q
 |brk=>
  obtain⟨_,_,_,q⟩:=hs;exact False.elim q
 |cont=>
  obtain⟨_,_,_,q⟩:=hs;exact False.elim q
section
variable{id T:String}{r:List V->Hp->VK->Prop}
def tCB(r:List V->Hp->VK->Prop)(t:TA):TE:=fun σ H Q=>t σ H fun vs H1=>r vs H1 Q
theorem x4p(hc:CallR X (.builtin id) r)(hg:Gl X x)(hm:X.mg x=none)(hv:bootBuiltins x=some (.builtin id))(ha:PA X (e::es) t)(hn:x≠"__name__":=by decide)(hdb:(x==("__debug__":Str))=false:=by decide)
  (he:starEach (e::es) X.env=(false,eval e X.env)::starEach es X.env:=by rfl)(hpl:(backTo pos (starEach es X.env)).any (·.1)=false:=by rfl):PE X (.Call (.Name x p) (e::es) [] pos) (tCB r t):=by
 intro pins s σ H Q I h;refine wpAny_Call_Name_kw (q5s I hg hm hv ?_ hn hdb);exact PyProof.Rows.callWith_builtin1 (thn (ha pos pins s σ H _ I h) fun us s1 ⟨vs,H1,I1,r1,q1⟩=>hc pins s1 σ H1 vs us Q I1 r1 q1) he hpl
theorem q8u(hc:CallR X (.type T) r)(hg:Gl X x)(hm:X.mg x=none)(hv:bootBuiltins x=some (.type T))(ha:PA X (e::es) t)(hn:x≠"__name__":=by decide)(hdb:(x==("__debug__":Str))=false:=by decide)
  (he:starEach (e::es) X.env=(false,eval e X.env)::starEach es X.env:=by rfl)(hpl:(backTo pos (starEach es X.env)).any (·.1)=false:=by rfl):PE X (.Call (.Name x p) (e::es) [] pos) (tCB r t):=by
 intro pins s σ H Q I h;refine wpAny_Call_Name_kw (q5s I hg hm hv ?_ hn hdb);exact PyProof.Rows.callWith_type1 (thn (ha pos pins s σ H _ I h) fun us s1 ⟨vs,H1,I1,r1,q1⟩=>hc pins s1 σ H1 vs us Q I1 r1 q1) he hpl
end
end L2
namespace HT
open PySem PyProof.Rows
section
variable{prog:Program}{w:World}{A:Around}{E:Value->Shared->Prop}{s:Shared}
theorem cat_tup{t b:Addr}{vs ws:List Value}{Q:Value->Shared->Prop}(ht:IsTup s.heap t vs.toArray)(hb:IsTup s.heap b ws.toArray)(hv:vs≠[])
  (h1:ws=[]->Q (.ref t) s)(h2:ws≠[]->Q (.ref s.heap.objs.size) {s with heap:=s.heap.push {cls:=.type "tuple", data:=.seq (vs++ws).toArray}})
  (hsz:vs.length+ws.length<=sizeLine):wpAny (model prog w) A (binaryOp .Add (.ref t) (.ref b)) Q E s:=by
 obtain⟨⟨cls,dd,data,sl⟩,ho,hc,n,hd⟩:=id ht;obtain⟨⟨cls2,dd2,data2,sl2⟩,ho2,hc2,n2,hd2⟩:=id hb;simp only at hc hd hc2 hd2;subst hc hd hc2 hd2;have e:vs.toArray++ws.toArray=(vs++ws).toArray:=by simp
 by_cases hw:ws=[]
 ·exact concat_meets ⟨_,ho,rfl⟩ ⟨_,ho2,rfl⟩ noFill_tuple_add seq_tuple_add PySem.F.slot_tuple_add PySem.F.entry_tuple_add (PySem.F.args_tuple_add_2 _ _)
   (tuple_addW1 t b vs.toArray ws.toArray n n2 dd dd2 sl sl2 (by simpa using hv) (by simp[hw])) ⟨ho,ho2,h1 hw⟩
 ·refine concat_meets ⟨_,ho,rfl⟩ ⟨_,ho2,rfl⟩ noFill_tuple_add seq_tuple_add PySem.F.slot_tuple_add PySem.F.entry_tuple_add (PySem.F.args_tuple_add_2 _ _)
   (tuple_addW2 t b vs.toArray ws.toArray n n2 dd dd2 sl sl2 (by simpa using hv) (by simpa using hw) (by rw[w0d,w0d];exact hsz)) ⟨ho,ho2,?_⟩
  rw[e];exact h2 hw
noncomputable def sIx(n d:Nat):Option Int->Nat
 |none=>d
 |some v=>if v<0 then(v+(n:Int)).toNat else min v.toNat n
theorem sIx_none(n d:Nat):sIx n d none=d:=rfl
theorem sIx_nat(n d k:Nat):sIx n d (some (k:Int))=min k n:=by
 show(if(k:Int)<0 then((k:Int)+(n:Int)).toNat else min (k:Int).toNat n)=min k n;rw[if_neg (by omega),w1k]
theorem y8l(n d:Nat)(hd:d<=n)(o:Option Int):sIx n d o<=n:=by
 cases o with
 |none=>exact hd
 |some v=>
  show(if v<0 then(v+(n:Int)).toNat else min v.toNat n)<=n
  by_cases hv:v<0
  ·rw[if_pos hv];omega
  ·rw[if_neg hv];exact w3v _ _
theorem x7q(v:Int)(n d:Nat):(if v<0 then max (v+(n:Int)) 0 else min v (n:Int))=((sIx n d (some v):Nat):Int):=by
 show(if v<0 then max (v+(n:Int)) 0 else min v (n:Int))=(((if v<0 then(v+(n:Int)).toNat else min v.toNat n):Nat):Int)
 by_cases hv:v<0
 ·simp only[if_pos hv];omega
 ·simp only[if_neg hv];omega
theorem x8m(lo hi:Option Int)(n:Nat):Builtin.Slice.sliceAdjust lo hi 1 (n:Int)=(((sIx n 0 lo:Nat):Int),((sIx n n hi:Nat):Int)):=by
 have h1:¬((1:Int)<0):=by omega
 unfold Builtin.Slice.sliceAdjust;simp only[h1,if_false];refine Prod.ext ?_ ?_
 ·cases lo with
  |none=>rfl
  |some v=>exact x7q v n 0
 ·cases hi with
  |none=>rfl
  |some v=>exact x7q v n n
theorem x8n(i j:Nat):Builtin.Slice.slicePlaces (i:Int) (j:Int) 1=j-i:=by
 unfold Builtin.Slice.slicePlaces;have h1:(1:Int)>0:=by omega
 simp only[h1,if_true,Int.ediv_one];split<;>omega
theorem x0x{v:Value}{o:Option Int}{Q:Option Int->Shared->Prop}(p:IsPart v o)(h:Q o s):wpAny (model prog w) A (Builtin.Slice.slicePartIndex v) Q E s:=by
 cases p with
 |none=>exact slicePart_none h
 |int i t=>exact slicePart_int h
theorem q6g{sl:Addr}{vl vu:Value}{lo hi:Option Int}{n:Nat}{Q:Int×Int×Nat->Shared->Prop}(hs:s.heap.IsSliceOf sl vl vu .none)(pl:IsPart vl lo)(pu:IsPart vu hi)
  (h:Q (((sIx n 0 lo:Nat):Int),1,sIx n n hi-sIx n 0 lo) s):wpAny (model prog w) A (Builtin.Slice.sliceApplied (.ref sl) (pure (n:Int))) Q E s:=by
 obtain⟨os,hos,hcs,hds⟩:=id hs;unfold Builtin.Slice.sliceApplied Builtin.Slice.sliceFields;refine wpAny_bind (wpAny_bind (wpAny_field hos hds (x:=vl) rfl (wpAny_bind (wpAny_field hos hds (x:=vu) rfl (wpAny_bind (wpAny_field hos hds (x:=.none) rfl (wpAny_pure ?_)))))));refine wpAny_bind (slicePart_none ?_);show wpAny _ _ (if((1:Int)==0)=true then _ else _) _ _ s;rw[if_neg (by decide)];refine wpAny_bind (x0x pl (wpAny_bind (x0x pu (wpAny_bind (wpAny_pure ?_)))));show wpAny _ _ (match Builtin.Slice.sliceAdjust lo hi 1 (n:Int)with|(lo,hi)=>pure (lo,(1:Int),Builtin.Slice.slicePlaces lo hi 1)) _ _ s;rw[x8m lo hi n];show wpAny _ _ (pure (((sIx n 0 lo:Nat):Int),(1:Int),Builtin.Slice.slicePlaces ((sIx n 0 lo:Nat):Int) ((sIx n n hi:Nat):Int) 1)) _ _ s;rw[x8n];exact wpAny_pure h
theorem y2e(xs:Array Value)(i k:Nat):((List.range k).filterMap fun(m:Nat)=>xs[((i:Int)+(m:Int)*1).toNat]?).toArray=((xs.toList.drop i).take k).toArray:=by
 have e:(fun(m:Nat)=>xs[((i:Int)+(m:Int)*1).toNat]?)=fun m=>xs[i+m]?:=by
  funext m
  have:((i:Int)+(m:Int)*1).toNat=i+m:=by omega
  rw[this]
 rw[e];have:=pick_run xs i k;rw[List.filterMap_map]at this;have e2:((fun x=>xs[x]?) ∘ fun x=>i+x)=fun m=>xs[i+m]?:=rfl
 rw[e2]at this;rw[this]
theorem getItem_tuple_cut{t sl:Addr}{items:Array Value}{vl vu:Value}{lo hi:Option Int}{Q:Value->Shared->Prop}(ht:IsTup s.heap t items)(hs:s.heap.IsSliceOf sl vl vu .none)(pl:IsPart vl lo)(pu:IsPart vu hi)
  (hw:¬(sIx items.size 0 lo=0/\sIx items.size items.size hi=items.size))
  (h:Q (.ref s.heap.objs.size) {s with heap:=s.heap.push {cls:=.type "tuple", data:=.seq ((items.toList.drop (sIx items.size 0 lo)).take (sIx items.size items.size hi-sIx items.size 0 lo)).toArray}})
  (hsz:items.size<=sizeLine):wpAny (model prog w) A (getItem (.ref t) (.ref sl)) Q E s:=by
 have htake:sizeOk (.seq ((items.toList.drop (sIx items.size 0 lo)).take (sIx items.size items.size hi-sIx items.size 0 lo)).toArray):=by
  show((items.toList.drop (sIx items.size 0 lo)).take (sIx items.size items.size hi-sIx items.size 0 lo)).toArray.size<=sizeLine;rw[w0d,w2i,w3c,w3f];exact w0g (w3v _ _) (w0g (Nat.sub_le _ _) hsz)
 have hj:sIx items.size items.size hi<=items.size:=y8l _ _ (w0e _) hi;obtain⟨os,hos,hcs,hds⟩:=id hs;have hTs:s.TypeIs (.ref sl) "slice":=⟨os,hos,hcs⟩;unfold getItem;try with_reducible refine wpAny_holding ?_
 first|refine wpAny_bind (wpAny_pure ?_)|skip
 refine wpAny_bind (wpAny_sequenceKey ht.typeIs (by decide) ?_)
 refine wpAny_bind (wpAny_callSpecial?_slot (name:=Str.ofString "__getitem__") ht.typeIs PyProof.Rows.slot_tuple_getitem
  (wpAny_call_entry PyProof.Rows.slot_tuple_getitem ht.typeIs entry_tuple_getitem ?_ (args_tuple_getitem _ _)))
 show wpAny _ _ (Builtin.Tuple.tupleItemsOf (.ref t) >>= _) _ _ s;refine wpAny_bind (tupleItemsOf_ ht ?_);refine wpAny_bind (wpAny_typeOf hTs ?_);rw[if_pos (by decide)];refine wpAny_bind (q6g hs pl pu ?_)
 have hno:¬((((sIx items.size 0 lo:Nat):Int)==0&&(1:Int)==1&&(sIx items.size items.size hi-sIx items.size 0 lo)==items.size)=true):=by
  intro q;rw[w0r,w0r]at q;have q1:((sIx items.size 0 lo:Nat):Int)=0:=eq_of_beq q.1.1;have q2:sIx items.size items.size hi-sIx items.size 0 lo=items.size:=eq_of_beq q.2;exact hw ⟨by omega,by omega⟩
 show wpAny _ _ (if(((sIx items.size 0 lo:Nat):Int)==0&&(1:Int)==1&&(sIx items.size items.size hi-sIx items.size 0 lo)==items.size)=true then _ else _) _ _ s;rw[if_neg hno,y2e]
 first
  |exact wpAny_bind (m:=Builtin.Tuple.tupleExact _) (wpAny_newObj_type (wpAny_pure ⟨_,rfl,wpAny_pure h⟩) htake)
  |exact wpAny_bind (m:=Builtin.Tuple.tupleExact _) (wpAny_newObj_type (wpAny_bind (wpAny_pure (wpAny_pure ⟨_,rfl,wpAny_pure h⟩))) htake)
  |exact wpAny_bind (wpAny_bind (m:=Builtin.Tuple.tupleExact _) (wpAny_newObj_type (wpAny_pure (wpAny_pure ⟨_,rfl,wpAny_pure h⟩)) htake))
  |exact wpAny_bind (wpAny_bind (m:=Builtin.Tuple.tupleExact _) (wpAny_newObj_type (wpAny_pure ⟨_,rfl,wpAny_pure h⟩) htake))
end
end HT
namespace L2
open PySem PySem.Spec PyProof.Rows
variable{A:Around}{X:Cx}{xs:List V}{us:List Value}{n:Nat}{s:Shared}{α:Type}{x:V}{v:Value}
abbrev TO:=St->Hp->(Option Int->Hp->Prop)->Prop
def PO(X:Cx)(e:Option Expr)(t:TO):Prop:=
 ∀(pins:List (Addr×Obj))(s:Shared)(σ:St)(H:Hp)(Q:Option Int->Hp->Prop),Inv X pins σ H s->t σ H Q ->
  wpAny (model X.prog X.w) X.A (evalPart e X.env) (fun u s'=>∃o H',Inv X pins σ H' s'/\IsPart u o/\Q o H') X.xe s
def tNoPart:TO:=fun _ H Q=>Q none H
def tPart(t:TE):TO:=fun σ H Q=>t σ H fun x H1=>∃i,x=.int i/\Q (some i) H1
section
variable{e:Expr}{te:TE}{lo hi:Option Expr}{tl th:TO}{pos p2:Pos}
theorem y44:PO X none tNoPart:=by
 intro pins s σ H Q I h;rw[evalPart_none];exact wpAny_pure ⟨none,H,I,.none,h⟩
theorem y45(h:PE X e te):PO X (some e) (tPart te):=by
 intro pins s σ H Q I hw;rw[evalPart_some];refine thn (h pins s σ H _ I hw) fun u s1 ⟨x,H1,I1,r1,q1⟩=>?_
 obtain⟨i,rfl,q⟩:=q1;obtain⟨t,rfl⟩:=r1;exact⟨some i,H1,I1,.int i t,q⟩
def SlR(X:Cx)(r:V->Option Int->Option Int->Hp->VK->Prop):Prop:=
 ∀(pins:List (Addr×Obj))(s:Shared)(σ:St)(H:Hp)(x:V)(v vl vu:Value)(lo hi:Option Int)(sl:Addr)(Q:VK),Inv X pins σ H s->RelV x v->s.heap.IsSliceOf sl vl vu .none->IsPart vl lo->IsPart vu hi->r x lo hi H Q ->
  ∃T id,typeLookup (.type T) "__getitem__"=pure (some (.builtin id))/\s.TypeIs v T/\wpAny (model X.prog X.w) X.A (getItem v (.ref sl)) (EP X pins σ Q) X.xe s
theorem SlR.or{r r':V->Option Int->Option Int->Hp->VK->Prop}(h:SlR X r)(h':SlR X r'):SlR X (fun x lo hi H Q=>r x lo hi H Q\/r' x lo hi H Q):=by
 intro pins s σ H x v vl vu lo hi sl Q I rx hs pl pu q;rcases q with q|q
 ·exact h pins s σ H x v vl vu lo hi sl Q I rx hs pl pu q
 ·exact h' pins s σ H x v vl vu lo hi sl Q I rx hs pl pu q
def tSl(r:V->Option Int->Option Int->Hp->VK->Prop)(te:TE)(tl th:TO):TE:=fun σ H Q=>te σ H fun x H1=>tl σ H1 fun l H2=>th σ H2 fun u H3=>r x l u H3 Q
theorem x4q{r:V->Option Int->Option Int->Hp->VK->Prop}(hr:SlR X r)(he:PE X e te)(hl:PO X lo tl)(hu:PO X hi th):PE X (.Subscript e (.Slice lo hi none p2) pos) (tSl r te tl th):=by
 intro pins s σ H Q I h;refine Subscript_ (thn (he pins s σ H _ I h) fun v s1 ⟨x,H1,I1,r1,q1⟩=>?_)
 refine wpAny_Slice (thn (hl pins s1 σ H1 _ I1 q1) fun vl s2 ⟨l,H2,I2,pl,q2⟩=>thn (hu pins s2 σ H2 _ I2 q2) fun vu s3 ⟨u,H3,I3,pu,q3⟩=>?_)
 rw[evalPart_none];refine wpAny_pure ?_;have I4:Inv X pins σ H3 {s3 with heap:=s3.heap.push {cls:=.type "slice", data:=.fields #[vl,vu,.none]}}:=I3.kept (t':=s3.toks) fun b ob q=>Heap.get?_push_of_some _ q
 obtain⟨T,id,hT,ht,hg⟩:=hr pins {s3 with heap:=s3.heap.push {cls:=.type "slice", data:=.fields #[vl,vu,.none]}} σ H3 x v vl vu l u s3.heap.objs.size Q I4 r1 (Heap.IsSliceOf.new ..) pl pu q3;show wpAny (model X.prog X.w) X.A (subscriptTail e (.Slice lo hi none p2) v (.ref s3.heap.objs.size)) (EP X pins σ Q) X.xe {s3 with heap:=s3.heap.push {cls:=.type "slice", data:=.fields #[vl,vu,.none]}};exact tail_any (ops:=[.ref s3.heap.objs.size,v]) ht hT hg (by with_unfolding_all rfl)
noncomputable def cutV(xs:List V)(lo hi:Option Int):List V:=(xs.drop (HT.sIx xs.length 0 lo)).take (HT.sIx xs.length xs.length hi-HT.sIx xs.length 0 lo)
theorem q9t(xs:List V)(lo hi:Option Int):(cutV xs lo hi).length<=xs.length:=by
 unfold cutV;rw[w2i,w3c];exact w0g (w3v _ _) (Nat.sub_le _ _)
def rSlT(K:PySem.W.Frag):V->Option Int->Option Int->Hp->VK->Prop:=fun x lo hi H Q=>∃a xs,x=.ref a/\SqT K H a xs /\
 ¬(HT.sIx xs.length 0 lo=0/\HT.sIx xs.length xs.length hi=xs.length)/\∀p,H p=none->Q (.ref p) (upd H p (.tup (cutV xs lo hi)))
theorem x9t:SlR X (rSlT X.K):=by
 intro pins s σ H x v vl vu lo hi sl Q I rx hs pl pu h;obtain⟨a,xs,rfl,hx,hw,q⟩:=h;cases rx;obtain⟨its,r,ht,hz⟩:=I.tuple hx;have hlen:its.toArray.size=xs.length:=by rw[w0d];exact r.length.symm
 refine⟨"tuple", _,PyProof.Rows.slot_tuple_getitem.lookup,ht.typeIs,?_⟩;refine HT.getItem_tuple_cut ht hs pl pu (by rw[hlen];exact hw) ?_ (by rw[hlen];exact hz);rw[hlen];refine⟨.ref s.heap.objs.size,_,I.laid (t':=s.toks) (o:=.tup (cutV xs lo hi)) (fun b ob q=>Heap.get?_push_of_some _ q) (w0e _) ?_,rfl,q _ (I.hok.fresh (w0e _))⟩
 exact⟨w0g (q9t xs lo hi) hz,_,(r.drop (HT.sIx xs.length 0 lo)).take (HT.sIx xs.length xs.length hi-HT.sIx xs.length 0 lo),IsTup.new _ _,_,Heap.get?_push_size _ rfl,rfl⟩
def rCatT(K:PySem.W.Frag):R2:=fun x y H Q=>∃a b xs ys,x=.ref a/\y=.ref b/\SqT K H a xs/\SqT K H b ys/\xs≠[]/\xs.length+ys.length<=sizeLine /\
 (ys=[]->Q (.ref a) H)/\(ys≠[]->∀p,H p=none->Q (.ref p) (upd H p (.tup (xs++ys))))
theorem Vals.nil_iff(r:Vals xs us):us=[]↔xs=[]:=by
 cases r with
 |nil=>simp
 |cons _ _=>simp
theorem op_catT:OpR X (binaryOp .Add) (rCatT X.K):=by
 intro pins s σ H x y v u Q I rx ry h;obtain⟨a,b,xs,ys,rfl,rfl,ha,hb,hx,hz,q1,q2⟩:=h;cases rx;cases ry;obtain⟨its,r1,p1,_⟩:=I.tuple ha;obtain⟨its2,r2,p2,_⟩:=I.tuple hb;refine HT.cat_tup p1 p2 (fun z=>hx (r1.nil_iff.mp z)) (fun z=>⟨.ref a,H,I,rfl,q1 (r2.nil_iff.mp z)⟩) (fun z=>?_) (by rw[<- r1.length,<- r2.length];exact hz)
 refine⟨.ref s.heap.objs.size,_,I.laid (t':=s.toks) (o:=.tup (xs++ys)) (fun b ob q=>Heap.get?_push_of_some _ q) (w0e _) ?_,rfl,q2 (fun w=>z (r2.nil_iff.mpr w)) _ (I.hok.fresh (w0e _))⟩
 exact⟨by rw[w0i];exact hz,_,r1.append r2,IsTup.new _ _,_,Heap.get?_push_size _ rfl,rfl⟩
end
noncomputable def ixN(n:Nat)(i:Int):Option Nat:=if 0<=i then(if i<n then some i.toNat else none)else if -(n:Int)<=i then some (i+n).toNat else none
noncomputable def atI(xs:List α)(i:Int):Option α:=(ixN xs.length i).bind fun j=>xs[j]?
theorem y46{i:Int}{j:Nat}(h:ixN n i=some j):seqIndex? i n=some j/\j<n/\-(n:Int)<=i/\i<n:=by
 unfold ixN at h
 by_cases h0:0<=i
 ·rw[if_pos h0]at h
  by_cases h1:i<n
  ·rw[if_pos h1]at h;have e:i.toNat=j:=Option.some.inj h;exact⟨by rw[seqIndex_of h0 h1,e],by omega,by omega,h1⟩
  ·rw[if_neg h1]at h;cases h
 ·rw[if_neg h0]at h
  by_cases h1:-(n:Int)<=i
  ·rw[if_pos h1]at h;have e:(i+n).toNat=j:=Option.some.inj h;exact⟨by rw[seqIndex_neg (by omega) h1,e],by omega,h1,by omega⟩
  ·rw[if_neg h1]at h;cases h
theorem x14{xs:List α}{i:Int}{v:α}(h:atI xs i=some v):∃j,seqIndex? i xs.length=some j/\xs[j]?=some v/\j<xs.length/\-(xs.length:Int)<=i/\i<xs.length:=by
 unfold atI at h;cases e:ixN xs.length i with
 |none=>rw[e]at h;cases h
 |some j=>
  rw[e]at h;obtain⟨h1,h2,h3,h4⟩:=y46 e;exact⟨j,h1,h,h2,h3,h4⟩
theorem q43{xs:List α}{j:Nat}{v:α}(h:xs[j]?=some v):atI xs (j:Int)=some v:=by
 have hj:j<xs.length:=(w0c.mp h).1
 have e:ixN xs.length (j:Int)=some j:=by
  unfold ixN;rw[if_pos (by omega),if_pos (by omega)];simp
 unfold atI;rw[e];exact h
def PlainIx(b:Expr):Prop:=∀o i,subscripted b false o i=operate [o,i] (getItem o i)
def IxR(X:Cx)(r:R2):Prop:=
 ∀(value slice:Expr)(pins:List (Addr×Obj))(s:Shared)(σ:St)(H:Hp)(x y:V)(v u:Value)(Q:VK),Inv X pins σ H s->RelV x v->RelV y u->r x y H Q ->
  subscripted slice false v u=operate [v,u] (getItem v u)->wpAny (model X.prog X.w) X.A (subscriptTail value slice v u) (EP X pins σ Q) X.xe s
def MtR(X:Cx)(id:String)(r:V->List V->Hp->VK->Prop):Prop:=
 ∀(pins:List (Addr×Obj))(s:Shared)(σ:St)(H:Hp)(x:V)(xs:List V)(v:Value)(us:List Value)(Q:VK),Inv X pins σ H s->RelV x v->Vals xs us->r x xs H Q ->
  wpAny (model X.prog X.w) X.A (call (.builtin id) (v::us)) (EP X pins σ Q) X.xe s
section
variable{a b:Expr}{ta tb:TE}{pos:Pos}
theorem IxR.or{r r':R2}(h:IxR X r)(h':IxR X r'):IxR X (fun x y H Q=>r x y H Q\/r' x y H Q):=by
 intro value slice pins s σ H x y v u Q I rx ry q hs;rcases q with q|q
 ·exact h value slice pins s σ H x y v u Q I rx ry q hs
 ·exact h' value slice pins s σ H x y v u Q I rx ry q hs
theorem z1s{r:R2}(hr:IxR X r)(ha:PE X a ta)(hb:PE X b tb)(hs:PlainIx b):PE X (.Subscript a b pos) (tOp r ta tb):=by
 intro pins s σ H Q I h;exact Subscript_ (binT ha hb I h fun v u s2 x y H2 I2 rx ry q=>hr a b pins s2 σ H2 x y v u Q I2 rx ry q (hs _ _))
def rIxL(K:PySem.W.Frag):R2:=fun x y H Q=>∃p xs i v,x=.ref p/\y=.int i/\SqL K H p xs/\atI xs i=some v/\Q v H
def rIxT(K:PySem.W.Frag):R2:=fun x y H Q=>∃p xs i v,x=.ref p/\y=.int i/\SqT K H p xs/\atI xs i=some v/\Q v H
def rIxS:R2:=fun x y H Q=>∃z i c,x=.str z/\y=.int i/\z.length<=sizeLine/\atI z.cps.toList i=some c/\Q (.str ⟨#[c]⟩) H
theorem ix_list:IxR X (rIxL X.K):=by
 intro value slice pins s σ H x y v u Q I rx ry h hs;obtain⟨p,xs,i,z,rfl,rfl,hq,he,q⟩:=h;cases rx;obtain⟨t,rfl⟩:=ry;obtain⟨its,r,pl,hz⟩:=I.list hq;obtain⟨j,h1,h2,h3,h4,h5⟩:=x14 he;obtain⟨w,ew,rw'⟩:=r.get h2;have hl:=r.length;have hn:=line63;have fin:EP X pins σ Q w s:=⟨z,H,I,rw',q⟩
 by_cases h0:0<=i
 ·have hj:i.toNat=j:=by
   rw[seqIndex_of h0 h5]at h1;exact Option.some.inj h1
  exact item_listR pl.isList h0 (by omega) (by rw[hj];simpa using ew) fin hs
 ·have hj:(i+(its.toArray.size:Int)).toNat=j:=by
   rw[seqIndex_neg (by omega) h4]at h1;rw[w0d,<- hl];exact Option.some.inj h1
  exact subscriptTail_builtinR (x:=w) pl.isList.typeIs slot_list_getitem.lookup
   (wpAny_getItem_list_neg (Q:=fun r s'=>r=w/\EP X pins σ Q r s') pl.isList (by omega) (by rw[w0d]<;>omega) (by omega) (by rw[hj];simpa using ew) ⟨rfl,fin⟩) hs
theorem ix_tup:IxR X (rIxT X.K):=by
 intro value slice pins s σ H x y v u Q I rx ry h hs;obtain⟨p,xs,i,z,rfl,rfl,hq,he,q⟩:=h;cases rx;obtain⟨t,rfl⟩:=ry;obtain⟨its,r,pl,hz⟩:=I.tuple hq;obtain⟨j,h1,h2,h3,h4,h5⟩:=x14 he;obtain⟨w,ew,rw'⟩:=r.get h2;have hl:=r.length;have hn:=line63;have fin:EP X pins σ Q w s:=⟨z,H,I,rw',q⟩
 exact subscriptTail_builtinR (x:=w) pl.typeIs slot_tuple_getitem.lookup
  (getItem_tuple (j:=j) (Q:=fun r s'=>r=w/\EP X pins σ Q r s') pl (by omega) (by omega) (by rw[w0d,<- hl];exact h1) (by simpa using ew) ⟨rfl,fin⟩) hs
theorem y8m:IxR X rIxS:=by
 intro value slice pins s σ H x y v u Q I rx ry h hs;obtain⟨z,i,c,rfl,rfl,hz,he,q⟩:=h;obtain⟨t,rfl⟩:=rx;obtain⟨t',rfl⟩:=ry;obtain⟨j,h1,h2,h3,h4,h5⟩:=x14 he;have hl:z.cps.toList.length=z.length:=by simp[Str.length]
 rw[hl]at h1 h4 h5;have hn:=line63
 exact tail_any (typeIs_str s z t) slot_str_getitem.lookup (getItem_str (c:=c) (by
  have e1:decide (i < -(2^63:Int))=false:=decide_eq_false (by omega);have e2:decide (i>=2^63)=false:=decide_eq_false (by omega);rw[e1,e2,w3r]) (by rw[h1];simpa using h2) ⟨.str ⟨#[c]⟩,H,I.tok _,⟨_,rfl⟩,q⟩) hs
def rIx(K:PySem.W.Frag):R2:=fun x y H Q=>rIxL K x y H Q\/rIxT K x y H Q\/rIxS x y H Q
theorem y8n:IxR X (rIx X.K):=ix_list.or (ix_tup.or y8m)
theorem x4r(lo hi:Option Int)(n:Nat):(sliceBounds lo hi none n).1=((HT.sIx n 0 lo:Nat):Int)/\(sliceBounds lo hi none n).2.1=((HT.sIx n n hi:Nat):Int)/\(sliceBounds lo hi none n).2.2=1:=by
 refine⟨?_,?_,rfl⟩
 ·cases lo with
  |none=>simp[sliceBounds,HT.sIx]
  |some i=>
   simp only[sliceBounds,HT.sIx,Option.getD_none,show(1:Int)>0 by decide,if_true]
   by_cases h:i<0
   ·simp only[h,if_true]<;>omega
   ·simp only[h,if_false]<;>omega
 ·cases hi with
  |none=>simp[sliceBounds,HT.sIx]
  |some i=>
   simp only[sliceBounds,HT.sIx,Option.getD_none,show(1:Int)>0 by decide,if_true]
   by_cases h:i<0
   ·simp only[h,if_true]<;>omega
   ·simp only[h,if_false]<;>omega
theorem x3w(its:List Value)(lo hi:Option Int):slicePick its.toArray lo hi none=((its.drop (HT.sIx its.length 0 lo)).take (HT.sIx its.length its.length hi-HT.sIx its.length 0 lo)).toArray:=by
 obtain⟨h1,h2,h3⟩:=x4r lo hi its.toArray.size;unfold slicePick;rw[h1,h2,h3];simp only[sliceRange_one,pick_run,w0d]<;>rfl
def rSlL(K:PySem.W.Frag):V->Option Int->Option Int->Hp->VK->Prop:=fun x lo hi H Q=>∃a xs,x=.ref a/\SqL K H a xs/\∀p,H p=none->Q (.ref p) (upd H p (.lst (cutV xs lo hi)))
theorem sl_list:SlR X (rSlL X.K):=by
 intro pins s σ H x v vl vu lo hi sl Q I rx hs pl pu h;obtain⟨a,xs,rfl,hx,q⟩:=h;cases rx;obtain⟨its,r,ht,hz⟩:=I.list hx;have hlen:=r.length;refine⟨"list", _,slot_list_getitem.lookup,ht.isList.typeIs,?_⟩;refine wpAny_getItem_list_slice ht.isList hs pl pu .none (by simp) ?_ (by rw[w0d]<;>omega);rw[x3w,<- hlen];refine⟨.ref s.heap.objs.size,_,I.laid (t':=s.toks) (o:=.lst (cutV xs lo hi)) (fun b ob q=>Heap.get?_push_of_some _ q) (w0e _) ?_,rfl,q _ (I.hok.fresh (w0e _))⟩
 exact⟨w0g (q9t xs lo hi) hz,_,0,(r.drop (HT.sIx xs.length 0 lo)).take (HT.sIx xs.length xs.length hi-HT.sIx xs.length 0 lo),Heap.get?_push_size _ rfl⟩
noncomputable def flatV:V->Bool
 |.non=>true
 |.bl _=>true
 |.int _=>true
 |.str _=>true
 |_=>false
noncomputable def eqV:V->V->Bool
 |.non,.non=>true
 |.bl a,.bl b=>a==b
 |.bl a,.int b=>(if a then 1 else 0)==b
 |.int a,.bl b=>a==(if b then 1 else 0)
 |.int a,.int b=>a==b
 |.str a,.str b=>a==b
 |_,_=>false
theorem y8o{y:V}{u:Value}(ry:RelV y u)(rx:RelV x v)(fy:flatV y=true)(fx:flatV x=true):SeqAt.EqAt A s u v (eqV y x):=by
 cases y with
 |non=>
  cases ry;cases x with
  |non=>cases rx;exact SeqAt.EqAt.same _
  |bl b=>cases rx;exact SeqAt.EqAt.none_bool b
  |int b=>obtain⟨t,rfl⟩:=rx;exact SeqAt.EqAt.none_int b t
  |str b=>obtain⟨t,rfl⟩:=rx;exact SeqAt.EqAt.none_str b t
  |_=>exact absurd (show false=true from fx) w0q
 |bl a=>
  cases ry;cases x with
  |non=>cases rx;exact SeqAt.EqAt.bool_none a
  |bl b=>cases rx;exact SeqAt.EqAt.bool_bool a b
  |int b=>obtain⟨t,rfl⟩:=rx;exact SeqAt.EqAt.bool_int a b t
  |str b=>obtain⟨t,rfl⟩:=rx;exact SeqAt.EqAt.bool_str a b t
  |_=>exact absurd (show false=true from fx) w0q
 |int a=>
  obtain⟨t',rfl⟩:=ry;cases x with
  |non=>cases rx;exact SeqAt.EqAt.int_none a t'
  |bl b=>cases rx;exact SeqAt.EqAt.int_bool a t' b
  |int b=>obtain⟨t,rfl⟩:=rx;exact SeqAt.EqAt.int_int a t' b t
  |str b=>obtain⟨t,rfl⟩:=rx;exact SeqAt.EqAt.int_str a t' b t
  |_=>exact absurd (show false=true from fx) w0q
 |str a=>
  obtain⟨t',rfl⟩:=ry;cases x with
  |non=>cases rx;exact SeqAt.EqAt.str_none a t'
  |bl b=>cases rx;exact SeqAt.EqAt.str_bool a t' b
  |int b=>obtain⟨t,rfl⟩:=rx;exact SeqAt.EqAt.str_int a t' b t
  |str b=>obtain⟨t,rfl⟩:=rx;exact SeqAt.EqAt.str_str a t' b t
  |_=>exact absurd (show false=true from fx) w0q
 |_=>exact absurd (show false=true from fy) w0q
noncomputable def eqU(x:V)(u:Value):Bool:=match u with
 |.none=>eqV .non x
 |.bool b=>eqV (.bl b) x
 |.int i _=>eqV (.int i) x
 |.str z _=>eqV (.str z) x
 |_=>false
theorem x9u{y:V}{u:Value}(r:RelV y u)(f:flatV y=true):eqU x u=eqV y x:=by
 cases y with
 |non=>cases r;rfl
 |bl b=>cases r;rfl
 |int i=>obtain⟨t,rfl⟩:=r;rfl
 |str z=>obtain⟨t,rfl⟩:=r;rfl
 |_=>exact absurd (show false=true from f) w0q
theorem q7e:∀{xs:List V}{us:List Value},Vals xs us->xs.all flatV=true->us.any (eqU x)=xs.any fun y=>eqV y x
 |_,_,.nil,_=>rfl
 |y::xs,u::us,.cons r t,f=>by
  rw[w1s,w0r]at f;rw[w2r,w2r,x9u r f.1,q7e t f.2]
theorem q6h(rx:RelV x v)(fx:flatV x=true):∀{xs:List V}{us:List Value},Vals xs us->xs.all flatV=true->∀u∈us,SeqAt.EqAt A s u v (eqU x u)
 |_,_,.nil,_=>fun u hu=>by cases hu
 |y::xs,u::us,.cons r t,f=>fun u' hu=>by
  rw[w1s,w0r]at f;rcases w0h.mp hu with rfl|hu
  ·rw[x9u r f.1];exact y8o r rx f.1 fx
  ·exact q6h rx fx t f.2 u' hu
noncomputable def inV(x:V)(xs:List V):Bool:=xs.any fun y=>eqV y x
def rIn(K:PySem.W.Frag)(neg:Bool):R2:=fun x y H Q=>∃p xs,y=.ref p/\(SqL K H p xs\/SqT K H p xs)/\flatV x=true/\xs.all flatV=true/\Q (.bl (if neg then !inV x xs else inV x xs)) H
theorem x9v:OpR X (compareOp .In) (rIn X.K false):=by
 intro pins s σ H x y v u Q I rx ry h;obtain⟨p,xs,rfl,hq,fx,fs,q⟩:=h;cases ry;rcases hq with hq|hq
 ·obtain⟨its,r,pl,hz⟩:=I.list hq;refine SeqAt.in_listAt (eqU x) pl.isList (fun w hw=>q6h rx fx r fs w (by simpa using hw)) ⟨.bl _,H,I,rfl,?_⟩
  rw[show its.toArray.any (eqU x)=its.any (eqU x) by simp,q7e r fs];exact q
 ·obtain⟨its,r,pl,hz⟩:=I.tuple hq;refine SeqAt.in_tupleAt (eqU x) pl (fun w hw=>q6h rx fx r fs w (by simpa using hw)) ⟨.bl _,H,I,rfl,?_⟩
  rw[show its.toArray.any (eqU x)=its.any (eqU x) by simp,q7e r fs];exact q
theorem q8v:OpR X (compareOp .NotIn) (rIn X.K true):=by
 intro pins s σ H x y v u Q I rx ry h;obtain⟨p,xs,rfl,hq,fx,fs,q⟩:=h;cases ry;rcases hq with hq|hq
 ·obtain⟨its,r,pl,hz⟩:=I.list hq;refine SeqAt.notIn_listAt (eqU x) pl.isList (fun w hw=>q6h rx fx r fs w (by simpa using hw)) ⟨.bl _,H,I,rfl,?_⟩
  rw[show its.toArray.any (eqU x)=its.any (eqU x) by simp,q7e r fs];exact q
 ·obtain⟨its,r,pl,hz⟩:=I.tuple hq;refine SeqAt.notIn_tupleAt (eqU x) pl (fun w hw=>q6h rx fx r fs w (by simpa using hw)) ⟨.bl _,H,I,rfl,?_⟩
  rw[show its.toArray.any (eqU x)=its.any (eqU x) by simp,q7e r fs];exact q
theorem x4s:CallR X (.type "list") (fun xs H Q=>∃p ys,xs=[.ref p]/\(SqL X.K H p ys\/SqT X.K H p ys)/\∀l,H l=none->Q (.ref l) (upd H l (.lst ys))):=by
 intro pins s σ H xs us Q I r h;obtain⟨p,ys,rfl,hq,q⟩:=h;obtain⟨u,rfl,rx⟩:=vals1 r;cases rx
 have fin:∀(its:List Value),Vals ys its->ys.length<=sizeLine->∀(h':Heap)(c':Nat),(∀b o',s.heap.get? b=some o'->h'.get? b=some o') ->
   h'.get? s.heap.objs.size=some {cls:=.type "list", dict:=none,data:=.seq its.toArray c',slots:=#[]}->EP X pins σ Q (.ref s.heap.objs.size) {s with heap:=h'}:=fun its r' hz h' c' kp e=>
  ⟨.ref s.heap.objs.size,_,I.laid (t':=s.toks) kp (w0e _) (show ObjOk X.prog X.w _ h' _ (.lst ys)from⟨hz,its,c',r',e⟩),rfl,q _ (I.hok.fresh (w0e _))⟩
 rcases hq with hq|hq
 ·obtain⟨its,r',pl,hz⟩:=I.list hq;have hlen:=r'.length;obtain⟨o,ho,hc,n,hd⟩:=pl.isList;exact call_list_seq p (.inl rfl) ho hc hd (fun h' c' kp e=>fin its r' hz h' c' kp e) (by simp only[w0d]<;>omega)
 ·obtain⟨its,r',pl,hz⟩:=I.tuple hq;have hlen:=r'.length;obtain⟨o,ho,hc,n,hd⟩:=pl;exact call_list_seq p (.inr rfl) ho hc hd (fun h' c' kp e=>fin its r' hz h' c' kp e) (by simp only[w0d]<;>omega)
theorem x3x:CallR X (.type "tuple") (fun xs H Q=>∃p ys,xs=[.ref p]/\((SqL X.K H p ys/\∀l,H l=none->Q (.ref l) (upd H l (.tup ys)))\/(SqT X.K H p ys/\Q (.ref p) H))):=by
 intro pins s σ H xs us Q I r h;obtain⟨p,ys,rfl,h⟩:=h;obtain⟨u,rfl,rx⟩:=vals1 r;cases rx;rcases h with⟨hq,q⟩|⟨hq,q⟩
 ·obtain⟨its,r',pl,hz⟩:=I.list hq;have hlen:=r'.length;refine call_tuple_list pl.isList (fun h' kp=>?_) (by simp only[w0d]<;>omega)
  have I1:Inv X pins σ H {s with heap:=h'}:=I.kept (t':=s.toks) kp
  have I2:Inv X pins σ (upd H h'.objs.size (.tup ys)) {s with heap:=h'.push {cls:=.type "tuple", data:=.seq its.toArray}}:=
   I1.laid (t':=s.toks) (fun b o e=>Heap.get?_push_of_some _ e) (w0e _) (show ObjOk X.prog X.w _ _ _ (.tup ys)from⟨hz,its,r',IsTup.new _ _,_,Heap.get?_push_size _ rfl,rfl⟩)
  exact⟨.ref h'.objs.size,_,I2,rfl,q _ (I1.hok.fresh (w0e _))⟩
 ·obtain⟨its,r',pl,hz⟩:=I.tuple hq;exact call_tuple_same pl ⟨.ref p,H,I,rfl,q⟩
def tyV(K:PySem.W.Frag)(T:String)(x:V)(H:Hp):Prop:=match x with
 |.str _=>T="str"
 |.int _=>T="int"
 |.ref p=>(T="list" /\ ∃xs,SqL K H p xs)\/(T="tuple" /\ ∃o,K.lookup p=some o/\o.cls=.type "tuple" /\ o.dict=none) \/
   (T="dict" /\ ((∃kvs,H p=some (.dK kvs))\/∃sh kvs kas,H p=some (.dT sh kvs kas)))\/(T="set" /\ ∃S n,H p=some (.set S n))
 |_=>False
theorem y8p{pins:List (Addr×Obj)}{σ:St}{H:Hp}{T:String}(I:Inv X pins σ H s)(r:RelV x v)(ty:tyV X.K T x H):
  s.TypeIs v T/\∀a,v=.ref a->∃ob,s.heap.get? a=some ob/\ob.dict=none:=by
 cases x with
 |str z=>
  obtain⟨t,rfl⟩:=r;cases(show T="str" from ty);exact⟨typeIs_str s z t,fun _ e=>nomatch e⟩
 |int i=>
  obtain⟨t,rfl⟩:=r;cases(show T="int" from ty);exact⟨typeIs_int s i t,fun _ e=>nomatch e⟩
 |ref p=>
  cases r;rcases ty with⟨rfl,xs,hq⟩|⟨rfl,o,hk,hc,hd⟩|⟨rfl,hk⟩|⟨rfl,S,n,hk⟩
  ·obtain⟨its,_,pl,_⟩:=I.list hq;refine⟨pl.isList.typeIs,fun a e=>?_⟩
   cases e;obtain⟨o,n,e,c,hd,_⟩:=pl;exact⟨o,e,hd⟩
  ·refine⟨⟨o,I.kIn p o hk,hc⟩,fun a e=>?_⟩
   cases e;exact⟨o,I.kIn _ o hk,hd⟩
  ·have z:∃o,s.heap.get? p=some o/\o.ExactDict:=by
    rcases hk with⟨kvs,hk⟩|⟨sh,kvs,kas,hk⟩
    ·obtain⟨_,_,_,_,o,_,_,e,ex,_⟩:=I.hok p _ hk;exact⟨o,e,ex⟩
    ·obtain⟨_,_,_,_,_,o,_,_,e,ex,_⟩:=I.hok p _ hk;exact⟨o,e,ex⟩
   obtain⟨o,e,ex⟩:=z;refine⟨⟨o,e,ex.1⟩,fun a e2=>?_⟩
   cases e2;exact⟨o,e,ex.2.1⟩
  ·obtain⟨o,_,_,_,e,ex,_⟩:=I.hok p _ hk;refine⟨⟨o,e,ex.1⟩,fun a e2=>?_⟩
   cases e2;exact⟨o,e,ex.2.1⟩
 |_=>exact False.elim ty
def tBM(K:PySem.W.Frag)(T:String)(r:V->List V->Hp->VK->Prop)(to:TE)(t:TA):TE:=fun σ H Q=>to σ H fun x H1=>tyV K T x H1/\t σ H1 fun xs H2=>r x xs H2 Q
variable{o e:Expr}{es:List Expr}{to:TE}{t:TA}{name:Str}{apos cpos:Pos}{T id:String}{r:V->List V->Hp->VK->Prop}
theorem y4g(pa:PlainAttrs T)(slot:Slot T name id)(hty:typeOf (.builtin id)=pure (.type "method_descriptor"))(hm:MtR X id r)(ho:PE X o to)(ha:PA X (e::es) t)
  (hbase:attributeBase o name X.env (eval o X.env)=eval o X.env:=by rfl)
  (hfew:((backTo cpos (starEach (e::es) X.env)).all (fun x=>!x.1)&&(backToKw cpos (keywordEach [] X.env)).all (fun x=>x.1.isSome)
   && decide ((e::es).length+([]:List Keyword).length+(if([]:List Keyword).isEmpty then 0 else 1)<30))=true:=by rfl)
  (hline:(apos.endLine==cpos.line)=true:=by rfl)(hs:starEach (e::es) X.env=(false,eval e X.env)::starEach es X.env:=by rfl)(hplain:(backTo cpos (starEach es X.env)).any (·.1)=false:=by rfl):
  PE X (.Call (.Attribute o name apos) (e::es) [] cpos) (tBM X.K T r to t):=by
 intro pins s σ H Q I h;refine wpAny_Call_method_late hbase hfew hline rfl (thn (ho pins s σ H _ I h) fun v s1 ⟨x,H1,I1,r1,ty,q1⟩=>?_)
 obtain⟨h1,h2⟩:=y8p I1 r1 ty;refine⟨T,id,pa,slot,hty,h1,h2,?_⟩;have hA:=ha cpos pins s1 σ H1 _ I1 q1;rw[hs]at hA |-
 refine Calls.callWith_builtin (by show(false||(backTo cpos (starEach es X.env)).any (·.1))=false;rw[hplain]<;>rfl) (Calls.evalArgs_plain ?_);exact thn hA fun us s2 ⟨vs,H2,I2,r2,q2⟩=>hm pins s2 σ H2 x vs v us Q I2 r1 r2 q2
/- xs.append(e),list.index on a module's tuple .. are MtR facts of 06m -/
end
def MtM(X:Cx)(id:String)(r:V->List V->Hp->VK->Prop):Prop:=
 ∀(pins:List (Addr×Obj))(s:Shared)(σ:St)(H:Hp)(x:V)(xs:List V)(v:Value)(us:List Value)(Q:VK),Inv X pins σ H s->RelV x v->Vals xs us->r x xs H Q ->
  wpAny (model X.prog X.w) X.A (call (.builtin id) (v::us)) (EP X pins σ Q) X.xe s
theorem Vals.one(h:Vals [x] us):∃u,us=[u]/\RelV x u:=vals1 h
theorem Vals.reverse(h:Vals xs us):Vals xs.reverse us.reverse:=by
 induction h with
 |nil=>exact .nil
 |cons r t ih=>rw[w1u,w1u];exact Vals.append ih (.cons r .nil)
theorem Vals.rep(h:Vals xs us):∀k:Nat,Vals (List.replicate k xs).flatten (List.replicate k us).flatten
 |0=>.nil
 |k+1=>by
  rw[w1m,w1m,w2f,w2f];exact Vals.append h (Vals.rep h k)
theorem x23(its:List Value):∀(k:Nat)(acc:List Value),
  List.foldl (fun x1 x2=>x1++x2) acc.toArray (List.replicate k its.toArray)=(acc++(List.replicate k its).flatten).toArray
 |0,acc=>by simp
 |k+1,acc=>by
  have e:acc.toArray++its.toArray=(acc++its).toArray:=by simp
  have e2:(acc++its)++(List.replicate k its).flatten=acc++(List.replicate (k+1) its).flatten:=by
   rw[w1m,w2f,w2w]
  rw[<- e2,<- x23 its k (acc++its),<- e,w1m,List.foldl_cons]
section
variable{pins:List (Addr×Obj)}{σ:St}{H:Hp}{l b:Addr}{ys zs:List V}
theorem Inv.lset{its its':List Value}{f:Array Value->Array Value}{t':Nat}(I:Inv X pins σ H s)(hH:H l=some (.lst xs))
  (e:s.heap.get? l=some {cls:=.type "list", data:=.seq its.toArray n})(hf:f its.toArray=its'.toArray)(hv:Vals ys its')(hz:ys.length<=sizeLine):
  Inv X pins σ (upd H l (.lst ys)) {s with heap:=s.heap.update l (Obj.mapSeq f),toks:=t'}:=by
 have q:=PySem.IsL.update e f;rw[hf]at q;refine I.write (x:=l) (e:=l) (by rw[hH];exact trivial) (.inl rfl) (fun b' u hb hu=>(Heap.get?_update_other s.heap (Obj.mapSeq f) (Ne.symm hb)).trans hu) ⟨_,q⟩ ?_
 exact⟨hz,its',_,hv,q⟩
theorem Inv.lnew{its:List Value}{t':Nat}(I:Inv X pins σ H s)(hv:Vals ys its)(hz:ys.length<=sizeLine):
  Inv X pins σ (upd H s.heap.objs.size (.lst ys)) {s with heap:=s.heap.push {cls:=.type "list", data:=.seq its.toArray},toks:=t'}:=
 I.laid (fun _ _ q=>Heap.get?_push_of_some _ q) (w0e _) ⟨hz,its,0,hv,Heap.get?_push_size _ rfl⟩
theorem Inv.fresh(I:Inv X pins σ H s):H s.heap.objs.size=none:=I.hok.fresh (w0e _)
theorem Inv.lstM(I:Inv X pins σ H s)(hH:H l=some (.lst xs)):xs.length<=sizeLine/\∃(its:List Value)(n:Nat),Vals xs its/\xs.length=its.length/\s.heap.get? l=some {cls:=.type "list", data:=.seq its.toArray n}:=by
 obtain⟨z,its,n,r,e⟩:=I.hok l _ hH;exact⟨z,its,n,r,r.length,e⟩
theorem notLongL(h:n<=sizeLine):Builtin.List.listTooLong n=false:=by
 unfold Builtin.List.listTooLong;exact decide_eq_false (by omega)
end
def rAppend:V->List V->Hp->VK->Prop:=fun x vs H Q=>∃l xs y,x=.ref l/\vs=[y]/\H l=some (.lst xs)/\xs.length<sizeLine/\Q .non (upd H l (.lst (xs++[y])))
theorem q8w:MtM X "list.append" rAppend:=by
 intro pins s σ H x vs v us Q I rx rv h;obtain⟨l,xs,y,rfl,rfl,hH,hz,q⟩:=h;cases rx;obtain⟨u,rfl,ru⟩:=rv.one;obtain⟨z,its,n,r,hl,e⟩:=I.lstM hH;refine call_meets F.slot_list_append ⟨_,e,rfl⟩ F.entry_list_append (F.args_list_append_2 _ _) (PySem.list_append l its.toArray n u (by rw[w0d];omega)) ⟨e,?_⟩;refine⟨.non,_,I.lset (its':=its++[u]) hH e (by simp) (r.append (.cons ru .nil)) ?_,rfl,q⟩;rw[w0i,w2z];omega
theorem y47(xs:List α)(k:Nat):(List.replicate k xs).flatten.length=k*xs.length:=by
 induction k with
 |zero=>simp
 |succ k ih=>rw[w1m,w2f,w0i,ih,Nat.succ_mul,Nat.add_comm]
end L2
namespace Att
open PySem PySem.W PySem.Calls PyProof.Rows
theorem x0y{P:Params}{h:Heap}:∀(ns:List Int)(vs:List Value),WellAll P h vs (ns.map WData.int)->IntsAre vs ns:=by
 intro ns
 induction ns with
 |nil=>
  intro vs w;rw[w2o]at w;cases w;exact .nil
 |cons n ns ih=>
  intro vs w;rw[w0l]at w;cases w with
  |cons a b=>
   cases a;exact .cons _ _ (ih _ b)
theorem x24{l:OpenLaw}{n:Nat}(hn:l.most=some n){P:Params}{h:Heap}{args:List WData}{vals:List Value}
  (hpre:l.row.toRowW.claim.pre args=true)(hwl:WellAll P h vals args):
  ∃a vs ns,vals=[Value.ref a]/\args=[WData.list (ns.map WData.int)]/\h.get? a=some {cls:=.type "list", data:=.seq vs.toArray}/\IntsAre vs ns/\ns.length<=n:=by
 have hsh:WShape.hasAll [] args [.list .int]=true:=(pre_splitW hpre).1;have hc:l.pre.holds [] {args:=args}=true:=(pre_splitW hpre).2;obtain⟨d,r,rfl,h1,h2⟩:=hasAllW_cons hsh;obtain rfl:=hasAllW_nil h2;obtain⟨xs,rfl,h3⟩:=hasW_list h1;obtain⟨ns,rfl⟩:=items_int h3
 have hlen:ns.length<=n:=by
  unfold OpenLaw.pre at hc
  have h4:(WTm.not (.lt (.lit (.int (n:Int))) (.len (.arg 0)))).holds [] {args:=[.list (ns.map .int)]}=true:=by
   have h4:=(holds_andW hc).1;rw[hn]at h4;exact h4
  have h5:=condW_of h4 (w_not (w_lt w_lit (w_len_list (w_arg rfl))));rw[w0a]at h5;refine Nat.le_of_not_lt fun q=>?_
  have q':(n:Int)<((ns.length:Nat):Int):=by omega
  first
   |(rw[decide_eq_true q']at h5;exact absurd h5 (by decide))
   |(simp at h5;omega)
 cases hwl with
 |cons w1 w2=>
  cases w2;cases w1 with
  |list ho hall=>exact⟨_,_,ns,rfl,rfl,ho,x0y ns _ hall,hlen⟩
theorem x25(l:OpenLaw)(args:List WData):l.row.toRowW.claim.post args (.bool true) args=true:=
 postW_of (r:=l.row.toRowW) (X:=(true==true))
  (show WShape.has [] (.bool true) .bool=true by first|rfl|decide|simp[WShape.has,WShape.arms,WShape.armsAll])
  (show(WTm.eq .res (.lit (.bool true))).value [] {args:=args,res:=some (.bool true),after:=args}=some (.bool (true==true))from w_eq_bool (w_res rfl) w_lit) rfl
theorem attach_call{l:OpenLaw}{n:Nat}{q:Program}{loose:List Str}{XP:(Str->Option Value)->Heap->Prop}{YP:World->Heap->Prop}{d:DefRec}
  (hn:l.most=some n)(hdf:d.params.defaults=[])
  (call:∀(w:World)(s₀ s₁:Shared)(mg mb:Str->Option Value)(fa:Addr)(o:Obj)(pm cd doc:Value)(a:Addr)(vs:List Value)(ns:List Int),
   Ground q loose [] XP w s₀ mg mb s₁.heap->YP w s₁.heap ->
   s₁.heap.get? fa=some o->o.data=.func (docDef d.name d.params d.body d.scope pm cd doc)->s₁.heap.CodeRec cd d.name->mg d.name=some (.ref fa) ->
   s₁.heap.get? a=some {cls:=.type "list", data:=.seq vs.toArray}->IntsAre vs ns->ns.length<=n->s₁.gens=#[] ->
   codeAny (model l.prog w) callerA (.call (.ref fa) ⟨[.ref a],[]⟩) (fun r s'=>r=.ok (.ret (.bool true))/\OldK s₁.heap s'.heap/\s'.os=s₁.os/\AllBare s'.gens) s₁):
  WalkO q loose XP YP l.row.toRowW d [] (fun f vs=>PySem.call f vs):=by
 intro w s₀ s₁ mg mb G Y fa o pm cd doc dV kV ho hd hcd hD hmg hg args vals as hpre hlay hrd hwl hlo;obtain rfl:dV=.none:=Dflts.none hD hdf;obtain rfl:kV=.none:=Dflts.noKw hD;obtain⟨a,vs,ns,rfl,rfl,hobj,hints,hlen⟩:=x24 hn hpre hwl;refine enter_call (codeAny_mono (call w s₀ s₁ mg mb fa o pm cd doc a vs ns G Y ho (fd_plain hd) hcd hmg hobj hints hlen hg) fun r s' hq=>?_)
 obtain⟨rfl,h2,h3,h4⟩:=hq;exact⟨.inl ⟨.bool true,.bool true,[],rfl,fun _=>rfl,.bool true,x25 l _,fun _=>⟨List.Pairwise.nil,fun _ hm=>(nomatch hm)⟩⟩,h2,h3,h4⟩
section
variable{prog:Program}{w:World}{A:Around}{E:Value->Shared->Prop}{s:Shared}{K:Frag}
noncomputable def ledger(h:Heap)(L d:Addr):List (Addr×Obj):=(List.range h.objs.size).filterMap fun a=>if a=L\/a=d then none else(h.get? a).map fun o=>(a,o)
end
end Att
namespace L2
open PySem PySem.Spec PyProof.Rows
theorem x26:∀{vs:List Value}{ns:List Int},IntsAre vs ns->Vals (ns.map V.int) vs
 |_,_,.nil=>.nil
 |_,_,.cons n t h=>.cons ⟨t,rfl⟩ (x26 h)
def Only(H:Hp):Prop:=∀b,H b=none\/∃o xs,H b=some (.frz o (.lst xs))
theorem x4t{P:Program}{w:World}{K:PySem.W.Frag}{mg mb:Str->Option Value}{CX:CXT}{k:Nat}{fa a:Addr}{fd:FuncData}{x:Str}{sp:Sp}{s₁:Shared}{vs:List Value}{ns:List Int}
  (KX:K.In s₁.heap)(hns:s₁.heap.Ns mainGlobals mg)(hb:s₁.heap.Ns builtinsNs mb)(hbb:∀x:Str,x≠"__name__"->mb x=bootBuiltins x)(hlim:s₁.heap.NoLimit)(hg:s₁.gens=#[])
  (ha:s₁.heap.get? a=some {cls:=.type "list", data:=.seq vs.toArray})(hi:IntsAre vs ns)(hl:ns.length<=sizeLine)(hr:Room k callerA)
  (F:∀base:Heap,K.In base->base.Ns mainGlobals mg->FnOk P w K mg base CX k fa fd [x] sp)(hbind:∀(s:Shared)(u:Value),BindsTo s fd ⟨[u],[]⟩ [(x,u)])
  (hsp:∀H:Hp,Only H->SqL K H a (ns.map V.int)->sp [.ref a] H (fun v _=>v=.bl true) fun _ _ _=>False)
  (hCX:∀H e s',CX [] H s₁ (fun _ _ _=>False) e s'->False)(hNM:noMark K=true):
  codeAny (model P w) callerA (.call (.ref fa) ⟨[.ref a],[]⟩) (fun r s'=>r=.ok (.ret (.bool true))/\OldK s₁.heap s'.heap/\s'.os=s₁.os/\AllBare s'.gens) s₁:=by
 have rv:=x26 hi;have lenV:=hi.length
 have core:∀H:Hp,Only H->SqL K H a (ns.map V.int)->HOk P w H s₁.heap->(∀b,H b≠none->b=a)->(H a≠none->K.lookup a=none) ->
   codeAny (model P w) callerA (.call (.ref fa) ⟨[.ref a],[]⟩) (fun r s'=>r=.ok (.ret (.bool true))/\OldK s₁.heap s'.heap/\s'.os=s₁.os/\AllBare s'.gens) s₁:=by
  intro H hO hS hok hA hK;have base_of:∀{b:Addr}{o:Obj},s₁.heap.get? b=some o->H b=none->(hidT s₁.heap H).get? b=some o:=fun e n=>y17 e n
  have noA:∀{b:Addr}{o:Obj}{es:Array DictEntry}{ep:Nat},s₁.heap.get? b=some o->o.data=.dict es ep->H b=none:=fun {b o es ep} e d=>by
   cases q:H b with
   |none=>rfl
   |some u=>
    have e':b=a:=hA b (by rw[q];simp);subst e';rw[ha]at e;cases e;have d':Data.seq vs.toArray _=Data.dict es ep:=d;cases d'
  have nsK:∀{b:Addr}{m:Str->Option Value},s₁.heap.Ns b m->(hidT s₁.heap H).Ns b m:=fun {b m} ⟨o,es,ep,e,d,r⟩=>⟨o,es,ep,base_of e (noA e d),d,r⟩
  have hKb:K.In (hidT s₁.heap H):=fun b o e=>base_of (KX b o e) (by
   cases q:H b with
   |none=>rfl
   |some u=>
    have e':b=a:=hA b (by rw[q];simp);subst e';rw[hK (by rw[q];simp)]at e;cases e)
  have hM:Mod K mg (hidT s₁.heap H):=⟨hKb,nsK hns,⟨mb,nsK hb,hbb⟩,let ⟨mc,h1,h2⟩:=hlim;⟨mc,nsK h1,h2⟩⟩;have e0:Env0 P w K mg (hidT s₁.heap H) callerA [] s₁ H:=⟨rfl,hM,fun b o e=>y4t e,Nat.le_of_eq (x9k _ _),trivial,fun b hb=>absurd (show b∈([]:List Addr)from hb) (by simp),hok,.of_eq hg,.vac hNM⟩
  refine codeAny_mono ((F _ hKb (nsK hns)).run callerA [] s₁ H ⟨[.ref a],[]⟩ [.ref a] [.ref a] _ _ hr e0 (hbind s₁ (.ref a)) (.cons rfl .nil) (hsp H hO hS)) fun r s' h=>?_
  cases r with
  |error e=>exact(hCX H e s' h).elim
  |ok fl=>
   cases fl with
   |next=>exact False.elim h
   |brk=>exact False.elim h
   |cont=>exact False.elim h
   |ret u=>
    obtain⟨v,H',os,bare,un,hok',r',q⟩:=h;have q':v=.bl true:=q;subst q';obtain rfl:u=Value.bool true:=r';refine⟨rfl,OldK.of_keep fun b o e=>?_,os,bare⟩
    cases q:H b with
    |none=>exact un.keep b o e q (by intro z;exact absurd (show b∈([]:List Addr)from z) (by simp)) (by simp)
    |some u=>
     rcases hO b with z|⟨ob,xs,z⟩
     ·rw[q]at z;cases z
     ·have z2:=un.frzs b ob _ z;obtain⟨e1,_⟩:=hok b _ z;obtain⟨e2,_⟩:=hok' b _ z2;rw[e]at e1;cases e1;exact e2
 cases hk:K.lookup a with
 |some o=>
  have e:=KX a o hk;rw[ha]at e;cases e;refine core (fun _=>none) (fun _=>.inl rfl) (.inr ⟨_,vs.toArray,_,hk,rfl,rfl,rfl,by rw[w0d,lenV];exact hl,by simpa using rv⟩) (fun b u z=>by have z':(none:Option HO)=some u:=z;cases z') (fun b z=>absurd rfl z) fun z=>absurd rfl z
 |none=>
  refine core (fun b=>if b=a then some (.frz {cls:=.type "list", data:=.seq vs.toArray} (.lst (ns.map V.int)))else none) (fun b=>?_) (.inl (.inr ⟨{cls:=.type "list", data:=.seq vs.toArray},if_pos rfl⟩)) (fun b u z=>?_) (fun b z=>?_) fun _=>hk
  ·by_cases hb:b=a
   ·exact .inr ⟨_,_,if_pos hb⟩
   ·exact .inl (if_neg hb)
  ·by_cases hb:b=a
   ·have z':=(if_pos hb).symm.trans z;cases z';subst hb;exact⟨ha,by rw[w0a];exact hl,vs,_,rv,ha⟩
   ·have z':=(if_neg hb).symm.trans z;cases z'
  ·by_cases hb:b=a
   ·exact hb
   ·exact absurd (if_neg hb) z
noncomputable abbrev KOf{K:PySem.W.Frag}{h:Heap}(_:K.In h):PySem.W.Frag:=K
theorem y48{l:PySem.W.OpenLaw}{n k:Nat}{q:Program}{loose:List Str}{XP:(Str->Option Value)->Heap->Prop}{YP:World->Heap->Prop}{d:DefRec}{K:Params->PySem.W.Frag}{CX:World->CXT}{sp:World->Sp}{x:Str}
  (hn:l.most=some n)(hn2:n<=sizeLine)(hdf:d.params.defaults=[])(hr:Room k callerA)
  (hY:∀(w:World)(h:Heap),YP w h->(K w.params).In h)
  (F:∀(w:World)(mg:Str->Option Value)(fa:Addr)(h:Heap),(K w.params).In h->h.Ns mainGlobals mg->mg d.name=some (.ref fa) ->
   ∃fd:FuncData,(∀(s:Shared)(u:Value),BindsTo s fd ⟨[u],[]⟩ [(x,u)]) /\
    ∀base:Heap,(K w.params).In base->base.Ns mainGlobals mg->FnOk l.prog w (K w.params) mg base (CX w) k fa fd [x] (sp w))
  (hsp:∀(w:World)(H:Hp)(a:Addr)(ns:List Int),ns.length<=n->Only H->SqL (K w.params) H a (ns.map V.int)->sp w [.ref a] H (fun v _=>v=.bl true) fun _ _ _=>False)
  (hCX:∀(w:World)(H:Hp)(s:Shared)(e:Value)(s':Shared),CX w [] H s (fun _ _ _=>False) e s'->False)(hNM:∀w:World,noMark (K w.params)=true):
  PySem.W.WalkO q loose XP YP l.row.toRowW d [] (fun f vs=>PySem.call f vs):=by
 refine Att.attach_call hn hdf fun w s₀ s₁ mg mb fa o pm cd doc a vs ns G Y ho hd hcd hmg hobj hints hlen hg=>?_
 have KX:=hY w _ Y;obtain⟨fd,hb,hF⟩:=F w mg fa _ KX G.T.g hmg;exact x4t KX G.T.g G.T.b G.T.builtins G.T.nolimit hg hobj hints (w0g hlen hn2) hr hF hb (fun H hO hS=>hsp w H a ns hlen hO hS) (fun H e s'=>hCX w H s₁ e s') (hNM w)
end L2
/- THE LAST THEOREM (shape; LID, My.* are yours):
   My.Adr: a structure of the addresses that your layer names (classes, functions); My.Txt K t: a structure (Prop) of the equations over K;
   My.txt_mk : {K} {implicit addresses ..} (e1 : nsIn K mainGlobals "law" = some (some (.ref f))) (e2 : K.lookup f = some ⟨oc, od, .func (fnOf "law" "law" params body scope dV kV doc pm an cdv ct), sl⟩) (e3 : codeIn K cdv "law" = true) .. : ∃ t, My.Txt K t
set_option maxRecDepth 100000 in
set_option maxHeartbeats 0 in
theorem PySem.Challenge.cw_LID_holds : PySem.Challenge.rw_LID.Holds := by
 w_on; o_law; k_head; (case hw => w_witness2)
 k_fill
 refine L2.y48 (l := PySem.Challenge.rw_LID) (n := 63) (k := 40) (x := "script") (CX := fun w => ..) (sp := fun _ => My.sp_law) rfl (by decide) rfl ⟨rfl, by decide, by decide⟩ (fun w h Y => PySem.W.kIn_of Y) ?F ?S ?C
 case F =>
  intro w mg fa h KX G hmg
  have T : ∃ t, My.Txt (L2.KOf KX) t := by
   dsimp only [L2.KOf]                          -- K must stand as «<heap const> w.params» for k_is;refine' My.txt_mk ?e1 ?e2 ?e3 ..
   (case e1 => PySem.W.k_is)                    -- in the order: a name -> its address -> its object -> its parts
   (case e2 => PySem.W.k_is)
   ..
  obtain ⟨t, T⟩ := T;have e0 := hmg.symm.trans (mg_of KX G T.law);cases e0                                       -- fa is the law's own address;exact ⟨_, fun s u => .of_eq rfl, fun base kb nb => My.law_fn T kb nb⟩     -- if «.of_eq rfl» comes too early: refine' ⟨_, ?b, fun base kb nb => My.law_fn T kb nb⟩; exact fun s u => .of_eq rfl
 case S => exact fun w H a ns hl hO hS => ..
 case C => exact ..
(the tactic k_is has no namespace: write k_is) -/
namespace L2
open PySem PySem.Spec PyProof.Rows
variable{a f:Addr}{X:Cx}{env:Env}{e:Expr}{fd:FuncData}{B base h h1:Heap}{H H':Hp}{pins:List (Addr×Obj)}{l:List Env}{es ifs:List Expr}{js:List Nat}{N ps:List Str}{pos:Pos}{P:Program}{K:PySem.W.Frag}{s:Shared}{sp:Sp}{σ:St}{qual x:Str}{mg:Str->Option Value}{t:TA}{te:TE}{v:V}{a0 cls:Value}{w:World}
noncomputable def defArgs(s:Stmt):Arguments:=match s with
 |.FunctionDef _ a _ _ _ _ _ _ _ _=>a
 |_=>{posonlyargs:=[],args:=[],vararg:=none,kwonlyargs:=[],kw_defaults:=[],kwarg:=none,defaults:=[]}
noncomputable def defBody(s:Stmt):List Stmt:=match s with
 |.FunctionDef _ _ b _ _ _ _ _ _ _=>b
 |_=>[]
noncomputable def defScope(s:Stmt):Scope:=match s with
 |.FunctionDef _ _ _ _ _ _ sc _ _ _=>sc
 |_=>{kind:=.function,names:=[],isGenerator:=false,isCoroutine:=false}
noncomputable abbrev CX0:CXT:=fun _ _ _ _ _ _=>False
noncomputable abbrev E0:XK:=fun _ _ _=>False
structure Fun(K:PySem.W.Frag)(x qual:Str)(st:Stmt)(f:Addr)(fd:FuncData):Prop where
 ex:∃(oc:Value)(od:Option Addr)(kV doc pm:Value)(an:Option Addr)(cdv ct:Value)(osl:Array (Option Value)),
  fd=PySem.W.fnOf x qual (defArgs st) (defBody st) (defScope st) .none kV doc pm an cdv ct/\K.lookup f=some ⟨oc,od,.func fd,osl⟩/\PySem.W.codeIn K cdv qual=true
 kp:keepIn K (.ref f)=true
theorem Fun.binds{st:Stmt}{ps:List Str}(F:Fun K x qual st f fd)
  (h:∀(kV doc pm:Value)(an:Option Addr)(cdv ct:Value)(us:List Value),us.length=ps.length->bindArgs (PySem.W.fnOf x qual (defArgs st) (defBody st) (defScope st) .none kV doc pm an cdv ct) ⟨us,[]⟩=pure (ps.zip us)):Binds K fd ps []:=by
 obtain⟨oc,od,kV,doc,pm,an,cdv,ct,osl,rfl,lk,hcd⟩:=F.ex;exact .all (h kV doc pm an cdv ct)
theorem q0h{st:Stmt}{oc:Value}{od an:Option Addr}{osl:Array (Option Value)}{kV doc pm cdv ct:Value}(l:K.lookup f=some ⟨oc,od,.func (PySem.W.fnOf x qual (defArgs st) (defBody st) (defScope st) .none kV doc pm an cdv ct),osl⟩)
  (c:PySem.W.codeIn K cdv qual=true)(k:keepIn K (.ref f)=true):Fun K x qual st f (PySem.W.fnOf x qual (defArgs st) (defBody st) (defScope st) .none kV doc pm an cdv ct):=⟨⟨oc,od,kV,doc,pm,an,cdv,ct,osl,rfl,l,c⟩,k⟩
theorem pv(i:Nat)(hN:X.N[i]?=some x:=by rfl)(hv:Vis X.env.scope x:=by walk_at "1")(hd:(x==("__debug__":Str))=false:=by decide)
  (hcd:(x==("__classdict__":Str))=false:=by decide):PE X (.Name x pos) (tVar i):=y72 hN hv hd hcd
def Same(H H':Hp):Prop:=∀b o,H b=some o->H' b=some o
theorem Same.refl(H:Hp):Same H H:=fun _ _ h=>h
theorem Same.trans{H1 H2:Hp}(a:Same H H1)(b:Same H1 H2):Same H H2:=fun c o h=>b c o (a c o h)
theorem Same.free(e:Same H H'){l:Addr}(h:H' l=Option.none):H l=Option.none:=by
 cases q:H l with
 |none=>rfl
 |some o=>
  rw[e l o q]at h;cases h
theorem Same.seq{xs:List V}(e:Same H H')(h:SqL K H a xs):SqL K H' a xs:=by
 rcases h with(h|⟨o,h⟩)|h
 ·exact .inl (.inl (e _ _ h))
 ·exact .inl (.inr ⟨o,e _ _ h⟩)
 ·exact .inr h
set_option maxHeartbeats 4000000
theorem ObjOk.get{o:HO}(x:ObjOk P w H h a o):∃ob,h.get? a=some ob:=by
 cases o with
 |lst xs=>obtain⟨_,_,_,_,e⟩:=x;exact⟨_,e⟩
 |tup xs=>obtain⟨_,_,_,p,_⟩:=x;obtain⟨o,e,_⟩:=p;exact⟨o,e⟩
 |dK kvs=>obtain⟨_,_,_,_,o,_,_,e,_⟩:=x;exact⟨_,e⟩
 |dT sh kvs kas=>obtain⟨_,_,_,_,_,o,_,_,e,_⟩:=x;exact⟨_,e⟩
 |set S n=>obtain⟨o,_,_,_,e,_⟩:=x;exact⟨_,e⟩
 |ins C dx fs=>obtain⟨_,_,_,e,_⟩:=x;exact⟨_,e⟩
 |own y=>obtain⟨_,e⟩:=x;exact⟨_,e⟩
 |xd fs=>obtain⟨_,⟨_,_,_,e,_⟩,_⟩:=x;exact⟨_,e⟩
 |rng lo hi=>obtain⟨_,_,_,e⟩:=x;exact⟨_,e⟩
 |frz ob u=>obtain⟨e,_⟩:=x;exact⟨_,e⟩
 |tbl ps=>rcases x with⟨_,_,_,_,e,_⟩|⟨_,_,_,_,_,_,_,_,_,_,_,_,e⟩<;>exact⟨_,e⟩
 |met f y=>exact⟨_,(show h.get? a=some _ from x)⟩
 |ext φ=>obtain⟨_,⟨_,e⟩,_⟩:=x;exact⟨_,e⟩
structure Fly(outer:List Env)(H H':Hp)(h h':Heap)(e:Addr)(cls:Value)(B:Heap):Prop where
 fl:∃a0,Heap.FlyingW B outer e cls a0 h'
 old:∀b o,h.get? b=some o->H b=none->b∉frs outer->B.get? b=some o
 trk:∀b u o,H' b=some u->h'.get? b=some o->B.get? b=some o
 all:∀b o,h.get? b=some o->b∈frs outer\/∃o',B.get? b=some o'
 new:h.get? e=none
noncomputable def CX1(P:Program)(w:World):CXT:=fun outer H s E ev s'=>∃(e:Addr)(cls:Value)(H':Hp)(B:Heap),
 ev=.ref e/\s'.os=s.os/\AllBare s'.gens/\Un (frs outer) [] H H' s.heap s'.heap/\HOk P w H' s'.heap/\Fly outer H H' s.heap s'.heap e cls B/\E cls none H'
def PassX(CX:CXT)(X:Cx)(EE:L2.St->XK):Prop:=∀(pins:List (Addr×Obj))(σ:St)(H:Hp)(s:Shared)(e:Value)(s':Shared),Inv X pins σ H s->CX X.stack H s (EE σ) e s'->X.xe e s'
def RaisX(X:Cx)(EE:L2.St->XK):Prop:=∀(pins:List (Addr×Obj))(σ:St)(H:Hp)(s:Shared)(e:Addr)(cls:Value)(vs:List Value)(h':Heap),Inv X pins σ H s->Heap.MadeExcOf s.heap h' e cls vs->EE σ cls none H->X.xe (.ref e) {s with heap:=h'}
section
variable{CX:CXT}{scope:Scope}{cd:Value}{A:Around}{outer:List Env}{s₀:Shared}{H₀:Hp}{E:XK}
theorem x7r{s':Shared}{e:Addr}{h'':Heap}
  (I:Inv (cxOf CX P w K mg base N qual scope f cd A outer s₀ H₀ E) pins σ H s)(J:Inv (cxOf CX P w K mg base N qual scope f cd A outer s₀ H₀ E) pins σ H' s')
  (old:∀b o,s.heap.get? b=some o->H b=none->b∉frs (envOfC qual scope s₀.heap.objs.size f cd::outer)->B.get? b=some o)
  (trk:∀b u o,H' b=some u->s'.heap.get? b=some o->B.get? b=some o)
  (all:∀b o,s.heap.get? b=some o->b∈frs (envOfC qual scope s₀.heap.objs.size f cd::outer)\/∃o',B.get? b=some o')
  (new:s.heap.get? e=none)
  (fl:Heap.FlyingW B outer e cls a0 h'')(up:s'.heap.UpToSlots h'')(hE:E cls none H'):
  CX1 P w outer H₀ s₀ E (.ref e) {s' with heap:=h''}:=by
 have neL:∀b o,s₀.heap.get? b=some o->b∉frs outer->b∉frs (envOfC qual scope s₀.heap.objs.size f cd::outer):=fun b o q nb hb=>by
  rcases w0h.mp (show b∈s₀.heap.objs.size::frs outer from hb)with z|z
  ·exact absurd (Heap.lt_size q) (by rw[z];exact w1y _)
  ·exact nb z
 have ex0:∀b:Addr,b∉([]:List Addr):=fun b z=>nomatch z
 have slot:∀b o,s₀.heap.get? b=some o->b∈frs outer->∃sl,h''.get? b=some {o with slots:=sl}:=fun b o q hb=>by
  obtain⟨sl,e1⟩:=J.base.slot b o q (J.ok.frf b hb) hb (ex0 b);obtain⟨_,o2,e2,nd⟩:=J.funs.mem hb
  rw[e1]at e2;cases e2;obtain⟨sl',e3⟩:=up b _ e1 nd;exact⟨sl',e3⟩
 refine⟨e,cls,H',B,rfl,J.os,J.bare,⟨fun b o q n hb hx=>?_,fun b o q n hb hx=>slot b o q hb,fun b o q n hx=>J.base.free b o q n hx,fun b o q hx=>?_,J.base.tups,J.base.frzs,J.base.tbls⟩,fun a o q=>?_,⟨⟨a0,fl⟩,fun b o q n hb=>?_,fun b u o q z=>?_,fun b o q=>?_,?_⟩,hE⟩
 ·exact fl.1 b o (old b o (I.base.keep b o q n hb hx) (I.base.free b o q n hx) (neL b o q hb))
 ·by_cases hb:b∈frs outer
  ·obtain⟨sl,z⟩:=slot b o q hb;exact⟨_,z⟩
  ·obtain⟨o1,e1⟩:=I.base.there b o q hx;rcases all b o1 e1 with z|⟨o',z⟩
   ·exact absurd z (neL b o q hb)
   ·exact⟨o',fl.1 b o' z⟩
 ·refine(J.hok a o q).stay (fun b u hb z=>?_) (fun _ z=>z) fun _ _ _ z=>z
  rcases hb with rfl|hb
  ·exact fl.1 _ _ (trk b o u q z)
  ·exact fl.1 _ _ (trk b _ u hb z)
 ·exact old b o (I.base.keep b o q n hb (ex0 b)) (I.base.free b o q n (ex0 b)) (neL b o q hb)
 ·obtain⟨o1,e1⟩:=(J.hok b u q).get;have e2:=trk b u o1 q e1;have e3:=fl.1 b o1 e2;rw[e3]at z;cases z;exact e2
 ·obtain⟨o1,e1⟩:=I.base.there b o q (ex0 b);rcases all b o1 e1 with z|z
  ·by_cases hb:b∈frs outer
   ·exact .inl hb
   ·exact absurd z (neL b o q hb)
  ·exact .inr z
 ·cases q:s₀.heap.get? e with
  |none=>rfl
  |some o=>
   obtain⟨o1,e1⟩:=I.base.there e o q (ex0 e);rw[new]at e1;cases e1
theorem pass1:PassX (CX1 P w) (cxOf (CX1 P w) P w K mg base N qual scope f cd A outer s₀ H₀ E) (fun _=>E):=by
 intro pins σ H s ev s' I hx;obtain⟨e,cls,H',B,rfl,hos,hg,un,hok,fly,hE⟩:=hx;have J:=I.call' (ch:=[]) hos un hok hg (fun b hb=>nomatch hb)
 obtain⟨a0,fl⟩:=fly.fl;refine wpAny_leaves_onW (base:=B) I.ok.frames rfl fl fun h'' fl2 up=>?_
 exact x7r I J fly.old fly.trk fly.all fly.new fl2 up hE
theorem rais1:RaisX (cxOf (CX1 P w) P w K mg base N qual scope f cd A outer s₀ H₀ E) (fun _=>E):=by
 intro pins σ H s e cls vs h' I hx hE;have J:Inv (cxOf (CX1 P w) P w K mg base N qual scope f cd A outer s₀ H₀ E) pins σ H {s with heap:=h'}:=I.kept (t':=s.toks) hx.keeps;have hin:∀env∈(envOfC qual scope s₀.heap.objs.size f cd::outer),∀b,env.frame=some b->b∈frs (envOfC qual scope s₀.heap.objs.size f cd::outer):=fun env he b hb=>w3l.mpr ⟨env,he,hb⟩
 refine wpAny_leaves_madeW (base:=PySem.W.hideAll s.heap (frs (envOfC qual scope s₀.heap.objs.size f cd::outer))) (h:=s.heap) I.ok.frames rfl (fun b o q=>PySem.W.of_hideAll _ q) (PySem.W.funFrames_hide I.stack hin) hx fun h'' t fl _ _ up=>?_
 refine x7r I J (fun b o q _ nb=>hideAll_get _ q nb) (fun b u o q z=>?_) (fun b o q=>?_) hx.new fl up hE
 ·obtain⟨o1,e1⟩:=(I.hok b u q).get;have e2:=hx.keeps b o1 e1;have z':h'.get? b=some o:=z;rw[e2]at z';cases z';refine hideAll_get _ e1 fun hb=>?_
  rw[I.stkFree b hb]at q;cases q
 ·by_cases hb:b∈frs (envOfC qual scope s₀.heap.objs.size f cd::outer)
  ·exact .inl hb
  ·exact .inr ⟨o,hideAll_get _ q hb⟩
end
theorem passE:PassX (CX1 P w) X (fun _=>E0):=fun _ _ _ _ _ _ _ h=>by
 obtain⟨_,_,_,_,_,_,_,_,_,_,z⟩:=h;exact False.elim z
def tCallX(sp:Sp)(dvs:List V)(EE:L2.St->XK)(t:TA):TE:=fun σ H Q=>t σ H fun vs H1=>sp (vs++dvs) H1 Q (EE σ)
section
variable{CX:CXT}{k:Nat}{C:Addr}{dvs:List V}{ds:List Value}{EE:L2.St->XK}{m:Str}{p apos:Pos}{o:Expr}{ta:TE}
theorem y49{Q:VK}{us:List Value}{vs:List V}(F:FnOk X.prog X.w X.K X.mg X.base CX k f fd ps sp)(hr:Room k X.A)(hb:Binds X.K fd ps ds)(hd:Vals dvs ds)(hx:PassX CX X EE)
  (I:Inv X pins σ H s)(r:Vals vs us)(h:sp (vs++dvs) H Q (EE σ)):wpAny (model X.prog X.w) X.A (call (.ref f) us) (EP X pins σ Q) X.xe s:=by
 have r2:Vals (vs++dvs) (us++ds):=r.append hd;have hl:(us++ds).length=ps.length:=by rw[<- r2.length];exact F.len _ _ _ _ h
 refine wpAny_call (codeAny_mono (F.run X.A X.stack s H ⟨us,[]⟩ (us++ds) (vs++dvs) Q (EE σ) hr I.env0 (hb s us I.kIn hl) r2 h) fun r s' hq=>?_)
 cases r with
 |error e=>exact hx pins σ H s e s' I hq
 |ok fl=>
  cases fl with
  |ret u=>exact I.after hq
  |next=>exact False.elim hq
  |brk=>exact False.elim hq
  |cont=>exact False.elim hq
theorem y2f(F:FnOk X.prog X.w X.K X.mg X.base CX k f fd ps sp)(hr:Room k X.A)(hg:Gl X x)(hm:X.mg x=some (.ref f))(hk:keepIn X.K (.ref f)=true)(hb:Binds X.K fd ps ds)(hd:Vals dvs ds)(hx:PassX CX X EE)
  (ha:PA X (e::es) t)(hdb:(x==("__debug__":Str))=false:=by decide)(he:starEach (e::es) X.env=(false,eval e X.env)::starEach es X.env:=by rfl)(hpl:(backTo pos (starEach es X.env)).any (·.1)=false:=by rfl):
  PE X (.Call (.Name x p) (e::es) [] pos) (tCallX sp dvs EE t):=by
 intro pins s σ H Q I h;refine wpAny_Call_Name_kw (q9n I hg hm ?_ hdb);refine PySem.W.callWith_K (h₀:=X.base) I.ok.mod.kin hk (thn (ha pos pins s σ H _ I h) fun us s1 ⟨vs,H1,I1,r,q⟩=>⟨I1.kIn,?_⟩) he hpl
 exact y49 F hr hb hd hx I1 r q
end
theorem Fun.okX{st:Stmt}{k:Nat}(F:Fun K x qual st f fd)(S:FnScope N ps (defScope st))(len:∀vs H Q E,sp vs H Q E->vs.length=ps.length)
  (hbody:∀(cdv:Value)(A:Around)(outer:List Env)(s:Shared)(H:Hp)(vs:List V)(Q:VK)(E:XK),Room k (A.deeper (envOfC qual (defScope st) s.heap.objs.size f cdv))->sp vs H Q E ->
   ∃t,PSs (cxOf (CX1 P w) P w K mg base N qual (defScope st) f cdv A outer s H E) (defBody st) t/\t {nx:=fun _ H'=>Q .non H',rt:=Q} (start N vs) H):FnOk P w K mg base (CX1 P w) (k+1) f fd ps sp:=by
 obtain⟨oc,od,kV,doc,pm,an,cdv,ct,osl,rfl,lk,hcd⟩:=F.ex;exact z1r lk hcd S len fun A outer s H vs Q E hr hsp=>hbody cdv A outer s H vs Q E hr hsp
noncomputable def strKeysIn(K:PySem.W.Frag)(a:Addr):Bool:=match K.lookup a with
 |some ⟨_,_,.dict es _,_⟩=>es.toList.all fun e=>match e.key with|.str _ _=>true|_=>false
 |_=>false
noncomputable def noInitIn(K:PySem.W.Frag)(a:Addr):Bool:=strKeysIn K a&&PySem.W.nsIn K a "__init__"==some none
noncomputable abbrev veMro:List Value:=[.type "ValueError", .type "Exception", .type "BaseException", .type "object"]
noncomputable def excIn(K:PySem.W.Frag)(C A:Addr):Bool:=match K.lookup C,K.lookup A with
 |some ⟨.type "type", _,.cls cd,sl⟩,some ⟨_,_,.cls ca,_⟩=>(match sl.toList with
   |[_,_,_,_,some (.builtin n),_]=>n=="ValueError.__new__"&&cd.mro==(.ref C::.ref A::veMro)&&!cd.hasDel&&noInitIn K cd.ns&&noInitIn K ca.ns
   |_=>false)
 |_,_=>false
theorem x27(X:K.In h)(q:noInitIn K a=true):∃m,h.Ns a m/\m "__init__"=none:=by
 unfold noInitIn at q;rw[w0r]at q;obtain⟨q1,q2⟩:=q;unfold strKeysIn at q1;split at q1
 ·rename_i c d es n sl hl
  have hs:StrKeys es:=fun e he=>by
   have:=w1b.mp q1 e (by simpa using he);split at this
   ·rename_i k t hk;exact⟨_,_,hk⟩
   ·cases this
  refine⟨nsFind es,⟨_,es,n,X _ _ hl,rfl,hs,fun _=>rfl⟩,?_⟩
  have q2:=beq_iff_eq.mp q2;unfold PySem.W.nsIn at q2;rw[hl]at q2;dsimp only at q2;unfold nsFind findBy;rw[<- Array.find?_toList];split at q2
  ·cases q2
  ·rename_i he;rw[he];rfl
 ·cases q1
theorem q8x{C A:Addr}(X:K.In h)(q:excIn K C A=true):
  ∃nm qn N bs hdct sn sub ab col dd k0 k1 k2 k3 k5 mN,h.get? C=some (excClassObj nm qn C N bs (.ref A::veMro) hdct sn sub ab col dd k0 k1 k2 k3 k5 "ValueError.__new__")/\h.Ns N mN/\mN "__init__"=none/\OwnTail h veMro (.ref A::veMro):=by
 unfold excIn at q;split at q
 ·rename_i dd cd sl ca0 cad ca csl hC hA;split at q
  ·rename_i k0 k1 k2 k3 n k5 hs;simp only[w0r,beq_iff_eq,Bool.not_eq_true']at q;obtain⟨⟨⟨⟨rfl,hm⟩,hdel⟩,hn⟩,hna⟩:=q;obtain⟨nm,bs,mro,ns,qn,hd,sn,sub,ab,col,del⟩:=cd;dsimp only at hm hdel hn;subst hm hdel
   have hsl:sl=#[k0,k1,k2,k3,some (.builtin "ValueError.__new__"),k5]:=by
    obtain⟨l⟩:=sl;simp only at hs;rw[hs]
   subst hsl;obtain⟨mN,hN,hi⟩:=x27 X hn;obtain⟨mA,hNA,hiA⟩:=x27 X hna;exact⟨nm,qn,ns,bs,hd,sn,sub,ab,col,dd,k0,k1,k2,k3,k5,mN,X _ _ hC,hN,hi,.own (X _ _ hA) hNA hiA .base⟩
  ·cases q
 ·cases q
def tRaise(C:Addr)(EE:L2.St->XK)(t:TA):TS:=fun _ σ H=>t σ H fun vs H1=>vs.length<=sizeLine/\EE σ (.ref C) none H1
section
variable{C Ac:Addr}{EE:L2.St->XK}{np cpos:Pos}
theorem y2g(hx:RaisX X EE)(hc:X.calm=true)(hg:Gl X x)(hm:X.mg x=some (.ref C))(hC:excIn X.K C Ac=true)(ha:PA X (e::es) t)
  (hdb:(x==("__debug__":Str))=false:=by decide)(he:starEach (e::es) X.env=(false,eval e X.env)::starEach es X.env:=by rfl)(hpl:(backTo cpos (starEach es X.env)).any (·.1)=false:=by rfl):
  PS X (.Raise (some (.Call (.Name x np) (e::es) [] cpos)) none pos) (tRaise C EE t):=by
 intro pins s σ H D I h;obtain⟨nm,qn,N,bs,hdct,sn,sub,ab,col,dd,k0,k1,k2,k3,k5,mN,hC1,hN,hi,T⟩:=q8x I.kIn hC
 have hpl2:(backTo cpos (starEach (e::es) X.env)).any (·.1)=false:=by
  rw[he];show(false||(backTo cpos (starEach es X.env)).any (·.1))=false;rw[hpl];rfl
 refine wpAny_Raise_call_subT (C:=C) (nm:=nm) (q:=qn) (N:=N) (bs:=bs) (bm:=.ref Ac::veMro) (hdct:=hdct) (sn:=sn) (sub:=sub) (ab:=ab) (col:=col) (dd:=dd) (k0:=k0) (k1:=k1) (k2:=k2) (k3:=k3) (k5:=k5)
  PySem.F.excBase_ValueError (mN:=mN) (by rfl) (I.ok.hd hc) hpl2 hi (q9n I hg hm ⟨rfl,?_⟩ hdb)
 have key:=ha cpos pins s σ H _ I h;rw[he]at key |-
 refine Calls.evalArgs_plain (wpAny_mono key (fun us s1 ⟨vs,H1,I1,r,hz,q⟩=>?_) fun _ _ y=>y)
 obtain⟨nm',qn',N',bs',hdct',sn',sub',ab',col',dd',k0',k1',k2',k3',k5',mN',hC1',hN',hi',T'⟩:=q8x I1.kIn hC;have kk:∀b o,X.base.get? b=some o->s1.heap.get? b=some o:=I1.bk
 have hCb:X.base.get? C=s1.heap.get? C:=by
  obtain⟨_,_,_,_,_,_,_,_,_,_,_,_,_,_,_,_,z,_⟩:=q8x I.ok.mod.kin hC;rw[z];exact(kk _ _ z).symm
 have hCs:s.heap.get? C=s1.heap.get? C:=by
  obtain⟨_,_,_,_,_,_,_,_,_,_,_,_,_,_,_,_,z,_⟩:=q8x I.ok.mod.kin hC;rw[I.bk _ _ z];exact(kk _ _ z).symm
 have hC2:s1.heap.get? C=some (excClassObj nm qn C N bs (.ref Ac::veMro) hdct sn sub ab col dd k0 k1 k2 k3 k5 "ValueError.__new__"):=hCs ▸ hC1;rw[hC2]at hC1';cases hC1';have em:mN' "__init__"=none:=hi'
 have hN2:s1.heap.Ns N mN:=by
  obtain⟨o1,es1,ep1,a1,a2,a3,a4⟩:=hN;obtain⟨_,_,N3,_,_,_,_,_,_,_,_,_,_,_,_,m3,z3,n3,_,_⟩:=q8x I.ok.mod.kin hC;have z4:=I.bk _ _ z3;rw[hC1]at z4;cases z4;obtain⟨o5,es5,ep5,b1,b2,b3,b4⟩:=n3;have c1:=I.bk _ _ b1;rw[a1]at c1;cases c1;exact⟨_,es1,ep1,I1.bk _ _ b1,a2,a3,a4⟩
 exact⟨rfl,by rw[<- r.length];exact hz,hC2,hN2,T',fun h' ea hme=>hx pins σ H1 s1 ea (.ref C) us h' I1 hme q⟩
end
noncomputable def excO(e:Addr)(cls:Value):HO:=.ext fun h=>∃o vs,h.get? e=some o/\o.cls=cls/\o.data=.fields vs
theorem y5a{e:Addr}(x:∃o vs,h.get? e=some o/\o.cls=cls/\o.data=.fields vs):ObjOk P w H h e (excO e cls):=by
 obtain⟨o,vs,h1,h2,h3⟩:=x;refine⟨⟨o,vs,h1,h2,h3⟩,⟨o,h1⟩,fun g1 g2 ⟨o',vs',q1,q2,q3⟩ k=>⟨o',vs',k o' q1,q2,q3⟩⟩
noncomputable abbrev Cx.tr(X:Cx)(pn:List (Addr×Obj))(xe:Value->Shared->Prop):Cx:={X with pn:=pn,xe:=xe}
noncomputable abbrev Cx.hn(X:Cx)(e:Addr):Cx:={X with A:=X.A.mark (some (.ref e)),calm:=false,xe:=fun _ _=>False}
section
variable{pins':List (Addr×Obj)}{xe:Value->Shared->Prop}{e:Addr}
theorem Cx.Ok.tr(ok:X.Ok)(pn:List (Addr×Obj))(xe:Value->Shared->Prop):(X.tr pn xe).Ok:=
 ⟨ok.mod,ok.kind,ok.glob,ok.blt,ok.above,ok.inj,ok.has,ok.cab,ok.hd,ok.frames,ok.stk,ok.exf,ok.bs,ok.bsz,ok.noex,ok.exfs,ok.funs,ok.frf,ok.tab⟩
theorem Cx.Ok.untr{pn:List (Addr×Obj)}(ok:(X.tr pn xe).Ok):X.Ok:=
 ⟨ok.mod,ok.kind,ok.glob,ok.blt,ok.above,ok.inj,ok.has,ok.cab,ok.hd,ok.frames,ok.stk,ok.exf,ok.bs,ok.bsz,ok.noex,ok.exfs,ok.funs,ok.frf,ok.tab⟩
theorem Cx.Ok.hn(ok:X.Ok)(e:Addr):(X.hn e).Ok:=
 ⟨ok.mod,ok.kind,ok.glob,ok.blt,ok.above,ok.inj,ok.has,ok.cab,(fun z=>nomatch z),ok.frames,ok.stk,ok.exf,ok.bs,ok.bsz,ok.noex,ok.exfs,ok.funs,ok.frf,ok.tab⟩
theorem Inv.tr(I:Inv X pins σ H s)(xe:Value->Shared->Prop):Inv (X.tr (X.pn++pins) xe) [] σ H s:=
 ⟨I.ok.tr _ xe,I.os,I.bare,I.base,I.loc,I.cell,I.free,I.freeC,fun p hp=>I.pin p (by simpa using hp),I.hok,I.len⟩
theorem Inv.untr(I:Inv (X.tr (X.pn++pins) xe) pins' σ H s):Inv X pins σ H s:=
 ⟨I.ok.untr,I.os,I.bare,I.base,I.loc,I.cell,I.free,I.freeC,fun p hp=>I.pin p (w2d _ hp),I.hok,I.len⟩
theorem Inv.hn(I:Inv X pins σ H s)(e:Addr):Inv (X.hn e) pins σ H s:=
 ⟨I.ok.hn e,I.os,I.bare,I.base,I.loc,I.cell,I.free,I.freeC,I.pin,I.hok,I.len⟩
theorem Inv.unhn(ok:X.Ok)(I:Inv (X.hn e) pins σ H s):Inv X pins σ H s:=
 ⟨ok,I.os,I.bare,I.base,I.loc,I.cell,I.free,I.freeC,I.pin,I.hok,I.len⟩
theorem Inv.forget{h':Heap}{m':Str->Option Value}{t:Nat}(I:Inv X pins σ H s)(hs:Heap.SameBut X.env.locals s.heap h')(hn':h'.Ns X.env.locals m'):Inv X pins (List.replicate X.N.length none) H {s with heap:=h',toks:=t}:=by
 obtain⟨m,hn,hl⟩:=id I.loc;obtain⟨oL,_,_,hoL,_⟩:=id hn
 have tracked:HOk X.prog X.w H h':=fun b ob e=>by
  refine(I.hok b ob e).stay (fun c w' hc q=>(hs.2 c ?_).trans q) (fun _ q=>q) fun _ _ _ q=>q
  rintro rfl;rcases hc with rfl|hc
  ·rw[I.free]at e;cases e
  ·rw[I.free]at hc;cases hc
 refine⟨I.ok,I.os,I.bare,⟨fun b o e n hb hx=>?_,fun b o e n hb hx=>?_,I.base.free,fun b o e hx=>?_,I.base.tups,I.base.frzs,I.base.tbls⟩,⟨m',hn',fun j y v' e1 e2 e3=>?_⟩,fun y c e=>?_,I.free,I.freeC,fun p hp=>?_,tracked,by simp⟩
 ·exact(hs.2 b (w0t (w0s (Heap.lt_size e) I.ok.above))).trans (I.base.keep b o e n hb hx)
 ·obtain⟨sl,e1⟩:=I.base.slot b o e n hb hx;exact⟨sl,(hs.2 b (w0t (w0s (Heap.lt_size e) I.ok.above))).trans e1⟩
 ·obtain⟨o',e1⟩:=I.base.there b o e hx;exact⟨o',(hs.2 b (w0t (w0s (Heap.lt_size e) I.ok.above))).trans e1⟩
 ·rw[w1r]at e2;split at e2<;>cases e2
 ·obtain⟨w',z⟩:=I.cell y c e;exact⟨w',z.sameBut hs (I.cne y c e)⟩
 ·obtain⟨e,n,ne,nf,d⟩:=I.pin p hp;exact⟨(hs.2 p.1 ne).trans e,n,ne,nf,d⟩
theorem Fly.un{h2 h3:Heap}(un:Un (frs l) [] H H' h1 h2)(fly:Fly l H H' h1 h2 e cls B)(fl:Heap.FlyingW B l e cls a0 h3)(up:h2.UpToSlots h3):Un (frs l) [] H H' h1 h3:=by
 obtain⟨a1,fl1⟩:=fly.fl;have ex0:∀b:Addr,b∉([]:List Addr):=fun b z=>nomatch z
 have slot:∀b o,h1.get? b=some o->H b=none->b∈frs l->∃sl,h3.get? b=some {o with slots:=sl}:=fun b o q n hb=>by
  obtain⟨sl,e1⟩:=un.slot b o q n hb (ex0 b);obtain⟨_,o2,e2,nd⟩:=fl1.2.2.1.mem hb;rw[e1]at e2;cases e2;obtain⟨sl',e3⟩:=up b _ e1 nd;exact⟨sl',e3⟩
 refine⟨fun b o q n hb hx=>fl.1 b o (fly.old b o q n hb),fun b o q n hb hx=>slot b o q n hb,un.free,fun b o q hx=>?_,un.tups,un.frzs,un.tbls⟩
 rcases fly.all b o q with hb|⟨o',z⟩
 ·obtain⟨_,o2,e2,nd⟩:=fl.2.2.1.mem hb;exact⟨o2,e2⟩
 ·exact⟨o',fl.1 b o' z⟩
theorem Fly.hok{h2 h3:Heap}(hok:HOk P w H' h2)(fly:Fly l H H' h1 h2 e cls B)(fl:Heap.FlyingW B l e cls a0 h3):HOk P w H' h3:=fun a o q=>by
 refine(hok a o q).stay (fun b u hb z=>?_) (fun _ z=>z) fun _ _ _ z=>z
 rcases hb with rfl|hb
 ·exact fl.1 _ _ (fly.trk b o u q z)
 ·exact fl.1 _ _ (fly.trk b _ u hb z)
theorem Fly.free{h2:Heap}(hok:HOk P w H' h2)(fly:Fly l H H' h1 h2 e cls B):H' e=none:=by
 obtain⟨a0,fl⟩:=fly.fl;cases q:H' e with
 |none=>rfl
 |some u=>
  obtain⟨o,z⟩:=(hok e u q).get;have:=fly.trk e u o q z;rw[fl.2.1]at this;cases this
theorem Un.taken{fs:List Addr}{h3:Heap}{o:HO}(un:Un fs [] H H' h1 h3)(new:h1.get? e=none)(fr:H' e=none):Un fs [] H (upd H' e o) h1 h3:=by
 refine⟨un.keep,un.slot,fun b ob q n hx=>?_,un.there,fun b xs q=>?_,fun b ob u q=>?_,fun b ps q=>?_⟩
 ·have:b≠e:=fun z=>by rw[z,new]at q;cases q
  rw[q0f this];exact un.free b ob q n hx
 ·have z:=un.tups b xs q;rw[q0f (q0s z fr)];exact z
 ·have z:=un.frzs b ob u q;rw[q0f (q0s z fr)];exact z
 ·obtain⟨more,z⟩:=un.tbls b ps q;exact⟨more,by rw[q0f (q0s z fr)];exact z⟩
theorem HOk.taken{o:HO}(hok:HOk P w H' h)(fr:H' e=none)(new:ObjOk P w (upd H' e o) h e o):HOk P w (upd H' e o) h:=fun b u q=>by
 by_cases hb:b=e
 ·subst hb;rw[q0m]at q;cases q;exact new
 ·rw[q0f hb]at q;exact(hok b u q).stay (fun _ _ _ z=>z) (fun c z=>by rw[q0f (q0s z fr)];exact z) fun c xs _ z=>by rw[q0f (q0s z fr)];exact z
end
def tTry(K:PySem.W.Frag)(c:Addr)(i n:Nat)(tb:(St->XK)->TS)(th:TS):TS:=fun D σ H=>
 tb (fun σ' cls _ H'=>exmOne K cls (.ref c)=some true/\∀e,H' e=none ->
  th {nx:=fun _ H''=>D.nx (List.replicate n none) H'',rt:=D.rt,bk:=fun _ H''=>D.bk (List.replicate n none) H'',ct:=fun _ H''=>D.ct (List.replicate n none) H''} (σ'.set i (some (.ref e))) (upd H' e (excO e cls))) D σ H
theorem y8q{body suite:List Stmt}{b₀:Stmt}{c n:Str}{i:Nat}{Cc:Addr}{np hpos:Pos}{tb:(St->XK)->TS}{th:TS}
  (hg:Gl X c)(hm:X.mg c=some (.ref Cc))(hN:X.N.Nodup)(hi:X.N[i]?=some n)(hx:X.env.scope.names.lookup n=some .local)
  (hb:∀(EE:L2.St->XK)(pn:List (Addr×Obj))(xe:Value->Shared->Prop),PassX (CX1 X.prog X.w) (X.tr pn xe) EE->PSs (X.tr pn xe) body (tb EE))
  (hh:∀e:Addr,PSs (X.hn e) (b₀::suite) th)
  (hs:X.stack=X.env::X.outer:=by rfl)(hf:X.env.frame=some X.env.locals:=by rfl)(hdb:(c==("__debug__":Str))=false:=by decide):
  PS X (.Try body [.ExceptHandler (some (.Name c np)) (some n) (b₀::suite) hpos] [] [] pos) (tTry X.K Cc i X.N.length tb th):=by
 intro pins s σ H D I h;refine wpAny_Try_except (wpAny_mono (hb _ (X.pn++pins) _ ?pass [] s σ H D (I.tr _) h) (fun f s1 q=>?_) fun _ _ z=>z)
 case pass=>
  intro pins' σ' H1 s1 ev s2 I1 hx1;obtain⟨e,cls,H2,B,rfl,hos,hgn,un,hok,fly,hmt,hE⟩:=hx1;have I0:Inv X pins σ' H1 s1:=I1.untr;have un:Un (frs X.stack) [] H1 H2 s1.heap s2.heap:=un;have fly:Fly X.stack H1 H2 s1.heap s2.heap e cls B:=fly;have hfr:=fly.free hok;obtain⟨a0,fl⟩:=fly.fl;have fl':Heap.FlyingW B (X.env::X.outer) e cls a0 s2.heap:=hs ▸ fl;have fr':X.A.frames=some (X.env::X.outer):=hs ▸ I0.ok.frames;have noch:∀b∈([]:List Addr),(b∈X.ex\/X.s₀.heap.objs.size<=b)/\b≠X.env.locals/\(∀x c,X.env.cells.lookup x=some c->c≠b)/\∀p∈X.pn++pins,p.1≠b:=fun b z=>nomatch z
  have land:∀h5 tk,Heap.FlyingW B (X.env::X.outer) e cls a0 h5->s2.heap.UpToSlots h5->Inv X pins σ' H2 {s2 with heap:=h5,toks:=tk}:=fun h5 tk fl5 up5=>by
   have fl5':Heap.FlyingW B X.stack e cls a0 h5:=hs.symm ▸ fl5;exact I0.call' (s':={s2 with heap:=h5,toks:=tk}) (ch:=[]) hos (fly.un un fl5' up5) (fly.hok hok fl5') hgn noch
  refine wpAny_looks_onW (base:=B) fr' hf fl' fun h₄ held up₄=>?_
  refine wpAny_landsW held fun h₅ fl₅ up₅'=>?_
  have up₅:s2.heap.UpToSlots h₅:=up₄.trans up₅';have I5:=land h₅ s2.toks fl₅ up₅;refine wpAny_handleBy_cons (codeAny_handlers_test ?_) (by intro q;cases q);refine q9n (X:=X.hn e) (I5.hn e) hg hm ?_ hdb;obtain⟨ob,hob,hoc⟩:=fl₅.there;have LT:PySem.W.Looks (model X.prog X.w) h₅ (typeOf (.ref e)) cls:=hoc ▸ (PySem.W.Looks.ld hob).andThen .now;refine(PySem.W.exm_one (M:=model X.prog X.w) I5.kIn LT hmt).at ?_;show codeAny _ _ _ _ _;refine codeAny_handlers_suite_as ?_;refine lands_againW fl₅ fun h₆ fl₆ up₆'=>?_
  have up₆:s2.heap.UpToSlots h₆:=up₅.trans up₆';obtain⟨oe,ws,hoe,hoec,hoed,_⟩:=fl₆.first
  have fl6':Heap.FlyingW B X.stack e cls a0 h₆:=hs.symm ▸ fl₆
  have I7:Inv X pins σ' (upd H2 e (excO e cls)) {s2 with heap:=h₆}:=
   I0.call' (s':={s2 with heap:=h₆}) (ch:=[]) hos ((fly.un un fl6' up₆).taken fly.new hfr) ((fly.hok hok fl6').taken hfr (y5a ⟨oe,ws,hoe,hoec,hoed⟩)) hgn noch
  refine x0e (X:=X.hn e) (I7.hn e) hN hi (.inl hx) (v:=.ref e) rfl (fun s8 I8=>?_) (.inr hx)
  refine wpAny_mono (hh e pins s8 _ _ _ I8 (hE e hfr)) (fun f s9 q=>?_) fun _ _ z=>z.elim
  show wpAny _ _ _ _ _ _
  have go:∀{σ9:St}{H9:Hp},Inv (X.hn e) pins σ9 H9 s9->∀R:Unit->Shared->Prop,(∀s',Inv X pins (List.replicate X.N.length none) H9 s'->R () s')->wpAny (model X.prog X.w) X.A (do bindName X.env n .none;unbindBehindTheSuite X.env n hpos) R X.xe s9:=fun {σ9 H9} I9 R hR=>by
   obtain⟨m9,hn9,_⟩:=I9.loc;refine wpAny_nameGoes (env:=X.env) hx hn9 (by rw[I0.ok.kind];rfl) fun h' m' hn' hsb=>hR _ ?_
   exact(I9.unhn I0.ok).forget hsb hn'
  cases f with
  |next=>obtain⟨σ9,H9,I9,q⟩:=q;exact go I9 _ fun s' I'=>⟨_,H9,I',q⟩
  |brk=>obtain⟨σ9,H9,I9,q⟩:=q;exact go I9 _ fun s' I'=>⟨_,H9,I',q⟩
  |cont=>obtain⟨σ9,H9,I9,q⟩:=q;exact go I9 _ fun s' I'=>⟨_,H9,I',q⟩
  |ret u=>obtain⟨v,σ9,H9,I9,r,q⟩:=q;exact go I9 _ fun s' I'=>⟨v,_,H9,I',r,q⟩
 ·cases f with
  |next=>obtain⟨σ',H',I',q⟩:=q;exact wpAny_execs_nil ⟨σ',H',I'.untr,q⟩
  |brk=>obtain⟨σ',H',I',q⟩:=q;exact⟨σ',H',I'.untr,q⟩
  |cont=>obtain⟨σ',H',I',q⟩:=q;exact⟨σ',H',I'.untr,q⟩
  |ret u=>obtain⟨v,σ',H',I',r,q⟩:=q;exact⟨v,σ',H',I'.untr,r,q⟩
structure RoomH(k:Nat)(A:Around):Prop where
 dp:A.depth+3*k+5<recursionLimit
 un:A.units+16*k+200<cLine
 gd:A.guards=some []
structure FnOkH(P:Program)(w:World)(K:PySem.W.Frag)(mg:Str->Option Value)(base:Heap)(k:Nat)(f:Addr)(fd:FuncData)(ps:List Str)(sp:Sp):Prop where
 len:∀vs H Q E,sp vs H Q E->vs.length=ps.length
 run:∀(A:Around)(outer:List Env)(s:Shared)(H:Hp)(args:Args)(us:List Value)(vs:List V)(Q:VK),RoomH k A->Env0 P w K mg base A outer s H->BindsTo s fd args (ps.zip us)->Vals vs us->sp vs H Q E0 ->
  codeAny (model P w) A (.call (.ref f) args) (CR CX0 outer P w H s Q E0) s
noncomputable abbrev Cx.cp(X:Cx)(Nc:List Str)(scope:Scope)(cl:List (Str×Addr))(C:Addr)(s₀:Shared)(H₀:Hp)(ex:List Addr):Cx:=
 {X with N:=Nc,s₀:=s₀,H₀:=H₀,env:=compEnvC scope cl C X.env,outer:=X.stack,ex:=ex,fn:=fun _=>false,pn:=[],xe:=fun _ _=>False}
theorem q6i:∀(names:List (Str×NameKind))(acc:List (Str×Addr)),(∀x∈names,x.2=.free->∃c,env.cells.lookup x.1=some c) ->
  ∃cl,(forIn names acc fun(x:Str×NameKind) (r:List (Str×Addr))=>(if(x.2==NameKind.free)=true then(cellOf env x.1 >>= fun a=>pure (ForInStep.yield ((x.1,a)::r)))else pure (ForInStep.yield r):Sem (ForInStep (List (Str×Addr)))))=pure cl /\
   (∀x c,cl.lookup x=some c->acc.lookup x=some c\/env.cells.lookup x=some c)/\(∀x,((x,NameKind.free)∈names\/(acc.lookup x).isSome=true)->(cl.lookup x).isSome=true)
 |[],acc,_=>⟨acc,rfl,fun x c h=>.inl h,fun x h=>h.elim (fun z=>nomatch z) id⟩
 |(n,k)::r,acc,h=>by
  by_cases hk:k=.free
  ·subst hk;obtain⟨c,hc⟩:=h (n,.free) w1h rfl;obtain⟨cl,e1,e2,e3⟩:=q6i r ((n,c)::acc) fun x hx=>h x (w0z _ hx)
   refine⟨cl,?_,fun x d hd=>?_,fun x hx=>?_⟩
   ·rw[w2p];have:cellOf env n=pure c:=by unfold cellOf;rw[hc]
    simp only[beq_self_eq_true,if_true,this,pure_bind];exact e1
   ·rcases e2 x d hd with z|z
    ·rw[w1e]at z
     by_cases hx:(x==n)=true
     ·rw[hx]at z;have:x=n:=by simpa using hx
      subst this;cases z;exact .inr hc
     ·rw[w2e.mpr hx]at z;exact .inl z
    ·exact .inr z
   ·refine e3 x ?_;rcases hx with z|z
    ·rcases w0h.mp z with y|y
     ·cases y;exact .inr (by rw[w1e];simp)
     ·exact .inl y
    ·refine .inr ?_;rw[w1e]
     by_cases hx:(x==n)=true
     ·rw[hx];rfl
     ·rw[w2e.mpr hx];exact z
  ·obtain⟨cl,e1,e2,e3⟩:=q6i r acc fun x hx=>h x (w0z _ hx)
   refine⟨cl,?_,e2,fun x hx=>e3 x ?_⟩
   ·rw[w2p];have:(k==NameKind.free)=false:=by simpa using hk
    simp only[this,w1x,if_false,pure_bind];exact e1
   ·rcases hx with z|z
    ·rcases w0h.mp z with y|y
     ·cases y;exact absurd rfl hk
     ·exact .inl y
    ·exact .inr z
theorem x0z{scope:Scope}(h:∀x∈scope.names,x.2=.free->∃c,env.cells.lookup x.1=some c):
  ∃cl,closureFor scope env=pure cl/\(∀x c,cl.lookup x=some c->env.cells.lookup x=some c)/\∀x,(x,NameKind.free)∈scope.names->∃c,cl.lookup x=some c:=by
 obtain⟨cl,e1,e2,e3⟩:=q6i scope.names [] h;refine⟨cl,?_,fun x c hc=>(e2 x c hc).resolve_left (fun z=>nomatch z),fun x hx=>w3q.mp (e3 x (.inl hx))⟩
 unfold closureFor
 first
  |exact e1
  |(rw[e1];rfl)
  |(simp only[e1];rfl)
theorem q8y{env : Env} : ∀ {names : List (Str × NameKind)} {x : Str}, (∀ y ∈ names, y.2 ≠ .cell) ->
    ((names.map fun (n, k) => if (k == NameKind.free && env.scope.kind == .function && env.kindOf n == some .cell) then (n, NameKind.cell) else (n, k)).lookup x = some .cell \/
     (names.map fun (n, k) => if (k == NameKind.free && env.scope.kind == .function && env.kindOf n == some .cell) then (n, NameKind.cell) else (n, k)).lookup x = some .free) -> (x, NameKind.free) ∈ names
  | [], x, _, h => by rcases h with h | h <;> cases h
  | (n, k) :: r, x, hc, h => by
    have ih := @q8y env r x fun y hy => hc y (w0z _ hy)
    rw [w0l] at h;dsimp only at h
    by_cases hx : (x == n) = true
    . have e : x = n := by simpa using hx
      subst e
      by_cases hk : k = .free
      . subst hk; exact w1h
      . exfalso
        have hb : (k == NameKind.free) = false := by simpa using hk
        simp only [hb, w1t, w1x, if_false, w1e, hx] at h;rcases h with h | h
        . exact hc (x, k) w1h (Option.some.inj h)
        . exact hk (Option.some.inj h)
    . refine w0z _ (ih ?_)
      have hb : (x == n) = false := w2e.mpr hx
      by_cases hq : (k == NameKind.free && env.scope.kind == .function && env.kindOf n == some .cell) = true
      . rw [if_pos hq] at h
        simpa only [w1e, hb] using h
      . rw [if_neg hq] at h
        simpa only [w1e, hb] using h
theorem x28{prog:Program}{A:Around}{R:Result->Shared->Prop}{elt target iter:Expr}{scope:Scope}{it acc:Value}(I:Nat->Shared->Prop)
  (turn:∀n s,I n s->wpAny (model prog w) A (pyNext it) (fun r s1=>match r with
   |none=>R (.ok .next) s1
   |some v=>wpAny (model prog w) A (letOwnedTupleGo target it v) (fun _ s2=>wpAny (model prog w) A (assign target env v) (fun _ s3=>
     wpAny (model prog w) A (forIn ifs true fun c r=>if r=true then do let ok <- isTrue c env (eval c env);pure (ForInStep.yield ok)else pure (ForInStep.yield r)) (fun ok s4=>
      if ok=true then wpAny (model prog w) A (eval elt env) (fun x s5=>wpAny (model prog w) A (call (.builtin "list.append") [acc,x]) (fun _ s6=>∃m,m<n/\I m s6) (fun _ _=>False) s5) (fun _ _=>False) s4
      else ∃m,m<n/\I m s4) (fun _ _=>False) s3) (fun _ _=>False) s2) (fun _ _=>False) s1) (fun _ _=>False) s)
  (n:Nat)(h:I n s):codeAny (model prog w) A (.compLoop (.ListComp elt [⟨target,iter,ifs,0⟩] scope pos) 0 it acc env) R s:=by
 refine codeAny_loop rfl I (fun n s hI=>?_) n h
 show wpAny _ A ((compTurn (.ListComp elt [⟨target,iter,ifs,0⟩] scope pos) 0 it acc env).onRaise (fun x=>do noteFrame x env;theTreesLotGoes x)) _ _ s
 refine wpAny_noted ?_;rw[compTurn_list];refine wpAny_bind (wpAny_standAt (wpAny_bind (wpAny_mono (turn n s hI) (fun r s1 h1=>?_) fun _ _ z=>z.elim)))
 cases r with
 |none=>exact wpAny_pure h1
 |some v=>
  refine wpAny_bind (wpAny_mono h1 (fun _ s2 h2=>?_) fun _ _ z=>z.elim)
  refine wpAny_bind (wpAny_mono h2 (fun _ s3 h3=>?_) fun _ _ z=>z.elim)
  refine wpAny_bind (wpAny_mono h3 (fun ok s4 h4=>?_) fun _ _ z=>z.elim)
  cases ok with
  |false=>exact wpAny_pure ⟨rfl,h4⟩
  |true=>exact wpAny_bind (wpAny_bind (wpAny_mono h4 (fun x s5 h5=>wpAny_bind (wpAny_mono h5 (fun _ s6 h6=>wpAny_pure (wpAny_pure ⟨rfl,h6⟩)) fun _ _ z=>z.elim)) fun _ _ z=>z.elim))
noncomputable def pj(js:List Nat)(σ:St):St:=js.map fun j=>(σ[j]?).getD none
theorem y8r{i:Nat}(h:(pj js σ)[i]?=some (some v)):∃j,js[i]?=some j/\σ[j]?=some (some v):=by
 unfold pj at h;rw[w0v]at h;cases e:js[i]? with
 |none=>rw[e]at h;cases h
 |some j=>
  rw[e]at h;have h:(σ[j]?).getD none=some v:=Option.some.inj h;refine⟨j,rfl,?_⟩;cases e2:σ[j]? with
  |none=>rw[e2]at h;cases h
  |some z=>rw[e2]at h;rw[show z=some v from h]
def PTs(X:Cx)(ifs:List Expr)(t:TT):Prop:=
 ∀(pins:List (Addr×Obj))(s:Shared)(σ:St)(H:Hp)(Q:Bool->Hp->Prop),Inv X pins σ H s->t σ H Q ->
  wpAny (model X.prog X.w) X.A (forIn ifs true fun c r=>if r=true then do let ok <- isTrue c X.env (eval c X.env);pure (ForInStep.yield ok)else pure (ForInStep.yield r)) (TP X pins σ Q) X.xe s
def tYes:TT:=fun _ H Q=>Q true H
theorem y5b:PTs X [] tYes:=fun pins s σ H Q I h=>wpAny_tests_nil ⟨H,I,h⟩
theorem y5c{c:Expr}{t:TT}(h:PT X c t):PTs X [c] t:=fun pins s σ H Q I hq=>wpAny_tests_one (h pins s σ H Q I hq)
def Kp(σ σ':St):Prop:=∀(i:Nat) v,σ[i]?=some (some v)->σ'[i]?=some (some v)
theorem Kp.one:Kp (List.replicate 1 none++σ) (some v::σ):=fun i u h=>by
 cases i with
 |zero=>cases h
 |succ i=>exact h
theorem Kp.two{u:V}:Kp (List.replicate 2 none++σ) (some v::some u::σ):=fun i w h=>by
 match i,h with
 |0,h=>cases h
 |1,h=>cases h
 |i+2,h=>exact h
def tComp(wi:TI)(nl:Nat)(js:List Nat)(g:TG)(tc:TT)(te:TE):TE:=fun σ H Q=>wi σ H fun J H1=>∀D,H1 D=none->∃W:Nat->Nat->Hp->Prop,(∃m,W 0 m (upd H1 D (.lst [])))/\∀i m H2,W i m H2 ->
 (J.stop i H2/\Q (.ref D) H2)\/(J.go i H2/\∀x H3,J.yld i H2 x H3->g x (List.replicate nl none++pj js σ) H3 fun σ4 H4=>Kp (List.replicate nl none++pj js σ) σ4/\tc σ4 H4 fun b H5=>
  if b=true then te σ4 H5 fun y H6=>∃ys,H6 D=some (.lst ys)/\ys.length<sizeLine/\∃m',m'<m/\W (i+1) m' (upd H6 D (.lst (ys++[y])))else ∃m',m'<m/\W (i+1) m' H5)
section
variable{elt target iter:Expr}{scope:Scope}{wi:TI}{g:TG}{tc:TT}
theorem x4u{Nl Nf:List Str}{fp:List Addr}{cl:List (Str×Addr)}{tk:Nat}{mC:Str->Option Value}
  (I:Inv X pins σ H s)(hfp:∀b∈fp,FpOk X pins H b)(hob:∀b∈fp,∃o,s.heap.get? b=some o/\∀v,o.data≠.cell v)
  (hk:scope.kind=.function)(hcell:∀y∈scope.names,y.2≠.cell)(hcl:∀x c,cl.lookup x=some c->X.env.cells.lookup x=some c)(hcf:∀x,(x,NameKind.free)∈scope.names->∃c,cl.lookup x=some c)
  (hj:∀(i j:Nat) y,Nf[i]?=some y->js[i]?=some j->X.N[j]?=some y)(hlen:js.length=Nf.length)
  (hNf:∀y∈Nf,(y,NameKind.free)∈scope.names/\Vis X.env.scope y/\X.env.kindOf y≠some .local)
  (hvis:∀y∈Nf,(relabel scope X.env).names.lookup y=some .cell\/(relabel scope X.env).names.lookup y=some .free)
  (hn:h1.Ns (s.heap.objs.size+1) mC)(hs:Heap.SameBut (s.heap.objs.size+1) ((s.heap.push {cls:=.type "list", dict:=none,data:=.seq ([]:List Value).toArray}).push {cls:=.type "dict", data:=.dict #[]}) h1):
  Inv (X.cp (Nl++Nf) scope cl (s.heap.objs.size+1) {s with heap:=s.heap.push {cls:=.type "list", dict:=none,data:=.seq ([]:List Value).toArray}} (upd H s.heap.objs.size (.lst [])) fp) [] (List.replicate Nl.length none++pj js σ) (upd H s.heap.objs.size (.lst [])) {s with heap:=h1,toks:=tk}:=by
 have fD:H s.heap.objs.size=none:=I.hok.fresh (w0e _);have up1:∀b u,s.heap.get? b=some u->(s.heap.push {cls:=.type "list", dict:=none,data:=.seq ([]:List Value).toArray}).get? b=some u:=fun b u q=>Heap.get?_push_of_some _ q
 have szp:(s.heap.push {cls:=.type "list", dict:=none,data:=.seq ([]:List Value).toArray}).objs.size=s.heap.objs.size+1:=Heap.size_push ..
 have up2:∀b u,(s.heap.push {cls:=.type "list", dict:=none,data:=.seq ([]:List Value).toArray}).get? b=some u->h1.get? b=some u:=fun b u q=>by
  have hlt:=Heap.lt_size q;rw[szp]at hlt;exact(hs.2 b (w0t hlt)).trans (Heap.get?_push_of_some _ q)
 have up:∀b u,s.heap.get? b=some u->h1.get? b=some u:=fun b u q=>up2 b u (up1 b u q)
 have ltOf:∀b o,s.heap.get? b=some o->b≠s.heap.objs.size:=fun b o q=>w0t (Heap.lt_size q)
 have fr0:∀b o,s.heap.get? b=some o->H b=none->upd H s.heap.objs.size (.lst []) b=none:=fun b o q n=>by rw[q0f (ltOf b o q)];exact n
 have hasC:∀x,((relabel scope X.env).names.lookup x=some .cell\/(relabel scope X.env).names.lookup x=some .free)->∃c,cl.lookup x=some c:=fun x hx=>hcf x (q8y hcell hx)
 have hokD:HOk X.prog X.w (upd H s.heap.objs.size (.lst [])) (s.heap.push {cls:=.type "list", dict:=none,data:=.seq ([]:List Value).toArray}):=
  I.hok.laid up1 (w0e _) ⟨w1i _,[],_,.nil,Heap.get?_push_size _ rfl⟩
 have cellK:∀x c,cl.lookup x=some c->∃v,s.heap.IsCell c v:=fun x c e=>I.cell x c (hcl x c e)
 have cellUp:∀c v,s.heap.IsCell c v->h1.IsCell c v:=fun c v ⟨o,q,r⟩=>⟨o,up _ _ q,r⟩
 refine⟨⟨I.ok.mod,hk,I.ok.glob,I.ok.blt,(by show(s.heap.push _).objs.size<=_;rw[szp];exact w0e _),fun x y c e1 e2=>I.ok.inj x y c (hcl x c e1) (hcl y c e2),fun x hx=>hasC x hx,(fun x c z=>nomatch z),I.ok.hd,I.ok.frames,.inl rfl,fun b hb=>⟨?_,fun x c e=>?_⟩,fun b o q=>?_,?_,fun b o q hb=>?_,fun b hb hb2=>?_,?_,fun b hb=>?_,(I.ok.tab.un I.base).laid fD⟩,
  rfl,I.bare,Un.kept up2,⟨mC,hn,fun i y v e1 e2 e3=>?_⟩,fun x c e=>?_,?_,fun x c e=>?_,fun p hp=>(by cases hp),hokD.kept up2,?_⟩
 ·obtain⟨o,q,_⟩:=hob b hb;exact w0t (w2x (Heap.lt_size q))
 ·exact(hfp b hb).2.2.2.2.1 x c (hcl x c e)
 ·obtain⟨q1,q2⟩:=I.bs b o q;exact⟨up1 _ _ q1,fr0 b o q1 q2⟩
 ·show X.base.objs.size<=(s.heap.push _).objs.size;rw[szp];exact Nat.le_succ_of_le (w0g I.ok.bsz I.sz)
 ·rcases(hfp b hb).2.2.2.1 with z|z
  ·exact I.ok.noex b o q z
  ·obtain⟨q1,_⟩:=I.ok.bs b o q;exact absurd (Heap.lt_size q1) (w4n.mpr z)
 ·rcases w0h.mp (I.stkSub b hb2)with z|z
  ·exact(hfp b hb).2.1 z
  ·exact(hfp b hb).2.2.1 z
 ·exact I.stack.of_keeps fun b o q _=>⟨o,up1 _ _ q,rfl⟩
 ·obtain⟨_,o,q,_⟩:=I.stack.mem hb;exact fr0 b o q (I.stkFree b hb)
 ·-- the names
  have e2':(List.replicate Nl.length none++pj js σ)[i]?=some (some v):=e2;have e1':(Nl++Nf)[i]?=some y:=e1
  by_cases hi:i<Nl.length
  ·rw[w2n (by simpa using hi),w1r]at e2';split at e2'<;>cases e2'
  ·have hi':Nl.length<=i:=w4n.mp hi;rw[w2m (by simpa using hi')]at e2';rw[w2m hi']at e1';rw[w2y]at e2';obtain⟨j,ej,eσ⟩:=y8r e2';have hNy:=hj _ _ _ e1' ej;obtain⟨hfr,hv,hnl⟩:=hNf y (w1f e1');obtain⟨m,hm,hl⟩:=I.loc;obtain⟨u,r,l⟩:=hl j y v hNy eσ hv;refine⟨u,r,?_⟩;rcases l with⟨k,_⟩|⟨k,c,ec,z⟩
   ·exact absurd k hnl
   ·obtain⟨c',ec'⟩:=hcf y hfr;have:=hcl y c' ec';rw[ec]at this;cases this;exact .inr ⟨hvis y (w1f e1'),c,ec',cellUp _ _ z⟩
 ·obtain⟨v,z⟩:=cellK x c e;exact⟨v,cellUp _ _ z⟩
 ·show upd H s.heap.objs.size (.lst []) (s.heap.objs.size+1)=none;rw[q0f (Nat.succ_ne_self _)];exact I.hok.fresh (w4g _)
 ·obtain⟨v,o,q,_⟩:=cellK x c e;exact fr0 c o q (I.freeC x c (hcl x c e))
 ·show(List.replicate Nl.length none++pj js σ).length=(Nl++Nf).length;rw[w0i,w0i,w2y];unfold pj;rw[w0a,hlen]
theorem x9w{σ':St}{s':Shared}{Nc:List Str}{fp:List Addr}{cl:List (Str×Addr)}{h':Heap}
  (I:Inv X pins σ H s)(hfp:∀b∈fp,FpOk X pins H b)
  (J:Inv (X.cp Nc scope cl (s.heap.objs.size+1) {s with heap:=s.heap.push {cls:=.type "list", dict:=none,data:=.seq ([]:List Value).toArray}} (upd H s.heap.objs.size (.lst [])) fp) [] σ' H' s')
  (hs:Heap.SameBut (s.heap.objs.size+1) s'.heap h'):Inv X pins σ H' {s' with heap:=h'}:=by
 have fD:H s.heap.objs.size=none:=I.hok.fresh (w0e _);have up1:∀b u,s.heap.get? b=some u->(s.heap.push {cls:=.type "list", dict:=none,data:=.seq ([]:List Value).toArray}).get? b=some u:=fun b u q=>Heap.get?_push_of_some _ q
 have neC:∀b o,s.heap.get? b=some o->b≠s.heap.objs.size+1:=fun b o q=>w0t (w2x (Heap.lt_size q))
 have fr0:∀b o,s.heap.get? b=some o->H b=none->upd H s.heap.objs.size (.lst []) b=none:=fun b o q n=>by rw[q0f (w0t (Heap.lt_size q))];exact n
 have old:∀b u,H b=some u->upd H s.heap.objs.size (.lst []) b=some u:=fun b u q=>by rw[q0f (q0s q fD)];exact q
 have B:Un (frs X.stack) fp (upd H s.heap.objs.size (.lst [])) H' (s.heap.push {cls:=.type "list", dict:=none,data:=.seq ([]:List Value).toArray}) s'.heap:=J.base;have hC:H' (s.heap.objs.size+1)=none:=J.free;refine I.call' (s':={s' with heap:=h'}) (ch:=fp) (J.os.trans rfl) ⟨fun b o q n hb hx=>?_,fun b o q n hb hx=>?_,fun b o q n hx=>B.free b o (up1 _ _ q) (fr0 b o q n) hx,fun b o q hx=>?_,fun b xs q=>B.tups b xs (old _ _ q),fun b o u q=>B.frzs b o u (old _ _ q),fun b ps q=>B.tbls b ps (old _ _ q)⟩ (fun a o q=>?_) J.bare fun b hb=>?_
 ·exact(hs.2 b (neC b o q)).trans (B.keep b o (up1 _ _ q) (fr0 b o q n) hb hx)
 ·obtain⟨sl,z⟩:=B.slot b o (up1 _ _ q) (fr0 b o q n) hb hx;exact⟨sl,(hs.2 b (neC b o q)).trans z⟩
 ·obtain⟨o',z⟩:=B.there b o (up1 _ _ q) hx;exact⟨o',(hs.2 b (neC b o q)).trans z⟩
 ·refine(J.hok a o q).stay (fun c v hc z=>(hs.2 c ?_).trans z) (fun _ z=>z) fun _ _ _ z=>z
  rintro rfl;rcases hc with rfl|hc
  ·rw[hC]at q;cases q
  ·rw[hC]at hc;cases hc
 ·obtain⟨_,f1,f2,f3,f4,f5⟩:=hfp b hb;exact⟨f3,f1,f4,f5⟩
theorem y5d{Nl Nf:List Str}(hc:X.calm=true)(hi:PI X target iter wi)
  (hk:scope.kind=.function)(hcell:∀y∈scope.names,y.2≠.cell)(hnames:∀x∈scope.names,x.2=.local->scope.names.lookup x.1=some .local)
  (hfree:∀x∈scope.names,x.2=.free->X.env.kindOf x.1=some .cell\/X.env.kindOf x.1=some .free)
  (hj:∀(i j:Nat) y,Nf[i]?=some y->js[i]?=some j->X.N[j]?=some y)(hlen:js.length=Nf.length)
  (hNf:∀y∈Nf,(y,NameKind.free)∈scope.names/\Vis X.env.scope y/\X.env.kindOf y≠some .local)
  (hvis:∀y∈Nf,(relabel scope X.env).names.lookup y=some .cell\/(relabel scope X.env).names.lookup y=some .free)
  (hg:∀cl C s₀ H₀ ex,PG (X.cp (Nl++Nf) scope cl C s₀ H₀ ex) target g)(ht:∀cl C s₀ H₀ ex,PTs (X.cp (Nl++Nf) scope cl C s₀ H₀ ex) ifs tc)(he:∀cl C s₀ H₀ ex,PE (X.cp (Nl++Nf) scope cl C s₀ H₀ ex) elt te)
  (hs:∀x,foldedSetIterable iter X.env x=pure x:=by intro _;rfl):
  PE X (.ListComp elt [⟨target,iter,ifs,0⟩] scope pos) (tComp wi Nl.length js g tc te):=by
 intro pins s σ H Q I h;obtain⟨cl,hclos,hcl,hcf⟩:=x0z (scope:=scope) (env:=X.env) fun x hx hf=>I.ok.has x.1 (hfree x hx hf)
 rw[eval_ListComp];refine wpAny_comprehension_free (use:=none) rfl hs hclos hk hnames (thn (hi pins s σ H _ I h) fun v s1 h1=>thn h1 fun itv s2 h2=>?_)
 obtain⟨it,fp,tn,J,H2,e,I2,T,st2,f2,rd⟩:=h2;subst e;refine wpAny_newObj_type (wpAny_newFunctionEnv hcell (by intro y hy;simp at hy) (fun h₁ hns₁ hsb₁=>?_) hk)
 dsimp only at hns₁ hsb₁ |-
 have szp:(s2.heap.push {cls:=.type "list", dict:=none,data:=.seq ([]:List Value).toArray}).objs.size=s2.heap.objs.size+1:=Heap.size_push ..;rw[szp]at hns₁ hsb₁ |-
 have fD:H2 s2.heap.objs.size=none:=I2.hok.fresh (w0e _);obtain⟨W,⟨m0,w0⟩,turn⟩:=rd s2.heap.objs.size fD;have obj2:=T.obj 0 s2.heap st2;have IS:=x4u (Nl:=Nl) (Nf:=Nf) (js:=js) (cl:=cl) (tk:=s2.toks+([]:List (Str×Value)).length) I2 f2 obj2 hk hcell hcl hcf hj hlen hNf hvis hns₁ hsb₁
 have upS:∀b u,s2.heap.get? b=some u->h₁.get? b=some u:=fun b u q=>by
  have hlt:=Heap.lt_size q;exact(hsb₁.2 b (w0t (w2x hlt))).trans (Heap.get?_push_of_some _ (Heap.get?_push_of_some _ q))
 have stS:tn 0 h₁:=T.keep 0 s2.heap h₁ st2 fun b hb o q=>upS b o q
 have noD:∀b∈fp,upd H2 s2.heap.objs.size (.lst []) b=none:=fun b hb=>by
  obtain⟨o,q,_⟩:=obj2 b hb;rw[q0f (w0t (Heap.lt_size q))];exact(f2 b hb).1
 have stat:∀{H':Hp},(∀b∈fp,H' b=none)->∀b∈fp,FpOk (X.cp (Nl++Nf) scope cl (s2.heap.objs.size+1) {s2 with heap:=s2.heap.push {cls:=.type "list", dict:=none,data:=.seq ([]:List Value).toArray}} (upd H2 s2.heap.objs.size (.lst [])) fp) [] H' b:=fun hn b hb=>by
  refine⟨hn b hb,(IS.ok.exf b hb).1,IS.ok.exfs b hb,.inl hb,(IS.ok.exf b hb).2,fun p hp=>(by cases hp)⟩
 have loop:∀s4:Shared,s4={s2 with heap:=h₁,toks:=s2.toks+([]:List (Str×Value)).length} ->
   codeAny (model X.prog X.w) X.A (.compLoop (.ListComp elt [⟨target,iter,ifs,0⟩] scope pos) 0 (.ref it) (.ref s2.heap.objs.size) (compEnvC scope cl (s2.heap.objs.size+1) X.env))
    (compPost (model X.prog X.w) X.A X.xe none (EP X pins σ Q) (.ref s2.heap.objs.size) (s2.heap.objs.size+1)) s4:=by
  rintro s4 rfl;refine x28 (fun n s'=>∃i H',Inv (X.cp (Nl++Nf) scope cl (s2.heap.objs.size+1) {s2 with heap:=s2.heap.push {cls:=.type "list", dict:=none,data:=.seq ([]:List Value).toArray}} (upd H2 s2.heap.objs.size (.lst [])) fp) [] (List.replicate Nl.length none++pj js σ) H' s'/\tn i s'.heap/\(∀b∈fp,H' b=none)/\W i n H') ?_ m0 ⟨0,_,IS,stS,noD,w0⟩
  rintro n s3 ⟨i,H3,I3,st3,fr3,w3⟩;rcases turn i n H3 w3 with⟨stop,qn⟩|⟨go,step⟩
  ·refine thn (T.done (X.cp (Nl++Nf) scope cl (s2.heap.objs.size+1) {s2 with heap:=s2.heap.push {cls:=.type "list", dict:=none,data:=.seq ([]:List Value).toArray}} (upd H2 s2.heap.objs.size (.lst [])) fp) rfl rfl rfl hc i [] s3 _ H3 _ I3 (stat fr3) st3 stop) fun r s5 ⟨hr,I5⟩=>?_
   subst hr;obtain⟨m5,hn5,_⟩:=I5.loc;refine⟨m5,hn5,fun h' hs'=>⟨.ref s2.heap.objs.size,H3,x9w I2 f2 I5 hs',rfl,qn⟩⟩
  ·refine thn (T.item (X.cp (Nl++Nf) scope cl (s2.heap.objs.size+1) {s2 with heap:=s2.heap.push {cls:=.type "list", dict:=none,data:=.seq ([]:List Value).toArray}} (upd H2 s2.heap.objs.size (.lst [])) fp) rfl rfl rfl hc i [] s3 _ H3 _ I3 (stat fr3) st3 go) fun r s5 ⟨u,hr,h5⟩=>?_
   subst hr;refine thn h5 fun _ s6 ⟨x,H6,I6,r6,y6,st6,fr6⟩=>?_
   have I6':=I6.pinned (stat fr6) (T.obj _ _ st6);refine thn (hg _ _ _ _ _ _ s6 _ H6 x u _ I6' r6 (step x H6 y6)) fun _ s7 ⟨σ7,H7,I7,kp,q7⟩=>?_
   refine thn (ht _ _ _ _ _ _ s7 σ7 H7 _ I7 q7) fun ok s8 ⟨H8,I8,q8⟩=>?_
   have again:∀{σ9:St}{H9:Hp}{s9:Shared},Inv (X.cp (Nl++Nf) scope cl (s2.heap.objs.size+1) {s2 with heap:=s2.heap.push {cls:=.type "list", dict:=none,data:=.seq ([]:List Value).toArray}} (upd H2 s2.heap.objs.size (.lst [])) fp) ([]++pinsAt fp s6.heap) σ9 H9 s9 ->
     Kp (List.replicate Nl.length none++pj js σ) σ9->(∃m',m'<n/\W (i+1) m' H9)->∃m,m<n/\∃i H',Inv (X.cp (Nl++Nf) scope cl (s2.heap.objs.size+1) {s2 with heap:=s2.heap.push {cls:=.type "list", dict:=none,data:=.seq ([]:List Value).toArray}} (upd H2 s2.heap.objs.size (.lst [])) fp) [] (List.replicate Nl.length none++pj js σ) H' s9/\tn i s9.heap/\(∀b∈fp,H' b=none)/\W i m H':=fun {σ9 H9 s9} I9 hw ⟨m',hm,w9⟩=>by
    refine⟨m',hm,i+1,H9,I9.unpinned.weak (by rw[I9.len,<- IS.len]) hw,T.keep _ _ _ st6 fun b hb o q=>(I9.pin (b,o) (w0m _ (w0m _ (q3s hb q)))).1,fun b hb=>?_,w9⟩
    obtain⟨o,q,d⟩:=T.obj _ _ st6 b hb;exact(I9.pin (b,o) (w0m _ (w0m _ (q3s hb q)))).2.1
   cases ok with
   |false=>exact again I8 kp (by simpa using q8)
   |true=>
    have q8':=by simpa only[if_true]using q8
    refine thn (he _ _ _ _ _ _ s8 σ7 H8 _ I8 q8') fun y s9 ⟨yv,H9,I9,r9,ys,hD,hz,q9⟩=>?_
    refine thn (q8w _ s9 σ7 H9 (.ref s2.heap.objs.size) [yv] (.ref s2.heap.objs.size) [y] (fun v H'=>v=.non/\H'=upd H9 s2.heap.objs.size (.lst (ys++[yv]))) I9 rfl (.cons r9 .nil) ⟨_,ys,yv,rfl,rfl,hD,hz,rfl,rfl⟩) fun _ s10 ⟨_,H10,I10,_,_,e10⟩=>?_
    subst e10;exact again I10 kp q9
 exact codeAny_compStart_list (loop _ rfl) (T.self X.A 0 _ _ _ stS (loop _ rfl))
end
theorem q6j{env:Env}:∀{names:List (Str×NameKind)}{x:Str},names.lookup x=some .free ->
  (names.map fun(n,k)=>if(k==NameKind.free&&env.scope.kind==.function&&env.kindOf n==some .cell)then(n,NameKind.cell)else(n,k)).lookup x=some .cell \/
  (names.map fun(n,k)=>if(k==NameKind.free&&env.scope.kind==.function&&env.kindOf n==some .cell)then(n,NameKind.cell)else(n,k)).lookup x=some .free
 |[],x,h=>by cases h
 |(n,k)::r,x,h=>by
  have ih:=@q6j env r x;rw[w0l];dsimp only
  by_cases hx:(x==n)=true
  ·simp only[w1e,hx]at h;cases h
   by_cases hq:(NameKind.free==NameKind.free&&env.scope.kind==.function&&env.kindOf n==some .cell)=true
   ·rw[if_pos hq];left;simp[w1e,hx]
   ·rw[if_neg hq];right;simp[w1e,hx]
  ·have hb:(x==n)=false:=w2e.mpr hx;simp only[w1e,hb]at h;have z:=ih h
   by_cases hq:(k==NameKind.free&&env.scope.kind==.function&&env.kindOf n==some .cell)=true
   ·rw[if_pos hq];simpa only[w1e,hb]using z
   ·rw[if_neg hq];simpa only[w1e,hb]using z
noncomputable def compOk(sc scope:Scope)(N Nf:List Str)(js:List Nat):Bool:=
 scope.kind==.function&&scope.names.all (fun y=>y.2 != .cell)&&scope.names.all (fun y=>y.2 != .local||scope.names.lookup y.1==some .local) &&
 scope.names.all (fun y=>y.2 != .free||sc.names.lookup y.1==some .cell||sc.names.lookup y.1==some .free)&&js.length==Nf.length &&
 (List.range js.length).all (fun i=>match js[i]?,Nf[i]? with|some j,some y=>N[j]?==some y|_,_=>true) &&
 Nf.all (fun y=>scope.names.lookup y==some .free&&(sc.names.lookup y==some .cell||sc.names.lookup y==some .free))
theorem x0f{elt target iter:Expr}{scope sc:Scope}{wi:TI}{g:TG}{tc:TT}{Nl Nf:List Str}(hc:X.calm=true)(hi:PI X target iter wi)
  (ok:compOk sc scope N Nf js=true)
  (hg:∀cl C s₀ H₀ ex,PG (X.cp (Nl++Nf) scope cl C s₀ H₀ ex) target g)(ht:∀cl C s₀ H₀ ex,PTs (X.cp (Nl++Nf) scope cl C s₀ H₀ ex) ifs tc)(he:∀cl C s₀ H₀ ex,PE (X.cp (Nl++Nf) scope cl C s₀ H₀ ex) elt te)
  (hsc:X.env.scope=sc:=by rfl)(hN:X.N=N:=by rfl)(hs:∀x,foldedSetIterable iter X.env x=pure x:=by intro _;rfl):
  PE X (.ListComp elt [⟨target,iter,ifs,0⟩] scope pos) (tComp wi Nl.length js g tc te):=by
 unfold compOk at ok;simp only[w0r,w1b,beq_iff_eq,bne_iff_ne,Bool.or_eq_true,w0w]at ok;obtain⟨⟨⟨⟨⟨⟨k1,k2⟩,k3⟩,k4⟩,k5⟩,k6⟩,k7⟩:=ok;have kind:∀x,X.env.kindOf x=sc.names.lookup x:=fun x=>by rw[<- hsc];rfl
 refine y5d hc hi k1 k2 (fun x hx hl=>(k3 x hx).resolve_left fun z=>z hl) (fun x hx hf=>?_) (fun i j y e1 e2=>?_) k5 (fun y hy=>?_) (fun y hy=>?_) hg ht he hs
 ·rw[kind];rcases k4 x hx with(z|z)|z
  ·exact absurd hf z
  ·exact .inl z
  ·exact .inr z
 ·have hlt:i<js.length:=(w0c.mp e2).1;have z:=k6 i hlt;rw[e1,e2]at z;rw[hN]
  simpa using z
 ·obtain⟨z1,z2⟩:=k7 y hy;refine⟨PySem.mem_of_lookup z1,?_,?_⟩
  ·rw[hsc];rcases z2 with z|z
   ·exact .inr (.inl z)
   ·exact .inr (.inr z)
  ·rw[kind];rcases z2 with z|z<;>(rw[z];decide)
 ·exact q6j (k7 y hy).1
abbrev TF:=Str->St->Hp->(Str->Hp->Prop)->Prop
def PF(X:Cx)(es:List Expr)(t:TF):Prop:=∀(acc:Str)(pins:List (Addr×Obj))(s:Shared)(σ:St)(H:Hp)(Q:Str->Hp->Prop),Inv X pins σ H s->t acc σ H Q ->
 Joins (model X.prog X.w) X.A X.xe (evalEach es X.env) acc (fun out s'=>out.length<=sizeLine/\∃H',Inv X pins σ H' s'/\Q out H') s
theorem y2h(hc:X.calm=true):CallR X (.builtin "all") (fun xs H Q=>∃p ys,xs=[.ref p]/\SqL X.K H p ys/\(∀y∈ys,∃b,y=.bl b)/\Q (.bl (ys.all fun y=>decide (y=.bl true))) H):=by
 intro pins s σ H xs us Q I r h;obtain⟨p,ys,rfl,hq,hb,q⟩:=h;obtain⟨u,rfl,rx⟩:=vals1 r;cases rx;obtain⟨its,r',pl,hz⟩:=I.list hq;have hl:=pl.isList;have hlt:p<s.heap.objs.size:=by obtain⟨_,e,_⟩:=hl;exact Heap.lt_size e
 have hh:X.A.in1.handled=none:=I.ok.hd hc;refine call_all_walk (wpAny_pyIter_list hl ⟨s.heap.objs.size,[s.heap.objs.size,p],[s.heap.objs.size],_,_,_,fun i=>decide (ys[i]?=some (.bl true)),rfl,Walks.list hh s.heap.objs.size p (w0t hlt) its.toArray,⟨⟨_,Heap.get?_push_size _ rfl,rfl,rfl⟩,hl.push _⟩,?_,fun h' tk kp=>?_⟩)
 ·intro i v s1 Q1 E1 hv hQ;have hv':its[i]?=some v:=by simpa using hv
  have hi:i<ys.length:=by rw[r'.length];exact(w0c.mp hv').1
  obtain⟨u,hu,ru⟩:=r'.get (w0b hi);rw[hv']at hu;cases hu;obtain⟨b,eb⟩:=hb ys[i] (w1w hi);rw[eb]at ru;cases ru;refine wpAny_truthy_bool ?_
  have e:decide (ys[i]?=some (V.bl true))=b:=by
   rw[w0b hi,eb];cases b<;>simp
  rw[<- e];exact hQ
 ·have e:(List.range its.toArray.size).all (fun i=>decide (ys[i]?=some (V.bl true)))=ys.all fun y=>decide (y=.bl true):=by
   rw[w1l,w1b,w1b];constructor
   ·intro hA y hy;obtain⟨i,hi,rfl⟩:=w4h hy;have z:=hA i (by rw[w0w,w0d,<- r'.length];exact hi);rw[w0b hi]at z
    simpa using z
   ·intro hA i hi;rw[w0w,w0d,<- r'.length]at hi;have z:=hA ys[i] (w1w hi);rw[w0b hi]
    simpa using z
  refine⟨.bl _,H,I.kept (t':=tk) fun b o hbo=>kp b o (fun z=>?_) (Heap.get?_push_of_some _ hbo),rfl,e ▸ q⟩
  rw[w0u]at z;exact absurd (Heap.lt_size hbo) (by rw[z];exact w1y _)
namespace RevT
variable{I:Addr}{A:Around}{X:Cx}{e:Expr}{h:Heap}{H H':Hp}{EE:L2.St->XK}{es:List Expr}{ps:List Str}{P prog:Program}{K:PySem.W.Frag}{s:Shared}{x:Str}{t:TA}{E:Value->Shared->Prop}{w:World}
theorem nolen:typeLookup (.type "list_reverseiterator") "__len__"=pure none:=by rw[typeLookup_type,builtinLookup_eq_fast];kernel_rfl
theorem hint:typeLookup (.type "list_reverseiterator") "__length_hint__"=pure (some (.builtin "list_reverseiterator.__length_hint__")):=by rw[typeLookup_type,builtinLookup_eq_fast];kernel_rfl
section
variable{fp wr:List Addr}{G:Array GenState->Array GenState->Prop}{n:Nat}{P:Nat->Value->Prop}{St:Nat->Shared->Prop}
theorem x6p{Q:List Value->Shared->Prop}(W:WalksS prog w A.in1 I fp wr G n P St)(hT:∀i s,St i s->s.TypeIs (.ref I) "list_reverseiterator")(hst:St 0 s)(hfp:∀b∈fp,b<s.heap.objs.size)(hI:I∈fp)
  (hQ:∀s' acc,Moved wr G s s'->ItemsOf P acc n->Q acc.toList s')(hn:n<=sizeLine):wpAny (model prog w) A (collect (.ref I)) Q E s:=by
 have hSf:s.heap.objs.size∉fp:=fun hm=>w1y _ (hfp _ hm)
 have hSI:s.heap.objs.size≠I:=fun e=>hSf (e ▸ hI)
 unfold collect;refine wpAny_bind (wpAny_runValue (codeAny_builtin F.entry_proto_collect ?_));rw[Around.under_plainId F.plain_proto_collect _];show wpAny _ A.in1 (newList [] >>= fun l=>again (.builtin "list.__iadd__" ⟨[l,.ref I],[]⟩)) _ _ s
 refine wpAny_bind (wpAny_newObj_type ?_);refine wpAny_pure ⟨plainId_quiet F.plain_list_iadd _,codeAny_builtin F.entry_list_iadd ?_⟩;rw[Around.under_plainId F.plain_list_iadd _];have hst1:=W.frame 0 s (s.heap.push {cls:=.type "list", data:=.seq ([]:List Value).toArray}) s.toks hst (w0e _) fun b _ o e=>Heap.get?_push_of_some _ e
 have hS1:(s.heap.push {cls:=.type "list", data:=.seq ([]:List Value).toArray}).get? s.heap.objs.size=some {cls:=.type "list", data:=.seq ([]:List Value).toArray}:=Heap.get?_push_size _ rfl;have h1:Builtin.List.listSameRef (.ref s.heap.objs.size) (.ref I)=false:=by simp[Builtin.List.listSameRef,hSI]
 show wpAny _ A.in1 (Builtin.List.listExtendWith (.ref s.heap.objs.size) (.ref I) (.ref s.heap.objs.size)) _ _ _;unfold Builtin.List.listExtendWith;refine wpAny_bind (wpAny_typeOf (hT 0 _ hst1) ?_);rw[if_neg (by rw[h1];decide)];refine wpAny_bind (W.self 0 _ _ _ hst1 ?_);refine wpAny_bind (wpAny_holding ?_);unfold Builtin.List.listLengthHint;refine wpAny_bind (wpAny_specialOf (hT 0 _ hst1) nolen ?_);show wpAny _ A.in1 (specialOf (Value.ref I) (Str.ofString "__length_hint__") >>= _) _ _ _;refine wpAny_bind (wpAny_specialOf (hT 0 _ hst1) hint ?_)
 (generalize hid:("list_reverseiterator.__length_hint__":String)=id0;(fail_if_success (clear hid id0));wp_delta;rw[show splitId id0=some ("list_reverseiterator", "__length_hint__")from by subst hid;decide +kernel];subst hid)
 refine wpAny_bind (wpAny_isInstance (b:=true) (hT 0 _ hst1) (by rw[isSubtype_type];kernel_rfl) ?_);refine wpAny_pure ?_;rw[if_neg (by decide)];refine wpAny_pure ⟨plainId_quiet F.plain_extend_loop _,codeAny_extend_loopS W hn _ hSf _ n 0 _ _ _ rfl (w1i _) hst1 hS1 (ItemsOf.nil P) fun s' acc' c' hm hS' hacc=>?_⟩
 show wpAny _ A (load s.heap.objs.size >>= _) _ _ s';refine wpAny_bind (wpAny_load hS' ?_);exact wpAny_pure (hQ s' acc' (Moved.drop_new (o:={cls:=.type "list", data:=.seq ([]:List Value).toArray}) (tk:=s.toks) hm (w0e _)) hacc)
end
open AutoSeq1 (wpAny_loadPart')
theorem x8o{l:Addr}{items:Array Value}{Q:List Value->Shared->Prop}(hh:A.handled=none)(hne:l≠I)(hit:s.heap.IsRevIter I l ((items.size:Int)-1))(hl:s.heap.IsList l items)(hsz:items.size<=sizeLine)
  (hQ:∀s' acc,Moved [I] (fun a b=>b=a) s s'->ItemsOf (fun i v=>items[items.size-1-i]?=some v) acc items.size->Q acc.toList s'):wpAny (model prog w) A (collect (.ref I)) Q E s:=by
 have hlt:∀b∈[I,l],b<s.heap.objs.size:=fun b hb=>by
  rcases w0h.mp hb with z|z
  ·rw[z];obtain⟨_,e,_⟩:=hit;exact Heap.lt_size e
  ·rw[w0u.mp z];obtain⟨_,e,_⟩:=hl;exact Heap.lt_size e
 exact x6p (Walks.listRev (A:=A.in1) hh I l hne items).toS (fun _ _ st=>st.2.1.typeIs) ⟨w1i _,by simpa using hit,hl⟩ hlt w1h hQ hsz
theorem x3y(I l:Addr)(items:Array Value)(hne:l≠I)(hsz:items.size<=sizeLine):
  Meets (Builtin.«tuple.__new__» ⟨[.type "tuple", .ref I],[]⟩)
   (fun A R s=>A.handled=none/\s.heap.IsRevIter I l ((items.size:Int)-1)/\s.heap.IsList l items/\∀(s':Shared)(acc:Array Value),Moved [I] (fun a b=>b=a) s s'->ItemsOf (fun i v=>items[items.size-1-i]?=some v) acc items.size ->
    R (.ok (.ret (.ref s'.heap.objs.size))) {s' with heap:=s'.heap.push {cls:=.type "tuple", data:=.seq acc}}):=
 .of_wp fun prog w A R s h=>by
  obtain⟨hh,hit,hl,h⟩:=h;have hsub:=sub_tuple_self;have hinit:=init_tuple_lookup;have hmh:=madeHere_tuple;have hT:s.TypeIs (.ref I) "list_reverseiterator":=hit.typeIs;have hh1:A.in1.handled=none:=hh
  wp_walk using wpAny_typeOf hT,x8o hh1 hne hit hl hsz
  intro s' acc hm hacc;show wpAny _ _ (Builtin.Tuple.tupleExact acc.toList.toArray >>= fun v=>ret v) _ _ _
  unfold Builtin.Tuple.tupleExact;refine wpAny_bind (wpAny_newObj_type ?_ (show acc.toList.toArray.size<=sizeLine by simp only[Array.toArray_toList];rw[hacc.1];exact hsz));refine wpAny_pure ⟨_,rfl,?_⟩;have e:acc.toList.toArray=acc:=by simp
  rw[e];exact h s' acc hm hacc
theorem call_rev{l:Addr}{items:Array Value}{Q:Value->Shared->Prop}(hh:A.handled=none)(hne:l≠I)(hit:s.heap.IsRevIter I l ((items.size:Int)-1))(hl:s.heap.IsList l items)(hsz:items.size<=sizeLine)
  (h:∀(h':Heap)(tk:Nat)(acc:Array Value),(∀b o,b≠I->s.heap.get? b=some o->h'.get? b=some o)->ItemsOf (fun i v=>items[items.size-1-i]?=some v) acc items.size->Q (.ref h'.objs.size) {s with heap:=h'.push {cls:=.type "tuple", data:=.seq acc},toks:=tk}):
  wpAny (model prog w) A (call (.type "tuple") [.ref I]) Q E s:=by
 refine callType_new F.called_tuple (by decide) (F.typeCall_tuple_1 _) (F.newCall_tuple_1 _) (fun obj=>F.args_object_init_2 obj _) F.entry_tuple_new
  (x3y I l items hne hsz) ⟨hh,hit,hl,fun s' acc hm hacc=>⟨⟨_,Heap.get?_push_size _ rfl,rfl⟩,?_⟩⟩
 rw[Moved.eq_with hm];exact h s'.heap s'.toks acc (fun b o hb e=>hm.heap b o (fun z=>hb (w0u.mp z)) e) hacc
end RevT
def tTupRev(K:PySem.W.Frag)(te:TE):TE:=fun σ H Q=>te σ H fun x H1=>∃p ys,x=.ref p/\SqL K H1 p ys/\∀l,H1 l=none->Q (.ref l) (upd H1 l (.tup ys.reverse))
theorem x9x{te:TE}{p1 p2 pos1 pos2:Pos}(hc:X.calm=true)(hm1:X.mg "tuple"=none)(hm2:X.mg "reversed"=none)(he:PE X e te)(hg1:Gl X "tuple":=by rfl)(hg2:Gl X "reversed":=by rfl)
  (hs1:starEach [.Call (.Name "reversed" p2) [e] [] pos2] X.env=(false,eval (.Call (.Name "reversed" p2) [e] [] pos2) X.env)::starEach [] X.env:=by rfl)(hs2:starEach [e] X.env=(false,eval e X.env)::starEach [] X.env:=by rfl):
  PE X (.Call (.Name "tuple" p1) [.Call (.Name "reversed" p2) [e] [] pos2] [] pos1) (tTupRev X.K te):=by
 intro pins s σ H Q I h;refine wpAny_Call_Name_kw (q5s I hg1 hm1 PyProof.Rows.Boot.«tuple» ?_ (by decide));refine PyProof.Rows.callWith_type1 ?_ hs1 rfl;rw[hs1];show wpAny _ _ (spliced ((false,eval (.Call (.Name "reversed" p2) [e] [] pos2) X.env)::backTo pos1 (starEach [] X.env))) _ _ s;refine Calls.spliced_cons ?_;refine wpAny_Call_Name_kw (q5s I hg2 hm2 PyProof.Rows.Boot.«reversed» ?_ (by decide));refine PyProof.Rows.callWith_type1 ?_ hs2 rfl;rw[hs2];show wpAny _ _ (spliced ((false,eval e X.env)::backTo pos2 (starEach [] X.env))) _ _ s;refine Calls.spliced_cons (thn (he pins s σ H _ I h) fun v s1 ⟨x,H1,I1,rx,p,ys,ex,hq,q⟩=>Calls.spliced_nil ?_)
 subst ex;cases rx;obtain⟨its,r',pl,hz⟩:=I1.list hq;have hl:=pl.isList;have hlt:p<s1.heap.objs.size:=by obtain⟨_,e,_⟩:=hl;exact Heap.lt_size e
 refine call_reversed_list hl ?_;refine Calls.spliced_nil ?_;have hh:X.A.handled=none:=I1.ok.hd hc;refine RevT.call_rev (items:=its.toArray) hh (w0t hlt) ⟨_,Heap.get?_push_size _ rfl,rfl,rfl⟩ (hl.push _) (by simp only[w0d];rw[<- r'.length];exact hz) fun h' tk acc kp hacc=>?_
 have up:∀b o,s1.heap.get? b=some o->h'.get? b=some o:=fun b o hbo=>kp b o (w0t (Heap.lt_size hbo)) (Heap.get?_push_of_some _ hbo)
 have I2:Inv X pins σ H1 {s1 with heap:=h',toks:=tk}:=I1.kept (t':=tk) up
 have ea:acc=its.reverse.toArray:=by
  obtain⟨n1,n2⟩:=hacc;apply Array.ext';apply w2v;intro i
  by_cases hi:i<its.length
  ·have hi':i<acc.size:=by rw[n1];simpa using hi
   have z:=n2 i acc[i] (by simp[hi']);simp only[w0d,List.getElem?_toArray]at z;rw[List.getElem?_reverse hi,z];simp[hi']
  ·rw[w1o (by simp at n1 |-;omega),w1o (by simp;omega)]
 subst ea
 have I3:Inv X pins σ (upd H1 h'.objs.size (.tup ys.reverse)) {s1 with heap:=h'.push {cls:=.type "tuple", data:=.seq its.reverse.toArray},toks:=tk}:=
  I2.laid (t':=tk) (fun b o e=>Heap.get?_push_of_some _ e) (w0e _) (show ObjOk X.prog X.w _ _ _ (.tup ys.reverse)from⟨by rw[w3h];exact hz,its.reverse,r'.reverse,IsTup.new _ _,_,Heap.get?_push_size _ rfl,rfl⟩)
 exact⟨.ref h'.objs.size,_,I3,rfl,q _ (I2.hok.fresh (w0e _))⟩
open PySem PySem.Spec PyProof.Rows
structure ExcCls(K:PySem.W.Frag)(D:Addr):Prop where
 ga:findIn K (.ref D) "__getattribute__"=some (some (.builtin "BaseException.__getattribute__"))
 gt:findIn K (.ref D) "__getattr__"=some none
 cl:findIn K (.ref D) "__class__"=some (some (.builtin "object.__class__"))
 gs:specialIn K (.builtin "object.__class__") "__get__"=some (some (.builtin "getset_descriptor.__get__"))
 tk:takesIn K (.builtin "object.__class__")=some true
 mo:PySem.W.mroIn K D (.type "object")=some true
 mb:PySem.W.mroIn K D (.type "BaseException")=some true
 cd:(PySem.W.clsIn K D).isSome=true
noncomputable def excClsIn(K:PySem.W.Frag)(D:Addr):Bool:=
 findIn K (.ref D) "__getattribute__"==some (some (.builtin "BaseException.__getattribute__"))&&findIn K (.ref D) "__getattr__"==some none &&
 findIn K (.ref D) "__class__"==some (some (.builtin "object.__class__"))&&specialIn K (.builtin "object.__class__") "__get__"==some (some (.builtin "getset_descriptor.__get__")) &&
 takesIn K (.builtin "object.__class__")==some true&&PySem.W.mroIn K D (.type "object")==some true&&PySem.W.mroIn K D (.type "BaseException")==some true&&(PySem.W.clsIn K D).isSome
theorem ExcCls.of{D:Addr}(h:excClsIn K D=true):ExcCls K D:=by
 unfold excClsIn at h;simp only[w0r,beq_iff_eq]at h;obtain⟨⟨⟨⟨⟨⟨⟨h1,h2⟩,h3⟩,h4⟩,h5⟩,h6⟩,h7⟩,h8⟩:=h;exact⟨h1,h2,h3,h4,h5,h6,h7,h8⟩
def ExcAt(e D:Addr)(h:Heap):Prop:=∃o vs,h.get? e=some o/\o.cls=.ref D/\o.data=.fields vs
section
variable{e D:Addr}
open PySem.W Builtin Builtin.ObjectAttr Builtin.Getset_descriptor
theorem x00{M:Model}(p:ExcAt e D h):Looks M h (typeOf (.ref e)) (.ref D):=by
 obtain⟨o,vs,h1,h2,h3⟩:=p;exact h2 ▸ (Looks.ld h1).andThen .now
theorem y2i{M:Model}(X:K.In h)(C:ExcCls K D):Looks M h (find (.ref e) (.ref D) "__class__") (.bind (.builtin "getset_descriptor.__get__") (.builtin "object.__class__")):=by
 have L1:=looks_findIn (M:=M) X C.cl;have L2:Looks M h (getOf (some (.builtin "object.__class__"))) (some (.builtin "getset_descriptor.__get__")):=looks_specialIn X C.gs;have L3:=looks_takesIn (M:=M) X C.tk;refine L1.andThen (L2.andThen ?_);exact(show Looks M h (dataDescriptor? (some (.builtin "object.__class__")) (some (.builtin "getset_descriptor.__get__"))) (some (.builtin "getset_descriptor.__get__", .builtin "object.__class__"))from L3.andThen .now).andThen (Looks.tag .now)
theorem y5e{tp:Value}{R:Result->Shared->Prop}(X:K.In s.heap)(p:ExcAt e D s.heap)(hm:mroIn K D (.type "object")=some true)
  (h:R (.ok (.ret (.ref D))) s):codeAny (model prog w) A (.call (.builtin "getset_descriptor.__get__") ⟨[.builtin "object.__class__", .ref e,tp],[]⟩) R s:=by
 obtain⟨hh,g,dr,t,os⟩:=s;have L0:=x00 (M:=model prog w) p;have L1:=looks_mroIn (M:=model prog w) X hm;refine codeAny_call_builtin KF.slot_gs.plain KF.entry_gs (KF.slot_gs.check _ _ _ _ _ _ _ _ KF.type_class (KF.args_gs _ _ _) ?_);unfold Builtin.«getset_descriptor.__get__» descrGet;rw[dga_obj];refine wpAny_bind (wpAny_pure ?_);unfold descrGetter descrCheckInstance descrNameAndClass isInstance;simp only[KF.owner_class]
 repeat lk
 refine⟨Code.quiet_builtin _ (by decide +kernel),codeAny_builtin KF.entry_class ?_⟩;unfold Builtin.«object.__class__» shownTypeOf
 repeat lk
 exact h
theorem x9y{M:Model}{nameV:Value}{Q:Unit->Shared->Prop}{g:Array GenState}{d:Drawn}{t:Nat}{os:OsState}(X:K.In h)(p:ExcAt e D h)(hm:mroIn K D (.type "BaseException")=some true)(hq:Q () ⟨h,g,d,t,os⟩):
  wpAny M A (checkBuiltinCall "BaseException.__getattribute__" ⟨[.ref e,nameV],[]⟩) Q E ⟨h,g,d,t,os⟩:=by
 have hk:builtinKind "BaseException.__getattribute__"=some .slot:=by decide +kernel
 have hsplit:splitId "BaseException.__getattribute__"=some ("BaseException", "__getattribute__"):=by decide +kernel
 have L0:=x00 (M:=M) p;have L1:=looks_mroIn (M:=M) X hm;have LI:Looks M h (isInstance (.ref e) (.type "BaseException")) true:=L0.andThen L1;have ha:=PySem.F.args_bexc_ga (.ref e) nameV;simp only[checkBuiltinCall,hk,hsplit];refine wpAny_bind (LI.at ?_);rw[if_neg (by decide)];unfold argsOk at ha;split
 ·rename_i sig hs;rw[hs]at ha;exact wpAny_of_eq ha hq
 ·exact wpAny_pure hq
theorem x9z{Q:Option Value->Shared->Prop}(X:K.In s.heap)(p:ExcAt e D s.heap)(C:ExcCls K D)(h:Q (some (.ref D)) {s with toks:=s.toks+1}):wpAny (model prog w) A (getAttr? (.ref e) "__class__") Q E s:=by
 obtain⟨hh,g,d,t,os⟩:=s;have L0:=x00 (M:=model prog w) p;have L1:=looks_findIn (M:=model prog w) X C.ga;have L2:=looks_findIn (M:=model prog w) X C.gt;have L3:=y2i (M:=model prog w) (e:=e) X C;unfold getAttr? getAttrBy? getAttrBy;refine wpAny_bind (wpAny_mkText (wpAny_bind (wpAny_attempt (wpAny_holding (wpAny_bind (L0.at (wpAny_bind (L1.at ?_))))))));have hx2:(Value.builtin "BaseException.__getattribute__"==Value.builtin "object.__getattribute__")=false:=by decide +kernel
 have hx1:(onTheHeap (Value.ref D)&&Value.builtin "BaseException.__getattribute__"==Value.builtin "object.__getattribute__")=false:=by rw[hx2];rfl
 dsimp only;rw[if_neg (by rw[hx1];decide)];unfold getAttrByItsOwn hookBefore;rw[if_pos (by rfl)];refine wpAny_bind (L2.at ?_);refine wpAny_bind (wpAny_attempt (wpAny_holding ?_));unfold callGetattribute;rw[if_neg (by decide)];unfold boundAndCalled;have f3:=PySem.F.excAttr_ValueError.ga.bind (.ref e);refine wpAny_bind (wpAny_of_eq f3 ?_);refine wpAny_call (codeAny_call_builtin PySem.F.excAttr_ValueError.ga.plain F.entry_bexc_ga (x9y (K:=K) (D:=D) X p C.mb ?_));unfold Builtin.«object.__getattribute__»;refine wpAny_bind (wpAny_of_eq (a:=(Value.ref e,[Value.str (Str.ofString "__class__") t])) (by rfl) ?_);dsimp only;refine wpAny_bind (wpAny_of_eq (a:=Str.ofString "__class__") (by rfl) ?_);refine wpAny_bind (L0.at (wpAny_bind (L3.at ?_)));dsimp only;unfold bindTo;refine wpAny_bind (wpAny_holding (wpAny_call (y5e (K:=K) (D:=D) X p C.mo ?_)));dsimp only;refine wpAny_pure ?_;dsimp only;refine wpAny_of_eq (a:=Value.ref D) (by rfl) ?_;exact wpAny_pure h
theorem y2j(C:ExcCls K D):KitX K (.ref e) (.ref D) (ExcAt e D) where
 ty:=fun _ _ _ p=>x00 p
 it:=fun M h X p=>by
  have hcD:=C.cd;unfold clsIn at hcD;split at hcD
  ·rename_i c' d' cd' sl' ho;intro A' Q' E' s' k q;unfold isType loadHead;exact wpAny_bind (wpAny_loadPart (k _ _ (X _ _ ho)) (wpAny_pure q))
  ·cases hcD
 ne:=fun h tp dd its n sl X htp=>by
  refine w2e.mpr fun q=>?_
  have e1:D=tp:=Value.ref.inj (beq_iff_eq.mp q);subst e1;have hcD:=C.cd;unfold clsIn at hcD;split at hcD
  ·rename_i c' d' cd' sl' ho;have z:=(X _ _ ho).symm.trans htp;cases z
  ·cases hcD
 ca:=fun X p k=>x9z X p C k
end
def ClsV:V->Value->Prop
 |.ty n,c=>c=.type n
 |.ref a,c=>c=.ref a
 |_,_=>False
structure Cal(P:Program)(w:World)(K:PySem.W.Frag)(mg:Str->Option Value)(base:Heap)(k:Nat)(x:Str)(ps:List Str)(sp:Sp):Prop where
 ex:∃f fd,FnOk P w K mg base (CX1 P w) k f fd ps sp/\mg x=some (.ref f)/\keepIn K (.ref f)=true/\Binds K fd ps []
structure CalH(P:Program)(w:World)(K:PySem.W.Frag)(mg:Str->Option Value)(base:Heap)(k:Nat)(x:Str)(ps:List Str)(sp:Sp):Prop where
 ex:∃f fd,FnOkH P w K mg base k f fd ps sp/\mg x=some (.ref f)/\keepIn K (.ref f)=true/\Binds K fd ps []
structure At(K:PySem.W.Frag)(mg:Str->Option Value)(x:Str)(st:Stmt)(ps:List Str):Prop where
 ex:∃f fd,Fun K x x st f fd/\mg x=some (.ref f)/\Binds K fd ps []
section
variable{mg:Str->Option Value}{base:Heap}
theorem At.cal{st:Stmt}{N:List Str}{k:Nat}{sp:Sp}(F:At K mg x st ps)(S:FnScope N ps (defScope st))(len:∀vs H Q E,sp vs H Q E->vs.length=ps.length)
  (hbody:∀(f:Addr)(cdv:Value)(A:Around)(outer:List Env)(s:Shared)(H:Hp)(vs:List V)(Q:VK)(E:XK),Room k (A.deeper (envOfC x (defScope st) s.heap.objs.size f cdv))->sp vs H Q E ->
   ∃t,PSs (cxOf (CX1 P w) P w K mg base N x (defScope st) f cdv A outer s H E) (defBody st) t/\t {nx:=fun _ H'=>Q .non H',rt:=Q} (start N vs) H):Cal P w K mg base (k+1) x ps sp:=by
 obtain⟨f,fd,F,m,b⟩:=F.ex;exact⟨f,fd,F.okX S len (hbody f),m,F.kp,b⟩
end
section
variable{k:Nat}{sp:Sp}{p pos:Pos}
theorem x90(C:Cal X.prog X.w X.K X.mg X.base k x ps sp)(hr:Room k X.A)(hx:PassX (CX1 X.prog X.w) X EE)(ha:PA X (e::es) t)(hg:Gl X x:=by rfl)
  (hdb:(x==("__debug__":Str))=false:=by decide)(he:starEach (e::es) X.env=(false,eval e X.env)::starEach es X.env:=by rfl)(hpl:(backTo pos (starEach es X.env)).any (·.1)=false:=by rfl):
  PE X (.Call (.Name x p) (e::es) [] pos) (tCallX sp [] EE t):=by
 obtain⟨f,fd,F,m,kp,b⟩:=C.ex;exact y2f F hr hg m kp b .nil hx ha hdb he hpl
end
section
variable{te:TE}{pos pos' p:Pos}
theorem x4c(i:Nat)(hN:X.N.Nodup)(he:PE X e te)(hi:X.N[i]?=some x:=by rfl)(hx:Loc X.env.scope x:=by walk_at "3")(hs:swapsWith e (some (.Name x pos')) pos.line X.env=pure false:=by rfl)(hf:X.fn x=true\/X.env.scope.names.lookup x=some .local:=by walk_at "2"):
  PS X (.Assign [.Name x pos'] e pos) (tAsg te (gName i)):=y8d hN hi hx he hs hf
theorem q1n(i:Nat)(hN:X.N.Nodup)(hi:X.N[i]?=some x:=by rfl)(hx:Loc X.env.scope x:=by walk_at "3")(hf:X.fn x=true\/X.env.scope.names.lookup x=some .local:=by walk_at "2"):PG X (.Name x pos) (gName i):=y4y hN hi hx hf
theorem y8s{o:Expr}{to:TE}{apos:Pos}(ho:PE X o to)(ha:PA X (e::es) t)(hbase:attributeBase o "append" X.env (eval o X.env)=eval o X.env:=by rfl)
  (hfew:((backTo pos (starEach (e::es) X.env)).all (fun x=>!x.1)&&(backToKw pos (keywordEach [] X.env)).all (fun x=>x.1.isSome)&&decide ((e::es).length+([]:List Keyword).length+(if([]:List Keyword).isEmpty then 0 else 1)<30))=true:=by rfl)
  (hline:(apos.endLine==pos.line)=true:=by rfl)(hs:starEach (e::es) X.env=(false,eval e X.env)::starEach es X.env:=by rfl)(hplain:(backTo pos (starEach es X.env)).any (·.1)=false:=by rfl):
  PE X (.Call (.Attribute o "append" apos) (e::es) [] pos) (tBM X.K "list" rAppend to t):=y4g PySem.F.plainAttrs_list PySem.F.slot_list_append PySem.F.type_list_append q8w ho ha hbase hfew hline hs hplain
end
theorem q34{p:Addr}(h:H p=none)(o:HO):Same H (upd H p o):=fun b u q=>by rw[q0f (q0s q h)];exact q
theorem Same.tup{a:Addr}{xs:List V}(e:Same H H')(h:SqT K H a xs):SqT K H' a xs:=by
 rcases h with(h|⟨o,h⟩)|h
 ·exact .inl (.inl (e _ _ h))
 ·exact .inl (.inr ⟨o,e _ _ h⟩)
 ·exact .inr h
noncomputable abbrev fnO(o:Obj)(q:Str)(c:Addr):HO:=.frz o (.tbl #[.bool false,.str q 0,.ref c])
noncomputable abbrev celO(o:Obj):HO:=.frz o (.ext fun _=>True)
noncomputable abbrev Cs:=List (Addr×Obj)
variable{cs:Cs}
noncomputable abbrev lamEnv(qual:Str)(scope:Scope)(f:Addr)(cd:Value)(cl:List (Str×Addr))(s:Shared):Env:=PySem.W.envX qual scope s.heap.objs.size f cd cl
noncomputable def cxLam(P:Program)(w:World)(K:PySem.W.Frag)(mg:Str->Option Value)(base:Heap)(N:List Str)(qual:Str)(scope:Scope)(f:Addr)(cd:Value)(cl:List (Str×Addr))(A:Around)(outer:List Env)(s:Shared)(H:Hp):Cx where
 prog:=P
 w:=w
 K:=K
 mg:=mg
 base:=base
 A:=A.deeper (lamEnv qual scope f cd cl s)
 N:=N
 s₀:=s
 H₀:=H
 env:=lamEnv qual scope f cd cl s
 outer:=outer
 stack:=lamEnv qual scope f cd cl s::outer
 ex:=[]
 calm:=true
 fn:=fun _=>false
 pn:=[]
 xe:=fun _ _=>False
structure LamScope(ps Nf:List Str)(sc:Scope):Prop where
 kind:sc.kind=.function
 co:sc.isCoroutine=false
 gen:sc.isGenerator=false
 nd:ps.Nodup
 nocell:∀y∈sc.names,y.2≠.cell
 par:∀x∈ps,sc.names.lookup x=some .local
 fr:∀y∈Nf,sc.names.lookup y=some .free
structure LamCells(cl:List (Str×Addr))(Nf:List Str)(sc:Scope)(zs:List V)(h:Heap)(cs:Cs):Prop where
 inj:∀x y c,cl.lookup x=some c->cl.lookup y=some c->x=y
 has:∀x,(x,NameKind.free)∈sc.names->∃c,cl.lookup x=some c
 all:∀x c,cl.lookup x=some c->∃o,cs.lookup c=some o
 cel:∀c o,cs.lookup c=some o->h.get? c=some o/\∃v,o.data=.cell v
 val:∀(i:Nat) y z,Nf[i]?=some y->zs[i]?=some z->∃c o u,cl.lookup y=some c/\cs.lookup c=some o/\o.data=.cell (some u)/\RelV z u
def BMain(h:Heap)(mg:Str->Option Value):Prop:=∃bm ob,mg "__builtins__"=some (.ref bm)/\bm≠builtinsNs/\h.get? bm=some ob/\ob.cls=.type "module" /\ ob.dict=some builtinsNs/\ob.data=.plain
structure Maker(X:Cx):Prop where
 ex:∃c P a,X.env.code=.ref c/\PySem.W.codeHdIn X.K c P=true/\(a,markO P (X.env.qual++"<lambda>"))∈X.K
 bm:BMain X.base X.mg
structure CellsOf(clos:List (Str×Addr))(Nf:List Str)(scope:Scope)(js:List Nat)(σ:St)(H:Hp)(cs:Cs):Prop where
 inj:∀x y c,clos.lookup x=some c->clos.lookup y=some c->x=y
 has:∀x,(x,NameKind.free)∈scope.names->∃c,clos.lookup x=some c
 all:∀x c,clos.lookup x=some c->∃o,cs.lookup c=some o
 cel:∀c o,cs.lookup c=some o->H c=none/\∃v,o.data=.cell v
 val:∀(i:Nat) y j z,Nf[i]?=some y->js[i]?=some j->σ[j]?=some (some z)->∃c o u,clos.lookup y=some c/\cs.lookup c=some o/\o.data=.cell (some u)/\RelV z u
end L2
set_option maxHeartbeats 1000000
namespace D
open PySem L2
variable{a:Addr}{X:Cx}{G G' G1 H H' H1:Hp}{EE:L2.St->XK}{kvs:List (Kx×V)}{kas:List Addr}{es:List Expr}{ks:List Kx}{vs xs:List V}{r:List V->Hp->VK->Prop}{i:Nat}{b:Option Nat}{p pos pos':Pos}{K:PySem.W.Frag}{sh:Sh}{σ:St}{st:Stmt}{x:Str}{α:Type}{v:V}
noncomputable abbrev Sv:=Int ⊕ Bool
inductive Dd where
 |k (kvs:List (Key×Sv))
structure Lm where
 qual:Str
 params:Arguments
 body:Expr
 scope:Scope
 nf:List Str
set_option genInjectivity true in
inductive W where
 |non|bl (b:Bool)|int (i:Int)|str (x:Str)|tup (xs:List W)|lst (xs:List W)|exc (c:Value)|dic (kvs:Dd)|dw (fz:Bool) (sh:Sh) (ks:List Kx) (ws:List W)|fn (i:Nat) (l:Lm) (ws:List W)
variable{ws:List W}{w:W}{f:W->W->Option W}
inductive SK where
 |old (w:W)|new (w:W)|acc (ws:List W)|thro (us ws vs:List W)|tn (us:List W) (wss:List (List W))|pt (us ws:List W) (w:W)|fz (w:W)|fzo (w:W)
inductive S where
 |no|fr (w:W)|own (io:Option Nat) (ws:List W)|dic (kvs:Dd)|thr (us ws vs:List W)|nest (wss:List (List W))|dw (sh:Sh) (ks:List Kx) (ws:List W)|x (k:SK)
variable{e e1:List S}{E:Value->List S->Prop}
noncomputable def SK.plain:SK->Option W
 |.old w=>some w
 |.new w=>some w
 |_=>none
noncomputable def SK.look:SK->Option W
 |.old w=>some w
 |.new w=>some w
 |.acc ws=>some (.lst ws)
 |_=>none
noncomputable def sV:Sv->V
 |.inl i=>.int i
 |.inr b=>.bl b
noncomputable def kvV{κ:Type}(kvs:List (κ×Sv)):List (κ×V):=kvs.map fun p=>(p.1,sV p.2)
noncomputable def dO:Dd->HO
 |.k kvs=>.dK (kvV kvs)
noncomputable def isDic:HO->Bool
 |.dK _=>true
 |_=>false
theorem q6b{d:Dd}{u:HO}(h:isDic u=false):dO d≠u:=fun z=>by
 subst z;cases d<;>cases h
def KeysG(G:Hp):List Kx->List Addr->Prop
 |[],[]=>True
 |k::ks,b::bs=>KRep G k (.ref b)/\KeysG G ks bs
 |[],_::_=>False
 |_::_,[]=>False
theorem KeysG.mono(e:Same G G'):∀{ks:List Kx}{bs:List Addr},KeysG G ks bs->KeysG G' ks bs
 |[],[],_=>trivial
 |k::ks,b::bs,h=>⟨KRep.keeps (fun _ _ _ z=>e _ _ z) k h.1,KeysG.mono e h.2⟩
 |[],_::_,h=>h.elim
 |_::_,[],h=>h.elim
def _root_.L2.Sh.isI:Sh->Bool
 |.int=>true
 |_=>false
noncomputable def kxK:Kx->Key
 |.int i=>.inl i
 |_=>.inl 0
noncomputable def dwO(sh:Sh)(kvs:List (Kx×V))(kas:List Addr):HO:=if sh.isI=true then .dK (kvs.map fun p=>(kxK p.1,p.2))else .dT sh kvs kas
noncomputable def isDT:HO->Bool
 |.dK _=>true
 |.dT _ _ _=>true
 |_=>false
theorem q5t{u:HO}(h:isDT u=false):dwO sh kvs kas≠u:=fun z=>by
 subst z;unfold dwO at h;split at h<;>cases h
theorem z1t(h:sh.isI=false):dwO sh kvs kas=.dT sh kvs kas:=if_neg (by rw[h];exact w0q)
def KeysS(sh:Sh)(G:Hp)(ks:List Kx)(kas:List Addr):Prop:=if sh.isI=true then ∀k∈ks,∃i,k=.int i else KeysG G ks kas
theorem KeysS.mono(e:Same G G'){bs:List Addr}(h:KeysS sh G ks bs):KeysS sh G' ks bs:=by
 unfold KeysS at h |-
 split at h
 ·rename_i hi;rw[if_pos hi];exact h
 ·rename_i hi;rw[if_neg hi];exact h.mono e
theorem KeysS.g{bs:List Addr}(h:KeysS sh G ks bs)(hi:sh.isI=false):KeysG G ks bs:=by
 unfold KeysS at h
 rwa [if_neg (by rw[hi];exact w0q)]at h
def DAt(fz:Bool)(G:Hp)(a:Addr)(sh:Sh)(kvs:List (Kx×V))(kas:List Addr):Prop:=if fz=true then ∃o,G a=some (.frz o (dwO sh kvs kas))else G a=some (dwO sh kvs kas)
theorem DAt.mono{fz:Bool}(e:Same G G')(h:DAt fz G a sh kvs kas):DAt fz G' a sh kvs kas:=by
 cases fz with
 |true=>obtain⟨o,h⟩:=h;exact⟨o,e _ _ h⟩
 |false=>exact e _ _ h
structure FnCells(G:Hp)(cl:List (Str×Addr))(l:Lm)(zs:List V)(cs:Cs):Prop where
 inj:∀x y c,cl.lookup x=some c->cl.lookup y=some c->x=y
 has:∀x,(x,NameKind.free)∈l.scope.names->∃c,cl.lookup x=some c
 all:∀x c,cl.lookup x=some c->∃o,cs.lookup c=some o
 cel:∀c o,cs.lookup c=some o->G c=some (celO o)/\∃v,o.data=.cell v
 val:∀(i:Nat) y z,l.nf[i]?=some y->zs[i]?=some z->∃c o u,cl.lookup y=some c/\cs.lookup c=some o/\o.data=.cell (some u)/\RelV z u
 len:zs.length=l.nf.length
theorem FnCells.mono{cl:List (Str×Addr)}{l:Lm}{zs:List V}{cs:Cs}(e:Same G G')(h:FnCells G cl l zs cs):FnCells G' cl l zs cs:=⟨h.inj,h.has,h.all,fun c o q=>⟨e _ _ (h.cel c o q).1,(h.cel c o q).2⟩,h.val,h.len⟩
def FnAtG(G:Hp)(l:Lm)(cl:List (Str×Addr))(f:Addr):Prop:=∃pm c' ctv,G f=some (fnO (PySem.W.kla_obj "<lambda>" l.qual l.params l.body l.scope cl pm c' ctv) l.qual c')
inductive RefTo(v:V)(P Q:Addr->List V->Prop):Prop where
 |mk (a:Addr) (xs:List V) (h:v=.ref a) (p:P a xs) (q:Q a xs):RefTo v P Q
inductive ConsOf(xs:List V)(P:V->Prop)(Q:List V->Prop):Prop where
 |mk (x:V) (r:List V) (h:xs=x::r) (p:P x) (q:Q r):ConsOf xs P Q
mutual
def Rep(K:PySem.W.Frag)(G:Hp):W->V->Prop
 |.non,v=>v=.non
 |.bl b,v=>v=.bl b
 |.int i,v=>v=.int i
 |.str x,v=>v=.str x
 |.tup ws,v=>RefTo v (SqT K G) fun _ xs=>Reps K G ws xs
 |.lst ws,v=>RefTo v (SqL K G) fun _ xs=>Reps K G ws xs
 |.exc c,v=>∃e,v=.ref e/\G e=some (excO e c)
 |.dic kvs,v=>∃e,v=.ref e/\G e=some (dO kvs)
 |.dw fz sh ks ws,v=>∃a kvs kas,v=.ref a/\DAt fz G a sh kvs kas/\kvs.map (·.1)=ks/\KeysS sh G ks kas/\Reps K G ws (kvs.map (·.2))
 |.fn _ l ws,v=>∃f cl zs cs,v=.ref f/\FnAtG G l cl f/\FnCells G cl l zs cs/\Reps K G ws zs
def Reps(K:PySem.W.Frag)(G:Hp):List W->List V->Prop
 |[],xs=>xs=[]
 |w::ws,xs=>ConsOf xs (Rep K G w) (Reps K G ws)
end
mutual
theorem Rep.mono{K:PySem.W.Frag}{G G':Hp}(e:Same G G'):∀(w:W){v:V},Rep K G w v->Rep K G' w v
 |.non,v,h=>h
 |.bl b,v,h=>h
 |.int i,v,h=>h
 |.str x,v,h=>h
 |.tup ws,v,h=>by
  obtain⟨a,xs,rfl,q,r⟩:=h;exact⟨a,xs,rfl,e.tup q,Reps.mono e ws r⟩
 |.lst ws,v,h=>by
  obtain⟨a,xs,rfl,q,r⟩:=h;exact⟨a,xs,rfl,e.seq q,Reps.mono e ws r⟩
 |.exc c,v,h=>by
  obtain⟨a,rfl,q⟩:=h;exact⟨a,rfl,e _ _ q⟩
 |.dic kvs,v,h=>by
  obtain⟨a,rfl,q⟩:=h;exact⟨a,rfl,e _ _ q⟩
 |.dw fz sh ks ws,v,h=>by
  obtain⟨a,kvs,kas,rfl,h1,h2,h3,h4⟩:=h;exact⟨a,kvs,kas,rfl,h1.mono e,h2,h3.mono e,Reps.mono e ws h4⟩
 |.fn i l ws,v,h=>by
  obtain⟨f,cl,zs,cs,rfl,⟨pm,c',ctv,h1⟩,h2,h3⟩:=h;exact⟨f,cl,zs,cs,rfl,⟨pm,c',ctv,e _ _ h1⟩,h2.mono e,Reps.mono e ws h3⟩
theorem Reps.mono{K:PySem.W.Frag}{G G':Hp}(e:Same G G'):∀(ws:List W){xs:List V},Reps K G ws xs->Reps K G' ws xs
 |[],xs,h=>h
 |w::ws,xs,h=>by
  obtain⟨x,r,rfl,h1,h2⟩:=h;exact⟨x,r,rfl,Rep.mono e w h1,Reps.mono e ws h2⟩
end
theorem Reps.length:∀{ws:List W}{xs:List V},Reps K G ws xs->xs.length=ws.length
 |[],xs,h=>by cases h;rfl
 |w::ws,xs,h=>by
  obtain⟨x,r,rfl,_,h2⟩:=h;simp[Reps.length h2]
theorem Reps.get:∀{ws:List W}{xs:List V}{i:Nat}{w:W},Reps K G ws xs->ws[i]?=some w->∃x,xs[i]?=some x/\Rep K G w x
 |[],xs,i,w,h,e=>by simp at e
 |w'::ws,xs,0,w,h,e=>by
  obtain⟨x,r,rfl,h1,h2⟩:=h;simp at e;subst e;exact⟨x,rfl,h1⟩
 |w'::ws,xs,i+1,w,h,e=>by
  obtain⟨x,r,rfl,h1,h2⟩:=h;obtain⟨y,e1,e2⟩:=Reps.get (i:=i) h2 (by simpa using e);exact⟨y,by simpa using e1,e2⟩
theorem Reps.getV:∀{ws:List W}{xs:List V}{i:Nat}{x:V},Reps K G ws xs->xs[i]?=some x->∃w,ws[i]?=some w/\Rep K G w x:=fun {ws xs i x} h e=>by
 have hl:=h.length;have hi:i<xs.length:=(w0c.mp e).1;have e2:ws[i]?=some ws[i]:=w0b (by omega);obtain⟨y,e3,r⟩:=h.get e2;rw[e]at e3;cases e3;exact⟨_,e2,r⟩
theorem Reps.append:∀{ws ws':List W}{xs xs':List V},Reps K G ws xs->Reps K G ws' xs'->Reps K G (ws++ws') (xs++xs')
 |[],ws',xs,xs',h,h'=>by cases h;exact h'
 |w::ws,ws',xs,xs',h,h'=>by
  obtain⟨x,r,rfl,h1,h2⟩:=h;exact⟨x,r++xs',rfl,h1,Reps.append h2 h'⟩
theorem Reps.one{x:V}(h:Rep K G w x):Reps K G [w] [x]:=⟨x,[],rfl,h,rfl⟩
theorem Reps.take:∀(n:Nat){ws:List W}{xs:List V},Reps K G ws xs->Reps K G (ws.take n) (xs.take n)
 |0,_,_,_=>rfl
 |n+1,[],_,h=>by cases h;rfl
 |n+1,w::ws,_,h=>by
  obtain⟨x,r,rfl,h1,h2⟩:=h;exact⟨x,r.take n,rfl,h1,Reps.take n h2⟩
theorem Reps.drop:∀(n:Nat){ws:List W}{xs:List V},Reps K G ws xs->Reps K G (ws.drop n) (xs.drop n)
 |0,_,_,h=>h
 |n+1,[],_,h=>by cases h;rfl
 |n+1,w::ws,_,h=>by
  obtain⟨x,r,rfl,h1,h2⟩:=h;exact Reps.drop n h2
theorem Reps.reverse:∀{ws:List W}{xs:List V},Reps K G ws xs->Reps K G ws.reverse xs.reverse
 |[],_,h=>by cases h;rfl
 |w::ws,_,h=>by
  obtain⟨x,r,rfl,h1,h2⟩:=h;rw[w1u,w1u];exact(Reps.reverse h2).append (.one h1)
structure Zt where
 H:Hp
 G:Hp
 io:List Addr
variable{Z Z':Zt}
def FzAt(Z:Zt)(G H:Hp)(l:Addr)(o:Obj)(ys:List V):Prop:=H l=some (.frz o (.lst ys))/\G l=none/\Z.H l=none
def NestIn(K:PySem.W.Frag)(Z:Zt)(G H:Hp):List Addr->List (List W)->Prop
 |[],[]=>True
 |l::ls,ws::wss=>(∃o ys,FzAt Z G H l o ys/\Reps K G ws ys)/\NestIn K Z G H ls wss
 |[],_::_=>False
 |_::_,[]=>False
inductive NestOk(K:PySem.W.Frag)(Z:Zt)(G H:Hp)(wss:List (List W))(v:Option V):Prop where
 |mk (a:Addr) (ls:List Addr) (h1:v=some (.ref a)) (h2:G a=some (.lst (ls.map V.ref))) (h3:ls.Nodup) (h4:NestIn K Z G H ls wss):NestOk K Z G H wss v
theorem NestIn.move(sg:Same G G')(hf:∀l o ys,H l=some (.frz o (.lst ys))->G l=none->Z.H l=none->H' l=some (.frz o (.lst ys))/\G' l=none/\Z'.H l=none):∀{ls:List Addr}{wss:List (List W)},NestIn K Z G H ls wss->NestIn K Z' G' H' ls wss
 |[],[],_=>trivial
 |l::ls,ws::wss,⟨⟨o,ys,⟨h1,h2,h3⟩,h4⟩,h⟩=>⟨⟨o,ys,hf l o ys h1 h2 h3,Reps.mono sg ws h4⟩,h.move sg hf⟩
 |[],_::_,h=>h.elim
 |_::_,[],h=>h.elim
theorem NestOk.move{wss:List (List W)}{v:Option V}(q:NestOk K Z G H wss v)(sg:Same G G')(hf:∀l o ys,H l=some (.frz o (.lst ys))->G l=none->Z.H l=none->H' l=some (.frz o (.lst ys))/\G' l=none/\Z'.H l=none):NestOk K Z' G' H' wss v:=by
 obtain⟨a,ls,h1,h2,h3,h4⟩:=q;exact⟨a,ls,h1,sg _ _ h2,h3,h4.move sg hf⟩
inductive DwOk(K:PySem.W.Frag)(Z:Zt)(G H:Hp)(sh:Sh)(ks:List Kx)(ws:List W)(v:Option V):Prop where
 |mk (a:Addr) (kvs:List (Kx×V)) (kas:List Addr) (h1:v=some (.ref a)) (h2:H a=some (dwO sh kvs kas)) (h3:G a=none) (h4:Z.H a=none) (h5:kvs.map (·.1)=ks) (h6:KeysS sh G ks kas) (h7:Reps K G ws (kvs.map (·.2))):DwOk K Z G H sh ks ws v
theorem DwOk.move{v:Option V}(q:DwOk K Z G H sh ks ws v)(sg:Same G G')(hf:∀a kvs kas,H a=some (dwO sh kvs kas)->G a=none->Z.H a=none->H' a=some (dwO sh kvs kas)/\G' a=none/\Z'.H a=none):DwOk K Z' G' H' sh ks ws v:=by
 obtain⟨a,kvs,kas,h1,h2,h3,h4,h5,h6,h7⟩:=q;obtain⟨k1,k2,k3⟩:=hf a kvs kas h2 h3 h4;exact⟨a,kvs,kas,h1,k1,k2,k3,h5,h6.mono sg,Reps.mono sg ws h7⟩
mutual
def RepN(K:PySem.W.Frag)(Z:Zt)(G:Hp):W->V->Prop
 |.non,v=>v=.non
 |.bl b,v=>v=.bl b
 |.int i,v=>v=.int i
 |.str x,v=>v=.str x
 |.tup ws,v=>RefTo v (SqT K G) fun _ xs=>RepNs K Z G ws xs
 |.lst ws,v=>RefTo v (fun a xs=>G a=some (.lst xs)) fun a xs=>Z.H a=none/\RepNs K Z G ws xs
 |.exc _,_=>False
 |.dic _,_=>False
 |.dw _ _ _ _,_=>False
 |.fn _ _ _,_=>False
def RepNs(K:PySem.W.Frag)(Z:Zt)(G:Hp):List W->List V->Prop
 |[],xs=>xs=[]
 |w::ws,xs=>ConsOf xs (RepN K Z G w) (RepNs K Z G ws)
end
mutual
theorem RepN.rep{K:PySem.W.Frag}{Z:Zt}{G:Hp}:∀(w:W){v:V},RepN K Z G w v->Rep K G w v
 |.non,_,h=>h
 |.bl _,_,h=>h
 |.int _,_,h=>h
 |.str _,_,h=>h
 |.tup ws,_,⟨a,xs,e,q,r⟩=>⟨a,xs,e,q,RepNs.reps ws r⟩
 |.lst ws,_,⟨a,xs,e,q,_,r⟩=>⟨a,xs,e,.inl (.inl q),RepNs.reps ws r⟩
 |.exc _,_,h=>h.elim
 |.dic _,_,h=>h.elim
 |.dw _ _ _ _,_,h=>h.elim
 |.fn _ _ _,_,h=>h.elim
theorem RepNs.reps{K:PySem.W.Frag}{Z:Zt}{G:Hp}:∀(ws:List W){vs:List V},RepNs K Z G ws vs->Reps K G ws vs
 |[],_,h=>h
 |w::ws,_,⟨x,r,e,p,q⟩=>⟨x,r,e,RepN.rep w p,RepNs.reps ws q⟩
end
mutual
theorem RepN.move{K:PySem.W.Frag}{Z Z':Zt}{G G':Hp}(sg:Same G G')(hz:∀a xs,G a=some (.lst xs)->Z.H a=none->Z'.H a=none):∀(w:W){v:V},RepN K Z G w v->RepN K Z' G' w v
 |.non,_,h=>h
 |.bl _,_,h=>h
 |.int _,_,h=>h
 |.str _,_,h=>h
 |.tup ws,_,⟨a,xs,e,q,r⟩=>⟨a,xs,e,sg.tup q,RepNs.move sg hz ws r⟩
 |.lst ws,_,⟨a,xs,e,q,n,r⟩=>⟨a,xs,e,sg _ _ q,hz _ _ q n,RepNs.move sg hz ws r⟩
 |.exc _,_,h=>h.elim
 |.dic _,_,h=>h.elim
 |.dw _ _ _ _,_,h=>h.elim
 |.fn _ _ _,_,h=>h.elim
theorem RepNs.move{K:PySem.W.Frag}{Z Z':Zt}{G G':Hp}(sg:Same G G')(hz:∀a xs,G a=some (.lst xs)->Z.H a=none->Z'.H a=none):∀(ws:List W){vs:List V},RepNs K Z G ws vs->RepNs K Z' G' ws vs
 |[],_,h=>h
 |w::ws,_,⟨x,r,e,p,q⟩=>⟨x,r,e,RepN.move sg hz w p,RepNs.move sg hz ws q⟩
end
inductive AccOk(K:PySem.W.Frag)(Z:Zt)(G H:Hp)(ws:List W)(v:Option V):Prop where
 |mk (a:Addr) (o:Obj) (xs:List V) (h1:v=some (.ref a)) (h2:FzAt Z G H a o xs) (h3:RepNs K Z G ws xs):AccOk K Z G H ws v
inductive ThroOk(K:PySem.W.Frag)(Z:Zt)(G H:Hp)(us ws vs:List W)(v:Option V):Prop where
 |mk (t l:Addr) (o:Obj) (xs ys zs:List V) (h1:v=some (.ref t)) (h2:Z.G t=some (.tup (xs++.ref l::zs))) (h3:G t=some (.tup (xs++.ref l::zs))) (h4:FzAt Z G H l o ys) (h5:Reps K Z.G us xs/\Reps K Z.G ws ys/\Reps K Z.G vs zs) (h6:Reps K G us xs/\Reps K G ws ys/\Reps K G vs zs):ThroOk K Z G H us ws vs v
inductive TnOk(K:PySem.W.Frag)(Z:Zt)(G H:Hp)(us:List W)(wss:List (List W))(v:Option V):Prop where
 |mk (t l:Addr) (o:Obj) (ls:List Addr) (xs:List V) (h1:v=some (.ref t)) (h2:G t=some (.tup (xs++[.ref l]))) (h3:FzAt Z G H l o (ls.map V.ref)) (h4:ls.Nodup/\l∉ls) (h5:Reps K G us xs) (h6:NestIn K Z G H ls wss):TnOk K Z G H us wss v
inductive PtOk(K:PySem.W.Frag)(Z:Zt)(G H:Hp)(us ws:List W)(w:W)(v:Option V):Prop where
 |mk (p t l:Addr) (o:Obj) (xs ys:List V) (x:V) (h1:v=some (.ref p)) (h2:G p=some (.tup [.ref t,x])) (h3:G t=some (.tup (xs++[.ref l]))) (h4:FzAt Z G H l o ys) (h5:Reps K G us xs) (h6:Reps K G ws ys) (h7:Rep K G w x):PtOk K Z G H us ws w v
inductive ConsF(xs:List V)(as:List Addr)(P:V->List Addr->Prop)(Q:List V->List Addr->Prop):Prop where
 |mk (x:V) (r:List V) (b c:List Addr) (h:xs=x::r) (h':as=b++c) (p:P x b) (q:Q r c):ConsF xs as P Q
inductive LstF(as:List Addr)(a:Addr)(Q:List Addr->Prop):Prop where
 |mk (bs:List Addr) (h:as=a::bs) (q:Q bs):LstF as a Q
mutual
def RepF(K:PySem.W.Frag)(Z:Zt)(G H:Hp):W->V->List Addr->Prop
 |.non,v,as=>v=.non/\as=[]
 |.bl b,v,as=>v=.bl b/\as=[]
 |.int i,v,as=>v=.int i/\as=[]
 |.str x,v,as=>v=.str x/\as=[]
 |.tup ws,v,as=>RefTo v (SqT K G) fun _ xs=>RepFs K Z G H ws xs as
 |.lst ws,v,as=>RefTo v (fun a xs=>∃o,FzAt Z G H a o xs) fun a xs=>LstF as a (RepFs K Z G H ws xs)
 |.exc _,_,_=>False
 |.dic _,_,_=>False
 |.dw _ _ _ _,_,_=>False
 |.fn _ _ _,_,_=>False
def RepFs(K:PySem.W.Frag)(Z:Zt)(G H:Hp):List W->List V->List Addr->Prop
 |[],xs,as=>xs=[]/\as=[]
 |w::ws,xs,as=>ConsF xs as (RepF K Z G H w) (RepFs K Z G H ws)
end
mutual
theorem RepF.move{K:PySem.W.Frag}{Z Z':Zt}{G G' H H':Hp}(sg:Same G G'):∀(w:W){v:V}{as:List Addr},(∀l o ys,l∈as->FzAt Z G H l o ys->FzAt Z' G' H' l o ys)->RepF K Z G H w v as->RepF K Z' G' H' w v as
 |.non,_,_,_,h=>h
 |.bl _,_,_,_,h=>h
 |.int _,_,_,_,h=>h
 |.str _,_,_,_,h=>h
 |.tup ws,_,_,hf,⟨a,xs,e,q,r⟩=>⟨a,xs,e,sg.tup q,RepFs.move sg ws hf r⟩
 |.lst ws,_,_,hf,⟨a,xs,e,⟨o,q⟩,⟨bs,e2,r⟩⟩=>by
  subst e2;exact⟨a,xs,e,⟨o,hf _ _ _ (w1h ..) q⟩,bs,rfl,RepFs.move sg ws (fun l o ys z=>hf l o ys (w0z _ z)) r⟩
 |.exc _,_,_,_,h=>h.elim
 |.dic _,_,_,_,h=>h.elim
 |.dw _ _ _ _,_,_,_,h=>h.elim
 |.fn _ _ _,_,_,_,h=>h.elim
theorem RepFs.move{K:PySem.W.Frag}{Z Z':Zt}{G G' H H':Hp}(sg:Same G G'):∀(ws:List W){vs:List V}{as:List Addr},(∀l o ys,l∈as->FzAt Z G H l o ys->FzAt Z' G' H' l o ys)->RepFs K Z G H ws vs as->RepFs K Z' G' H' ws vs as
 |[],_,_,_,h=>h
 |w::ws,_,_,hf,⟨x,r,b,c,e,e2,p,q⟩=>by
  subst e2;exact⟨x,r,b,c,e,rfl,RepF.move sg w (fun l o ys z=>hf l o ys (w2d _ z)) p,RepFs.move sg ws (fun l o ys z=>hf l o ys (w0m _ z)) q⟩
end
mutual
theorem RepF.fzs{K:PySem.W.Frag}{Z:Zt}{G H:Hp}:∀(w:W){v:V}{as:List Addr},RepF K Z G H w v as->∀{l:Addr},l∈as->∃o ys,FzAt Z G H l o ys
 |.non,_,_,h,_,m=>by rw[h.2]at m;cases m
 |.bl _,_,_,h,_,m=>by rw[h.2]at m;cases m
 |.int _,_,_,h,_,m=>by rw[h.2]at m;cases m
 |.str _,_,_,h,_,m=>by rw[h.2]at m;cases m
 |.tup ws,_,_,⟨a,xs,e,q,r⟩,_,m=>RepFs.fzs ws r m
 |.lst ws,_,_,⟨a,xs,e,⟨o,q⟩,⟨bs,e2,r⟩⟩,l,m=>by
  subst e2;rcases w0h.mp m with rfl|m
  ·exact⟨o,xs,q⟩
  ·exact RepFs.fzs ws r m
 |.exc _,_,_,h,_,_=>h.elim
 |.dic _,_,_,h,_,_=>h.elim
 |.dw _ _ _ _,_,_,h,_,_=>h.elim
 |.fn _ _ _,_,_,h,_,_=>h.elim
theorem RepFs.fzs{K:PySem.W.Frag}{Z:Zt}{G H:Hp}:∀(ws:List W){vs:List V}{as:List Addr},RepFs K Z G H ws vs as->∀{l:Addr},l∈as->∃o ys,FzAt Z G H l o ys
 |[],_,_,h,_,m=>by rw[h.2]at m;cases m
 |w::ws,_,_,⟨x,r,b,c,e,e2,p,q⟩,l,m=>by
  subst e2;rcases w1j.mp m with m|m
  ·exact RepF.fzs w p m
  ·exact RepFs.fzs ws q m
end
inductive FzOk(K:PySem.W.Frag)(Z:Zt)(G H:Hp)(w:W)(v:Option V):Prop where
 |mk (u:V) (as:List Addr) (h1:v=some u) (h2:as.Nodup) (h3:RepF K Z G H w u as):FzOk K Z G H w v
inductive FzoOk(K:PySem.W.Frag)(Z:Zt)(G H:Hp)(w:W)(v:Option V):Prop where
 |mk (u:V) (as:List Addr) (h1:v=some u) (h2:as.Nodup) (h3:RepF K Z Z.G H w u as) (h4:RepF K Z G H w u as):FzoOk K Z G H w v
def XOk(K:PySem.W.Frag)(Z:Zt)(G H:Hp):SK->Option V->Prop
 |.old w,v=>∃u,v=some u/\Rep K Z.G w u/\Rep K G w u
 |.new w,v=>∃u,v=some u/\RepN K Z G w u
 |.acc ws,v=>AccOk K Z G H ws v
 |.thro us ws vs,v=>ThroOk K Z G H us ws vs v
 |.tn us wss,v=>TnOk K Z G H us wss v
 |.pt us ws w,v=>PtOk K Z G H us ws w v
 |.fz w,v=>FzOk K Z G H w v
 |.fzo w,v=>FzoOk K Z G H w v
theorem XOk.move{k:SK}{v:Option V}(q:XOk K Z G H k v)(sg:Same G G')(hf:∀l o ys,H l=some (.frz o (.lst ys))->G l=none->Z.H l=none->H' l=some (.frz o (.lst ys))/\G' l=none/\Z.H l=none):XOk K Z G' H' k v:=by
 cases k with
 |old w=>obtain⟨u,h1,h2,h3⟩:=q;exact⟨u,h1,h2,Rep.mono sg w h3⟩
 |new w=>obtain⟨u,h1,h2⟩:=q;exact⟨u,h1,RepN.move sg (fun _ _ _ z=>z) w h2⟩
 |acc ws=>obtain⟨a,o,xs,h1,⟨h2,h3,h4⟩,h5⟩:=q;exact⟨a,o,xs,h1,hf _ _ _ h2 h3 h4,RepNs.move sg (fun _ _ _ z=>z) ws h5⟩
 |tn us wss=>obtain⟨t,l,o,ls,xs,h1,h2,⟨h3,h4,h5⟩,h6,h7,h8⟩:=q;exact⟨t,l,o,ls,xs,h1,sg _ _ h2,hf _ _ _ h3 h4 h5,h6,Reps.mono sg us h7,h8.move sg hf⟩
 |pt us ws w=>obtain⟨p,t,l,o,xs,ys,x,h1,h2,h3,⟨h4,h5,h6⟩,h7,h8,h9⟩:=q;exact⟨p,t,l,o,xs,ys,x,h1,sg _ _ h2,sg _ _ h3,hf _ _ _ h4 h5 h6,Reps.mono sg us h7,Reps.mono sg ws h8,Rep.mono sg w h9⟩
 |fz w=>obtain⟨u,as,h1,h2,h3⟩:=q;exact⟨u,as,h1,h2,RepF.move sg w (fun l o ys _ ⟨k1,k2,k3⟩=>hf l o ys k1 k2 k3) h3⟩
 |fzo w=>obtain⟨u,as,h1,h2,h3,h4⟩:=q;exact⟨u,as,h1,h2,RepF.move (.refl _) w (fun l o ys hm k=>⟨(hf l o ys k.1 (let ⟨_,_,z⟩:=RepF.fzs w h4 hm;z.2.1) k.2.2).1,k.2.1,k.2.2⟩) h3,RepF.move sg w (fun l o ys _ ⟨k1,k2,k3⟩=>hf l o ys k1 k2 k3) h4⟩
 |thro us ws vs=>obtain⟨t,l,o,xs,ys,zs,h1,h2,h3,⟨h4,h5,h6⟩,h7,h8,h9,h10⟩:=q;exact⟨t,l,o,xs,ys,zs,h1,h2,sg _ _ h3,hf _ _ _ h4 h5 h6,h7,Reps.mono sg us h8,Reps.mono sg ws h9,Reps.mono sg vs h10⟩
def IoOk(Z:Zt):Option Nat->Addr->Prop
 |none,a=>Z.H a=none
 |some j,a=>Z.io[j]?=some a
theorem IoOk.io(h:IoOk Z b a):a∈Z.io\/Z.H a=none:=by
 cases b with
 |none=>exact .inr h
 |some j=>exact .inl (w1f h)
inductive OwnOk(K:PySem.W.Frag)(Z:Zt)(G H:Hp)(b:Option Nat)(ws:List W)(v:Option V):Prop where
 |mk (a:Addr) (xs:List V) (h1:v=some (.ref a)) (h2:H a=some (.lst xs)) (h3:G a=none) (h4:IoOk Z b a) (h5:Reps K G ws xs):OwnOk K Z G H b ws v
inductive DicOk(Z:Zt)(G H:Hp)(kvs:Dd)(v:Option V):Prop where
 |mk (a:Addr) (h1:v=some (.ref a)) (h2:H a=some (dO kvs)) (h3:G a=none) (h4:Z.H a=none):DicOk Z G H kvs v
inductive ThrOk(K:PySem.W.Frag)(Z:Zt)(G H:Hp)(us ws vs:List W)(v:Option V):Prop where
 |mk (t l:Addr) (o:Obj) (xs ys zs:List V) (h1:v=some (.ref t)) (h2:G t=some (.tup (xs++.ref l::zs))) (h3:H l=some (.frz o (.lst ys))) (h4:G l=none) (h5:Z.H l=none) (h6:Reps K G us xs/\Reps K G ws ys/\Reps K G vs zs):ThrOk K Z G H us ws vs v
def SlotOk(K:PySem.W.Frag)(Z:Zt)(G H:Hp):S->Option V->Prop
 |.no,_=>True
 |.fr w,v=>∃u,v=some u/\Rep K G w u
 |.own b ws,v=>OwnOk K Z G H b ws v
 |.dic kvs,v=>DicOk Z G H kvs v
 |.thr us ws vs,v=>ThrOk K Z G H us ws vs v
 |.nest wss,v=>NestOk K Z G H wss v
 |.dw sh ks ws,v=>DwOk K Z G H sh ks ws v
 |.x k,v=>XOk K Z G H k v
structure Rel(K:PySem.W.Frag)(Z:Zt)(G:Hp)(σ:St)(H:Hp)(e:List S):Prop where
 sub:Same G H
 slot:∀(i:Nat)(s:S),e[i]?=some s->SlotOk K Z G H s (σ[i]?.getD none)
 len:e.length=σ.length
 dis:∀(i j:Nat)(b b':Option Nat)(ws ws':List W)(a:Addr),e[i]?=some (.own b ws)->e[j]?=some (.own b' ws')->σ[i]?=some (some (.ref a))->σ[j]?=some (some (.ref a))->i=j
 ent:∀a o,Z.H a=some o->a∉Z.io->H a=some o
 ion:∀a∈Z.io,H a≠none
 gen:∀a,Z.H a≠none->G a=Z.G a
inductive AtG(K:PySem.W.Frag)(Z:Zt)(σ:St)(H:Hp)(P:Hp->List S->Prop):Prop where
 |mk (G:Hp) (e:List S) (r:Rel K Z G σ H e) (h:P G e):AtG K Z σ H P
structure Grow(G H G' H':Hp):Prop where
 hh:Same H H'
 gg:Same G G'
 sub:Same G' H'
 new:∀a,H a≠none->G' a=G a
theorem Grow.refl(s:Same G H):Grow G H G H:=⟨.refl _,.refl _,s,fun _ _=>rfl⟩
theorem x91(e:Same H H')(h:H a≠none):H' a≠none:=by
 cases q:H a with
 |none=>exact absurd q h
 |some o=>rw[e a o q];simp
theorem Grow.laid(s:Same G H){D:Addr}(h:H D=none)(o:HO):Grow G H (upd G D o) (upd H D o) where
 hh:=q34 h o
 gg:=q34 (s.free h) o
 sub:=fun b u e=>by
  by_cases hb:b=D
  ·subst hb;rw[q0m]at e |-;exact e
  ·rw[q0f hb]at e |-;exact s b u e
 new:=fun a ha=>by rw[q0f (fun z=>ha (by rw[z];exact h))]
theorem Grow.hid(s:Same G H){D:Addr}(h:H D=none)(o:HO):Grow G H G (upd H D o) where
 hh:=q34 h o
 gg:=.refl _
 sub:=fun b u e=>by
  have:=s b u e;rw[q0f (q0s this h)];exact this
 new:=fun a ha=>rfl
theorem Rel.grow(r:Rel K Z G σ H e)(g:Grow G H G' H'):Rel K Z G' σ H' e where
 sub:=g.sub
 slot:=fun i s h=>by
  have q:=r.slot i s h;cases s with
  |no=>trivial
  |fr w=>
   obtain⟨u,h1,h2⟩:=q;exact⟨u,h1,Rep.mono g.gg w h2⟩
  |own b ws=>
   obtain⟨a,xs,h1,h2,h3,h4,h5⟩:=q;exact⟨a,xs,h1,g.hh _ _ h2,by rw[g.new a (by rw[h2];simp)];exact h3,h4,Reps.mono g.gg ws h5⟩
  |dic kvs=>
   obtain⟨a,h1,h2,h3,h4⟩:=q;exact⟨a,h1,g.hh _ _ h2,by rw[g.new a (by rw[h2];simp)];exact h3,h4⟩
  |thr us ws vs=>
   obtain⟨t,l,o,xs,ys,zs,h1,h2,h3,h4,h5,h6,h7,h8⟩:=q;exact⟨t,l,o,xs,ys,zs,h1,g.gg _ _ h2,g.hh _ _ h3,by rw[g.new l (by rw[h3];simp)];exact h4,h5,Reps.mono g.gg us h6,Reps.mono g.gg ws h7,Reps.mono g.gg vs h8⟩
  |nest wss=>exact NestOk.move q g.gg fun l o ys h1 h2 h3=>⟨g.hh _ _ h1,by rw[g.new l (by rw[h1];simp)];exact h2,h3⟩
  |x k=>exact XOk.move q g.gg fun l o ys h1 h2 h3=>⟨g.hh _ _ h1,by rw[g.new l (by rw[h1];simp)];exact h2,h3⟩
  |dw sh ks ws=>exact DwOk.move q g.gg fun l o ys h1 h2 h3=>⟨g.hh _ _ h1,by rw[g.new l (by rw[h1];simp)];exact h2,h3⟩
 len:=r.len
 dis:=r.dis
 ent:=fun a o h n=>g.hh _ _ (r.ent a o h n)
 ion:=fun a h=>x91 g.hh (r.ion a h)
 gen:=fun a h=>by
  have:H a≠none:=by
   cases q:Z.H a with
   |none=>exact absurd q h
   |some o=>
    by_cases hi:a∈Z.io
    ·exact r.ion a hi
    ·rw[r.ent a o q hi];simp
  rw[g.new a this];exact r.gen a h
theorem Rel.own(r:Rel K Z G σ H e)(h:e[i]?=some (.own b ws)):∃a xs,σ[i]?=some (some (.ref a))/\H a=some (.lst xs)/\G a=none/\(IoOk Z b a)/\Reps K G ws xs:=by
 obtain⟨a,xs,h1,h2,h3,h4,h5⟩:=r.slot i _ h;refine⟨a,xs,?_,h2,h3,h4,h5⟩;cases q:σ[i]? with
 |none=>rw[q]at h1;cases h1
 |some z=>rw[q]at h1;rw[show z=some (V.ref a)from h1]
theorem Rel.fr(r:Rel K Z G σ H e)(h:e[i]?=some (.fr w)):∃v,σ[i]?=some (some v)/\Rep K G w v:=by
 obtain⟨v,h1,h2⟩:=r.slot i _ h;refine⟨v,?_,h2⟩;cases q:σ[i]? with
 |none=>rw[q]at h1;cases h1
 |some z=>rw[q]at h1;rw[show z=some v from h1]
theorem Rel.at(r:Rel K Z G σ H e){s:S}(h:e[i]?=some s)(hs:SlotOk K Z G H s (σ[i]?.getD none)->σ[i]?.getD none=some v):σ[i]?=some (some v):=by
 have h1:=hs (r.slot i _ h);cases q:σ[i]? with
 |none=>rw[q]at h1;cases h1
 |some z=>rw[q]at h1;rw[show z=some v from h1]
theorem Rel.plain(r:Rel K Z G σ H e){k:SK}(h:e[i]?=some (.x k))(hk:k.plain=some w):∃v,σ[i]?=some (some v)/\Rep K G w v:=by
 have q:=r.slot i _ h;cases k with
 |old w'=>cases hk;obtain⟨v,h1,_,h2⟩:=q;exact⟨v,r.at h fun _=>h1,h2⟩
 |new w'=>cases hk;obtain⟨v,h1,h2⟩:=q;exact⟨v,r.at h fun _=>h1,RepN.rep _ h2⟩
 |_=>cases hk
theorem Rel.mut(r:Rel K Z G σ H e){ws':List W}{xs':List V}(h:e[i]?=some (.own b ws))(ha:σ[i]?=some (some (.ref a)))(q:Reps K G ws' xs'):Rel K Z G σ (upd H a (.lst xs')) (e.set i (.own b ws')):=by
 obtain⟨a',xs,h1,h2,h3,h4,h5⟩:=r.own h;rw[ha]at h1;cases h1;have hi:i<e.length:=(w0c.mp h).1;refine⟨fun c o z=>?_,fun j s z=>?_,by simpa using r.len,fun j k b1 b2 w1 w2 c z1 z2 z3 z4=>?_,fun c o z n=>?_,fun c z=>?_,r.gen⟩
 ·rw[q0f (q0s z h3)];exact r.sub c o z
 ·by_cases hj:j=i
  ·subst hj;rw[w0p hi]at z;cases z;exact⟨a,xs',by rw[ha];rfl,q0m,h3,h4,q⟩
  ·rw[w0k (fun z=>hj z.symm)]at z
   have y:=r.slot j s z;cases s with
   |no=>trivial
   |fr w=>exact y
   |own b2 w2=>
    obtain⟨c,ys,y1,y2,y3,y4,y5⟩:=y;refine⟨c,ys,y1,?_,y3,y4,y5⟩;rw[q0f];exact y2;rintro rfl;obtain⟨c',_,z1,_⟩:=r.own z;rw[z1]at y1;cases y1;exact hj (r.dis j i _ _ _ _ _ z h z1 ha)
   |dic kvs=>
    obtain⟨c,y1,y2,y3,y4⟩:=y;refine⟨c,y1,?_,y3,y4⟩;rw[q0f (q09 y2 h2 (q6b rfl))];exact y2
   |thr us w2 vs=>
    obtain⟨t,l,o,xs2,ys,zs,y1,y2,y3,y4,y5,y6⟩:=y;refine⟨t,l,o,xs2,ys,zs,y1,y2,?_,y4,y5,y6⟩;rw[q0f (q09 y3 h2 (fun z=>nomatch z))];exact y3
   |nest wss=>exact NestOk.move y (.refl _) fun l o ys k1 k2 k3=>⟨by rw[q0f (q09 k1 h2 (fun z=>nomatch z))];exact k1,k2,k3⟩
   |x k=>exact XOk.move y (.refl _) fun l o ys k1 k2 k3=>⟨by rw[q0f (q09 k1 h2 (fun z=>nomatch z))];exact k1,k2,k3⟩
   |dw sh ks ws=>exact DwOk.move y (.refl _) fun l o ys k1 k2 k3=>⟨by rw[q0f (q09 k1 h2 (q5t rfl))];exact k1,k2,k3⟩
 ·have old:∀(k:Nat)(bb:Option Nat)(ww:List W),(e.set i (S.own b ws'))[k]?=some (.own bb ww)->∃b' w',e[k]?=some (.own b' w'):=fun k bb ww z=>by
   by_cases hk:k=i
   ·subst hk;exact⟨_,_,h⟩
   ·rw[w0k (fun z=>hk z.symm)]at z;exact⟨_,_,z⟩
  obtain⟨_,_,q1⟩:=old _ _ _ z1;obtain⟨_,_,q2⟩:=old _ _ _ z2;exact r.dis _ _ _ _ _ _ _ q1 q2 z3 z4
 ·by_cases hc:c=a
  ·subst hc;exfalso;rcases h4.io with h4|h4
   ·exact n h4
   ·rw[h4]at z;cases z
  ·rw[q0f hc];exact r.ent c o z n
 ·by_cases hc:c=a
  ·subst hc;rw[q0m];simp
  ·rw[q0f hc];exact r.ion c z
theorem Rel.freeze(r:Rel K Z G σ H e)(h:e[i]?=some (.own none ws)):∃v G',σ[i]?=some (some v)/\Same G G'/\Rep K G' (.lst ws) v/\Rel K Z G' σ H (e.set i (.fr (.lst ws))):=by
 obtain⟨a,xs,h1,h2,h3,h4,h5⟩:=r.own h;have h4:Z.H a=none:=h4;have sg:Same G (upd G a (.lst xs)):=q34 h3 _;have hi:i<e.length:=(w0c.mp h).1;have rp:Rep K (upd G a (.lst xs)) (.lst ws) (.ref a):=⟨a,xs,rfl,SqL.of q0m,Reps.mono sg ws h5⟩;refine⟨.ref a,upd G a (.lst xs),h1,sg,rp,⟨fun c o z=>?_,fun j s z=>?_,by simpa using r.len,fun j k b1 b2 w1 w2 c z1 z2 z3 z4=>?_,r.ent,r.ion,fun c z=>?_⟩⟩
 ·by_cases hc:c=a
  ·subst hc;rw[q0m]at z;cases z;exact h2
  ·rw[q0f hc]at z;exact r.sub c o z
 ·by_cases hj:j=i
  ·subst hj;rw[w0p hi]at z;cases z;exact⟨.ref a,by rw[h1];rfl,rp⟩
  ·rw[w0k (fun z=>hj z.symm)]at z
   have y:=r.slot j s z;cases s with
   |no=>trivial
   |fr w=>
    obtain⟨u,y1,y2⟩:=y;exact⟨u,y1,Rep.mono sg w y2⟩
   |own b2 w2=>
    obtain⟨c,ys,y1,y2,y3,y4,y5⟩:=y;refine⟨c,ys,y1,y2,?_,y4,Reps.mono sg w2 y5⟩;rw[q0f];exact y3;rintro rfl;obtain⟨c',_,z1,_⟩:=r.own z;rw[z1]at y1;cases y1;exact hj (r.dis j i _ _ _ _ _ z h z1 h1)
   |dic kvs=>
    obtain⟨c,y1,y2,y3,y4⟩:=y;refine⟨c,y1,y2,?_,y4⟩;rw[q0f (q09 y2 h2 (q6b rfl))];exact y3
   |thr us w2 vs=>
    obtain⟨t,l,o,xs2,ys,zs,y1,y2,y3,y4,y5,y6,y7,y8⟩:=y;refine⟨t,l,o,xs2,ys,zs,y1,sg _ _ y2,y3,?_,y5,Reps.mono sg us y6,Reps.mono sg w2 y7,Reps.mono sg vs y8⟩;rw[q0f (q09 y3 h2 (fun z=>nomatch z))];exact y4
   |nest wss=>exact NestOk.move y sg fun l o ys k1 k2 k3=>⟨k1,by rw[q0f (q09 k1 h2 (fun z=>nomatch z))];exact k2,k3⟩
   |x k=>exact XOk.move y sg fun l o ys k1 k2 k3=>⟨k1,by rw[q0f (q09 k1 h2 (fun z=>nomatch z))];exact k2,k3⟩
   |dw sh ks ws=>exact DwOk.move y sg fun l o ys k1 k2 k3=>⟨k1,by rw[q0f (q09 k1 h2 (q5t rfl))];exact k2,k3⟩
 ·have old:∀(k:Nat)(bb:Option Nat)(ww:List W),(e.set i (S.fr (W.lst ws)))[k]?=some (.own bb ww)->e[k]?=some (.own bb ww):=fun k bb ww z=>by
   by_cases hk:k=i
   ·subst hk;rw[w0p hi]at z;cases z
   ·rw[w0k (fun z=>hk z.symm)]at z;exact z
  exact r.dis _ _ _ _ _ _ _ (old _ _ _ z1) (old _ _ _ z2) z3 z4
 ·by_cases hc:c=a
  ·subst hc;exact absurd h4 z
  ·rw[q0f hc];exact r.gen c z
def Free(σ:St)(e:List S)(a:Addr):Prop:=∀(j:Nat)(b:Option Nat)(ws:List W),e[j]?=some (.own b ws)->σ[j]?≠some (some (.ref a))
theorem Rel.set(r:Rel K Z G σ H e){w:W}{v:V}(q:Rep K G w v):Rel K Z G (σ.set i (some v)) H (e.set i (.fr w)):=by
 refine⟨r.sub,fun j s z=>?_,by simpa using r.len,fun j k b1 b2 w1 w2 c z1 z2 z3 z4=>?_,r.ent,r.ion,r.gen⟩
 ·by_cases hj:j=i
  ·subst hj
   have hi:j<e.length:=by
    have:=(w0c.mp z).1;simpa using this
   rw[w0p hi]at z;cases z;rw[w0p (by rw[<- r.len];exact hi)];exact⟨v,rfl,q⟩
  ·rw[w0k (fun z=>hj z.symm)]at z |-
   exact r.slot j s z
 ·have old:∀(k:Nat)(bb:Option Nat)(ww:List W),(e.set i (S.fr w))[k]?=some (.own bb ww)->k≠i/\e[k]?=some (.own bb ww):=fun k bb ww z=>by
   by_cases hk:k=i
   ·subst hk
    have hi:k<e.length:=by
     have:=(w0c.mp z).1;simpa using this
    rw[w0p hi]at z;cases z
   ·rw[w0k (fun z=>hk z.symm)]at z;exact⟨hk,z⟩
  obtain⟨n1,q1⟩:=old _ _ _ z1;obtain⟨n2,q2⟩:=old _ _ _ z2;rw[w0k (fun z=>n1 z.symm)]at z3
  rw[w0k (fun z=>n2 z.symm)]at z4
  exact r.dis _ _ _ _ _ _ _ q1 q2 z3 z4
theorem Rel.setOwn(r:Rel K Z G σ H e)(h2:H a=some (.lst xs))(h3:G a=none)(h4:Z.H a=none)(hf:Free σ e a)(q:Reps K G ws xs):Rel K Z G (σ.set i (some (.ref a))) H (e.set i (.own none ws)):=by
 refine⟨r.sub,fun j s z=>?_,by simpa using r.len,fun j k b1 b2 w1 w2 c z1 z2 z3 z4=>?_,r.ent,r.ion,r.gen⟩
 ·by_cases hj:j=i
  ·subst hj
   have hi:j<e.length:=by
    have:=(w0c.mp z).1;simpa using this
   rw[w0p hi]at z;cases z;rw[w0p (by rw[<- r.len];exact hi)];exact⟨a,xs,rfl,h2,h3,h4,q⟩
  ·rw[w0k (fun z=>hj z.symm)]at z |-
   exact r.slot j s z
 ·have both:∀(k:Nat)(bb:Option Nat)(ww:List W),(e.set i (S.own none ws))[k]?=some (.own bb ww)->(σ.set i (some (.ref a)))[k]?=some (some (.ref c))->(k=i/\c=a)\/(k≠i/\e[k]?=some (.own bb ww)/\σ[k]?=some (some (.ref c))/\c≠a):=fun k bb ww z y=>by
   by_cases hk:k=i
   ·subst hk
    have hi:k<e.length:=by
     have:=(w0c.mp z).1;simpa using this
    rw[w0p (by rw[<- r.len];exact hi)]at y;cases y;exact .inl ⟨rfl,rfl⟩
   ·rw[w0k (fun z=>hk z.symm)]at z y
    exact .inr ⟨hk,z,y,fun e=>hf k bb ww z (by rw[y,e])⟩
  rcases both _ _ _ z1 z3 with⟨e1,c1⟩|⟨n1,q1,p1,c1⟩<;>rcases both _ _ _ z2 z4 with⟨e2,c2⟩|⟨n2,q2,p2,c2⟩
  ·rw[e1,e2]
  ·exact absurd c1 c2
  ·exact absurd c2 c1
  ·exact r.dis _ _ _ _ _ _ _ q1 q2 p1 p2
inductive R(α:Type) where
 |ok (a:α) (e:List S)|ex (c:Value) (e:List S)|no
noncomputable abbrev Den(α:Type):=List S->R α
variable{dA:Den (List W)}
noncomputable def R.bind{β:Type}:R α->(α->List S->R β)->R β
 |.ok a e,k=>k a e
 |.ex c e,_=>.ex c e
 |.no,_=>.no
def R.holds(r:R α)(P:α->List S->Prop)(E:Value->List S->Prop):Prop:=match r with
 |.ok a e=>P a e
 |.ex c e=>E c e
 |.no=>False
theorem R.holds_bind{β:Type}{r:R α}{k:α->List S->R β}{P:β->List S->Prop}:(r.bind k).holds P E↔r.holds (fun a e=>(k a e).holds P E) E:=by
 cases r<;>rfl
theorem R.holds.imp{r:R α}{P P':α->List S->Prop}{E':Value->List S->Prop}(h:r.holds P E)(p:∀a e,P a e->P' a e)(x:∀c e,E c e->E' c e):r.holds P' E':=by
 cases r with
 |ok a e=>exact p a e h
 |ex c e=>exact x c e h
 |no=>exact h
noncomputable def ofOpt(o:Option α)(e:List S):R α:=match o with
 |some a=>.ok a e
 |none=>.no
theorem q3c{o:Option α}{P:α->List S->Prop}:(ofOpt o e).holds P E↔∃a,o=some a/\P a e:=by
 cases o with
 |none=>exact⟨fun h=>h.elim,fun⟨_,h,_⟩=>nomatch h⟩
 |some a=>exact⟨fun h=>⟨a,rfl,h⟩,fun⟨_,h,q⟩=>by cases h;exact q⟩
inductive SR where
 |nx (e:List S)|rt (s:S) (e:List S)|bk (e:List S)|ct (e:List S)|ex (c:Value) (e:List S)|no
section
variable(K:PySem.W.Frag)(Z:Zt)(EE:L2.St->XK)
abbrev XH(σ:St)(G:Hp):Value->List S->Prop:=fun c e'=>∀G' H',Rel K Z G' σ H' e'->Same G G'->EE σ c none H'
def liftE(d:Den W):TE:=fun σ H Q=>AtG K Z σ H fun G e=>(d e).holds (fun w e'=>∀G' v H',Rel K Z G' σ H' e'->Same G G'->Rep K G' w v->Q v H') (XH K Z EE σ G)
def liftA(d:Den (List W)):TA:=fun σ H Q=>AtG K Z σ H fun G e=>(d e).holds (fun ws e'=>∀G' vs H',Rel K Z G' σ H' e'->Same G G'->Reps K G' ws vs->Q vs H') (XH K Z EE σ G)
def liftT(d:Den Bool):TT:=fun σ H Q=>AtG K Z σ H fun G e=>(d e).holds (fun b e'=>∀G' H',Rel K Z G' σ H' e'->Same G G'->Q b H') (XH K Z EE σ G)
def liftF(d:Den (List W)):TE:=fun σ H Q=>AtG K Z σ H fun G e=>(d e).holds (fun ws e'=>∀G' a xs H',Rel K Z G' σ H' e'->Same G G'->H' a=some (.lst xs)->G' a=none->Z.H a=none->Free σ e' a->Reps K G' ws xs->Q (.ref a) H') (XH K Z EE σ G)
def PostS(D:Ends)(G:Hp):SR->Prop
 |.nx e'=>∀G' σ' H',Rel K Z G' σ' H' e'->Same G G'->D.nx σ' H'
 |.bk e'=>∀G' σ' H',Rel K Z G' σ' H' e'->Same G G'->D.bk σ' H'
 |.ct e'=>∀G' σ' H',Rel K Z G' σ' H' e'->Same G G'->D.ct σ' H'
 |.rt s e'=>∀G' σ' v H',Rel K Z G' σ' H' e'->Same G G'->SlotOk K Z G' H' s (some v)->D.rt v H'
 |.ex c e'=>∀G' σ' H',Rel K Z G' σ' H' e'->Same G G'->EE σ' c none H'
 |.no=>False
def liftS(d:List S->SR):TS:=fun D σ H=>AtG K Z σ H fun G e=>PostS K Z EE D G (d e)
end
section
variable(Z:Zt)(X:Cx)(EE:L2.St->XK)
def DE(e:Expr)(d:Den W):Prop:=PE X e (liftE X.K Z EE d)
def DF(e:Expr)(d:Den (List W)):Prop:=PE X e (liftF X.K Z EE d)
def DT(e:Expr)(d:Den Bool):Prop:=PT X e (liftT X.K Z EE d)
def DW(e:Expr)(d:Den Bool):Prop:=PW X e (liftT X.K Z EE d)
def DA(es:List Expr)(d:Den (List W)):Prop:=PA X es (liftA X.K Z EE d)
def DS(st:Stmt)(d:List S->SR):Prop:=PS X st (liftS X.K Z EE d)
def DSs(sts:List Stmt)(d:List S->SR):Prop:=PSs X sts (liftS X.K Z EE d)
end
theorem PE.mono{e:Expr}{t t':TE}(h:PE X e t)(i:∀σ H Q,t' σ H Q->t σ H Q):PE X e t':=fun pins s σ H Q I q=>h pins s σ H Q I (i σ H Q q)
theorem PT.mono{e:Expr}{t t':TT}(h:PT X e t)(i:∀σ H Q,t' σ H Q->t σ H Q):PT X e t':=fun pins s σ H Q I q=>h pins s σ H Q I (i σ H Q q)
theorem PW.mono{e:Expr}{t t':TT}(h:PW X e t)(i:∀σ H Q,t' σ H Q->t σ H Q):PW X e t':=fun wh pins s σ H Q I q=>h wh pins s σ H Q I (i σ H Q q)
theorem PA.mono{t t':TA}(h:PA X es t)(i:∀σ H Q,t' σ H Q->t σ H Q):PA X es t':=fun p pins s σ H Q I q=>h p pins s σ H Q I (i σ H Q q)
theorem PS.mono{t t':TS}(h:PS X st t)(i:∀D σ H,t' D σ H->t D σ H):PS X st t':=fun pins s σ H D I q=>h pins s σ H D I (i D σ H q)
theorem PSs.mono{st:List Stmt}{t t':TS}(h:PSs X st t)(i:∀D σ H,t' D σ H->t D σ H):PSs X st t':=fun pins s σ H D I q=>h pins s σ H D I (i D σ H q)
section
variable(K:PySem.W.Frag)
def Op2(r:R2)(f:W->W->Option W):Prop:=∀(G H:Hp)(x y:V)(wx wy w:W)(Q:VK),Same G H->Rep K G wx x->Rep K G wy y->f wx wy=some w->(∀G' v H',Grow G H G' H'->Rep K G' w v->Q v H')->r x y H Q
def Op1(r:V->Hp->VK->Prop)(f:W->Option W):Prop:=∀(G H:Hp)(x:V)(wx w:W)(Q:VK),Same G H->Rep K G wx x->f wx=some w->(∀G' v H',Grow G H G' H'->Rep K G' w v->Q v H')->r x H Q
def OpN(r:List V->Hp->VK->Prop)(f:List W->Option W):Prop:=∀(G H:Hp)(xs:List V)(ws:List W)(w:W)(Q:VK),Same G H->Reps K G ws xs->f ws=some w->(∀G' v H',Grow G H G' H'->Rep K G' w v->Q v H')->r xs H Q
end
noncomputable def dC(w:W):Den W:=fun e=>.ok w e
noncomputable def dVar(i:Nat):Den W:=fun e=>match e[i]? with
 |some (.fr w)=>.ok w e
 |some (.own none ws)=>.ok (.lst ws) (e.set i (.fr (.lst ws)))
 |some (.x k)=>match k.plain with
  |some w=>.ok w e
  |none=>.no
 |_=>.no
noncomputable def dOp(f:W->W->Option W)(da db:Den W):Den W:=fun e=>(da e).bind fun x e1=>(db e1).bind fun y e2=>ofOpt (f x y) e2
noncomputable def dUn(f:W->Option W)(da:Den W):Den W:=fun e=>(da e).bind fun x e1=>ofOpt (f x) e1
noncomputable def dTest(da:Den W):Den Bool:=fun e=>(da e).bind fun x e1=>match x with
 |.bl k=>.ok k e1
 |_=>.no
noncomputable def truW:W->Option Bool
 |.non=>some false
 |.bl b=>some b
 |.int i=>some (i != 0)
 |.str x=>if x.length<=16777216 then some ((x.length:Int) != 0)else none
 |.tup xs=>some (!xs.isEmpty)
 |.lst xs=>some (!xs.isEmpty)
 |.exc _=>none
 |.dic _=>none
 |.dw _ _ _ _=>none
 |.fn _ _ _=>none
noncomputable def dTru(da:Den W):Den Bool:=fun e=>(da e).bind fun x e1=>ofOpt (truW x) e1
noncomputable def dAnd(a b:Den Bool):Den Bool:=fun e=>(a e).bind fun x e1=>if x=true then b e1 else .ok false e1
noncomputable def dOr(a b:Den Bool):Den Bool:=fun e=>(a e).bind fun x e1=>if x=true then .ok true e1 else b e1
noncomputable def dNot(a:Den Bool):Den Bool:=fun e=>(a e).bind fun x e1=>.ok (!x) e1
noncomputable def dAndV(a b:Den W):Den W:=fun e=>(a e).bind fun x e1=>match x with
 |.bl true=>b e1
 |.bl false=>.ok (.bl false) e1
 |_=>.no
noncomputable def dOrV(a b:Den W):Den W:=fun e=>(a e).bind fun x e1=>match x with
 |.bl true=>.ok (.bl true) e1
 |.bl false=>b e1
 |_=>.no
noncomputable def dNotV(a:Den W):Den W:=fun e=>(a e).bind fun x e1=>match x with
 |.bl k=>.ok (.bl (!k)) e1
 |_=>.no
noncomputable def dIf(c:Den Bool)(a b:Den W):Den W:=fun e=>(c e).bind fun x e1=>if x=true then a e1 else b e1
noncomputable def dNil:Den (List W):=fun e=>.ok [] e
noncomputable def dCons(a:Den W)(r:Den (List W)):Den (List W):=fun e=>(a e).bind fun x e1=>(r e1).bind fun xs e2=>.ok (x::xs) e2
noncomputable def dTup(a:Den (List W)):Den W:=fun e=>(a e).bind fun xs e1=>if xs.length<=16777216 then .ok (.tup xs) e1 else .no
noncomputable def dLst(a:Den (List W)):Den (List W):=fun e=>(a e).bind fun xs e1=>if xs.length<=16777216 then .ok xs e1 else .no
noncomputable def dFz(a:Den (List W)):Den W:=fun e=>(a e).bind fun xs e1=>.ok (.lst xs) e1
noncomputable def dFn(f:List W->Option W)(a:Den (List W)):Den W:=fun e=>(a e).bind fun xs e1=>ofOpt (f xs) e1
section
variable{a b c e:Expr}{da db:Den W}{dc ta tb:Den Bool}
theorem XH.trans(s:Same G G1){c:Value}{e:List S}(h:XH K Z EE σ G c e):XH K Z EE σ G1 c e:=fun G' H' r q=>h G' H' r (s.trans q)
theorem q0c{i:Int}{j pos}:DE Z X EE (.Constant (.int i) j pos) (dC (.int i)):=PE.mono y73 fun σ H Q ⟨G,e,r,h⟩=>h G (.int i) H r (.refl _) rfl
theorem q0u{i:Bool}{j pos}:DE Z X EE (.Constant (.bool i) j pos) (dC (.bl i)):=PE.mono z1k fun σ H Q ⟨G,e,r,h⟩=>h G (.bl i) H r (.refl _) rfl
theorem q1r{j pos}:DE Z X EE (.Constant .none j pos) (dC .non):=PE.mono y74 fun σ H Q ⟨G,e,r,h⟩=>h G .non H r (.refl _) rfl
theorem x4v{i:Str}{j pos}:DE Z X EE (.Constant (.str i) j pos) (dC (.str i)):=PE.mono y75 fun σ H Q ⟨G,e,r,h⟩=>h G (.str i) H r (.refl _) rfl
theorem y2k:∀σ H Q,liftE K Z EE (dVar i) σ H Q->tVar i σ H Q:=by
 rintro σ H Q ⟨G,e,r,h⟩;unfold dVar at h;split at h
 ·rename_i w hw;obtain⟨v,h1,h2⟩:=r.fr hw;exact⟨v,h1,h G v H r (.refl _) h2⟩
 ·rename_i ws hw;obtain⟨v,G',h1,h2,h3,h4⟩:=r.freeze hw;exact⟨v,h1,h G' v H h4 h2 h3⟩
 ·rename_i k hw;cases q:k.plain with
  |some w=>
   rw[q]at h;obtain⟨v,h1,h2⟩:=r.plain hw q;exact⟨v,h1,h G v H r (.refl _) h2⟩
  |none=>rw[q]at h;exact h.elim
 ·exact h.elim
theorem dv(i:Nat)(hN:X.N[i]?=some x:=by rfl)(hv:Vis X.env.scope x:=by walk_at "1")(hd:(x==("__debug__":Str))=false:=by decide)
  (hcd:(x==("__classdict__":Str))=false:=by decide):DE Z X EE (.Name x pos) (dVar i):=PE.mono (pv i hN hv hd hcd) y2k
theorem q7f{r:R2}(hf:Op2 K r f):∀σ H Q,liftE K Z EE (dOp f da db) σ H Q->tOp r (liftE K Z EE da) (liftE K Z EE db) σ H Q:=by
 rintro σ H Q ⟨G,e,rel,h⟩;simp only[dOp,R.holds_bind,q3c]at h;refine⟨G,e,rel,h.imp (fun x e1 h G1 v1 H1 r1 s1 p1=>?_) fun _ _ h=>h⟩
 refine⟨G1,e1,r1,h.imp (fun y e2 h G2 v2 H2 r2 s2 p2=>?_) fun _ _ h=>XH.trans s1 h⟩
 obtain⟨w,hw,h⟩:=h;exact hf G2 H2 v1 v2 x y w Q r2.sub (Rep.mono s2 x p1) p2 hw fun G' v H' g p=>h G' v H' (r2.grow g) ((s1.trans s2).trans g.gg) p
theorem q7r{op:Operator}{r:R2}(ho:OpR X (binaryOp op) r)(hf:Op2 X.K r f)(ha:DE Z X EE a da)(hb:DE Z X EE b db):DE Z X EE (.BinOp a op b pos) (dOp f da db):=PE.mono (z1o ho ha hb) (q7f hf)
theorem q8z{op:CmpOp}{r:R2}(ho:OpR X (compareOp op) r)(hf:Op2 X.K r f)(ha:DE Z X EE a da)(hb:DE Z X EE b db)(hm:behindInMarks op b=false):DE Z X EE (.Compare a [op] [b] pos) (dOp f da db):=PE.mono (y42 ho ha hb hm) (q7f hf)
theorem x92{Q:Bool->Hp->Prop}(h:liftT K Z EE (dTest da) σ H Q):liftE K Z EE da σ H (fun x H'=>∃k,x=.bl k/\Q k H'):=by
 obtain⟨G,e,rel,h⟩:=h;simp only[dTest,R.holds_bind]at h;refine⟨G,e,rel,h.imp (fun x e1 h G1 v1 H1 r1 s1 p1=>?_) fun _ _ h=>h⟩
 cases x with
 |bl k=>
  cases(show v1=V.bl k from p1);exact⟨k,rfl,h G1 H1 r1 s1⟩
 |_=>exact h.elim
theorem q5u{op:CmpOp}{r:R2}(ho:OpR X (compareOp op) r)(hf:Op2 X.K r f)(ha:DE Z X EE a da)(hb:DE Z X EE b db)(hm:behindInMarks op b=false):DT Z X EE (.Compare a [op] [b] pos) (dTest (dOp f da db)):=
 PT.mono (y43 ho ha hb hm) fun σ H Q h=>q7f hf σ H _ (x92 h)
theorem x7s{r:V->Hp->VK->Prop}{f:W->Option W}(hf:Op1 K r f):∀σ H Q,liftE K Z EE (dUn f da) σ H Q->tUn r (liftE K Z EE da) σ H Q:=by
 rintro σ H Q ⟨G,e,rel,h⟩;simp only[dUn,R.holds_bind,q3c]at h;refine⟨G,e,rel,h.imp (fun x e1 h G1 v1 H1 r1 s1 p1=>?_) fun _ _ h=>h⟩
 obtain⟨w,hw,h⟩:=h;exact hf G1 H1 v1 x w Q r1.sub p1 hw fun G' v H' g p=>h G' v H' (r1.grow g) (s1.trans g.gg) p
theorem z1u{op:UnaryOp}{r:V->Hp->VK->Prop}{f:W->Option W}(ho:UnR X (unaryOp op) r)(hf:Op1 X.K r f)(ha:DE Z X EE a da):DE Z X EE (.UnaryOp op a pos) (dUn f da):=PE.mono (z1p ho ha) (x7s hf)
theorem y8t(s:Same G H){k:Bool}(h:Rep K G w v)(e:truW w=some k):TruV K v H k:=by
 cases w with
 |non=>cases(show v=.non from h);cases e;rfl
 |bl b=>cases(show v=.bl b from h);cases e;rfl
 |int i=>cases(show v=.int i from h);cases e;rfl
 |str x=>
  cases(show v=.str x from h);simp only[truW]at e;split at e
  ·cases e;exact⟨by rw[sizeLine_eq];assumption,rfl⟩
  ·cases e
 |tup ws=>
  obtain⟨p,xs,rfl,q,r⟩:=h;cases e;refine .inr (.inl ⟨xs,s.tup q,?_⟩);have:=r.length;cases ws<;>cases xs<;>simp_all
 |lst ws=>
  obtain⟨p,xs,rfl,q,r⟩:=h;cases e;refine .inl ⟨xs,s.seq q,?_⟩;have:=r.length;cases ws<;>cases xs<;>simp_all
 |exc _=>cases e
 |dic _=>cases e
 |dw _ _ _ _=>cases e
 |fn _ _ _=>cases e
theorem q1u(ha:DE Z X EE a da)(he:∀whole,isTrue a X.env whole=(do let v <- whole;standAt a.pos;holding [v] (truthy v)):=by intro _;rfl):DT Z X EE a (dTru da):=by
 refine PT.mono (y2c ha he) ?_;rintro σ H Q ⟨G,e,rel,h⟩;simp only[dTru,R.holds_bind,q3c]at h;refine⟨G,e,rel,h.imp (fun x e1 h G1 v1 H1 r1 s1 p1=>?_) fun _ _ h=>h⟩
 obtain⟨k,hk,h⟩:=h;exact⟨k,y8t r1.sub p1 hk,h G1 H1 r1 s1⟩
theorem y2l:∀σ H Q,liftT K Z EE (dAnd ta tb) σ H Q->tAnd (liftT K Z EE ta) (liftT K Z EE tb) σ H Q:=by
 rintro σ H Q ⟨G,e,rel,h⟩;simp only[dAnd,R.holds_bind]at h;refine⟨G,e,rel,h.imp (fun x e1 h G1 H1 r1 s1=>?_) fun _ _ h=>h⟩
 cases x with
 |true=>exact⟨G1,e1,r1,R.holds.imp (show(tb e1).holds _ _ from h) (fun y e2 h G2 H2 r2 s2=>h G2 H2 r2 (s1.trans s2)) fun _ _ h=>XH.trans s1 h⟩
 |false=>exact(show ∀G' H',_->_->Q false H' from h) G1 H1 r1 s1
theorem y5f:∀σ H Q,liftT K Z EE (dOr ta tb) σ H Q->tOr (liftT K Z EE ta) (liftT K Z EE tb) σ H Q:=by
 rintro σ H Q ⟨G,e,rel,h⟩;simp only[dOr,R.holds_bind]at h;refine⟨G,e,rel,h.imp (fun x e1 h G1 H1 r1 s1=>?_) fun _ _ h=>h⟩
 cases x with
 |false=>exact⟨G1,e1,r1,R.holds.imp (show(tb e1).holds _ _ from h) (fun y e2 h G2 H2 r2 s2=>h G2 H2 r2 (s1.trans s2)) fun _ _ h=>XH.trans s1 h⟩
 |true=>exact(show ∀G' H',_->_->Q true H' from h) G1 H1 r1 s1
theorem x15(ha:DT Z X EE a ta):DW Z X EE (.BoolOp .And [a] pos) ta:=y4v ha
theorem q6k(ha:DT Z X EE a ta):DW Z X EE (.BoolOp .Or [a] pos) ta:=y76 ha
theorem x01{rest:List Expr}(ha:DT Z X EE a ta)(hb:DW Z X EE (.BoolOp .And (b::rest) pos) tb):DW Z X EE (.BoolOp .And (a::b::rest) pos) (dAnd ta tb):=PW.mono (y77 ha hb) y2l
theorem q4x{rest:List Expr}(ha:DT Z X EE a ta)(hb:DW Z X EE (.BoolOp .Or (b::rest) pos) tb):DW Z X EE (.BoolOp .Or (a::b::rest) pos) (dOr ta tb):=PW.mono (z1l ha hb) y5f
theorem dt_w(h:DW Z X EE a ta):DT Z X EE a ta:=PW.pt h
theorem q2i(ha:DT Z X EE a ta):DT Z X EE (.UnaryOp .Not a pos) (dNot ta):=by
 refine PT.mono (y78 ha) ?_;rintro σ H Q ⟨G,e,rel,h⟩;simp only[dNot,R.holds_bind]at h;exact⟨G,e,rel,h.imp (fun x e1 h G1 H1 r1 s1=>h G1 H1 r1 s1) fun _ _ h=>h⟩
theorem q80{op}(h:DE Z X EE a da):DE Z X EE (.BoolOp op [a] pos) da:=y79 h
theorem x02{rest:List Expr}(ha:DE Z X EE a da)(hb:DE Z X EE (.BoolOp .And (b::rest) pos) db):DE Z X EE (.BoolOp .And (a::b::rest) pos) (dAndV da db):=by
 refine PE.mono (y8a ha hb) ?_;rintro σ H Q ⟨G,e,rel,h⟩;simp only[dAndV,R.holds_bind]at h;refine⟨G,e,rel,h.imp (fun x e1 h G1 v1 H1 r1 s1 p1=>?_) fun _ _ h=>h⟩
 cases x with
 |bl k=>
  cases(show v1=V.bl k from p1);cases k with
  |true=>exact⟨true,rfl,⟨G1,e1,r1,R.holds.imp (show(db e1).holds _ _ from h) (fun y e2 h G2 v2 H2 r2 s2 p2=>h G2 v2 H2 r2 (s1.trans s2) p2) fun _ _ h=>XH.trans s1 h⟩⟩
  |false=>exact⟨false,rfl,(show ∀G' v H',_->_->v=V.bl false->Q v H' from h) G1 _ H1 r1 s1 rfl⟩
 |_=>exact h.elim
theorem z1v{rest:List Expr}(ha:DE Z X EE a da)(hb:DE Z X EE (.BoolOp .Or (b::rest) pos) db):DE Z X EE (.BoolOp .Or (a::b::rest) pos) (dOrV da db):=by
 refine PE.mono (z1m ha hb) ?_;rintro σ H Q ⟨G,e,rel,h⟩;simp only[dOrV,R.holds_bind]at h;refine⟨G,e,rel,h.imp (fun x e1 h G1 v1 H1 r1 s1 p1=>?_) fun _ _ h=>h⟩
 cases x with
 |bl k=>
  cases(show v1=V.bl k from p1);cases k with
  |false=>exact⟨false,rfl,⟨G1,e1,r1,R.holds.imp (show(db e1).holds _ _ from h) (fun y e2 h G2 v2 H2 r2 s2 p2=>h G2 v2 H2 r2 (s1.trans s2) p2) fun _ _ h=>XH.trans s1 h⟩⟩
  |true=>exact⟨true,rfl,(show ∀G' v H',_->_->v=V.bl true->Q v H' from h) G1 _ H1 r1 s1 rfl⟩
 |_=>exact h.elim
theorem x4w(ha:DE Z X EE a da):DE Z X EE (.UnaryOp .Not a pos) (dNotV da):=by
 refine PE.mono (y8b ha) ?_;rintro σ H Q ⟨G,e,rel,h⟩;simp only[dNotV,R.holds_bind]at h;refine⟨G,e,rel,h.imp (fun x e1 h G1 v1 H1 r1 s1 p1=>?_) fun _ _ h=>h⟩
 cases x with
 |bl k=>
  cases(show v1=V.bl k from p1);exact⟨k,rfl,(show ∀G' v H',_->_->v=V.bl (!k)->Q v H' from h) G1 _ H1 r1 s1 rfl⟩
 |_=>exact h.elim
theorem z1w(hc:DT Z X EE c dc)(ha:DE Z X EE a da)(hb:DE Z X EE b db):DE Z X EE (.IfExp c a b pos) (dIf dc da db):=by
 refine PE.mono (y18 hc ha hb) ?_;rintro σ H Q ⟨G,e,rel,h⟩;simp only[dIf,R.holds_bind]at h;refine⟨G,e,rel,h.imp (fun x e1 h G1 H1 r1 s1=>?_) fun _ _ h=>h⟩
 cases x with
 |true=>exact⟨G1,e1,r1,R.holds.imp (show(da e1).holds _ _ from h) (fun y e2 h G2 v2 H2 r2 s2 p2=>h G2 v2 H2 r2 (s1.trans s2) p2) fun _ _ h=>XH.trans s1 h⟩
 |false=>exact⟨G1,e1,r1,R.holds.imp (show(db e1).holds _ _ from h) (fun y e2 h G2 v2 H2 r2 s2 p2=>h G2 v2 H2 r2 (s1.trans s2) p2) fun _ _ h=>XH.trans s1 h⟩
theorem q0b:DA Z X EE [] dNil:=PA.mono x4n fun σ H Q ⟨G,e,r,h⟩=>h G [] H r (.refl _) rfl
theorem q0a(ha:DE Z X EE e da)(hr:DA Z X EE es dA)(hs:starEach (e::es) X.env=(false,eval e X.env)::starEach es X.env:=by rfl):DA Z X EE (e::es) (dCons da dA):=by
 refine PA.mono (q9o ha hr hs) ?_;rintro σ H Q ⟨G,e,rel,h⟩;simp only[dCons,R.holds_bind]at h;refine⟨G,e,rel,h.imp (fun x e1 h G1 v1 H1 r1 s1 p1=>?_) fun _ _ h=>h⟩
 refine⟨G1,e1,r1,h.imp (fun xs e2 h G2 vs H2 r2 s2 p2=>?_) fun _ _ h=>XH.trans s1 h⟩
 exact h G2 (v1::vs) H2 r2 (s1.trans s2) ⟨v1,vs,rfl,Rep.mono s2 x p1,p2⟩
theorem q0w{x1}(h:DA Z X EE es dA):DE Z X EE (.Tuple es x1 pos) (dTup dA):=by
 refine PE.mono (y8j h) ?_;rintro σ H Q ⟨G,e,rel,h⟩;simp only[dTup,R.holds_bind]at h;refine⟨G,e,rel,h.imp (fun ws e1 h G1 vs H1 r1 s1 p1=>?_) fun _ _ h=>h⟩
 split at h
 ·rename_i hl;refine⟨by rw[p1.length,sizeLine_eq];exact hl,fun p hp=>?_⟩
  have g:=Grow.laid r1.sub hp (.tup vs);exact(show ∀G' v H',_->_->Rep X.K G' (.tup ws) v->Q v H' from h) _ (.ref p) _ (r1.grow g) (s1.trans g.gg) ⟨p,vs,rfl,SqT.of q0m,Reps.mono g.gg ws p1⟩
 ·exact h.elim
theorem q7s{e:List S}(r:Rel K Z G σ H e){p:Addr}(hp:H p=none):Free σ e p:=fun j b ws h q=>by
 obtain⟨a,xs,h1,h2,_⟩:=r.own h;rw[q]at h1;cases h1;rw[hp]at h2;cases h2
theorem q6l{e:List S}(r:Rel K Z G σ H e){p:Addr}(hp:H p=none):Z.H p=none:=by
 cases q:Z.H p with
 |none=>rfl
 |some o=>
  by_cases hi:p∈Z.io
  ·exact absurd hp (r.ion p hi)
  ·rw[r.ent p o q hi]at hp;cases hp
theorem q7t{e:List S}{Q:VK}{G0:Hp}(r:Rel K Z G σ H e)(s:Same G0 G)(p1:Reps K G ws vs)
  (h:∀G' a xs H',Rel K Z G' σ H' e->Same G0 G'->H' a=some (.lst xs)->G' a=none->Z.H a=none->Free σ e a->Reps K G' ws xs->Q (.ref a) H'):∀p,H p=none->Q (.ref p) (upd H p (.lst vs)):=fun p hp=>by
 have g:=Grow.hid r.sub hp (.lst vs);exact h G p vs _ (r.grow g) s q0m (r.sub.free hp) (q6l r hp) (q7s r hp) p1
theorem q0z(h:DA Z X EE es dA):DF Z X EE (.List es pos) (dLst dA):=by
 refine PE.mono (y8k h) ?_;rintro σ H Q ⟨G,e,rel,h⟩;simp only[dLst,R.holds_bind]at h;refine⟨G,e,rel,h.imp (fun ws e1 h G1 vs H1 r1 s1 p1=>?_) fun _ _ h=>h⟩
 split at h
 ·rename_i hl;exact⟨by rw[p1.length,sizeLine_eq];exact hl,q7t r1 s1 p1 h⟩
 ·exact h.elim
theorem Rel.seen{e:List S}(r:Rel K Z G σ H e){a:Addr}(h:H a=some (.lst xs))(hg:G a=none)(hz:Z.H a=none)(hf:Free σ e a):Same G (upd G a (.lst xs))/\Rel K Z (upd G a (.lst xs)) σ H e:=by
 have sg:Same G (upd G a (.lst xs)):=q34 hg _;refine⟨sg,⟨fun c o z=>?_,fun j s z=>?_,r.len,r.dis,r.ent,r.ion,fun c z=>?_⟩⟩
 ·by_cases hc:c=a
  ·subst hc;rw[q0m]at z;cases z;exact h
  ·rw[q0f hc]at z;exact r.sub c o z
 ·have y:=r.slot j s z;cases s with
  |no=>trivial
  |fr w=>
   obtain⟨u,y1,y2⟩:=y;exact⟨u,y1,Rep.mono sg w y2⟩
  |own b2 w2=>
   obtain⟨c,ys,y1,y2,y3,y4,y5⟩:=y;refine⟨c,ys,y1,y2,?_,y4,Reps.mono sg w2 y5⟩;rw[q0f];exact y3;rintro rfl;obtain⟨c',_,z1,_⟩:=r.own z;rw[z1]at y1;cases y1;exact hf j b2 w2 z z1
  |dic kvs=>
   obtain⟨c,y1,y2,y3,y4⟩:=y;refine⟨c,y1,y2,?_,y4⟩;rw[q0f (q09 y2 h (q6b rfl))];exact y3
  |thr us w2 vs=>
   obtain⟨t,l,o,xs2,ys,zs,y1,y2,y3,y4,y5,y6,y7,y8⟩:=y;refine⟨t,l,o,xs2,ys,zs,y1,sg _ _ y2,y3,?_,y5,Reps.mono sg us y6,Reps.mono sg w2 y7,Reps.mono sg vs y8⟩;rw[q0f (q09 y3 h (fun z=>nomatch z))];exact y4
  |nest wss=>exact NestOk.move y sg fun l o ys k1 k2 k3=>⟨k1,by rw[q0f (q09 k1 h (fun z=>nomatch z))];exact k2,k3⟩
  |x k=>exact XOk.move y sg fun l o ys k1 k2 k3=>⟨k1,by rw[q0f (q09 k1 h (fun z=>nomatch z))];exact k2,k3⟩
  |dw sh ks ws=>exact DwOk.move y sg fun l o ys k1 k2 k3=>⟨k1,by rw[q0f (q09 k1 h (q5t rfl))];exact k2,k3⟩
 ·by_cases hc:c=a
  ·subst hc;exact absurd hz z
  ·rw[q0f hc];exact r.gen c z
theorem q0v(h:DF Z X EE e dA):DE Z X EE e (dFz dA):=by
 refine PE.mono h ?_;rintro σ H Q ⟨G,e,rel,h⟩;simp only[dFz,R.holds_bind]at h;refine⟨G,e,rel,h.imp (fun ws e1 h G1 a xs H1 r1 s1 q1 q2 q3 q4 p1=>?_) fun _ _ h=>h⟩
 obtain⟨sg,rg⟩:=r1.seen q1 q2 q3 q4;exact(show ∀G' v H',_->_->Rep X.K G' (.lst ws) v->Q v H' from h) _ (.ref a) _ rg (s1.trans sg) ⟨a,xs,rfl,SqL.of q0m,Reps.mono sg ws p1⟩
theorem x7t{f:List W->Option W}(hf:OpN K r f):∀σ H Q,liftE K Z EE (dFn f dA) σ H Q->tCB r (liftA K Z EE dA) σ H Q:=by
 rintro σ H Q ⟨G,e,rel,h⟩;simp only[dFn,R.holds_bind,q3c]at h;refine⟨G,e,rel,h.imp (fun ws e1 h G1 vs H1 r1 s1 p1=>?_) fun _ _ h=>h⟩
 obtain⟨w,hw,h⟩:=h;exact hf G1 H1 vs ws w Q r1.sub p1 hw fun G' v H' g p=>h G' v H' (r1.grow g) (s1.trans g.gg) p
theorem x03{id:String}{f:List W->Option W}(hc:CallR X (.builtin id) r)(hf:OpN X.K r f)(hv:bootBuiltins x=some (.builtin id))(hm:X.mg x=none)(ha:DA Z X EE (e::es) dA)(hg:Gl X x:=by rfl)(hn:x≠"__name__":=by decide)(hdb:(x==("__debug__":Str))=false:=by decide)
  (he:starEach (e::es) X.env=(false,eval e X.env)::starEach es X.env:=by rfl)(hpl:(backTo pos (starEach es X.env)).any (·.1)=false:=by rfl):DE Z X EE (.Call (.Name x p) (e::es) [] pos) (dFn f dA):=
 PE.mono (x4p hc hg hm hv ha hn hdb he hpl) (x7t hf)
theorem x93{T:String}{f:List W->Option W}(hc:CallR X (.type T) r)(hf:OpN X.K r f)(hv:bootBuiltins x=some (.type T))(hm:X.mg x=none)(ha:DA Z X EE (e::es) dA)(hg:Gl X x:=by rfl)(hn:x≠"__name__":=by decide)(hdb:(x==("__debug__":Str))=false:=by decide)
  (he:starEach (e::es) X.env=(false,eval e X.env)::starEach es X.env:=by rfl)(hpl:(backTo pos (starEach es X.env)).any (·.1)=false:=by rfl):DE Z X EE (.Call (.Name x p) (e::es) [] pos) (dFn f dA):=
 PE.mono (q8u hc hg hm hv ha hn hdb he hpl) (x7t hf)
end
noncomputable def dNx:List S->SR:=fun e=>.nx e
noncomputable def dSeq(a b:List S->SR):List S->SR:=fun e=>match a e with
 |.nx e'=>b e'
 |r=>r
noncomputable def R.stm(r:R α)(k:α->List S->SR):SR:=match r with
 |.ok a e=>k a e
 |.ex c e=>.ex c e
 |.no=>.no
noncomputable def dDrop(d:Den W):List S->SR:=fun e=>(d e).stm fun _ e'=>.nx e'
noncomputable def dRet(d:Den W):List S->SR:=fun e=>(d e).stm fun w e'=>.rt (.fr w) e'
noncomputable def dRetF(d:Den (List W)):List S->SR:=fun e=>(d e).stm fun ws e'=>.rt (.own none ws) e'
noncomputable def dIfS(c:Den Bool)(a b:List S->SR):List S->SR:=fun e=>(c e).stm fun x e1=>if x=true then a e1 else b e1
noncomputable def dSet(i:Nat)(d:Den W):List S->SR:=fun e=>(d e).stm fun w e'=>.nx (e'.set i (.fr w))
noncomputable def dSetO(i:Nat)(d:Den (List W)):List S->SR:=fun e=>(d e).stm fun ws e'=>.nx (e'.set i (.own none ws))
noncomputable def forD(i:Nat)(b:List S->SR):List W->List S->SR
 |[],e=>.nx e
 |w::ws,e=>match b (e.set i (.fr w))with
  |.nx e'=>forD i b ws e'
  |.ct e'=>forD i b ws e'
  |.bk e'=>.nx e'
  |.rt s e'=>.rt s e'
  |.ex c e'=>.ex c e'
  |.no=>.no
noncomputable def seqW:W->Option (List W)
 |.tup ws=>some ws
 |.lst ws=>some ws
 |_=>none
noncomputable def dFor(i:Nat)(d:Den W)(b:List S->SR):List S->SR:=fun e=>(d e).stm fun w e1=>match seqW w with
 |some ws=>forD i b ws e1
 |none=>.no
noncomputable def rangeW(lo hi:Int):List W:=(List.range (hi-lo).toNat).map fun k=>.int (lo+(k:Nat))
noncomputable def okI(j:Int):Bool:=Nat.ble j.natAbs 4611686018427387903
theorem q81{j:Int}(h:okI j=true):-(2^62)<=j/\j<2^62:=by
 have z:j.natAbs<=4611686018427387903:=w4b h;have e:(2:Int)^62=4611686018427387904:=by decide
 rw[e];omega
theorem q3h{j:Int}(h1:-1000000000<=j)(h2:j<=1000000000):okI j=true:=Nat.ble_eq_true_of_le (by omega)
noncomputable def rng1:List W->Option (List W)
 |[.int j]=>if okI j=true then some (rangeW 0 j)else none
 |_=>none
noncomputable def rng2:List W->Option (List W)
 |[.int i,.int j]=>if okI i=true/\okI j=true then some (rangeW i j)else none
 |_=>none
noncomputable def dForR(i:Nat)(g:List W->Option (List W))(d:Den (List W))(b:List S->SR):List S->SR:=fun e=>(d e).stm fun w e1=>match g w with
 |some ws=>forD i b ws e1
 |none=>.no
section
variable{a c e tg:Expr}{rest body:List Stmt}{d:Den W}{dc:Den Bool}{s1 s2:List S->SR}
theorem PostS.trans{D:Ends}(s:Same G G1):∀{r:SR},PostS K Z EE D G r->PostS K Z EE D G1 r
 |.nx e',h=>fun G' σ' H' r q=>h G' σ' H' r (s.trans q)
 |.bk e',h=>fun G' σ' H' r q=>h G' σ' H' r (s.trans q)
 |.ct e',h=>fun G' σ' H' r q=>h G' σ' H' r (s.trans q)
 |.rt w e',h=>fun G' σ' v H' r q=>h G' σ' v H' r (s.trans q)
 |.ex c e',h=>fun G' σ' H' r q=>h G' σ' H' r (s.trans q)
 |.no,h=>h
theorem q2d{D:Ends}{r:R α}{k:α->List S->SR}(h:PostS K Z EE D G (r.stm k)):r.holds (fun a e'=>PostS K Z EE D G (k a e')) (XH K Z EE σ G):=by
 cases r with
 |ok a e=>exact h
 |ex c e=>exact fun G' H' r q=>h G' σ H' r q
 |no=>exact h
theorem q0t:DSs Z X EE [] dNx:=PSs.mono y4w fun D σ H ⟨G,e,r,h⟩=>h G σ H r (.refl _)
theorem y2m:∀D σ H,liftS K Z EE (dSeq s1 s2) D σ H->tSeq (liftS K Z EE s1) (liftS K Z EE s2) D σ H:=by
 rintro D σ H ⟨G,e,rel,h⟩;refine⟨G,e,rel,?_⟩;unfold dSeq at h;cases q:s1 e with
 |nx e'=>rw[q]at h;exact fun G' σ' H' r s=>⟨G',e',r,PostS.trans s h⟩
 |bk e'=>rw[q]at h;exact h
 |ct e'=>rw[q]at h;exact h
 |rt w e'=>rw[q]at h;exact h
 |ex c e'=>rw[q]at h;exact h
 |no=>rw[q]at h;exact h
theorem q0d(h1:DS Z X EE st s1)(h2:DSs Z X EE rest s2):DSs Z X EE (st::rest) (dSeq s1 s2):=PSs.mono (y19 h1 h2) y2m
theorem q0e(h1:DS Z X EE st s1):DSs Z X EE [st] s1:=y4x h1
theorem x7u(he:DE Z X EE e d)(hs:swapsWith e none pos.line X.env=pure false:=by rfl):DS Z X EE (.Expr e pos) (dDrop d):=by
 refine PS.mono (x13 he hs) ?_;rintro D σ H ⟨G,e,rel,h⟩;exact⟨G,e,rel,(q2d h).imp (fun w e1 h G1 v1 H1 r1 s1 p1=>h G1 σ H1 r1 s1) fun _ _ h=>h⟩
theorem q0n(he:DE Z X EE e d):DS Z X EE (.Return (some e) pos) (dRet d):=by
 refine PS.mono (x4l he) ?_;rintro D σ H ⟨G,e,rel,h⟩;exact⟨G,e,rel,(q2d h).imp (fun w e1 h G1 v1 H1 r1 s1 p1=>h G1 σ v1 H1 r1 s1 ⟨v1,rfl,p1⟩) fun _ _ h=>h⟩
theorem q3i(he:DF Z X EE e dA):DS Z X EE (.Return (some e) pos) (dRetF dA):=by
 refine PS.mono (x4l he) ?_;rintro D σ H ⟨G,e,rel,h⟩;exact⟨G,e,rel,(q2d h).imp (fun w e1 h G1 a xs H1 r1 s1 q1 q2 q3 q4 p1=>h G1 σ (.ref a) H1 r1 s1 ⟨a,xs,rfl,q1,q2,q3,p1⟩) fun _ _ h=>h⟩
theorem y2n:∀D σ H,liftS K Z EE (dIfS dc s1 s2) D σ H->tIfS (liftT K Z EE dc) (liftS K Z EE s1) (liftS K Z EE s2) D σ H:=by
 rintro D σ H ⟨G,e,rel,h⟩;refine⟨G,e,rel,(q2d h).imp (fun x e1 h G1 H1 r1 q1=>?_) fun _ _ h=>h⟩
 cases x with
 |true=>exact⟨G1,e1,r1,PostS.trans q1 h⟩
 |false=>exact⟨G1,e1,r1,PostS.trans q1 h⟩
theorem q00{p q:List Stmt}(hc:DT Z X EE c dc)(ha:DSs Z X EE p s1)(hb:DSs Z X EE q s2):DS Z X EE (.If c p q pos) (dIfS dc s1 s2):=PS.mono (z1n hc ha hb) y2n
theorem q0o(i:Nat)(hN:X.N.Nodup)(he:DE Z X EE e d)(hi:X.N[i]?=some x:=by rfl)(hx:Loc X.env.scope x:=by walk_at "3")(hs:swapsWith e (some (.Name x pos')) pos.line X.env=pure false:=by rfl)(hf:X.fn x=true\/X.env.scope.names.lookup x=some .local:=by walk_at "2"):
  DS Z X EE (.Assign [.Name x pos'] e pos) (dSet i d):=by
 refine PS.mono (x4c i hN he hi hx hs hf) ?_;rintro D σ H ⟨G,e,rel,h⟩;exact⟨G,e,rel,(q2d h).imp (fun w e1 h G1 v1 H1 r1 q1 p1=>h G1 _ H1 (r1.set p1) q1) fun _ _ h=>h⟩
theorem x94(i:Nat)(hN:X.N.Nodup)(he:DF Z X EE e dA)(hi:X.N[i]?=some x:=by rfl)(hx:Loc X.env.scope x:=by walk_at "3")(hs:swapsWith e (some (.Name x pos')) pos.line X.env=pure false:=by rfl)(hf:X.fn x=true\/X.env.scope.names.lookup x=some .local:=by walk_at "2"):
  DS Z X EE (.Assign [.Name x pos'] e pos) (dSetO i dA):=by
 refine PS.mono (x4c i hN he hi hx hs hf) ?_;rintro D σ H ⟨G,e,rel,h⟩;exact⟨G,e,rel,(q2d h).imp (fun w e1 h G1 a xs H1 r1 s1 q1 q2 q3 q4 p1=>h G1 _ H1 (r1.setOwn q1 q2 q3 q4 p1) s1) fun _ _ h=>h⟩
theorem y2o{D:Ends}{x:V}{N:St->Hp->Prop}(r1:Rel K Z G1 σ H e1)(q1:Same G G1)(p:Rep K G1 w x)(h:PostS K Z EE D G (forD i s1 (w::ws) e1))
  (hN:∀G' σ' H' e',Rel K Z G' σ' H' e'->Same G G'->PostS K Z EE D G (forD i s1 ws e')->N σ' H'):gName i x σ H fun σ2 H2=>liftS K Z EE s1 {D with nx:=N,ct:=N,bk:=D.nx} σ2 H2:=by
 refine⟨G1,e1.set i (.fr w),r1.set p,?_⟩;unfold forD at h;cases q:s1 (e1.set i (.fr w))with
 |nx e'=>rw[q]at h;exact fun G' σ' H' r s=>hN G' σ' H' e' r (q1.trans s) h
 |ct e'=>rw[q]at h;exact fun G' σ' H' r s=>hN G' σ' H' e' r (q1.trans s) h
 |bk e'=>rw[q]at h;exact fun G' σ' H' r s=>h G' σ' H' r (q1.trans s)
 |rt w e'=>rw[q]at h;exact fun G' σ' v H' r s=>h G' σ' v H' r (q1.trans s)
 |ex c e'=>rw[q]at h;exact fun G' σ' H' r s=>h G' σ' H' r (q1.trans s)
 |no=>rw[q]at h;exact h
def iSeq(K:PySem.W.Frag)(tl:TE):TI:=fun σ H R=>tl σ H fun x H1=>∃a,x=.ref a/\(((∃xs,SqL K H1 a xs)/\R (Itl K a) H1)\/((∃xs,SqT K H1 a xs)/\R (Itt K a) H1))
theorem x4x{l:Expr}{tl:TE}(hl:PE X l tl):PI X tg l (iSeq X.K tl):=by
 intro pins s σ H R I h;refine thn (hl pins s σ H _ I h) fun v s1 ⟨x,H1,I1,r1,q1⟩=>?_
 obtain⟨a,e,q⟩:=q1;subst e;cases r1;rcases q with⟨⟨xs,hq⟩,q⟩|⟨⟨xs,hq⟩,q⟩
 ·obtain⟨its,rv,p,hz⟩:=I1.list hq;refine wpAny_pyIter_list p.isList ?_;refine⟨s1.heap.objs.size,[s1.heap.objs.size],_,_,H1,rfl,I1.kept (t':=s1.toks) fun b o e=>Heap.get?_push_of_some _ e,x9m a _,⟨_,Heap.get?_push_size _ rfl,rfl,rfl⟩,fun b hb=>?_,q⟩
  have e:b=s1.heap.objs.size:=by simpa using hb
  subst e;exact I1.fpOk (w0e _) (I1.hok.fresh (w0e _))
 ·obtain⟨its,rv,p,hz⟩:=I1.tuple hq;refine wpAny_pyIter_tuple (show s1.heap.IsTuple a its.toArray from p) ?_;refine⟨s1.heap.objs.size,[s1.heap.objs.size],_,_,H1,rfl,I1.kept (t':=s1.toks) fun b o e=>Heap.get?_push_of_some _ e,x8j a _,⟨_,Heap.get?_push_size _ rfl,rfl,rfl⟩,fun b hb=>?_,q⟩
  have e:b=s1.heap.objs.size:=by simpa using hb
  subst e;exact I1.fpOk (w0e _) (I1.hok.fresh (w0e _))
theorem x29{ws:List α}{k:Nat}{w:α}(h:ws[k]?=some w):ws.drop k=w::ws.drop (k+1):=by
 obtain⟨hk,rfl⟩:=w0c.mp h;exact w3p hk
theorem x7v{i:Nat}{D:Ends}(r1:Rel K Z G1 σ H1 e1)(rp:Reps K G1 ws xs)(h:PostS K Z EE D G1 (forD i s1 ws e1))(SQ:Hp->Prop)(hSQ:∀G' H',Same G1 G'->Same G' H'->SQ H'):
  ∃Pv:Nat->St->Hp->Prop,Pv 0 σ H1/\(∀j σ H,j<=xs.length->Pv j σ H->SQ H)/\(∀(j:Nat) x σ H,xs[j]?=some x->Pv j σ H->gName i x σ H fun σ2 H2=>liftS K Z EE s1 {D with nx:=Pv (j+1),ct:=Pv (j+1),bk:=D.nx} σ2 H2)/\∀σ H,Pv xs.length σ H->D.nx σ H:=by
 refine⟨fun j σ' H'=>∃G' e',Rel K Z G' σ' H' e'/\Same G1 G'/\PostS K Z EE D G1 (forD i s1 (ws.drop j) e'),⟨G1,e1,r1,.refl _,h⟩,?_,?_,?_⟩
 ·rintro j σ' H' _ ⟨G',e',r',s',_⟩;exact hSQ G' H' s' r'.sub
 ·rintro j x σ' H' hx ⟨G',e',r',s',h⟩;obtain⟨w,hw,pw⟩:=rp.getV hx;rw[x29 hw]at h;exact y2o r' s' (Rep.mono s' w pw) h fun G'' σ'' H'' e'' r'' s'' h''=>⟨G'',e'',r'',s'',h''⟩
 ·rintro σ' H' ⟨G',e',r',s',h⟩;rw[rp.length,w3w]at h;exact h G' σ' H' r' s'
theorem x95(i:Nat)(hN:X.N.Nodup)(hp:PassesOwn (model X.prog X.w) X.A X.env X.xe)(hc:X.calm=true)(hl:DE Z X EE e d)(hb:DSs Z X EE body s1)
  (hi:X.N[i]?=some x:=by rfl)(hx:Loc X.env.scope x:=by walk_at "3")(hf:X.fn x=true\/X.env.scope.names.lookup x=some .local:=by walk_at "2")(hs:∀x,foldedSetIterable e X.env x=pure x:=by intro _;rfl):
  DS Z X EE (.For (.Name x pos') e body [] pos) (dFor i d s1):=by
 refine PS.mono (x9o hp hc (x4x hl) (q1n i hN hi hx hf) hb hs) ?_;rintro D σ H ⟨G,e,rel,h⟩;refine⟨G,e,rel,(q2d h).imp (fun w e1 h G1 v1 H1 r1 q1 p1=>?_) fun _ _ h=>h⟩
 have key:=fun ws xs (rp:Reps X.K G1 ws xs) (h:PostS X.K Z EE D G (forD i s1 ws e1))=>x7v (i:=i) (D:=D) r1 rp (PostS.trans q1 h)
 cases w with
 |tup ws=>
  obtain⟨a,xs,rfl,hq,rp⟩:=p1;refine⟨a,rfl,.inr ⟨⟨xs,r1.sub.tup hq⟩,?_⟩⟩;obtain⟨Pv,h0,h1,h2,h3⟩:=key ws xs rp h (fun H'=>SqT X.K H' a xs) (fun G' H' s s'=>Same.tup s' (Same.tup s hq))
  exact y40 Pv h0 h1 h2 h3
 |lst ws=>
  obtain⟨a,xs,rfl,hq,rp⟩:=p1;refine⟨a,rfl,.inl ⟨⟨xs,r1.sub.seq hq⟩,?_⟩⟩;obtain⟨Pv,h0,h1,h2,h3⟩:=key ws xs rp h (fun H'=>SqL X.K H' a xs) (fun G' H' s s'=>Same.seq s' (Same.seq s hq))
  exact y2b Pv h0 h1 h2 h3
 |_=>exact h.elim
theorem x04{lo hi:Int}:Reps K G (rangeW lo hi) ((List.range (hi-lo).toNat).map fun k=>V.int (lo+(k:Nat))):=by
 unfold rangeW;generalize List.range (hi-lo).toNat=l
 induction l with
 |nil=>rfl
 |cons k l ih=>exact⟨_,_,rfl,rfl,ih⟩
theorem y5g{i:Nat}{D:Ends}{lo hi:Int}(r1:Rel K Z G1 σ H1 e1)(h:PostS K Z EE D G1 (forD i s1 (rangeW lo hi) e1)):
  ∃W:Nat->Nat->St->Hp->Prop,(∃m,W 0 m σ H1)/\∀j m σ H,W j m σ H ->
   ((Itr lo (hi-lo).toNat).stop j H/\D.nx σ H)\/((Itr lo (hi-lo).toNat).go j H/\∃N:St->Hp->Prop,(∀σ' H',N σ' H'->∃m',m'<m/\W (j+1) m' σ' H')/\∀x H',(Itr lo (hi-lo).toNat).yld j H x H'->gName i x σ H' fun σ2 H2=>liftS K Z EE s1 {D with nx:=N,ct:=N,bk:=D.nx} σ2 H2):=by
 obtain⟨Pv,h0,h1,h2,h3⟩:=x7v (i:=i) (D:=D) r1 (x04 (lo:=lo) (hi:=hi)) h (fun _=>True) (fun _ _ _ _=>trivial)
 refine x9p Pv h0 (fun j σ' H' hj p=>h2 j _ σ' H' ?_ p) (fun σ' H' p=>h3 σ' H' (by simpa using p))
 simp[hj]
theorem q5i(i:Nat){p1 p2:Pos}(hN:X.N.Nodup)(hp:PassesOwn (model X.prog X.w) X.A X.env X.xe)(hc:X.calm=true)(hm:X.mg "range"=none)(ha:DA Z X EE [a] dA)(hb:DSs Z X EE body s1)
  (hi:X.N[i]?=some x:=by rfl)(hx:Loc X.env.scope x:=by walk_at "3")(hf:X.fn x=true\/X.env.scope.names.lookup x=some .local:=by walk_at "2")(hg:Gl X "range":=by rfl)(hs1:starEach [a] X.env=[(false,eval a X.env)]:=by rfl)(hs:∀x,foldedSetIterable (.Call (.Name "range" p1) [a] [] p2) X.env x=pure x:=by intro _;rfl):
  DS Z X EE (.For (.Name x p) (.Call (.Name "range" p1) [a] [] p2) body [] pos) (dForR i rng1 dA s1):=by
 refine PS.mono (x9o hp hc (q8t hg hm ha hs1) (q1n i hN hi hx hf) hb hs) ?_;rintro D σ H ⟨G,e,rel,h⟩;refine⟨G,e,rel,(q2d h).imp (fun ws e1 h G1 vs H1 r1 q1 p1=>?_) fun _ _ h=>h⟩
 unfold rng1 at h;split at h
 ·rename_i hh;split at hh
  ·rename_i j;split at hh
   ·rename_i hj;cases hh;obtain⟨y,r,rfl,e1,e2⟩:=p1;cases(show y=V.int j from e1);cases(show r=[]from e2);refine⟨j,rfl,(q81 hj).1,(q81 hj).2,?_⟩;have z:=y5g (i:=i) (D:=D) r1 (PostS.trans q1 h)
    rwa [w4p]at z
   ·cases hh
  ·cases hh
 ·exact h.elim
end
open PyProof.Rows (envOfC)
inductive FR where
 |ok (s:S)|ex (c:Value)|no
noncomputable def spF(K:PySem.W.Frag)(F:List W->FR):Sp:=fun vs H Q E=>∃G ws,Same G H/\Reps K G ws vs/\match F ws with
 |.ok s=>∀G' H' v,Grow G H G' H'->SlotOk K ⟨H,G,[]⟩ G' H' s (some v)->Q v H'
 |.ex c=>∀H',Same H H'->E c none H'
 |.no=>False
noncomputable def SR.fn:SR->FR
 |.nx _=>.ok (.fr .non)
 |.rt s _=>.ok s
 |.ex c _=>.ex c
 |_=>.no
noncomputable def init(n:Nat)(ws:List W):List S:=ws.map .fr++List.replicate (n-ws.length) .no
theorem x4y{N:List Str}(s:Same G H)(r:Reps K G ws vs):Rel K ⟨H,G,[]⟩ G (L2.start N vs) H (init N.length ws):=by
 have hl:=r.length
 have hfr:∀(i:Nat)(s:S),(init N.length ws)[i]?=some s->(s=.no)\/∃w,s=.fr w/\ws[i]?=some w:=fun i s h=>by
  unfold init at h;rw[List.getElem?_append]at h;split at h
  ·rw[w0v]at h;obtain⟨w,h1,rfl⟩:=w0n.mp h;exact .inr ⟨w,rfl,h1⟩
  ·rw[w1r]at h;split at h
   ·cases h;exact .inl rfl
   ·cases h
 refine⟨s,fun i t h=>?_,?_,fun i j b b' w1 w2 a h1 h2 _ _=>?_,fun a o h _=>h,(fun a h=>nomatch h),fun a _=>rfl⟩
 ·rcases hfr i t h with rfl|⟨w,rfl,h1⟩
  ·trivial
  ·obtain⟨v,h2,h3⟩:=r.get h1;refine⟨v,?_,h3⟩;have hi:i<vs.length:=(w0c.mp h2).1;unfold L2.start;rw[w2n (by simpa using hi),w0v,h2];rfl
 ·unfold init L2.start;simp[hl]
 ·rcases hfr i _ h1 with z|⟨w,z,_⟩<;>cases z
theorem Rel.toGrow(r:Rel K ⟨H,G,[]⟩ G' σ H' e)(s:Same G G'):Grow G H G' H':=
 ⟨fun a o h=>r.ent a o h (by simp),s,r.sub,fun a h=>r.gen a h⟩
section
variable{P:Program}{w:World}{mg:Str->Option Value}{base:Heap}
theorem x4z{F:List W->FR}{Q:VK}{E:XK}(h:spF K F vs H Q E):∃G ws,F ws≠.no/\Reps K G ws vs:=by
 obtain⟨G,ws,_,r,h⟩:=h;refine⟨G,ws,fun z=>?_,r⟩
 rw[z]at h;exact h
theorem x7w{F:List W->FR}{Q:VK}{E:XK}{r:SR}(he:r.fn=F ws)(h:match F ws with
  |.ok s=>∀G' H' v,Grow G H G' H'->SlotOk K ⟨H,G,[]⟩ G' H' s (some v)->Q v H'
  |.ex c=>∀H',Same H H'->E c none H'
  |.no=>False):PostS K ⟨H,G,[]⟩ (fun _=>E) {nx:=fun _ H'=>Q .non H',rt:=Q} G r:=by
 rw[<- he]at h;cases r with
 |nx e=>exact fun G' σ' H' r s=>h G' H' .non (r.toGrow s) ⟨.non,rfl,rfl⟩
 |rt s e=>exact fun G' σ' v H' r q p=>h G' H' v (r.toGrow q) p
 |ex c e=>exact fun G' σ' H' r s=>h H' (r.toGrow s).hh
 |bk e=>exact h.elim
 |ct e=>exact h.elim
 |no=>exact h.elim
theorem con{N ps:List Str}{k:Nat}{F:List W->FR}(A:At K mg x st ps)(sc:FnScope N ps (defScope st))(len:∀ws,F ws≠.no->ws.length=ps.length)
  (hb:∀ws,F ws≠.no->∀(f:Addr)(cdv:Value)(A:Around)(outer:List Env)(s:Shared)(H:Hp)(E:XK)(Z:Zt),Room k (A.deeper (envOfC x (defScope st) s.heap.objs.size f cdv)) ->
   ∃d,DSs Z (cxOf (CX1 P w) P w K mg base N x (defScope st) f cdv A outer s H E) (fun _=>E) (defBody st) d/\(d (init N.length ws)).fn=F ws):Cal P w K mg base (k+1) x ps (spF K F):=by
 refine A.cal sc (fun vs H Q E h=>?_) (fun f cdv A outer s H vs Q E hr h=>?_)
 ·obtain⟨G,ws,hn,r⟩:=x4z h;rw[r.length];exact len ws hn
 ·have hn0:=h;obtain⟨G,ws,sg,rp,h⟩:=h;have hn:F ws≠.no:=fun z=>by rw[z]at h;exact h
  obtain⟨d,hd,he⟩:=hb ws hn f cdv A outer s H E ⟨H,G,[]⟩ hr;exact⟨_,hd,G,init N.length ws,x4y sg rp,x7w he h⟩
end
noncomputable def dCall(F:List W->FR)(dA:Den (List W)):Den W:=fun e=>(dA e).bind fun ws e1=>match F ws with
 |.ok (.fr w)=>.ok w e1
 |.ok (.own none ws')=>.ok (.lst ws') e1
 |.ok (.dic kvs)=>.ok (.dic kvs) e1
 |.ok (.thr us ws vs)=>.ok (.tup (us++.lst ws::vs)) e1
 |.ok (.x (.new w))=>.ok w e1
 |.ok (.x (.tn us wss))=>.ok (.tup (us++[.lst (wss.map .lst)])) e1
 |.ex c=>.ex c e1
 |_=>.no
section
variable{e:Expr}{k:Nat}{ps:List Str}{F:List W->FR}
theorem x40{s:S}(r1:Rel K Z G1 σ H1 e1)(g:Grow G1 H1 G' H')(q:SlotOk K ⟨H1,G1,[]⟩ G' H' s (some v))(hs:s=.fr w\/∃ws,s=.own none ws/\w=.lst ws):
  ∃G'',Rel K Z G'' σ H' e1/\Same G1 G''/\Rep K G'' w v:=by
 rcases hs with rfl|⟨ws,rfl,rfl⟩
 ·obtain⟨u,h1,h2⟩:=q;cases h1;exact⟨G',r1.grow g,g.gg,h2⟩
 ·obtain⟨a,xs,h1,h2,h3,h4,h5⟩:=q;cases h1;have hn:H1 a=none:=h4;obtain⟨sg,rg⟩:=(r1.grow g).seen h2 h3 (q6l r1 hn) (q7s r1 hn);exact⟨_,rg,g.gg.trans sg,⟨a,xs,rfl,SqL.of q0m,Reps.mono sg ws h5⟩⟩
theorem x96{kvs:Dd}(r1:Rel K Z G1 σ H1 e1)(g:Grow G1 H1 G' H')(q:SlotOk K ⟨H1,G1,[]⟩ G' H' (.dic kvs) (some v)):
  ∃G'',Rel K Z G'' σ H' e1/\Same G1 G''/\Rep K G'' (.dic kvs) v:=by
 obtain⟨a,h1,h2,h3,h4⟩:=q;cases h1;have hn:H1 a=none:=h4;have r:=r1.grow g;have sg:Same G' (upd G' a (dO kvs)):=q34 h3 _;refine⟨upd G' a (dO kvs),⟨fun c o z=>?_,fun j s z=>?_,r.len,r.dis,r.ent,r.ion,fun c z=>?_⟩,g.gg.trans sg,⟨a,rfl,q0m⟩⟩
 ·by_cases hc:c=a
  ·subst hc;rw[q0m]at z;cases z;exact h2
  ·rw[q0f hc]at z;exact r.sub c o z
 ·have y:=r.slot j s z;have y1:=r1.slot j s z;cases s with
  |no=>trivial
  |fr w=>
   obtain⟨u,y1,y2⟩:=y;exact⟨u,y1,Rep.mono sg w y2⟩
  |own b2 w2=>
   obtain⟨c,ys,x1,x2,x3,x4,x5⟩:=y;refine⟨c,ys,x1,x2,?_,x4,Reps.mono sg w2 x5⟩;rw[q0f (q09 x2 h2 (fun z=>q6b rfl z.symm))];exact x3
  |dic kv=>
   obtain⟨c,x1,x2,x3,x4⟩:=y;obtain⟨c',w1,w2,_⟩:=y1;rw[x1]at w1;cases w1;refine⟨c,x1,x2,?_,x4⟩;rw[q0f (q0s w2 hn)];exact x3
  |thr us w2 vs=>
   obtain⟨t,l,o,xs2,ys,zs,x1,x2,x3,x4,x5,x6,x7,x8⟩:=y;refine⟨t,l,o,xs2,ys,zs,x1,sg _ _ x2,x3,?_,x5,Reps.mono sg us x6,Reps.mono sg w2 x7,Reps.mono sg vs x8⟩;rw[q0f (q09 x3 h2 (fun z=>q6b rfl z.symm))];exact x4
  |nest wss=>exact NestOk.move y sg fun l o ys k1 k2 k3=>⟨k1,by rw[q0f (q09 k1 h2 (fun z=>q6b rfl z.symm))];exact k2,k3⟩
  |x k=>exact XOk.move y sg fun l o ys k1 k2 k3=>⟨k1,by rw[q0f (q09 k1 h2 (fun z=>q6b rfl z.symm))];exact k2,k3⟩
  |dw sh ks ws=>
   obtain⟨c,kv,ka,x1,x2,x3,x4,x5,x6,x7⟩:=y;obtain⟨c',kv',ka',w1,w2,_⟩:=y1;rw[x1]at w1;cases w1;refine⟨c,kv,ka,x1,x2,?_,x4,x5,x6.mono sg,Reps.mono sg ws x7⟩;rw[q0f (q0s w2 hn)];exact x3
 ·by_cases hc:c=a
  ·subst hc;exact absurd (q6l r1 hn) z
  ·rw[q0f hc];exact r.gen c z
theorem x97{us vs:List W}(r1:Rel K Z G1 σ H1 e1)(g:Grow G1 H1 G' H')(q:SlotOk K ⟨H1,G1,[]⟩ G' H' (.thr us ws vs) (some v)):
  ∃G'',Rel K Z G'' σ H' e1/\Same G1 G''/\Rep K G'' (.tup (us++.lst ws::vs)) v:=by
 obtain⟨t,l,o,xs,ys,zs,h1,h2,h3,h4,h5,h6,h7,h8⟩:=q;cases h1;have hn:H1 l=none:=h5;have r:=r1.grow g;have sg:Same G' (upd G' l (.frz o (.lst ys))):=q34 h4 _;refine⟨upd G' l (.frz o (.lst ys)),⟨fun c u z=>?_,fun j s z=>?_,r.len,r.dis,r.ent,r.ion,fun c z=>?_⟩,g.gg.trans sg,⟨t,_,rfl,SqT.of (sg _ _ h2),(Reps.mono sg us h6).append ⟨.ref l,zs,rfl,⟨l,ys,rfl,.inl (.inr ⟨o,q0m⟩),Reps.mono sg ws h7⟩,Reps.mono sg vs h8⟩⟩⟩
 ·by_cases hc:c=l
  ·subst hc;rw[q0m]at z;cases z;exact h3
  ·rw[q0f hc]at z;exact r.sub c u z
 ·have y:=r.slot j s z;have y1:=r1.slot j s z;cases s with
  |no=>trivial
  |fr w=>
   obtain⟨u,y1,y2⟩:=y;exact⟨u,y1,Rep.mono sg w y2⟩
  |own b2 w2=>
   obtain⟨c,ys,x1,x2,x3,x4,x5⟩:=y;refine⟨c,ys,x1,x2,?_,x4,Reps.mono sg w2 x5⟩;rw[q0f (q09 x2 h3 (fun z=>nomatch z))];exact x3
  |dic kv=>
   obtain⟨c,x1,x2,x3,x4⟩:=y;refine⟨c,x1,x2,?_,x4⟩;rw[q0f (q09 x2 h3 (q6b rfl))];exact x3
  |thr us w2 vs=>
   obtain⟨t1,l1,o1,xs1,ys1,zs1,w1,w2',w3,w4,w5,w6,w7,w8⟩:=y1;have sg2:=g.gg.trans sg;refine⟨t1,l1,o1,xs1,ys1,zs1,w1,sg2 _ _ w2',g.hh _ _ w3,?_,w5,Reps.mono sg2 us w6,Reps.mono sg2 w2 w7,Reps.mono sg2 vs w8⟩;rw[q0f (q0s w3 hn),g.new l1 (by rw[w3];simp)];exact w4
  |nest wss=>exact NestOk.move y1 (g.gg.trans sg) fun l1 o ys k1 k2 k3=>⟨g.hh _ _ k1,by rw[q0f (q0s k1 hn),g.new l1 (by rw[k1];simp)];exact k2,k3⟩
  |x k=>exact XOk.move y1 (g.gg.trans sg) fun l1 o ys k1 k2 k3=>⟨g.hh _ _ k1,by rw[q0f (q0s k1 hn),g.new l1 (by rw[k1];simp)];exact k2,k3⟩
  |dw sh ks ws=>exact DwOk.move y1 (g.gg.trans sg) fun l1 o ys k1 k2 k3=>⟨g.hh _ _ k1,by rw[q0f (q0s k1 hn),g.new l1 (by rw[k1];simp)];exact k2,k3⟩
 ·by_cases hc:c=l
  ·subst hc;exact absurd (q6l r1 hn) z
  ·rw[q0f hc];exact r.gen c z
theorem NestIn.mem0:∀{ls:List Addr}{wss:List (List W)},NestIn K Z G H ls wss->∀l∈ls,∃o ys,FzAt Z G H l o ys
 |[],_,_,_,hl=>nomatch hl
 |l::ls,ws::wss,⟨⟨o,ys,h1,_⟩,h⟩,c,hc=>by
  rcases w0h.mp hc with rfl|hc
  ·exact⟨o,ys,h1⟩
  ·exact h.mem0 c hc
 |_::_,[],h,_,_=>h.elim
theorem NestIn.reps0(sg:Same G G'):∀{ls:List Addr}{wss:List (List W)},(∀l∈ls,G' l=H l)->NestIn K Z G H ls wss->Reps K G' (wss.map W.lst) (ls.map V.ref)
 |[],[],_,_=>rfl
 |l::ls,ws::wss,hf,⟨⟨o,ys,h1,h4⟩,h⟩=>⟨.ref l,ls.map V.ref,rfl,⟨l,ys,rfl,.inl (.inr ⟨o,by rw[hf l (by simp)];exact h1.1⟩),Reps.mono sg ws h4⟩,h.reps0 sg fun c hc=>hf c (by simp[hc])⟩
 |[],_::_,_,h=>h.elim
 |_::_,[],_,h=>h.elim
theorem Rel.addNew(r1:Rel K Z G1 σ H1 e1)(g:Grow G1 H1 G' H')(As:List Addr) [DecidablePred (·∈As)](hA:∀c∈As,(∃o ys,H' c=some (.frz o (.lst ys)))/\G' c=none/\H1 c=none):
  Same G' (fun c=>if c∈As then H' c else G' c)/\Rel K Z (fun c=>if c∈As then H' c else G' c) σ H' e1:=by
 have sg:Same G' (fun c=>if c∈As then H' c else G' c):=fun c o z=>by
  show(if c∈As then H' c else G' c)=some o;rw[if_neg (fun m=>by rw[(hA c m).2.1]at z;cases z)];exact z
 refine⟨sg,r1.grow ⟨g.hh,g.gg.trans sg,fun c o z=>?_,fun c hc=>?_⟩⟩
 ·have z:(if c∈As then H' c else G' c)=some o:=z;split at z
  ·exact z
  ·exact g.sub c o z
 ·show(if c∈As then H' c else G' c)=G1 c;rw[if_neg (fun m=>hc (hA c m).2.2)];exact g.new c hc
theorem y2p{us:List W}{wss:List (List W)}(r1:Rel K Z G1 σ H1 e1)(g:Grow G1 H1 G' H')(q:SlotOk K ⟨H1,G1,[]⟩ G' H' (.x (.tn us wss)) (some v)):
  ∃G'',Rel K Z G'' σ H' e1/\Same G1 G''/\Rep K G'' (.tup (us++[.lst (wss.map .lst)])) v:=by
 classical
 obtain⟨t,l,o,ls,xs,h1,h2,⟨h3,h4,h5⟩,⟨h6,h7⟩,h8,h9⟩:=q;cases h1
 obtain⟨sg,r2⟩:=r1.addNew g (l::ls) fun c hc=>by
  rcases w0h.mp hc with rfl|hc
  ·exact⟨⟨o,_,h3⟩,h4,h5⟩
  ·obtain⟨o',ys,k1,k2,k3⟩:=h9.mem0 c hc;exact⟨⟨o',ys,k1⟩,k2,k3⟩
 refine⟨_,r2,g.gg.trans sg,t,_,rfl,SqT.of (sg _ _ h2),(Reps.mono sg us h8).append ⟨.ref l,[],rfl,⟨l,_,rfl,.inl (.inr ⟨o,?_⟩),h9.reps0 sg fun c hc=>if_pos (w0z _ hc)⟩,rfl⟩⟩
 show(if l∈l::ls then H' l else G' l)=_;rw[if_pos (w1h ..)];exact h3
theorem z1x{c:Value}(r1:Rel K Z G1 σ H1 e1)(s1:Same G G1)(h:XH K Z EE σ G c e1):∀H',Same H1 H'->EE σ c none H':=fun H' sh=>
 h G1 H' (r1.grow ⟨sh,.refl _,r1.sub.trans sh,fun _ _=>rfl⟩) s1
theorem q0l(C:Cal X.prog X.w X.K X.mg X.base k x ps (spF X.K F))(hr:Room k X.A)(hx:PassX (CX1 X.prog X.w) X EE)(ha:DA Z X EE (e::es) dA)(hg:Gl X x:=by rfl)
  (hdb:(x==("__debug__":Str))=false:=by decide)(he:starEach (e::es) X.env=(false,eval e X.env)::starEach es X.env:=by rfl)(hpl:(backTo pos (starEach es X.env)).any (·.1)=false:=by rfl):
  DE Z X EE (.Call (.Name x p) (e::es) [] pos) (dCall F dA):=by
 refine PE.mono (x90 C hr hx ha hg hdb he hpl) ?_;rintro σ H Q ⟨G,e,rel,h⟩;simp only[dCall,R.holds_bind]at h;refine⟨G,e,rel,h.imp (fun ws e1 h G1 vs H1 r1 s1 p1=>?_) fun _ _ h=>h⟩
 refine⟨G1,ws,r1.sub,by rw[w2q];exact p1,?_⟩;cases q:F ws with
 |ok s=>
  rw[q]at h;intro G' H' v g sl;cases s with
  |no=>exact h.elim
  |fr w=>
   obtain⟨G'',r2,s2,p2⟩:=x40 r1 g sl (.inl rfl);exact(show ∀G' v H',_->_->Rep X.K G' w v->Q v H' from h) G'' v H' r2 (s1.trans s2) p2
  |own b ws'=>
   cases b with
   |some _=>exact h.elim
   |none=>
    obtain⟨G'',r2,s2,p2⟩:=x40 r1 g sl (.inr ⟨ws',rfl,rfl⟩);exact(show ∀G' v H',_->_->Rep X.K G' (.lst ws') v->Q v H' from h) G'' v H' r2 (s1.trans s2) p2
  |dic kvs=>
   obtain⟨G'',r2,s2,p2⟩:=x96 r1 g sl;exact(show ∀G' v H',_->_->Rep X.K G' (.dic kvs) v->Q v H' from h) G'' v H' r2 (s1.trans s2) p2
  |thr us ws' vs'=>
   obtain⟨G'',r2,s2,p2⟩:=x97 r1 g sl;exact(show ∀G' v H',_->_->Rep X.K G' (.tup (us++.lst ws'::vs')) v->Q v H' from h) G'' v H' r2 (s1.trans s2) p2
  |nest _=>exact h.elim
  |x k=>
   cases k with
   |new w=>
    obtain⟨u,h1,h2⟩:=sl;cases h1;exact(show ∀G' v H',_->_->Rep X.K G' w v->Q v H' from h) G' _ H' (r1.grow g) (s1.trans g.gg) (RepN.rep _ h2)
   |tn us wss=>
    obtain⟨G'',r2,s2,p2⟩:=y2p r1 g sl;exact(show ∀G' v H',_->_->Rep X.K G' (.tup (us++[.lst (wss.map .lst)])) v->Q v H' from h) G'' v H' r2 (s1.trans s2) p2
   |_=>exact h.elim
  |dw _ _ _=>exact h.elim
 |ex c=>
  rw[q]at h;exact z1x r1 s1 h
 |no=>rw[q]at h;exact h.elim
noncomputable def dRaise(C:Addr)(d:Den (List W)):List S->SR:=fun e=>(d e).stm fun ws e1=>if ws.length<=16777216 then .ex (.ref C) e1 else .no
theorem x0g{C Ac:Addr}{np cpos:Pos}(hx:RaisX X EE)(hC:excIn X.K C Ac=true)(hm:X.mg x=some (.ref C))(hc:X.calm=true)(ha:DA Z X EE (e::es) dA)(hg:Gl X x:=by rfl)
  (hdb:(x==("__debug__":Str))=false:=by decide)(he:starEach (e::es) X.env=(false,eval e X.env)::starEach es X.env:=by rfl)(hpl:(backTo cpos (starEach es X.env)).any (·.1)=false:=by rfl):
  DS Z X EE (.Raise (some (.Call (.Name x np) (e::es) [] cpos)) none pos) (dRaise C dA):=by
 refine PS.mono (y2g hx hc hg hm hC ha hdb he hpl) ?_;rintro D σ H ⟨G,e,rel,h⟩;refine⟨G,e,rel,(q2d h).imp (fun ws e1 h G1 vs H1 r1 s1 p1=>?_) fun _ _ h=>h⟩
 split at h
 ·rename_i hl;exact⟨by rw[p1.length,sizeLine_eq];exact hl,h G1 σ H1 r1 s1⟩
 ·exact h.elim
noncomputable def dTry(K:PySem.W.Frag)(c:Addr)(i n:Nat)(b h:List S->SR):List S->SR:=fun e=>match b e with
 |.ex cls e'=>if exmOne K cls (.ref c)=some true then(match h (e'.set i (.fr (.exc cls)))with
  |.nx _=>.nx (List.replicate n .no)
  |.bk _=>.bk (List.replicate n .no)
  |.ct _=>.ct (List.replicate n .no)
  |.rt s e''=>.rt s e''
  |_=>.no)else .no
 |r=>r
theorem Rel.blank{e:List S}(r:Rel K Z G σ H e)(n:Nat):Rel K Z G (List.replicate n none) H (List.replicate n .no):=by
 have hno:∀(i:Nat)(s:S),(List.replicate n S.no)[i]?=some s->s=.no:=fun i s h=>by
  rw[w1r]at h;split at h
  ·cases h;rfl
  ·cases h
 refine⟨r.sub,fun i s h=>?_,by simp,fun i j b b' w1 w2 a h1 h2 _ _=>?_,r.ent,r.ion,r.gen⟩
 ·rw[hno i s h];trivial
 ·cases hno _ _ h1
theorem y8u{body suite:List Stmt}{b₀:Stmt}{c n:Str}{Cc:Addr}{np hpos:Pos}{dB dH:List S->SR}
  (hm:X.mg c=some (.ref Cc))(hN:X.N.Nodup)(hi:X.N[i]?=some n)(hx:X.env.scope.names.lookup n=some .local)
  (hb:∀(EE:L2.St->XK)(pn:List (Addr×Obj))(xe:Value->Shared->Prop),PassX (CX1 X.prog X.w) (X.tr pn xe) EE->DSs Z (X.tr pn xe) EE body dB)
  (hh:∀e:Addr,DSs Z (X.hn e) (fun _=>E0) (b₀::suite) dH)(hg:Gl X c:=by rfl)
  (hs:X.stack=X.env::X.outer:=by rfl)(hf:X.env.frame=some X.env.locals:=by rfl)(hdb:(c==("__debug__":Str))=false:=by decide):
  DS Z X EE (.Try body [.ExceptHandler (some (.Name c np)) (some n) (b₀::suite) hpos] [] [] pos) (dTry X.K Cc i X.N.length dB dH):=by
 refine PS.mono (y8q (tb:=fun EE=>liftS X.K Z EE dB) (th:=liftS X.K Z (fun _=>E0) dH) hg hm hN hi hx hb hh hs hf hdb) ?_
 rintro D σ H ⟨G,e,rel,h⟩;refine⟨G,e,rel,?_⟩;unfold dTry at h;cases q:dB e with
 |nx e'=>rw[q]at h;exact h
 |bk e'=>rw[q]at h;exact h
 |ct e'=>rw[q]at h;exact h
 |rt w e'=>rw[q]at h;exact h
 |no=>rw[q]at h;exact h
 |ex cls e'=>
  rw[q]at h;intro G1 σ1 H1 r1 s1;dsimp only at h;split at h
  ·rename_i hq;refine⟨hq,fun ex hex=>?_⟩
   have g:=Grow.laid r1.sub hex (excO ex cls);refine⟨_,e'.set i (.fr (.exc cls)),(r1.grow g).set (v:=.ref ex) ⟨ex,rfl,q0m⟩,?_⟩;have sg:=s1.trans g.gg;cases q2:dH (e'.set i (.fr (.exc cls)))with
   |nx e2=>rw[q2]at h;exact fun G2 σ2 H2 r2 s2=>h G2 _ H2 (r2.blank _) (sg.trans s2)
   |bk e2=>rw[q2]at h;exact fun G2 σ2 H2 r2 s2=>h G2 _ H2 (r2.blank _) (sg.trans s2)
   |ct e2=>rw[q2]at h;exact fun G2 σ2 H2 r2 s2=>h G2 _ H2 (r2.blank _) (sg.trans s2)
   |rt w e2=>rw[q2]at h;exact fun G2 σ2 v H2 r2 s2 p2=>h G2 σ2 v H2 r2 (sg.trans s2) p2
   |ex c2 e2=>rw[q2]at h;exact h.elim
   |no=>rw[q2]at h;exact h.elim
  ·exact h.elim
end
end D
namespace L2
open PySem PySem.Spec PyProof.Rows
section
variable{X:Cx}{elt target iter:Expr}{ifs:List Expr}{scope:Scope}{pos:Pos}{wi:TI}{g:TG}{tc:TT}{te:TE}
theorem y2q{Nl Nf:List Str}{js:List Nat}{y:Str}{py spos:Pos}{gy:TG}(hc:X.calm=true)(hi:PI X target iter wi)
  (hk:scope.kind=.function)(hcell:∀y∈scope.names,y.2≠.cell)(hnames:∀x∈scope.names,x.2=.local->scope.names.lookup x.1=some .local)
  (hfree:∀x∈scope.names,x.2=.free->X.env.kindOf x.1=some .cell\/X.env.kindOf x.1=some .free)
  (hj:∀(i j:Nat) y,Nf[i]?=some y->js[i]?=some j->X.N[j]?=some y)(hlen:js.length=Nf.length)
  (hNf:∀y∈Nf,(y,NameKind.free)∈scope.names/\Vis X.env.scope y/\X.env.kindOf y≠some .local)
  (hvis:∀y∈Nf,(relabel scope X.env).names.lookup y=some .cell\/(relabel scope X.env).names.lookup y=some .free)
  (hg:∀cl C s₀ H₀ ex,PG (X.cp (Nl++Nf) scope cl C s₀ H₀ ex) target g)(ht:∀cl C s₀ H₀ ex,PTs (X.cp (Nl++Nf) scope cl C s₀ H₀ ex) ifs tc)(he:∀cl C s₀ H₀ ex,PE (X.cp (Nl++Nf) scope cl C s₀ H₀ ex) elt te)
  (hgy:PG X (.Name y py) gy)(hsw:swapsWith (.ListComp elt [⟨target,iter,ifs,0⟩] scope pos) (some (.Name y py)) spos.line X.env=pure true)
  (hs:∀x,foldedSetIterable iter X.env x=pure x:=by intro _;rfl):
  PS X (.Assign [.Name y py] (.ListComp elt [⟨target,iter,ifs,0⟩] scope pos) spos) (tAsg (tComp wi Nl.length js g tc te) gy):=by
 intro pins s σ H D I h;obtain⟨cl,hclos,hcl,hcf⟩:=x0z (scope:=scope) (env:=X.env) fun x hx hf=>I.ok.has x.1 (hfree x hx hf)
 rw[exec_Assign_Name_used _ _ _ _ hsw];refine wpAny_bind (wpAny_standAt (wpAny_bind ?_));show wpAny _ _ (do let _ <- comprehension _ _ _ _ _ _ _ _) _ _ _;refine wpAny_bind (wpAny_comprehension_free (Q:=fun _ s''=>wpAny (model X.prog X.w) X.A (pure ()) (fun _ s3=>wpAny (model X.prog X.w) X.A (pure Flow.next) (SP X pins D) X.xe s3) X.xe s'') (use:=some (assign (.Name y py) X.env)) rfl hs hclos hk hnames (thn (hi pins s σ H _ I h) fun v s1 h1=>thn h1 fun itv s2 h2=>?_))
 obtain⟨it,fp,tn,J,H2,e,I2,T,st2,f2,rd⟩:=h2;subst e;refine wpAny_newObj_type (wpAny_newFunctionEnv hcell (by intro y hy;simp at hy) (fun h₁ hns₁ hsb₁=>?_) hk)
 dsimp only at hns₁ hsb₁ |-
 have szp:(s2.heap.push {cls:=.type "list", dict:=none,data:=.seq ([]:List Value).toArray}).objs.size=s2.heap.objs.size+1:=Heap.size_push ..;rw[szp]at hns₁ hsb₁ |-
 have fD:H2 s2.heap.objs.size=none:=I2.hok.fresh (w0e _);obtain⟨W,⟨m0,w0⟩,turn⟩:=rd s2.heap.objs.size fD;have obj2:=T.obj 0 s2.heap st2;have IS:=x4u (Nl:=Nl) (Nf:=Nf) (js:=js) (cl:=cl) (tk:=s2.toks+([]:List (Str×Value)).length) I2 f2 obj2 hk hcell hcl hcf hj hlen hNf hvis hns₁ hsb₁
 have upS:∀b u,s2.heap.get? b=some u->h₁.get? b=some u:=fun b u q=>by
  have hlt:=Heap.lt_size q;exact(hsb₁.2 b (w0t (w2x hlt))).trans (Heap.get?_push_of_some _ (Heap.get?_push_of_some _ q))
 have stS:tn 0 h₁:=T.keep 0 s2.heap h₁ st2 fun b hb o q=>upS b o q
 have noD:∀b∈fp,upd H2 s2.heap.objs.size (.lst []) b=none:=fun b hb=>by
  obtain⟨o,q,_⟩:=obj2 b hb;rw[q0f (w0t (Heap.lt_size q))];exact(f2 b hb).1
 have stat:∀{H':Hp},(∀b∈fp,H' b=none)->∀b∈fp,FpOk (X.cp (Nl++Nf) scope cl (s2.heap.objs.size+1) {s2 with heap:=s2.heap.push {cls:=.type "list", dict:=none,data:=.seq ([]:List Value).toArray}} (upd H2 s2.heap.objs.size (.lst [])) fp) [] H' b:=fun hn b hb=>by
  refine⟨hn b hb,(IS.ok.exf b hb).1,IS.ok.exfs b hb,.inl hb,(IS.ok.exf b hb).2,fun p hp=>(by cases hp)⟩
 have loop:∀s4:Shared,s4={s2 with heap:=h₁,toks:=s2.toks+([]:List (Str×Value)).length} ->
   codeAny (model X.prog X.w) X.A (.compLoop (.ListComp elt [⟨target,iter,ifs,0⟩] scope pos) 0 (.ref it) (.ref s2.heap.objs.size) (compEnvC scope cl (s2.heap.objs.size+1) X.env))
    (compPost (model X.prog X.w) X.A X.xe (some (assign (.Name y py) X.env)) (fun _ s''=>wpAny (model X.prog X.w) X.A (pure ()) (fun _ s3=>wpAny (model X.prog X.w) X.A (pure Flow.next) (SP X pins D) X.xe s3) X.xe s'') (.ref s2.heap.objs.size) (s2.heap.objs.size+1)) s4:=by
  rintro s4 rfl;refine x28 (fun n s'=>∃i H',Inv (X.cp (Nl++Nf) scope cl (s2.heap.objs.size+1) {s2 with heap:=s2.heap.push {cls:=.type "list", dict:=none,data:=.seq ([]:List Value).toArray}} (upd H2 s2.heap.objs.size (.lst [])) fp) [] (List.replicate Nl.length none++pj js σ) H' s'/\tn i s'.heap/\(∀b∈fp,H' b=none)/\W i n H') ?_ m0 ⟨0,_,IS,stS,noD,w0⟩
  rintro n s3 ⟨i,H3,I3,st3,fr3,w3⟩;rcases turn i n H3 w3 with⟨stop,qn⟩|⟨go,step⟩
  ·refine thn (T.done (X.cp (Nl++Nf) scope cl (s2.heap.objs.size+1) {s2 with heap:=s2.heap.push {cls:=.type "list", dict:=none,data:=.seq ([]:List Value).toArray}} (upd H2 s2.heap.objs.size (.lst [])) fp) rfl rfl rfl hc i [] s3 _ H3 _ I3 (stat fr3) st3 stop) fun r s5 ⟨hr,I5⟩=>?_
   subst hr;obtain⟨m5,hn5,_⟩:=I5.loc;obtain⟨o5,es5,ep5,ho5,hd5,hk5,hf5⟩:=id hn5;have J5:Inv X pins σ H3 s5:=x9w I2 f2 I5 (h':=s5.heap) ⟨rfl,fun _ _=>rfl⟩
   have fC:FpOk X pins H3 (s2.heap.objs.size+1):=I2.fpOk (w4g _) I5.free;have f1:∀b∈[s2.heap.objs.size+1],FpOk X pins H3 b:=fun b hb=>by rw[w0u.mp hb];exact fC
   have J6:=J5.pinned f1 (fun b hb=>by rw[w0u.mp hb];exact⟨o5,ho5,fun v z=>by rw[hd5]at z;cases z⟩)
   refine thn (hgy _ s5 σ H3 (.ref s2.heap.objs.size) _ _ J6 rfl qn) fun _ s6 ⟨σ6,H6,I6,q6⟩=>?_
   have pC:=I6.pin (s2.heap.objs.size+1,o5) (w0m _ (w0m _ (q3s (w0u.mpr rfl) ho5)));refine⟨m5,⟨o5,es5,ep5,pC.1,hd5,hk5,hf5⟩,fun h' hs'=>wpAny_pure (wpAny_pure ⟨σ6,H6,?_,q6⟩)⟩
   obtain⟨g0,g1,g2,g3,g4,g5⟩:=fC;exact I6.unpinned.turned (t':=s6.toks) (fun b o hb e=>(hs'.2 b hb).trans e) pC.2.1 g1 g3 g4 g5
  ·refine thn (T.item (X.cp (Nl++Nf) scope cl (s2.heap.objs.size+1) {s2 with heap:=s2.heap.push {cls:=.type "list", dict:=none,data:=.seq ([]:List Value).toArray}} (upd H2 s2.heap.objs.size (.lst [])) fp) rfl rfl rfl hc i [] s3 _ H3 _ I3 (stat fr3) st3 go) fun r s5 ⟨u,hr,h5⟩=>?_
   subst hr;refine thn h5 fun _ s6 ⟨x,H6,I6,r6,y6,st6,fr6⟩=>?_
   have I6':=I6.pinned (stat fr6) (T.obj _ _ st6);refine thn (hg _ _ _ _ _ _ s6 _ H6 x u _ I6' r6 (step x H6 y6)) fun _ s7 ⟨σ7,H7,I7,kp,q7⟩=>?_
   refine thn (ht _ _ _ _ _ _ s7 σ7 H7 _ I7 q7) fun ok s8 ⟨H8,I8,q8⟩=>?_
   have again:∀{σ9:St}{H9:Hp}{s9:Shared},Inv (X.cp (Nl++Nf) scope cl (s2.heap.objs.size+1) {s2 with heap:=s2.heap.push {cls:=.type "list", dict:=none,data:=.seq ([]:List Value).toArray}} (upd H2 s2.heap.objs.size (.lst [])) fp) ([]++pinsAt fp s6.heap) σ9 H9 s9 ->
     Kp (List.replicate Nl.length none++pj js σ) σ9->(∃m',m'<n/\W (i+1) m' H9)->∃m,m<n/\∃i H',Inv (X.cp (Nl++Nf) scope cl (s2.heap.objs.size+1) {s2 with heap:=s2.heap.push {cls:=.type "list", dict:=none,data:=.seq ([]:List Value).toArray}} (upd H2 s2.heap.objs.size (.lst [])) fp) [] (List.replicate Nl.length none++pj js σ) H' s9/\tn i s9.heap/\(∀b∈fp,H' b=none)/\W i m H':=fun {σ9 H9 s9} I9 hw ⟨m',hm,w9⟩=>by
    refine⟨m',hm,i+1,H9,I9.unpinned.weak (by rw[I9.len,<- IS.len]) hw,T.keep _ _ _ st6 fun b hb o q=>(I9.pin (b,o) (w0m _ (w0m _ (q3s hb q)))).1,fun b hb=>?_,w9⟩
    obtain⟨o,q,d⟩:=T.obj _ _ st6 b hb;exact(I9.pin (b,o) (w0m _ (w0m _ (q3s hb q)))).2.1
   cases ok with
   |false=>exact again I8 kp (by simpa using q8)
   |true=>
    have q8':=by simpa only[if_true]using q8
    refine thn (he _ _ _ _ _ _ s8 σ7 H8 _ I8 q8') fun y s9 ⟨yv,H9,I9,r9,ys,hD,hz,q9⟩=>?_
    refine thn (q8w _ s9 σ7 H9 (.ref s2.heap.objs.size) [yv] (.ref s2.heap.objs.size) [y] (fun v H'=>v=.non/\H'=upd H9 s2.heap.objs.size (.lst (ys++[yv]))) I9 rfl (.cons r9 .nil) ⟨_,ys,yv,rfl,rfl,hD,hz,rfl,rfl⟩) fun _ s10 ⟨_,H10,I10,_,_,e10⟩=>?_
    subst e10;exact again I10 kp q9
 exact codeAny_compStart_list (loop _ rfl) (T.self X.A 0 _ _ _ stS (loop _ rfl))
end
variable{X:Cx}
theorem x3a{y:Str}{py spos:Pos}{gy:TG}{elt target iter:Expr}{ifs:List Expr}{scope sc:Scope}{pos:Pos}{wi:TI}{g:TG}{tc:TT}{te:TE}{Nl Nf N:List Str}{js:List Nat}(hc:X.calm=true)(hi:PI X target iter wi)
  (ok:compOk sc scope N Nf js=true)
  (hg:∀cl C s₀ H₀ ex,PG (X.cp (Nl++Nf) scope cl C s₀ H₀ ex) target g)(ht:∀cl C s₀ H₀ ex,PTs (X.cp (Nl++Nf) scope cl C s₀ H₀ ex) ifs tc)(he:∀cl C s₀ H₀ ex,PE (X.cp (Nl++Nf) scope cl C s₀ H₀ ex) elt te)
  (hgy:PG X (.Name y py) gy)(hsw:swapsWith (.ListComp elt [⟨target,iter,ifs,0⟩] scope pos) (some (.Name y py)) spos.line X.env=pure true)
  (hsc:X.env.scope=sc:=by rfl)(hN:X.N=N:=by rfl)(hs:∀x,foldedSetIterable iter X.env x=pure x:=by intro _;rfl):
  PS X (.Assign [.Name y py] (.ListComp elt [⟨target,iter,ifs,0⟩] scope pos) spos) (tAsg (tComp wi Nl.length js g tc te) gy):=by
 unfold compOk at ok;simp only[w0r,w1b,beq_iff_eq,bne_iff_ne,Bool.or_eq_true,w0w]at ok;obtain⟨⟨⟨⟨⟨⟨k1,k2⟩,k3⟩,k4⟩,k5⟩,k6⟩,k7⟩:=ok;have kind:∀x,X.env.kindOf x=sc.names.lookup x:=fun x=>by rw[<- hsc];rfl
 refine y2q hc hi k1 k2 (fun x hx hl=>(k3 x hx).resolve_left fun z=>z hl) (fun x hx hf=>?_) (fun i j y e1 e2=>?_) k5 (fun y hy=>?_) (fun y hy=>?_) hg ht he hgy hsw hs
 ·rw[kind];rcases k4 x hx with(z|z)|z
  ·exact absurd hf z
  ·exact .inl z
  ·exact .inr z
 ·have hlt:i<js.length:=(w0c.mp e2).1;have z:=k6 i hlt;rw[e1,e2]at z;rw[hN]
  simpa using z
 ·obtain⟨z1,z2⟩:=k7 y hy;refine⟨PySem.mem_of_lookup z1,?_,?_⟩
  ·rw[hsc];rcases z2 with z|z
   ·exact .inr (.inl z)
   ·exact .inr (.inr z)
  ·rw[kind];rcases z2 with z|z<;>(rw[z];decide)
 ·exact q6j (k7 y hy).1
def rCatS(K:PySem.W.Frag):R2:=fun x y H Q=>∃l b xs zs,x=.ref l/\y=.ref b/\SqL K H l xs/\SqL K H b zs/\xs.length+zs.length<=sizeLine/\∀p,H p=none->Q (.ref p) (upd H p (.lst (xs++zs)))
theorem y5h:OpR X (binaryOp .Add) (rCatS X.K):=by
 intro pins s σ H x y v u Q I rx ry h;obtain⟨l,b,xs,zs,rfl,rfl,h1,h2,hz,q⟩:=h;cases rx;cases ry;obtain⟨its,r1,p1,_⟩:=I.list h1;obtain⟨its2,r2,p2,_⟩:=I.list h2;obtain⟨⟨cls,dd,data,sl⟩,ho,hc,n,hd⟩:=id p1.isList;obtain⟨⟨cls2,dd2,data2,sl2⟩,ho2,hc2,n2,hd2⟩:=id p2.isList;simp only at hc hd hc2 hd2;subst hc hd hc2 hd2;have l1:=r1.length;have l2:=r2.length;refine concat_meets ⟨_,ho,rfl⟩ ⟨_,ho2,rfl⟩ noFill_list_add seq_list_add PySem.F.slot_list_add PySem.F.entry_list_add (PySem.F.args_list_add_2 _ _) (list_addW l b its.toArray its2.toArray n n2 dd dd2 sl sl2 (by simp only[w0d];omega)) ⟨ho,ho2,?_⟩;have ea:its.toArray++its2.toArray=(its++its2).toArray:=by simp
 rw[ea];exact⟨.ref _,_,I.lnew (t':=s.toks) (r1.append r2) (by rw[w0i];omega),rfl,q _ I.fresh⟩
end L2
namespace D
open PySem L2
variable{a j:Addr}{A:Around}{vs ys:Array Value}{t:Bool}{X:Cx}{dA p:Den (List W)}{c cc:Den Bool}{d da db dk:Den W}{e:Expr}{h':Heap}{G G1 H:Hp}{lo:Int}{EE:L2.St->XK}{pins:List (Addr×Obj)}{ps:List (W×W)}{elts es:List Expr}{js:List Nat}{pe:List S}{h q:List S->SR}{xs:List V}{out us ws:List W}{i kt n:Nat}{b:Option Nat}{p1 p2 pos:Pos}{P:Program}{K:PySem.W.Frag}{s:Shared}{σ:St}{x y:Str}{α:Type}{v v':V}{cv u u':Value}{w w':W}{Z:Zt}
noncomputable def addW:W->W->Option W
 |.int i,.int j=>some (.int (i+j))
 |.str x,.str y=>if x.length+y.length<=16777216 then some (.str (x++y))else none
 |.tup xs,.tup ys=>if xs≠[]/\xs.length+ys.length<=16777216 then some (.tup (xs++ys))else none
 |.lst xs,.lst ys=>if xs.length+ys.length<=16777216 then some (.lst (xs++ys))else none
 |_,_=>none
noncomputable def subW:W->W->Option W
 |.int i,.int j=>some (.int (i-j))
 |_,_=>none
noncomputable def mulW:W->W->Option W
 |.int i,.int j=>if(-(2^64)<i/\i<2^64)\/(-(2^64)<j/\j<2^64)then some (.int (i*j))else none
 |_,_=>none
noncomputable def fdivW:W->W->Option W
 |.int i,.int j=>if 0<j/\j<1073741824 then some (.int (i / j))else none
 |_,_=>none
noncomputable def modW:W->W->Option W
 |.int i,.int j=>if 0<j then some (.int (i%j))else none
 |_,_=>none
noncomputable def ltW:W->W->Option W
 |.int i,.int j=>some (.bl (decide (i<j)))
 |_,_=>none
noncomputable def gtW:W->W->Option W
 |.int i,.int j=>some (.bl (decide (j<i)))
 |_,_=>none
noncomputable def negW:W->Option W
 |.int i=>some (.int (-i))
 |_=>none
theorem x98:Op2 K (fun x y H Q=>rI0 (fun i j=>.int (i+j)) x y H Q\/((∃i j,x=.str i/\y=.str j/\i.length+j.length<=sizeLine/\Q (.str (i++j)) H)\/(rCatT K x y H Q\/rCatS K x y H Q))) addW:=by
 intro G H x y wx wy w Q s px py hf h;unfold addW at hf;split at hf
 ·cases hf;cases px;cases py;exact .inl ⟨_,_,rfl,rfl,h G _ H (.refl s) rfl⟩
 ·split at hf
  ·rename_i hl;cases hf;cases px;cases py;exact .inr (.inl ⟨_,_,rfl,rfl,by rw[sizeLine_eq];exact hl,h G _ H (.refl s) rfl⟩)
  ·cases hf
 ·rename_i us ws;split at hf
  ·rename_i hl;cases hf;obtain⟨a,xs,rfl,ha,ra⟩:=px;obtain⟨b,ys,rfl,hb,rb⟩:=py;have l1:=ra.length;have l2:=rb.length;refine .inr (.inr (.inl ⟨a,b,xs,ys,rfl,rfl,s.tup ha,s.tup hb,fun z=>hl.1 ?_,by rw[l1,l2,sizeLine_eq];exact hl.2,fun z=>?_,fun z p hp=>?_⟩))
   ·subst z;cases us with
    |nil=>rfl
    |cons _ _=>simp at l1
   ·subst z
    have:ws=[]:=by cases ws with
     |nil=>rfl
     |cons _ _=>simp at l2
    subst this;exact h G _ H (.refl s) ⟨a,xs,rfl,ha,by simpa using ra⟩
   ·have g:=Grow.laid s hp (.tup (xs++ys));exact h _ _ _ g ⟨p,_,rfl,SqT.of q0m,Reps.append (Reps.mono g.gg _ ra) (Reps.mono g.gg _ rb)⟩
  ·cases hf
 ·split at hf
  ·rename_i hl;cases hf;obtain⟨a,xs,rfl,ha,ra⟩:=px;obtain⟨b,ys,rfl,hb,rb⟩:=py;have l1:=ra.length;have l2:=rb.length;refine .inr (.inr (.inr ⟨a,b,xs,ys,rfl,rfl,s.seq ha,s.seq hb,by rw[l1,l2,sizeLine_eq];exact hl,fun p hp=>?_⟩))
   have g:=Grow.laid s hp (.lst (xs++ys));exact h _ _ _ g ⟨p,_,rfl,SqL.of q0m,Reps.append (Reps.mono g.gg _ ra) (Reps.mono g.gg _ rb)⟩
  ·cases hf
 ·cases hf
theorem y8v:Op2 K (rI0 fun i j=>.int (i-j)) subW:=by
 intro G H x y wx wy w Q s px py hf h;unfold subW at hf;split at hf
 ·cases hf;cases px;cases py;exact⟨_,_,rfl,rfl,h G _ H (.refl s) rfl⟩
 ·cases hf
theorem y8w:Op2 K (rI CMul fun i j=>.int (i*j)) mulW:=by
 intro G H x y wx wy w Q s px py hf h;unfold mulW at hf;split at hf
 ·split at hf
  ·rename_i hc;cases hf;cases px;cases py;exact⟨_,_,rfl,rfl,hc,h G _ H (.refl s) rfl⟩
  ·cases hf
 ·cases hf
theorem y5i:Op2 K (rI CDiv fun i j=>.int (i / j)) fdivW:=by
 intro G H x y wx wy w Q s px py hf h;unfold fdivW at hf;split at hf
 ·split at hf
  ·rename_i hc;cases hf;cases px;cases py;exact⟨_,_,rfl,rfl,hc,h G _ H (.refl s) rfl⟩
  ·cases hf
 ·cases hf
theorem y8x:Op2 K (rI (fun _ j=>0<j) fun i j=>.int (i%j)) modW:=by
 intro G H x y wx wy w Q s px py hf h;unfold modW at hf;split at hf
 ·split at hf
  ·rename_i hc;cases hf;cases px;cases py;exact⟨_,_,rfl,rfl,hc,h G _ H (.refl s) rfl⟩
  ·cases hf
 ·cases hf
theorem z1y:Op2 K (rI0 fun i j=>.bl (decide (i<j))) ltW:=by
 intro G H x y wx wy w Q s px py hf h;unfold ltW at hf;split at hf
 ·cases hf;cases px;cases py;exact⟨_,_,rfl,rfl,h G _ H (.refl s) rfl⟩
 ·cases hf
theorem y4h:Op2 K (rI0 fun i j=>.bl (decide (j<i))) gtW:=by
 intro G H x y wx wy w Q s px py hf h;unfold gtW at hf;split at hf
 ·cases hf;cases px;cases py;exact⟨_,_,rfl,rfl,h G _ H (.refl s) rfl⟩
 ·cases hf
theorem y8y:Op1 K (rU fun i=>.int (-i)) negW:=by
 intro G H x wx w Q s px hf h;unfold negW at hf;split at hf
 ·cases hf;cases px;exact⟨_,rfl,h G _ H (.refl s) rfl⟩
 ·cases hf
mutual
noncomputable def eqW:W->W->Option Bool
 |.non,.non=>some true
 |.non,.bl _=>some false|.non,.int _=>some false|.non,.str _=>some false|.non,.tup _=>some false|.non,.lst _=>some false
 |.bl a,.bl b=>some (a==b)
 |.bl a,.int b=>some ((if a then 1 else 0)==b)
 |.bl _,.non=>some false|.bl _,.str _=>some false|.bl _,.tup _=>some false|.bl _,.lst _=>some false
 |.int a,.int b=>some (a==b)
 |.int a,.bl b=>some (a==(if b then 1 else 0))
 |.int _,.non=>some false|.int _,.str _=>some false|.int _,.tup _=>some false|.int _,.lst _=>some false
 |.str a,.str b=>some (a==b)
 |.str _,.non=>some false|.str _,.bl _=>some false|.str _,.int _=>some false|.str _,.tup _=>some false|.str _,.lst _=>some false
 |.tup _,.non=>some false|.tup _,.bl _=>some false|.tup _,.int _=>some false|.tup _,.str _=>some false|.tup _,.lst _=>some false
 |.lst _,.non=>some false|.lst _,.bl _=>some false|.lst _,.int _=>some false|.lst _,.str _=>some false|.lst _,.tup _=>some false
 |.tup xs,.tup ys=>eqWs xs ys
 |.lst xs,.lst ys=>eqWs xs ys
 |.exc _,_=>none
 |_,.exc _=>none
 |.dic _,_=>none
 |_,.dic _=>none
 |.dw _ _ _ _,_=>none
 |.fn _ _ _,_=>none
 |_,.dw _ _ _ _=>none
 |_,.fn _ _ _=>none
noncomputable def eqWs:List W->List W->Option Bool
 |[],[]=>some true
 |[],_::_=>some false
 |_::_,[]=>some false
 |x::xs,y::ys=>match eqW x y,eqWs xs ys with
  |some a,some b=>some (a&&b)
  |_,_=>none
end
noncomputable def ixW:W->W->Option W
 |.tup ws,.int i=>atI ws i
 |.lst ws,.int i=>atI ws i
 |.str z,.int i=>if z.length<=16777216 then(atI z.cps.toList i).map fun c=>.str ⟨#[c]⟩else none
 |_,_=>none
theorem Reps.atI{i:Int}(r:Reps K G ws xs)(h:L2.atI ws i=some w):∃x,L2.atI xs i=some x/\Rep K G w x:=by
 unfold L2.atI at h |-
 rw[r.length];cases q:ixN ws.length i with
 |none=>rw[q]at h;cases h
 |some j=>
  rw[q]at h;exact r.get h
theorem z1z:Op2 K (rIx K) ixW:=by
 intro G H x y wx wy w Q s px py hf h;unfold ixW at hf;split at hf
 ·obtain⟨a,xs,rfl,ha,ra⟩:=px;cases py;obtain⟨v,hv,rv⟩:=ra.atI hf;exact .inr (.inl ⟨a,xs,_,v,rfl,rfl,s.tup ha,hv,h G v H (.refl s) rv⟩)
 ·obtain⟨a,xs,rfl,ha,ra⟩:=px;cases py;obtain⟨v,hv,rv⟩:=ra.atI hf;exact .inl ⟨a,xs,_,v,rfl,rfl,s.seq ha,hv,h G v H (.refl s) rv⟩
 ·cases px;cases py;split at hf
  ·rename_i hl;obtain⟨c,hc,rfl⟩:=w0n.mp hf;exact .inr (.inr ⟨_,_,c,rfl,rfl,by rw[sizeLine_eq];exact hl,hc,h G _ H (.refl s) rfl⟩)
  ·cases hf
 ·cases hf
noncomputable def S.look:S->Option W
 |.fr w=>some w
 |.own _ ws=>some (.lst ws)
 |.no=>none
 |.dic _=>none
 |.thr _ _ _=>none
 |.nest _=>none
 |.x k=>k.look
 |.dw _ _ _=>none
noncomputable def lenW:W->Option W
 |.str z=>if z.length<=16777216 then some (.int z.length)else none
 |.tup ws=>some (.int ws.length)
 |.lst ws=>some (.int ws.length)
 |_=>none
noncomputable def len1:List W->Option W
 |[w]=>lenW w
 |_=>none
theorem y8z:OpN K (fun xs H Q=>∃x n,xs=[x]/\LenV K x H n/\Q (.int n) H) len1:=by
 intro G H xs ws w Q s pr hf h;unfold len1 at hf;split at hf
 ·obtain⟨x,r,rfl,px,pr⟩:=pr;cases(show r=[]from pr);unfold lenW at hf;split at hf
  ·split at hf
   ·rename_i hl;cases hf;cases px;exact⟨_,_,rfl,⟨by rw[sizeLine_eq];exact hl,rfl⟩,h G _ H (.refl s) rfl⟩
   ·cases hf
  ·cases hf;obtain⟨a,xs,rfl,ha,ra⟩:=px;exact⟨_,_,rfl,.inr ⟨xs,s.tup ha,rfl⟩,h G _ H (.refl s) (by rw[ra.length];rfl)⟩
  ·cases hf;obtain⟨a,xs,rfl,ha,ra⟩:=px;exact⟨_,_,rfl,.inl ⟨xs,s.seq ha,rfl⟩,h G _ H (.refl s) (by rw[ra.length];rfl)⟩
  ·cases hf
 ·cases hf
noncomputable def scalW:W->Bool
 |.non=>true|.bl _=>true|.int _=>true|.str _=>true|_=>false
section
variable{a b:Expr}{p:Pos}
theorem q0x(ha:DE Z X EE a d)(hb:DE Z X EE b db)(hs:PlainIx b:=by intro _ _;rfl):DE Z X EE (.Subscript a b pos) (dOp ixW d db):=PE.mono (z1s y8n ha hb hs) (q7f z1z)
noncomputable def dApp(i:Nat)(d:Den (List W)):List S->SR:=fun e=>match e[i]? with
 |some (.own _ _)=>(d e).stm fun ws e1=>match ws,e1[i]? with
  |[w],some (.own b xs)=>if xs.length<16777216 then .nx (e1.set i (.own b (xs++[w])))else .no
  |_,_=>.no
 |_=>.no
theorem y80(i:Nat){apos cpos:Pos}(ha:DA Z X EE (e::es) dA)(hN:X.N[i]?=some x:=by rfl)(hv:Vis X.env.scope x:=by walk_at "1")(hd:(x==("__debug__":Str))=false:=by decide)(hcd:(x==("__classdict__":Str))=false:=by decide)
  (hbase:attributeBase (.Name x p) "append" X.env (eval (.Name x p) X.env)=eval (.Name x p) X.env:=by rfl)
  (hfew:((backTo cpos (starEach (e::es) X.env)).all (fun x=>!x.1)&&(backToKw cpos (keywordEach [] X.env)).all (fun x=>x.1.isSome)&&decide ((e::es).length+([]:List Keyword).length+(if([]:List Keyword).isEmpty then 0 else 1)<30))=true:=by rfl)
  (hline:(apos.endLine==cpos.line)=true:=by rfl)(hs:starEach (e::es) X.env=(false,eval e X.env)::starEach es X.env:=by rfl)(hplain:(backTo cpos (starEach es X.env)).any (·.1)=false:=by rfl)
  (hsw:swapsWith (.Call (.Attribute (.Name x p) "append" apos) (e::es) [] cpos) none pos.line X.env=pure false:=by rfl):
  DS Z X EE (.Expr (.Call (.Attribute (.Name x p) "append" apos) (e::es) [] cpos) pos) (dApp i dA):=by
 refine PS.mono (x13 (y8s (pv i hN hv hd hcd) ha hbase hfew hline hs hplain) hsw) ?_;rintro D σ H ⟨G,e,rel,h⟩;unfold dApp at h;split at h
 ·rename_i b0 ws0 he0;obtain⟨a,xs,h1,h2,h3,h4,h5⟩:=rel.own he0;refine⟨.ref a,h1,.inl ⟨rfl,xs,SqL.of h2⟩,G,e,rel,(q2d h).imp (fun ws e1 h G1 vs H1 r1 s1 p1=>?_) fun _ _ h=>h⟩
  split at h
  ·rename_i w b ys he1;obtain⟨a',zs,g1,g2,g3,g4,g5⟩:=r1.own he1;rw[h1]at g1;cases g1;obtain⟨y,r,rfl,py,pr⟩:=p1;cases(show r=[]from pr);split at h
   ·rename_i hl;refine⟨a,zs,y,rfl,rfl,g2,by rw[g5.length,sizeLine_eq];exact hl,?_⟩;exact h G1 σ _ (r1.mut he1 h1 (g5.append (.one py))) s1
   ·exact h.elim
  ·exact h.elim
 ·exact h.elim
end
noncomputable def compD(c:Den Bool)(d:Den W)(pe:List S):List W->Option (List W)
 |[]=>some []
 |w::ws=>match c (.fr w::pe)with
  |.ok true e1=>match d e1 with
   |.ok y _=>(compD c d pe ws).map (y::·)
   |_=>none
  |.ok false _=>compD c d pe ws
  |_=>none
noncomputable def frz1(e:List S)(j:Nat):List S:=match e[j]? with
 |some (.own none ws)=>e.set j (.fr (.lst ws))
 |_=>e
noncomputable def frzs(js:List Nat)(e:List S):List S:=js.foldl frz1 e
noncomputable def pj1(e:List S)(j:Nat):S:=match e[j]? with
 |some (.fr w)=>.fr w
 |_=>.no
noncomputable def pjS(js:List Nat)(e:List S):List S:=js.map (pj1 e)
noncomputable def compK(js:List Nat)(c:Den Bool)(d:Den W)(ws:List W)(e1:List S):R (List W):=
 if ws.length<=16777216 then(match compD c d (pjS js (frzs js e1)) ws with
  |some out=>.ok out (frzs js e1)
  |none=>.no)else .no
noncomputable def dComp(js:List Nat)(di:Den W)(c:Den Bool)(d:Den W):Den (List W):=fun e=>(di e).bind fun w e1=>match seqW w with
 |some ws=>compK js c d ws e1
 |none=>.no
noncomputable def dCompR(g:List W->Option (List W))(js:List Nat)(di:Den (List W))(c:Den Bool)(d:Den W):Den (List W):=fun e=>(di e).bind fun w e1=>match g w with
 |some ws=>compK js c d ws e1
 |none=>.no
noncomputable def dYes:Den Bool:=fun e=>.ok true e
section
variable{H1:Hp}{e e1:List S}
theorem Rel.frzs(r:Rel K Z G σ H e):∀(js:List Nat),∃G',Same G G'/\Rel K Z G' σ H (frzs js e):=by
 intro js
 induction js generalizing G e with
 |nil=>exact⟨G,.refl _,r⟩
 |cons j js ih=>
  have one:∃G',Same G G'/\Rel K Z G' σ H (frz1 e j):=by
   unfold frz1;split
   ·rename_i ws hw;obtain⟨v,G',_,s,_,r'⟩:=r.freeze hw;exact⟨G',s,r'⟩
   ·exact⟨G,.refl _,r⟩
  obtain⟨G1,s1,r1⟩:=one;obtain⟨G2,s2,r2⟩:=ih r1;exact⟨G2,s1.trans s2,r2⟩
theorem Rel.block(r:Rel K Z G σ H e)(js:List Nat){x:V}(p:Rep K G w x):Rel K ⟨H,G,[]⟩ G (some x::pj js σ) H (.fr w::pjS js e):=by
 have hfr:∀(i:Nat)(s:S),(S.fr w::pjS js e)[i]?=some s->s=.no\/∃u,s=.fr u/\((i=0/\u=w)\/∃k j,i=k+1/\js[k]?=some j/\e[j]?=some (.fr u)):=fun i s h=>by
  cases i with
  |zero=>cases h;exact .inr ⟨w,rfl,.inl ⟨rfl,rfl⟩⟩
  |succ k=>
   rw[w0f]at h;unfold pjS at h;rw[w0v]at h;obtain⟨j,h1,h2⟩:=w0n.mp h;unfold pj1 at h2;split at h2
   ·rename_i u hu;subst h2;exact .inr ⟨u,rfl,.inr ⟨k,j,rfl,h1,hu⟩⟩
   ·subst h2;exact .inl rfl
 refine⟨r.sub,fun i s h=>?_,?_,fun i j b b' w1 w2 a h1 h2 _ _=>?_,fun a o h _=>h,(fun a h=>nomatch h),fun a _=>rfl⟩
 ·rcases hfr i s h with rfl|⟨u,rfl,⟨rfl,rfl⟩|⟨k,j,rfl,h1,h2⟩⟩
  ·trivial
  ·exact⟨x,rfl,p⟩
  ·obtain⟨v,h3,h4⟩:=r.fr h2;refine⟨v,?_,h4⟩;rw[w0f];unfold pj;rw[w0v,h1];simp[h3]
 ·simp[pjS,pj]
 ·rcases hfr i _ h1 with z|⟨u,z,_⟩<;>cases z
theorem Rel.mutFree(r:Rel K Z G σ H e){o:HO}(hg:G a=none)(hz:Z.H a=none)(hi:a∉Z.io)(hf:Free σ e a){ls:List V}(hls:H a=some (.lst ls)):Rel K Z G σ (upd H a o) e:=by
 refine⟨fun c u z=>?_,fun j s z=>?_,r.len,r.dis,fun c u z n=>?_,fun c z=>?_,r.gen⟩
 ·rw[q0f (q0s z hg)];exact r.sub c u z
 ·have y:=r.slot j s z;cases s with
  |no=>trivial
  |fr w=>exact y
  |own b2 w2=>
   obtain⟨c,ys,y1,y2,y3,y4,y5⟩:=y;refine⟨c,ys,y1,?_,y3,y4,y5⟩;rw[q0f];exact y2;rintro rfl;obtain⟨c',_,z1,_⟩:=r.own z;rw[z1]at y1;cases y1;exact hf j b2 w2 z z1
  |dic kvs=>
   obtain⟨c,y1,y2,y3,y4⟩:=y;refine⟨c,y1,?_,y3,y4⟩;rw[q0f (q09 y2 hls (q6b rfl))];exact y2
  |thr us w2 vs=>
   obtain⟨t,l,o,xs2,ys,zs,y1,y2,y3,y4,y5,y6⟩:=y;refine⟨t,l,o,xs2,ys,zs,y1,y2,?_,y4,y5,y6⟩;rw[q0f (q09 y3 hls (fun z=>nomatch z))];exact y3
  |nest wss=>exact NestOk.move y (.refl _) fun l o ys k1 k2 k3=>⟨by rw[q0f (q09 k1 hls (fun z=>nomatch z))];exact k1,k2,k3⟩
  |x k=>exact XOk.move y (.refl _) fun l o ys k1 k2 k3=>⟨by rw[q0f (q09 k1 hls (fun z=>nomatch z))];exact k1,k2,k3⟩
  |dw sh ks ws=>exact DwOk.move y (.refl _) fun l o ys k1 k2 k3=>⟨by rw[q0f (q09 k1 hls (q5t rfl))];exact k1,k2,k3⟩
 ·rw[q0f (q0s z hz)];exact r.ent c u z n
 ·by_cases hc:c=a
  ·subst hc;exact absurd z hi
  ·rw[q0f hc];exact r.ion c z
structure Walk(J:It)(xs:List V)(SQ:Hp->Prop):Prop where
 go:∀i H,SQ H->i<xs.length->J.go i H
 yld:∀i H x H',SQ H->J.yld i H x H'->i<xs.length->H'=H/\xs[i]?=some x
 stop:∀i H,SQ H->xs.length<=i->J.stop i H
theorem y81:Walk (Itl K a) xs (fun H=>SqL K H a xs):=
 ⟨fun i H q h=>⟨xs,xs[i],q,by simp[h]⟩,fun i H x H' q ⟨e,y⟩ h=>⟨e,y xs q⟩,fun i H q h=>⟨xs,q,h⟩⟩
theorem y82:Walk (Itt K a) xs (fun H=>SqT K H a xs):=
 ⟨fun i H q h=>⟨xs,xs[i],q,by simp[h]⟩,fun i H x H' q ⟨e,y⟩ h=>⟨e,y xs q⟩,fun i H q h=>⟨xs,q,h⟩⟩
theorem y83:Walk (Itr lo n) ((List.range n).map fun k=>V.int (lo+(k:Nat))) (fun _=>True):=
 ⟨fun i H q h=>show i<n by simpa using h,fun i H x H' q ⟨e,y⟩ h=>⟨e,by simp at h;simp[h,y]⟩,fun i H q h=>show n<=i by simpa using h⟩
theorem x16{J:It}{SQ:Hp->Prop}{Q:VK}{G0:Hp}(W0:Walk J xs SQ)(r1:Rel K Z G1 σ H1 e1)(s1:Same G0 G1)(rp:Reps K G1 ws xs)(hSQ:∀G' H',Same G1 G'->Same G' H'->SQ H')(hl:ws.length<=16777216)
  (hz:∀p,H1 p=none->p∉Z.io)(hc:compD c d (pjS js e1) ws=some out)
  (h:∀G' a xs H',Rel K Z G' σ H' e1->Same G0 G'->H' a=some (.lst xs)->G' a=none->Z.H a=none->Free σ e1 a->Reps K G' out xs->Q (.ref a) H'):
  ∀D,H1 D=none->∃W:Nat->Nat->Hp->Prop,(∃m,W 0 m (upd H1 D (.lst [])))/\∀i m H2,W i m H2 ->
   (J.stop i H2/\Q (.ref D) H2)\/(J.go i H2/\∀x H3,J.yld i H2 x H3->gName 0 x (List.replicate 1 none++pj js σ) H3 fun σ4 H4=>Kp (List.replicate 1 none++pj js σ) σ4/\(fun σ H Q=>∃Z',liftT K Z' (fun _=>E0) c σ H Q) σ4 H4 fun b H5=>
    if b=true then(fun σ H Q=>∃Z',AtG K Z' σ H fun G e=>(d e).holds (fun w e'=>∀G' v H',Rel K Z' G' σ H' e'->Same G G'->Rep K G' w v->Q v H') (XH K Z' (fun _=>E0) σ G)) σ4 H5 fun y H6=>∃ys,H6 D=some (.lst ys)/\ys.length<sizeLine/\∃m',m'<m/\W (i+1) m' (upd H6 D (.lst (ys++[y])))else ∃m',m'<m/\W (i+1) m' H5):=by
 intro D hD;have hlen:=rp.length
 refine⟨fun i m H2=>m=ws.length-i/\i<=ws.length/\∃G2 ys done rest,Rel K Z G2 σ H2 e1/\Same G1 G2/\H2 D=some (.lst ys)/\G2 D=none/\Reps K G2 done ys/\done.length<=i/\compD c d (pjS js e1) (ws.drop i)=some rest/\done++rest=out,
  ⟨ws.length,by omega,w1i _,G1,[],[],out,r1.grow (Grow.hid r1.sub hD _),.refl _,q0m,r1.sub.free hD,rfl,w0e _,hc,rfl⟩,?_⟩
 rintro i m H2 ⟨rfl,hi,G2,ys,done,rest,r2,s2,hd2,hg2,rp2,hdl,hc2,ho⟩;have hfree:Free σ e1 D:=q7s r1 hD;have hzh:Z.H D=none:=q6l r1 hD
 by_cases hlt:i<ws.length
 ·refine .inr ⟨W0.go i H2 (hSQ G2 H2 s2 r2.sub) (by omega),fun x H3 hy=>?_⟩
  obtain⟨rfl,hx⟩:=W0.yld i H2 x H3 (hSQ G2 H2 s2 r2.sub) hy (by omega);obtain⟨w,hw,pw⟩:=rp.getV hx;rw[x29 hw]at hc2;refine⟨Kp.one,⟨H3,G2,[]⟩,G2,.fr w::pjS js e1,r2.block js (Rep.mono s2 w pw),?_⟩;unfold compD at hc2;cases qc:c (.fr w::pjS js e1)with
  |no=>rw[qc]at hc2;cases hc2
  |ex _ _=>rw[qc]at hc2;cases hc2
  |ok k e2=>
   rw[qc]at hc2;intro G3 H5 r3 s3;have g3:=r3.toGrow s3;cases k with
   |false=>
    exact⟨ws.length-(i+1),by omega,rfl,hlt,G3,ys,done,rest,r2.grow g3,s2.trans s3,g3.hh _ _ hd2,by rw[g3.new D (by rw[hd2];simp)];exact hg2,Reps.mono s3 _ rp2,by omega,hc2,ho⟩
   |true=>
    refine⟨⟨H3,G2,[]⟩,G3,e2,r3,?_⟩;dsimp only at hc2;cases qd:d e2 with
    |no=>rw[qd]at hc2;cases hc2
    |ex _ _=>rw[qd]at hc2;cases hc2
    |ok y e3=>
     rw[qd]at hc2;intro G4 v H6 r4 s4 p4;have g4:=r4.toGrow (s3.trans s4);obtain⟨rest',hr,rfl⟩:=w0n.mp hc2;have hd6:H6 D=some (.lst ys):=g4.hh _ _ hd2;have hg6:G4 D=none:=by rw[g4.new D (by rw[hd2];simp)];exact hg2
     refine⟨ys,hd6,?_,ws.length-(i+1),by omega,rfl,hlt,G4,ys++[v],done++[y],rest',(r2.grow g4).mutFree hg6 hzh (hz D hD) hfree hd6,s2.trans (s3.trans s4),q0m,hg6,(Reps.mono (s3.trans s4) _ rp2).append (.one p4),by simp;omega,hr,by rw[w2w];exact ho⟩;rw[rp2.length,sizeLine_eq];omega
 ·have:i=ws.length:=by omega
  subst this;rw[w3w]at hc2;cases hc2;rw[w2q]at ho;subst ho;exact .inl ⟨W0.stop _ H2 (hSQ G2 H2 s2 r2.sub) (by omega),h G2 D ys H2 r2 (s1.trans s2) hd2 hg2 hzh hfree rp2⟩
end
section
variable{elt iter a b:Expr}{ifs:List Expr}{scope sc:Scope}{pt:Pos}{Nf N:List Str}{di:Den W}
def DTs(Z:Zt)(X:Cx)(EE:L2.St->XK)(ifs:List Expr)(c:Den Bool):Prop:=PTs X ifs (liftT X.K Z EE c)
theorem q13:DTs Z X EE [] dYes:=fun pins s σ H Q I ⟨G,e,r,h⟩=>y5b pins s σ H Q I (h G H r (.refl _))
theorem q4f(h:DT Z X EE a c):DTs Z X EE [a] c:=y5c h
def cT(K:PySem.W.Frag)(c:Den Bool):TT:=fun σ H Q=>∃Z',liftT K Z' (fun _=>E0) c σ H Q
def cE(K:PySem.W.Frag)(d:Den W):TE:=fun σ H Q=>∃Z',AtG K Z' σ H fun G e=>(d e).holds (fun w e'=>∀G' v H',Rel K Z' G' σ H' e'->Same G G'->Rep K G' w v->Q v H') (XH K Z' (fun _=>E0) σ G)
theorem x3b{D:Ends}{r:R (List W)}{k:W->List S->SR}(h:PostS K Z EE D G ((r.bind fun ws e'=>.ok (.lst ws) e').stm k)):r.holds (fun ws e'=>PostS K Z EE D G (k (.lst ws) e')) (XH K Z EE σ G):=by
 cases r with
 |ok a e=>exact h
 |ex c e=>exact fun G' H' r q=>h G' σ H' r q
 |no=>exact h
theorem x05{Y:List Str}(ht:∀Z' cl C s₀ H₀ ex,DTs Z' (X.cp Y scope cl C s₀ H₀ ex) (fun _=>E0) ifs c):∀cl C s₀ H₀ ex,PTs (X.cp Y scope cl C s₀ H₀ ex) ifs (cT X.K c):=fun cl C s₀ H₀ ex pins s σ H Q I ⟨Z',h⟩=>ht Z' cl C s₀ H₀ ex pins s σ H Q I h
theorem x06{Y:List Str}(he:∀Z' cl C s₀ H₀ ex,DE Z' (X.cp Y scope cl C s₀ H₀ ex) (fun _=>E0) elt d):∀cl C s₀ H₀ ex,PE (X.cp Y scope cl C s₀ H₀ ex) elt (cE X.K d):=fun cl C s₀ H₀ ex pins s σ H Q I ⟨Z',h⟩=>he Z' cl C s₀ H₀ ex pins s σ H Q I h
theorem ionone{e:List S}(r:Rel K Z G σ H e):∀p,H p=none->p∉Z.io:=fun p hp hi=>r.ion p hi hp
theorem x3c:∀σ H Q,liftF K Z EE (dComp js di c d) σ H Q->tComp (iSeq K (liftE K Z EE di)) 1 js (gName 0) (cT K c) (cE K d) σ H Q:=by
 rintro σ H Q ⟨G,e,rel,h⟩;simp only[dComp,R.holds_bind]at h;refine⟨G,e,rel,h.imp (fun w e1 h G1 v1 H1 r1 s1 p1=>?_) fun _ _ h=>h⟩
 split at h
 ·rename_i ws hw;unfold compK at h;split at h
  ·rename_i hl;split at h
   ·rename_i out ho;obtain⟨G2,s2,r2⟩:=r1.frzs js;have p2:=Rep.mono s2 w p1;have io:=ionone r2;cases w with
    |tup us=>
     cases hw;obtain⟨a,xs,rfl,hq,rp⟩:=p2;exact⟨a,rfl,.inr ⟨⟨xs,r2.sub.tup hq⟩,x16 y82 r2 (s1.trans s2) rp (fun G' H' s s'=>Same.tup s' (Same.tup s hq)) hl io ho h⟩⟩
    |lst us=>
     cases hw;obtain⟨a,xs,rfl,hq,rp⟩:=p2;exact⟨a,rfl,.inl ⟨⟨xs,r2.sub.seq hq⟩,x16 y81 r2 (s1.trans s2) rp (fun G' H' s s'=>Same.seq s' (Same.seq s hq)) hl io ho h⟩⟩
    |_=>cases hw
   ·exact h.elim
  ·exact h.elim
 ·exact h.elim
theorem q2s(hc:X.calm=true)(hi:DE Z X EE iter di)(ok:compOk sc scope N Nf js=true)
  (ht:∀Z' cl C s₀ H₀ ex,DTs Z' (X.cp ([x]++Nf) scope cl C s₀ H₀ ex) (fun _=>E0) ifs c)(he:∀Z' cl C s₀ H₀ ex,DE Z' (X.cp ([x]++Nf) scope cl C s₀ H₀ ex) (fun _=>E0) elt d)
  (hg:∀cl C s₀ H₀ ex,PG (X.cp ([x]++Nf) scope cl C s₀ H₀ ex) (.Name x pt) (gName 0))
  (hsc:X.env.scope=sc:=by rfl)(hN:X.N=N:=by rfl)(hs:∀x,foldedSetIterable iter X.env x=pure x:=by intro _;rfl):
  DF Z X EE (.ListComp elt [⟨.Name x pt,iter,ifs,0⟩] scope pos) (dComp js di c d):=by
 exact PE.mono (x0f (Nl:=[x]) (tc:=cT X.K c) (te:=cE X.K d) hc (x4x hi) ok hg (x05 ht) (x06 he) hsc hN hs) x3c
theorem x07(i:Nat){py spos:Pos}(hNd:X.N.Nodup)(hc:X.calm=true)(hi:DE Z X EE iter di)(ok:compOk sc scope N Nf js=true)
  (ht:∀Z' cl C s₀ H₀ ex,DTs Z' (X.cp ([x]++Nf) scope cl C s₀ H₀ ex) (fun _=>E0) ifs c)(he:∀Z' cl C s₀ H₀ ex,DE Z' (X.cp ([x]++Nf) scope cl C s₀ H₀ ex) (fun _=>E0) elt d)
  (hg:∀cl C s₀ H₀ ex,PG (X.cp ([x]++Nf) scope cl C s₀ H₀ ex) (.Name x pt) (gName 0))
  (hsc:X.env.scope=sc:=by rfl)(hN:X.N=N:=by rfl)(hs:∀x,foldedSetIterable iter X.env x=pure x:=by intro _;rfl)(hiy:X.N[i]?=some y:=by rfl)(hxy:Loc X.env.scope y:=by walk_at "3")(hfy:X.fn y=true\/X.env.scope.names.lookup y=some .local:=by walk_at "2")(hsw:swapsWith (.ListComp elt [⟨.Name x pt,iter,ifs,0⟩] scope pos) (some (.Name y py)) spos.line X.env=pure true:=by rfl):
  DS Z X EE (.Assign [.Name y py] (.ListComp elt [⟨.Name x pt,iter,ifs,0⟩] scope pos) spos) (dSet i (dFz (dComp js di c d))):=by
 refine PS.mono (x3a (Nl:=[x]) (tc:=cT X.K c) (te:=cE X.K d) hc (x4x hi) ok hg (x05 ht) (x06 he) (q1n i hNd hiy hxy hfy) hsw hsc hN hs) ?_;rintro D σ H ⟨G,e,rel,h⟩;refine x3c σ H _ ⟨G,e,rel,?_⟩;refine(x3b h).imp (fun w e1 h G1 a xs H1 r1 s1 q1 q2 q3 q4 p1=>?_) fun _ _ h=>h
 obtain⟨sg,rg⟩:=r1.seen q1 q2 q3 q4;exact h _ _ H1 (rg.set (v:=.ref a) ⟨a,xs,rfl,SqL.of q0m,Reps.mono sg w p1⟩) (s1.trans sg)
theorem x08:∀σ H Q,liftF K Z EE (dCompR rng1 js dA c d) σ H Q->tComp (iRng1 (liftA K Z EE dA)) 1 js (gName 0) (cT K c) (cE K d) σ H Q:=by
 rintro σ H Q ⟨G,e,rel,h⟩;simp only[dCompR,R.holds_bind]at h;refine⟨G,e,rel,h.imp (fun ws e1 h G1 vs H1 r1 s1 p1=>?_) fun _ _ h=>h⟩
 unfold rng1 at h;split at h
 ·rename_i us hh;split at hh
  ·rename_i j;split at hh
   ·rename_i hj;cases hh;obtain⟨y,r,rfl,e1,e2⟩:=p1;cases(show y=V.int j from e1);cases(show r=[]from e2);refine⟨j,rfl,(q81 hj).1,(q81 hj).2,?_⟩;unfold compK at h;split at h
    ·rename_i hl;split at h
     ·rename_i out ho;obtain⟨G2,s2,r2⟩:=r1.frzs js;have z:=x16 (J:=Itr 0 (j-0).toNat) y83 r2 (s1.trans s2) (x04 (lo:=0) (hi:=j)) (fun _ _ _ _=>trivial) hl (ionone r2) ho h
      rwa [w4p]at z
     ·exact h.elim
    ·exact h.elim
   ·cases hh
  ·cases hh
 ·exact h.elim
theorem q7u(hc:X.calm=true)(hm:X.mg "range"=none)(ha:DA Z X EE [a] dA)(ok:compOk sc scope N Nf js=true)
  (ht:∀Z' cl C s₀ H₀ ex,DTs Z' (X.cp ([x]++Nf) scope cl C s₀ H₀ ex) (fun _=>E0) ifs c)(he:∀Z' cl C s₀ H₀ ex,DE Z' (X.cp ([x]++Nf) scope cl C s₀ H₀ ex) (fun _=>E0) elt d)
  (hg:∀cl C s₀ H₀ ex,PG (X.cp ([x]++Nf) scope cl C s₀ H₀ ex) (.Name x pt) (gName 0))
  (hgr:Gl X "range":=by rfl)(hs1:starEach [a] X.env=[(false,eval a X.env)]:=by rfl)(hsc:X.env.scope=sc:=by rfl)(hN:X.N=N:=by rfl)(hs:∀x,foldedSetIterable (.Call (.Name "range" p1) [a] [] p2) X.env x=pure x:=by intro _;rfl):
  DF Z X EE (.ListComp elt [⟨.Name x pt,.Call (.Name "range" p1) [a] [] p2,ifs,0⟩] scope pos) (dCompR rng1 js dA c d):=by
 exact PE.mono (x0f (Nl:=[x]) (tc:=cT X.K c) (te:=cE X.K d) hc (q8t hgr hm ha hs1) ok hg (x05 ht) (x06 he) hsc hN hs) x08
theorem x6q(i:Nat){py spos:Pos}(hNd:X.N.Nodup)(hc:X.calm=true)(hm:X.mg "range"=none)(ha:DA Z X EE [a] dA)(ok:compOk sc scope N Nf js=true)
  (ht:∀Z' cl C s₀ H₀ ex,DTs Z' (X.cp ([x]++Nf) scope cl C s₀ H₀ ex) (fun _=>E0) ifs c)(he:∀Z' cl C s₀ H₀ ex,DE Z' (X.cp ([x]++Nf) scope cl C s₀ H₀ ex) (fun _=>E0) elt d)
  (hg:∀cl C s₀ H₀ ex,PG (X.cp ([x]++Nf) scope cl C s₀ H₀ ex) (.Name x pt) (gName 0))
  (hgr:Gl X "range":=by rfl)(hs1:starEach [a] X.env=[(false,eval a X.env)]:=by rfl)(hsc:X.env.scope=sc:=by rfl)(hN:X.N=N:=by rfl)(hs:∀x,foldedSetIterable (.Call (.Name "range" p1) [a] [] p2) X.env x=pure x:=by intro _;rfl)(hiy:X.N[i]?=some y:=by rfl)(hxy:Loc X.env.scope y:=by walk_at "3")(hfy:X.fn y=true\/X.env.scope.names.lookup y=some .local:=by walk_at "2")(hsw:swapsWith (.ListComp elt [⟨.Name x pt,.Call (.Name "range" p1) [a] [] p2,ifs,0⟩] scope pos) (some (.Name y py)) spos.line X.env=pure true:=by rfl):
  DS Z X EE (.Assign [.Name y py] (.ListComp elt [⟨.Name x pt,.Call (.Name "range" p1) [a] [] p2,ifs,0⟩] scope pos) spos) (dSet i (dFz (dCompR rng1 js dA c d))):=by
 refine PS.mono (x3a (Nl:=[x]) (tc:=cT X.K c) (te:=cE X.K d) hc (q8t hgr hm ha hs1) ok hg (x05 ht) (x06 he) (q1n i hNd hiy hxy hfy) hsw hsc hN hs) ?_;rintro D σ H ⟨G,e,rel,h⟩;refine x08 σ H _ ⟨G,e,rel,?_⟩;refine(x3b h).imp (fun w e1 h G1 a xs H1 r1 s1 q1 q2 q3 q4 p1=>?_) fun _ _ h=>h
 obtain⟨sg,rg⟩:=r1.seen q1 q2 q3 q4;exact h _ _ H1 (rg.set (v:=.ref a) ⟨a,xs,rfl,SqL.of q0m,Reps.mono sg w p1⟩) (s1.trans sg)
end
mutual
noncomputable def depW:W->Nat
 |.tup ws=>depWs ws+1
 |.lst ws=>depWs ws+1
 |_=>0
noncomputable def depWs:List W->Nat
 |[]=>0
 |w::ws=>max (depW w) (depWs ws)
end
mutual
theorem x17(I:Inv X pins σ H s)(sg:Same G H):∀(w:W){w':W}{v:V}{k:Bool},Rep X.K G w v->Rep X.K G w' v->eqW w w'=some k->k=true
 |.non,w',v,k,h,h',e=>by
  cases(show v=.non from h);cases w'<;>first|(cases e;done)|(cases h';cases e;rfl)|(exfalso;obtain⟨_,_,z,_⟩:=h';first|done|cases z)|(exfalso;obtain⟨_,z,_⟩:=h';first|done|cases z)
 |.bl b,w',v,k,h,h',e=>by
  cases(show v=.bl b from h);cases w'<;>first|(cases e;done)|(cases h';cases e;exact beq_self_eq_true _)|(exfalso;obtain⟨_,_,z,_⟩:=h';first|done|cases z)|(exfalso;obtain⟨_,z,_⟩:=h';first|done|cases z)
 |.int b,w',v,k,h,h',e=>by
  cases(show v=.int b from h);cases w'<;>first|(cases e;done)|(cases h';cases e;exact beq_self_eq_true _)|(exfalso;obtain⟨_,_,z,_⟩:=h';first|done|cases z)|(exfalso;obtain⟨_,z,_⟩:=h';first|done|cases z)
 |.str b,w',v,k,h,h',e=>by
  cases(show v=.str b from h);cases w'<;>first|(cases e;done)|(cases h';cases e;exact beq_self_eq_true _)|(exfalso;obtain⟨_,_,z,_⟩:=h';first|done|cases z)|(exfalso;obtain⟨_,z,_⟩:=h';first|done|cases z)
 |.tup ws,w',v,k,h,h',e=>by
  obtain⟨a,xs,rfl,q,r⟩:=h;cases w' with
  |tup ws'=>
   obtain⟨a',xs',z,q',r'⟩:=h';cases z;have:=I.tuple_inj (sg.tup q) (sg.tup q');subst this;exact x0h I sg ws r r' (e)
  |lst ws'=>
   obtain⟨a',xs',z,q',r'⟩:=h';cases z;obtain⟨its,_,p1,_⟩:=I.tuple (sg.tup q);obtain⟨its2,_,p2,_⟩:=I.list (sg.seq q');exact absurd rfl (SeqAt.ne_of_list_tuple p2.isList (show s.heap.IsTuple a _ from p1))
  |non=>cases h'
  |bl _=>cases h'
  |int _=>cases h'
  |str _=>cases h'
  |exc _=>cases e
  |dic _=>cases e
  |dw _ _ _ _=>cases e
  |fn _ _ _=>cases e
 |.lst ws,w',v,k,h,h',e=>by
  obtain⟨a,xs,rfl,q,r⟩:=h;cases w' with
  |lst ws'=>
   obtain⟨a',xs',z,q',r'⟩:=h';cases z;have:=I.list_inj (sg.seq q) (sg.seq q');subst this;exact x0h I sg ws r r' (e)
  |tup ws'=>
   obtain⟨a',xs',z,q',r'⟩:=h';cases z;obtain⟨its,_,p1,_⟩:=I.tuple (sg.tup q');obtain⟨its2,_,p2,_⟩:=I.list (sg.seq q);exact absurd rfl (SeqAt.ne_of_list_tuple p2.isList (show s.heap.IsTuple a _ from p1))
  |non=>cases h'
  |bl _=>cases h'
  |int _=>cases h'
  |str _=>cases h'
  |exc _=>cases e
  |dic _=>cases e
  |dw _ _ _ _=>cases e
  |fn _ _ _=>cases e
 |.exc c,w',v,k,h,h',e=>by cases w'<;>cases e
 |.dic c,w',v,k,h,h',e=>by cases w'<;>cases e
 |.dw _ _ _ _,w',v,k,h,h',e=>by cases w'<;>cases e
 |.fn _ _ _,w',v,k,h,h',e=>by cases w'<;>cases e
theorem x0h(I:Inv X pins σ H s)(sg:Same G H):∀(ws:List W){ws':List W}{vs:List V}{k:Bool},Reps X.K G ws vs->Reps X.K G ws' vs->eqWs ws ws'=some k->k=true
 |[],ws',vs,k,h,h',e=>by
  cases h;cases ws' with
  |nil=>cases e;rfl
  |cons _ _=>obtain⟨_,_,z,_⟩:=h';cases z
 |w::ws,ws',vs,k,h,h',e=>by
  obtain⟨x,r,rfl,h1,h2⟩:=h;cases ws' with
  |nil=>cases h'
  |cons w' ws'=>
   obtain⟨x',r',z,h1',h2'⟩:=h';cases z;have e:(match eqW w w',eqWs ws ws' with|some a,some b=>some (a&&b)|_,_=>none)=some k:=e;cases q1:eqW w w' with
   |none=>rw[q1]at e;cases e
   |some b1=>
    cases q2:eqWs ws ws' with
    |none=>rw[q1,q2]at e;cases e
    |some b2=>
     rw[q1,q2]at e;rw[x17 I sg w h1 h1' q1,x0h I sg ws h2 h2' q2]at e;cases e;rfl
end
theorem q5j:∀{xs ys:List W}{b:Bool},eqWs xs ys=some b->(∀(j:Nat) x y,xs[j]?=some x->ys[j]?=some y->∃k,eqW x y=some k)/\b=((List.range (min xs.length ys.length)).all (fun j=>((eqW (xs.getD j .non) (ys.getD j .non)).getD false))&&xs.length==ys.length):=by
 intro xs
 induction xs with
 |nil=>
  intro ys b h;refine⟨fun j x y hx=>by simp at hx,?_⟩
  cases ys<;>(cases h;simp)
 |cons x xs ih=>
  intro ys b h;cases ys with
  |nil=>refine⟨fun j x y hx hy=>by simp at hy,?_⟩;cases h;simp
  |cons y ys=>
   have h:(match eqW x y,eqWs xs ys with|some a,some b=>some (a&&b)|_,_=>none)=some b:=h;cases q1:eqW x y with
   |none=>rw[q1]at h;cases h
   |some b1=>
    cases q2:eqWs xs ys with
    |none=>rw[q1,q2]at h;cases h
    |some b2=>
     rw[q1,q2]at h;cases h;obtain⟨h1,h2⟩:=ih q2;refine⟨fun j x' y' hx hy=>?_,?_⟩
     ·cases j with
      |zero=>simp at hx hy;subst hx hy;exact⟨_,q1⟩
      |succ j=>exact h1 j x' y' (by simpa using hx) (by simpa using hy)
     ·rw[h2];simp only[w0o,Nat.succ_min_succ,List.range_succ_eq_map,w1s,w3m]
      have e0:(eqW ((x::xs).getD 0 .non) ((y::ys).getD 0 .non)).getD false=b1:=by
       show(eqW x y).getD false=b1;rw[q1];rfl
      rw[e0,w4e];congr 1;congr 1;simp
theorem q82:∀{xs:List W}{j:Nat}{x:W},xs[j]?=some x->depW x<=depWs xs
 |[],_,_,h=>by simp at h
 |y::ys,0,x,h=>by simp at h;subst h;simp only[depWs];omega
 |y::ys,j+1,x,h=>by
  have:=q82 (xs:=ys) (j:=j) (by simpa using h);simp only[depWs];omega
theorem q9p{xs:List α}{j:Nat}{x d:α}(h:xs[j]?=some x):xs.getD j d=x:=by
 simp[List.getD,h]
theorem x41(I:Inv X pins σ H s)(sg:Same G H){b:Bool}(hu:A.units<cLine)(n1:∀ws,w=.tup ws->∀ws',w'≠.tup ws')(n2:∀ws,w=.lst ws->∀ws',w'≠.lst ws')(h:Rep X.K G w v)(h':Rep X.K G w' v')(r:RelV v u)(r':RelV v' u')(e:eqW w w'=some b):SeqAt.RcAt A s u u' b:=by
 have tl:∀{ws:List W}{v:V}{u:Value},Rep X.K G (.lst ws) v->RelV v u->∃l items,u=.ref l/\s.heap.IsList l items:=fun h r=>by
  obtain⟨a,xs,rfl,q,_⟩:=h;cases r;obtain⟨its,_,p,_⟩:=I.list (sg.seq q);exact⟨a,_,rfl,p.isList⟩
 have tt:∀{ws:List W}{v:V}{u:Value},Rep X.K G (.tup ws) v->RelV v u->∃l items,u=.ref l/\s.heap.IsTuple l items:=fun h r=>by
  obtain⟨a,xs,rfl,q,_⟩:=h;cases r;obtain⟨its,_,p,_⟩:=I.tuple (sg.tup q);exact⟨a,_,rfl,p⟩
 have tn:∀{v:V}{u:Value},Rep X.K G .non v->RelV v u->u=.none:=fun h r=>by cases h;exact r
 have tb:∀{k:Bool}{v:V}{u:Value},Rep X.K G (.bl k) v->RelV v u->u=.bool k:=fun h r=>by cases h;exact r
 have ti:∀{k:Int}{v:V}{u:Value},Rep X.K G (.int k) v->RelV v u->∃t,u=.int k t:=fun h r=>by cases h;exact r
 have ts:∀{k:Str}{v:V}{u:Value},Rep X.K G (.str k) v->RelV v u->∃t,u=.str k t:=fun h r=>by cases h;exact r
 cases w with
 |non=>
  obtain rfl:=tn h r;cases w' with
  |non=>obtain rfl:=tn h' r';cases e;exact .none_none
  |bl k=>obtain rfl:=tb h' r';cases e;exact .none_bool k
  |int k=>obtain⟨t,rfl⟩:=ti h' r';cases e;exact .none_int k t
  |str k=>obtain⟨t,rfl⟩:=ts h' r';cases e;exact .none_str k t
  |tup k=>obtain⟨l,it,rfl,p⟩:=tt h' r';cases e;exact .none_tuple p hu
  |lst k=>obtain⟨l,it,rfl,p⟩:=tl h' r';cases e;exact .none_list p hu
  |exc k=>cases e
  |dic k=>cases e
  |dw _ _ _ _=>cases e
  |fn _ _ _=>cases e
 |bl j=>
  obtain rfl:=tb h r;cases w' with
  |non=>obtain rfl:=tn h' r';cases e;exact .bool_none j
  |bl k=>obtain rfl:=tb h' r';cases e;exact .bool_bool j k
  |int k=>obtain⟨t,rfl⟩:=ti h' r';cases e;exact .bool_int j k t
  |str k=>obtain⟨t,rfl⟩:=ts h' r';cases e;exact .bool_str j k t
  |tup k=>obtain⟨l,it,rfl,p⟩:=tt h' r';cases e;exact .bool_tuple j p hu
  |lst k=>obtain⟨l,it,rfl,p⟩:=tl h' r';cases e;exact .bool_list j p hu
  |exc k=>cases e
  |dic k=>cases e
  |dw _ _ _ _=>cases e
  |fn _ _ _=>cases e
 |int j=>
  obtain⟨t1,rfl⟩:=ti h r;cases w' with
  |non=>obtain rfl:=tn h' r';cases e;exact .int_none j t1
  |bl k=>obtain rfl:=tb h' r';cases e;exact .int_bool j t1 k
  |int k=>obtain⟨t,rfl⟩:=ti h' r';cases e;exact .int_int j t1 k t
  |str k=>obtain⟨t,rfl⟩:=ts h' r';cases e;exact .int_str j t1 k t
  |tup k=>obtain⟨l,it,rfl,p⟩:=tt h' r';cases e;exact .int_tuple j t1 p hu
  |lst k=>obtain⟨l,it,rfl,p⟩:=tl h' r';cases e;exact .int_list j t1 p hu
  |exc k=>cases e
  |dic k=>cases e
  |dw _ _ _ _=>cases e
  |fn _ _ _=>cases e
 |str j=>
  obtain⟨t1,rfl⟩:=ts h r;cases w' with
  |non=>obtain rfl:=tn h' r';cases e;exact .str_none j t1
  |bl k=>obtain rfl:=tb h' r';cases e;exact .str_bool j t1 k
  |int k=>obtain⟨t,rfl⟩:=ti h' r';cases e;exact .str_int j t1 k t
  |str k=>obtain⟨t,rfl⟩:=ts h' r';cases e;exact .str_str j t1 k t
  |tup k=>obtain⟨l,it,rfl,p⟩:=tt h' r';cases e;exact .str_tuple j t1 p hu
  |lst k=>obtain⟨l,it,rfl,p⟩:=tl h' r';cases e;exact .str_list j t1 p hu
  |exc k=>cases e
  |dic k=>cases e
  |dw _ _ _ _=>cases e
  |fn _ _ _=>cases e
 |tup j=>
  obtain⟨l1,it1,rfl,p1⟩:=tt h r;cases w' with
  |non=>obtain rfl:=tn h' r';cases e;exact .tuple_none p1 hu
  |bl k=>obtain rfl:=tb h' r';cases e;exact .tuple_bool k p1 hu
  |int k=>obtain⟨t,rfl⟩:=ti h' r';cases e;exact .tuple_int k t p1 hu
  |str k=>obtain⟨t,rfl⟩:=ts h' r';cases e;exact .tuple_str k t p1 hu
  |tup k=>exact absurd rfl (n1 j rfl k)
  |lst k=>obtain⟨l,it,rfl,p⟩:=tl h' r';cases e;exact .tuple_list p1 p hu
  |exc k=>cases e
  |dic k=>cases e
  |dw _ _ _ _=>cases e
  |fn _ _ _=>cases e
 |lst j=>
  obtain⟨l1,it1,rfl,p1⟩:=tl h r;cases w' with
  |non=>obtain rfl:=tn h' r';cases e;exact .list_none p1 hu
  |bl k=>obtain rfl:=tb h' r';cases e;exact .list_bool k p1 hu
  |int k=>obtain⟨t,rfl⟩:=ti h' r';cases e;exact .list_int k t p1 hu
  |str k=>obtain⟨t,rfl⟩:=ts h' r';cases e;exact .list_str k t p1 hu
  |lst k=>exact absurd rfl (n2 j rfl k)
  |tup k=>obtain⟨l,it,rfl,p⟩:=tt h' r';cases e;exact .list_tuple p1 p hu
  |exc k=>cases e
  |dic k=>cases e
  |dw _ _ _ _=>cases e
  |fn _ _ _=>cases e
 |exc j=>cases w'<;>cases e
 |dic j=>cases w'<;>cases e
 |dw _ _ _ _=>cases w'<;>cases e
 |fn _ _ _=>cases w'<;>cases e
theorem x7x(I:Inv X pins σ H s)(sg:Same G H){b:Bool}(hd:depW w<=0)(hu:A.units<cLine)(h:Rep X.K G w v)(h':Rep X.K G w' v')(r:RelV v u)(r':RelV v' u')(e:eqW w w'=some b):SeqAt.RcAt A s u u' b:=
 x41 I sg hu (fun ws z=>by subst z;simp[depW]at hd) (fun ws z=>by subst z;simp[depW]at hd) h h' r r' e
theorem x42(h:Rep K G w v):∀x,v≠.flt x:=fun x z=>by
 subst z;cases w with
 |tup ws=>obtain⟨_,_,z,_⟩:=h;cases z
 |lst ws=>obtain⟨_,_,z,_⟩:=h;cases z
 |exc c=>obtain⟨_,z,_⟩:=h;cases z
 |dic c=>obtain⟨_,z,_⟩:=h;cases z
 |dw _ _ _ _=>obtain⟨_,_,_,z,_⟩:=h;cases z
 |fn _ _ _=>obtain⟨_,_,_,_,z,_⟩:=h;cases z
 |_=>cases h
theorem x43{b:Bool}(rv:RelV v u)(hf:∀x,v≠.flt x)(h:SeqAt.RcAt A s u u' b)(hs:u=u'->b=true):SeqAt.EqAt A s u u' b:=fun prog w E Q hq=>by
 unfold eqBool;refine wpAny_holding ?_;refine wpAny_ite_split (fun hab=>?_) (fun _=>?_)
 ·have hb:=hs (eq_of_beq hab);subst hb;exact wpAny_bind (wpAny_rule (wpAny_pure hq))
 ·have z:=wpAny_bind (h prog w E (fun a s'=>wpAny (model prog w) A (truthOfDropped a) Q E s') (wpAny_truthy_bool hq))
  cases v with
  |flt x=>exact absurd rfl (hf x)
  |non=>cases rv;exact z
  |bl _=>cases rv;exact z
  |int _=>obtain⟨t,rfl⟩:=rv;exact z
  |str _=>obtain⟨t,rfl⟩:=rv;exact z
  |byt _=>obtain⟨t,rfl⟩:=rv;exact z
  |ref _=>cases rv;exact z
  |ty _=>cases rv;exact z
theorem y4i(I:Inv X pins σ H s)(sg:Same G H):∀(n:Nat){w w':W}{v v':V}{u u':Value}{b:Bool}{A:Around},depW w<=n->A.units+n<cLine->Rep X.K G w v->Rep X.K G w' v'->RelV v u->RelV v' u'->eqW w w'=some b->SeqAt.RcAt A s u u' b:=by
 intro n
 induction n with
 |zero=>
  intro w w' v v' u u' b A hd hu h h' r r' e;exact x7x I sg hd (by omega) h h' r r' e
 |succ n ih=>
  intro w w' v v' u u' b A hd hu h h' r r' e
  have items:∀{ws ws':List W}{xs xs':List V}{its its':List Value}{k:Bool},depWs ws<=n->Reps X.K G ws xs->Reps X.K G ws' xs'->Vals xs its->Vals xs' its'->eqWs ws ws'=some k ->
    ∀j (h1:j<its.toArray.size) (h2:j<its'.toArray.size),SeqAt.EqAt A.in1 s its.toArray[j] its'.toArray[j] ((eqW (ws.getD j .non) (ws'.getD j .non)).getD false):=by
   intro ws ws' xs xs' its its' k hd r1 r2 v1 v2 he j h1 h2;have l1:=r1.length;have l2:=r2.length;have m1:=v1.length;have m2:=v2.length;have i1:j<xs.length:=by rw[m1];simpa using h1
   have i2:j<xs'.length:=by rw[m2];simpa using h2
   obtain⟨u1,e1,ru1⟩:=v1.get (w0b i1);obtain⟨u2,e2,ru2⟩:=v2.get (w0b i2);obtain⟨w1,f1,p1⟩:=r1.getV (w0b i1);obtain⟨w2,f2,p2⟩:=r2.getV (w0b i2);obtain⟨b',hb'⟩:=(q5j he).1 j w1 w2 f1 f2;rw[q9p f1,q9p f2,hb']
   have g1:its.toArray[j]=u1:=by
    obtain⟨_,z⟩:=w0c.mp e1
    simpa using z
   have g2:its'.toArray[j]=u2:=by
    obtain⟨_,z⟩:=w0c.mp e2
    simpa using z
   rw[g1,g2];have hdw:depW w1<=n:=w0g (q82 f1) hd
   have hun:A.in1.units+n<cLine:=by
    have:A.in1.units=A.units+1:=rfl;omega
   refine x43 ru1 (x42 p1) (ih hdw hun p1 p2 ru1 ru2 hb') fun z=>?_
   subst z;have:=ru1.inj ru2;rw[this]at p1;exact x17 I sg w1 p1 p2 hb'
  cases w with
  |tup ws=>
   cases w' with
   |tup ws'=>
    obtain⟨a,xs,rfl,q1,r1⟩:=h;obtain⟨a',xs',rfl,q2,r2⟩:=h';cases r;cases r';obtain⟨its,v1,p1,_⟩:=I.tuple (sg.tup q1);obtain⟨its',v2,p2,_⟩:=I.tuple (sg.tup q2);have e:eqWs ws ws'=some b:=e;have z:=SeqAt.RcAt.tuples (show s.heap.IsTuple a _ from p1) (show s.heap.IsTuple a' _ from p2) (show A.units<cLine by omega) (items (by simp only[depW]at hd;omega) r1 r2 v1 v2 e);have l1:=r1.length;have l2:=r2.length;have m1:=v1.length;have m2:=v2.length;have eb:=(q5j e).2;have n1:its.length=ws.length:=by omega
    have n2:its'.length=ws'.length:=by omega
    rw[eb];simp only[w0d,n1,n2]at z;exact z
   |_=>exact x41 I sg (by omega) (by intro ws';simp) (by intro ws';simp) h h' r r' e
  |lst ws=>
   cases w' with
   |lst ws'=>
    obtain⟨a,xs,rfl,q1,r1⟩:=h;obtain⟨a',xs',rfl,q2,r2⟩:=h';cases r;cases r';obtain⟨its,v1,p1,_⟩:=I.list (sg.seq q1);obtain⟨its',v2,p2,_⟩:=I.list (sg.seq q2);have e:eqWs ws ws'=some b:=e;have l1:=r1.length;have l2:=r2.length;have m1:=v1.length;have m2:=v2.length;have eb:=(q5j e).2;have n1:its.length=ws.length:=by omega
    have n2:its'.length=ws'.length:=by omega
    by_cases hl:ws.length=ws'.length
    ·have z:=SeqAt.RcAt.lists p1.isList p2.isList (by simp only[w0d];omega) (show A.units<cLine by omega) (items (by simp only[depW]at hd;omega) r1 r2 v1 v2 e);rw[eb,hl];simp only[w0d,n1,hl,Nat.min_self,beq_self_eq_true,w4m]at z |-
     exact z
    ·have z:=SeqAt.RcAt.lists_lengths (A:=A) p1.isList p2.isList (by simp only[w0d,bne_iff_ne];omega) (show A.units<cLine by omega)
     have:b=false:=by
      rw[eb];have:(ws.length==ws'.length)=false:=by simp[hl]
      rw[this,w4f]
     rw[this];exact z
   |_=>exact x41 I sg (by omega) (by intro ws';simp) (by intro ws';simp) h h' r r' e
  |_=>exact x7x I sg (by simp[depW]) (by omega) h h' r r' e
theorem x0i(I:Inv X pins σ H s)(sg:Same G H){b:Bool}(hu:A.units<cLine)(n1:∀ws,w=.tup ws->∀ws',w'≠.tup ws')(n2:∀ws,w=.lst ws->∀ws',w'≠.lst ws')(h:Rep X.K G w v)(h':Rep X.K G w' v')(r:RelV v u)(r':RelV v' u')(e:eqW w w'=some b):SeqAt.RcNeAt A s u u' (!b):=by
 have tl:∀{ws:List W}{v:V}{u:Value},Rep X.K G (.lst ws) v->RelV v u->∃l items,u=.ref l/\s.heap.IsList l items:=fun h r=>by
  obtain⟨a,xs,rfl,q,_⟩:=h;cases r;obtain⟨its,_,p,_⟩:=I.list (sg.seq q);exact⟨a,_,rfl,p.isList⟩
 have tt:∀{ws:List W}{v:V}{u:Value},Rep X.K G (.tup ws) v->RelV v u->∃l items,u=.ref l/\s.heap.IsTuple l items:=fun h r=>by
  obtain⟨a,xs,rfl,q,_⟩:=h;cases r;obtain⟨its,_,p,_⟩:=I.tuple (sg.tup q);exact⟨a,_,rfl,p⟩
 have tn:∀{v:V}{u:Value},Rep X.K G .non v->RelV v u->u=.none:=fun h r=>by cases h;exact r
 have tb:∀{k:Bool}{v:V}{u:Value},Rep X.K G (.bl k) v->RelV v u->u=.bool k:=fun h r=>by cases h;exact r
 have ti:∀{k:Int}{v:V}{u:Value},Rep X.K G (.int k) v->RelV v u->∃t,u=.int k t:=fun h r=>by cases h;exact r
 have ts:∀{k:Str}{v:V}{u:Value},Rep X.K G (.str k) v->RelV v u->∃t,u=.str k t:=fun h r=>by cases h;exact r
 cases w with
 |non=>
  obtain rfl:=tn h r;cases w' with
  |non=>obtain rfl:=tn h' r';cases e;exact .none_none
  |bl k=>obtain rfl:=tb h' r';cases e;exact .none_bool k
  |int k=>obtain⟨t,rfl⟩:=ti h' r';cases e;exact .none_int k t
  |str k=>obtain⟨t,rfl⟩:=ts h' r';cases e;exact .none_str k t
  |tup k=>obtain⟨l,it,rfl,p⟩:=tt h' r';cases e;exact .none_tuple p hu
  |lst k=>obtain⟨l,it,rfl,p⟩:=tl h' r';cases e;exact .none_list p hu
  |exc k=>cases e
  |dic k=>cases e
  |dw _ _ _ _=>cases e
  |fn _ _ _=>cases e
 |bl j=>
  obtain rfl:=tb h r;cases w' with
  |non=>obtain rfl:=tn h' r';cases e;exact .bool_none j
  |bl k=>obtain rfl:=tb h' r';cases e;exact .bool_bool j k
  |int k=>obtain⟨t,rfl⟩:=ti h' r';cases e;exact .bool_int j k t
  |str k=>obtain⟨t,rfl⟩:=ts h' r';cases e;exact .bool_str j k t
  |tup k=>obtain⟨l,it,rfl,p⟩:=tt h' r';cases e;exact .bool_tuple j p hu
  |lst k=>obtain⟨l,it,rfl,p⟩:=tl h' r';cases e;exact .bool_list j p hu
  |exc k=>cases e
  |dic k=>cases e
  |dw _ _ _ _=>cases e
  |fn _ _ _=>cases e
 |int j=>
  obtain⟨t1,rfl⟩:=ti h r;cases w' with
  |non=>obtain rfl:=tn h' r';cases e;exact .int_none j t1
  |bl k=>obtain rfl:=tb h' r';cases e;exact .int_bool j t1 k
  |int k=>obtain⟨t,rfl⟩:=ti h' r';cases e;exact .int_int j t1 k t
  |str k=>obtain⟨t,rfl⟩:=ts h' r';cases e;exact .int_str j t1 k t
  |tup k=>obtain⟨l,it,rfl,p⟩:=tt h' r';cases e;exact .int_tuple j t1 p hu
  |lst k=>obtain⟨l,it,rfl,p⟩:=tl h' r';cases e;exact .int_list j t1 p hu
  |exc k=>cases e
  |dic k=>cases e
  |dw _ _ _ _=>cases e
  |fn _ _ _=>cases e
 |str j=>
  obtain⟨t1,rfl⟩:=ts h r;cases w' with
  |non=>obtain rfl:=tn h' r';cases e;exact .str_none j t1
  |bl k=>obtain rfl:=tb h' r';cases e;exact .str_bool j t1 k
  |int k=>obtain⟨t,rfl⟩:=ti h' r';cases e;exact .str_int j t1 k t
  |str k=>obtain⟨t,rfl⟩:=ts h' r';cases e;exact .str_str j t1 k t
  |tup k=>obtain⟨l,it,rfl,p⟩:=tt h' r';cases e;exact .str_tuple j t1 p hu
  |lst k=>obtain⟨l,it,rfl,p⟩:=tl h' r';cases e;exact .str_list j t1 p hu
  |exc k=>cases e
  |dic k=>cases e
  |dw _ _ _ _=>cases e
  |fn _ _ _=>cases e
 |tup j=>
  obtain⟨l1,it1,rfl,p1⟩:=tt h r;cases w' with
  |non=>obtain rfl:=tn h' r';cases e;exact .tuple_none p1 hu
  |bl k=>obtain rfl:=tb h' r';cases e;exact .tuple_bool k p1 hu
  |int k=>obtain⟨t,rfl⟩:=ti h' r';cases e;exact .tuple_int k t p1 hu
  |str k=>obtain⟨t,rfl⟩:=ts h' r';cases e;exact .tuple_str k t p1 hu
  |tup k=>exact absurd rfl (n1 j rfl k)
  |lst k=>obtain⟨l,it,rfl,p⟩:=tl h' r';cases e;exact .tuple_list p1 p hu
  |exc k=>cases e
  |dic k=>cases e
  |dw _ _ _ _=>cases e
  |fn _ _ _=>cases e
 |lst j=>
  obtain⟨l1,it1,rfl,p1⟩:=tl h r;cases w' with
  |non=>obtain rfl:=tn h' r';cases e;exact .list_none p1 hu
  |bl k=>obtain rfl:=tb h' r';cases e;exact .list_bool k p1 hu
  |int k=>obtain⟨t,rfl⟩:=ti h' r';cases e;exact .list_int k t p1 hu
  |str k=>obtain⟨t,rfl⟩:=ts h' r';cases e;exact .list_str k t p1 hu
  |lst k=>exact absurd rfl (n2 j rfl k)
  |tup k=>obtain⟨l,it,rfl,p⟩:=tt h' r';cases e;exact .list_tuple p1 p hu
  |exc k=>cases e
  |dic k=>cases e
  |dw _ _ _ _=>cases e
  |fn _ _ _=>cases e
 |exc j=>cases w'<;>cases e
 |dic j=>cases w'<;>cases e
 |dw _ _ _ _=>cases w'<;>cases e
 |fn _ _ _=>cases w'<;>cases e
theorem x99(I:Inv X pins σ H s)(sg:Same G H){b:Bool}(hd:depW w<=0)(hu:A.units<cLine)(h:Rep X.K G w v)(h':Rep X.K G w' v')(r:RelV v u)(r':RelV v' u')(e:eqW w w'=some b):SeqAt.RcNeAt A s u u' (!b):=
 x0i I sg hu (fun ws z=>by subst z;simp[depW]at hd) (fun ws z=>by subst z;simp[depW]at hd) h h' r r' e
theorem x44(I:Inv X pins σ H s)(sg:Same G H)(hu:A.units+(n+1)<cLine){ws':List W}{xs':List V}{its its':List Value}{k:Bool}(hd:depWs ws<=n)(r1:Reps X.K G ws xs)(r2:Reps X.K G ws' xs')(v1:Vals xs its)(v2:Vals xs' its')(he:eqWs ws ws'=some k):
  ∀j (h1:j<its.toArray.size) (h2:j<its'.toArray.size),SeqAt.EqAt A.in1 s its.toArray[j] its'.toArray[j] ((eqW (ws.getD j .non) (ws'.getD j .non)).getD false):=by
 intro j h1 h2;have l1:=r1.length;have l2:=r2.length;have m1:=v1.length;have m2:=v2.length;have i1:j<xs.length:=by rw[m1];simpa using h1
 have i2:j<xs'.length:=by rw[m2];simpa using h2
 obtain⟨u1,e1,ru1⟩:=v1.get (w0b i1);obtain⟨u2,e2,ru2⟩:=v2.get (w0b i2);obtain⟨w1,f1,p1⟩:=r1.getV (w0b i1);obtain⟨w2,f2,p2⟩:=r2.getV (w0b i2);obtain⟨b',hb'⟩:=(q5j he).1 j w1 w2 f1 f2;rw[q9p f1,q9p f2,hb']
 have g1:its.toArray[j]=u1:=by
  obtain⟨_,z⟩:=w0c.mp e1
  simpa using z
 have g2:its'.toArray[j]=u2:=by
  obtain⟨_,z⟩:=w0c.mp e2
  simpa using z
 rw[g1,g2];have hdw:depW w1<=n:=w0g (q82 f1) hd
 have hun:A.in1.units+n<cLine:=by
  have:A.in1.units=A.units+1:=rfl;omega
 refine x43 ru1 (x42 p1) (y4i I sg n hdw hun p1 p2 ru1 ru2 hb') fun z=>?_
 subst z;have:=ru1.inj ru2;rw[this]at p1;exact x17 I sg w1 p1 p2 hb'
theorem y5j(I:Inv X pins σ H s)(sg:Same G H)(n:Nat){b:Bool}(hd:depW w<=n+1)(hu:A.units+(n+1)<cLine)(h:Rep X.K G w v)(h':Rep X.K G w' v')(r:RelV v u)(r':RelV v' u')(e:eqW w w'=some b):SeqAt.RcNeAt A s u u' (!b):=by
 cases w with
 |tup ws=>
  cases w' with
  |tup ws'=>
   obtain⟨a,xs,rfl,q1,r1⟩:=h;obtain⟨a',xs',rfl,q2,r2⟩:=h';cases r;cases r';obtain⟨its,v1,p1,_⟩:=I.tuple (sg.tup q1);obtain⟨its',v2,p2,_⟩:=I.tuple (sg.tup q2);have e:eqWs ws ws'=some b:=e;have z:=SeqAt.RcNeAt.tuples (show s.heap.IsTuple a _ from p1) (show s.heap.IsTuple a' _ from p2) (show A.units<cLine by omega) (x44 I sg hu (by simp only[depW]at hd;omega) r1 r2 v1 v2 e);have l1:=r1.length;have l2:=r2.length;have m1:=v1.length;have m2:=v2.length;have eb:=(q5j e).2;have n1:its.length=ws.length:=by omega
   have n2:its'.length=ws'.length:=by omega
   rw[eb];simp only[w0d,n1,n2]at z;exact z
  |_=>exact x0i I sg (by omega) (by intro ws';simp) (by intro ws';simp) h h' r r' e
 |lst ws=>
  cases w' with
  |lst ws'=>
   obtain⟨a,xs,rfl,q1,r1⟩:=h;obtain⟨a',xs',rfl,q2,r2⟩:=h';cases r;cases r';obtain⟨its,v1,p1,_⟩:=I.list (sg.seq q1);obtain⟨its',v2,p2,_⟩:=I.list (sg.seq q2);have e:eqWs ws ws'=some b:=e;have l1:=r1.length;have l2:=r2.length;have m1:=v1.length;have m2:=v2.length;have eb:=(q5j e).2;have n1:its.length=ws.length:=by omega
   have n2:its'.length=ws'.length:=by omega
   by_cases hl:ws.length=ws'.length
   ·have z:=SeqAt.RcNeAt.lists p1.isList p2.isList (by simp only[w0d];omega) (show A.units<cLine by omega) (x44 I sg hu (by simp only[depW]at hd;omega) r1 r2 v1 v2 e);rw[eb,hl];simp only[w0d,n1,hl,Nat.min_self,beq_self_eq_true,w4m]at z |-
    exact z
   ·have z:=SeqAt.RcNeAt.lists_lengths (A:=A) p1.isList p2.isList (by simp only[w0d,bne_iff_ne];omega) (show A.units<cLine by omega)
    have:b=false:=by
     rw[eb];have:(ws.length==ws'.length)=false:=by simp[hl]
     rw[this,w4f]
    rw[this];exact z
  |_=>exact x0i I sg (by omega) (by intro ws';simp) (by intro ws';simp) h h' r r' e
 |_=>exact x99 I sg (by simp[depW]) (by omega) h h' r r' e
noncomputable def eq2(x y:W):Option W:=if depW x<=150 then(eqW x y).map .bl else none
def rEqD(K:PySem.W.Frag):R2:=fun x y H Q=>∃G wx wy b,Same G H/\depW wx<=150/\Rep K G wx x/\Rep K G wy y/\eqW wx wy=some b/\Q (.bl b) H
theorem y0a(hu:X.A.units+150<cLine):OpR X (compareOp .Eq) (rEqD X.K):=by
 intro pins s σ H x y v u Q I rx ry h;obtain⟨G,wx,wy,b,sg,hd,hx,hy,e,q⟩:=h;exact y4i I sg 150 hd hu hx hy rx ry e _ _ _ _ ⟨.bl b,H,I,rfl,q⟩
theorem y4j:Op2 K (rEqD K) eq2:=by
 intro G H x y wx wy w Q s px py hf h;unfold eq2 at hf;split at hf
 ·rename_i hd;obtain⟨b,hb,rfl⟩:=w0n.mp hf;exact⟨G,wx,wy,b,s,hd,px,py,hb,h G _ H (.refl s) rfl⟩
 ·cases hf
noncomputable def ne2(x y:W):Option W:=if depW x<=150 then(eqW x y).map fun b=>.bl (!b)else none
def rNeD(K:PySem.W.Frag):R2:=fun x y H Q=>∃G wx wy b,Same G H/\depW wx<=150/\Rep K G wx x/\Rep K G wy y/\eqW wx wy=some b/\Q (.bl (!b)) H
theorem y84(hu:X.A.units+150<cLine):OpR X (compareOp .NotEq) (rNeD X.K):=by
 intro pins s σ H x y v u Q I rx ry h;obtain⟨G,wx,wy,b,sg,hd,hx,hy,e,q⟩:=h;exact y5j I sg 149 hd hu hx hy rx ry e _ _ _ _ ⟨.bl (!b),H,I,rfl,q⟩
theorem z10:Op2 K (rNeD K) ne2:=by
 intro G H x y wx wy w Q s px py hf h;unfold ne2 at hf;split at hf
 ·rename_i hd;obtain⟨b,hb,rfl⟩:=w0n.mp hf;exact⟨G,wx,wy,b,s,hd,px,py,hb,h G _ H (.refl s) rfl⟩
 ·cases hf
noncomputable def isW:W->W->Option W
 |.non,.non=>some (.bl true)
 |_,.non=>some (.bl false)
 |.bl a,.bl b=>some (.bl (a==b))
 |_,.bl _=>some (.bl false)
 |_,_=>none
noncomputable def nisW:W->W->Option W
 |.non,.non=>some (.bl false)
 |_,.non=>some (.bl true)
 |.bl a,.bl b=>some (.bl (!(a==b)))
 |_,.bl _=>some (.bl true)
 |_,_=>none
def rIs:R2:=fun x y H Q=>(y=.non\/∃b,y=.bl b)/\Q (.bl (decide (x=y))) H
def rNis:R2:=fun x y H Q=>(y=.non\/∃b,y=.bl b)/\Q (.bl (!decide (x=y))) H
theorem x45{x y:V}{v:Value}(rx:RelV x v)(ry:RelV y u)(h:y=.non\/∃b,y=.bl b):plainIs v u=true/\(v==u)=decide (x=y):=by
 rcases h with rfl|⟨b,rfl⟩
 ·cases ry
  cases x<;>first
   |(cases rx;exact⟨rfl,by first|rfl|(rw[w1l];simp)⟩)
   |(obtain⟨t,rfl⟩:=rx;exact⟨rfl,by rw[w1l];simp⟩)
 ·cases ry
  cases x<;>first
   |(cases rx;exact⟨rfl,by first|rfl|(rw[w1l];simp)⟩)
   |(obtain⟨t,rfl⟩:=rx;exact⟨rfl,by rw[w1l];simp⟩)
theorem y0b:OpR X (compareOp .Is) rIs:=by
 intro pins s σ H x y v u Q I rx ry h;obtain⟨hy,q⟩:=h;obtain⟨h1,h2⟩:=x45 rx ry hy;exact wpAny_is_plain h1 (x9q I q h2.symm)
theorem x7y:OpR X (compareOp .IsNot) rNis:=by
 intro pins s σ H x y v u Q I rx ry h;obtain⟨hy,q⟩:=h;obtain⟨h1,h2⟩:=x45 rx ry hy;exact wpAny_isNot_plain h1 (x9q I q (by rw[h2]))
theorem z11{x y:V}{wx wy:W}(px:Rep K G wx x)(py:Rep K G wy y)(h:isW wx wy=some w):(y=.non\/∃b,y=.bl b)/\w=.bl (decide (x=y)):=by
 cases wy with
 |non=>
  cases(show y=.non from py);refine⟨.inl rfl,?_⟩;cases wx with
  |tup ws=>obtain⟨_,_,rfl,_⟩:=px;cases h;simp
  |lst ws=>obtain⟨_,_,rfl,_⟩:=px;cases h;simp
  |exc c=>obtain⟨_,rfl,_⟩:=px;cases h;simp
  |dic c=>obtain⟨_,rfl,_⟩:=px;cases h;simp
  |dw _ _ _ _=>obtain⟨_,_,_,rfl,_⟩:=px;cases h;simp
  |fn _ _ _=>obtain⟨_,_,_,_,rfl,_⟩:=px;cases h;simp
  |_=>cases px;cases h;simp
 |bl b=>
  cases(show y=.bl b from py);refine⟨.inr ⟨b,rfl⟩,?_⟩;cases wx with
  |tup ws=>obtain⟨_,_,rfl,_⟩:=px;cases h;simp
  |lst ws=>obtain⟨_,_,rfl,_⟩:=px;cases h;simp
  |exc c=>obtain⟨_,rfl,_⟩:=px;cases h;simp
  |dic c=>obtain⟨_,rfl,_⟩:=px;cases h;simp
  |dw _ _ _ _=>obtain⟨_,_,_,rfl,_⟩:=px;cases h;simp
  |fn _ _ _=>obtain⟨_,_,_,_,rfl,_⟩:=px;cases h;simp
  |bl k=>cases px;cases h;cases k<;>cases b<;>rfl
  |_=>cases px;cases h;simp
 |_=>cases wx<;>cases h
theorem y85{x y:V}{wx wy:W}(px:Rep K G wx x)(py:Rep K G wy y)(h:nisW wx wy=some w):(y=.non\/∃b,y=.bl b)/\w=.bl (!decide (x=y)):=by
 cases wy with
 |non=>
  cases(show y=.non from py);refine⟨.inl rfl,?_⟩;cases wx with
  |tup ws=>obtain⟨_,_,rfl,_⟩:=px;cases h;simp
  |lst ws=>obtain⟨_,_,rfl,_⟩:=px;cases h;simp
  |exc c=>obtain⟨_,rfl,_⟩:=px;cases h;simp
  |dic c=>obtain⟨_,rfl,_⟩:=px;cases h;simp
  |dw _ _ _ _=>obtain⟨_,_,_,rfl,_⟩:=px;cases h;simp
  |fn _ _ _=>obtain⟨_,_,_,_,rfl,_⟩:=px;cases h;simp
  |_=>cases px;cases h;simp
 |bl b=>
  cases(show y=.bl b from py);refine⟨.inr ⟨b,rfl⟩,?_⟩;cases wx with
  |tup ws=>obtain⟨_,_,rfl,_⟩:=px;cases h;simp
  |lst ws=>obtain⟨_,_,rfl,_⟩:=px;cases h;simp
  |exc c=>obtain⟨_,rfl,_⟩:=px;cases h;simp
  |dic c=>obtain⟨_,rfl,_⟩:=px;cases h;simp
  |dw _ _ _ _=>obtain⟨_,_,_,rfl,_⟩:=px;cases h;simp
  |fn _ _ _=>obtain⟨_,_,_,_,rfl,_⟩:=px;cases h;simp
  |bl k=>cases px;cases h;cases k<;>cases b<;>rfl
  |_=>cases px;cases h;simp
 |_=>cases wx<;>cases h
theorem y4k:Op2 K rIs isW:=by
 intro G H x y wx wy w Q s px py hf h;obtain⟨h1,rfl⟩:=z11 px py hf;exact⟨h1,h G _ H (.refl s) rfl⟩
theorem y0c:Op2 K rNis nisW:=by
 intro G H x y wx wy w Q s px py hf h;obtain⟨h1,rfl⟩:=y85 px py hf;exact⟨h1,h G _ H (.refl s) rfl⟩
section
variable{a b c:Expr}{p:Pos}
theorem q5v(ha:DE Z X EE a da)(hb:DE Z X EE b db):DE Z X EE (.BinOp a .Sub b pos) (dOp subW da db):=q7r y8e y8v ha hb
theorem q3j(ha:DE Z X EE a da)(hb:DE Z X EE b db):DE Z X EE (.BinOp a .Mult b pos) (dOp mulW da db):=q7r y8f y8w ha hb
theorem q31(ha:DE Z X EE a da)(hb:DE Z X EE b db):DE Z X EE (.BinOp a .FloorDiv b pos) (dOp fdivW da db):=q7r y41 y5i ha hb
theorem q2v(ha:DE Z X EE a da)(hb:DE Z X EE b db):DE Z X EE (.BinOp a .Mod b pos) (dOp modW da db):=q7r y8g y8x ha hb
theorem x46(ha:DE Z X EE a da):DE Z X EE (.UnaryOp .USub a pos) (dUn negW da):=z1u y8h y8y ha
theorem z12(ha:DE Z X EE a da)(hb:DE Z X EE b db):DE Z X EE (.Compare a [.Gt] [b] pos) (dOp gtW da db):=q8z y4f y4h ha hb (nomark _)
theorem q6c(hu:X.A.units+150<cLine)(ha:DE Z X EE a da)(hb:DE Z X EE b db):DE Z X EE (.Compare a [.Eq] [b] pos) (dOp eq2 da db):=q8z (y0a hu) y4j ha hb (nomark _)
theorem x4d(ha:DE Z X EE a da)(hb:DE Z X EE b db):DE Z X EE (.Compare a [.Is] [b] pos) (dOp isW da db):=q8z y0b y4k ha hb (nomark _)
theorem y86(ha:DE Z X EE a da)(hb:DE Z X EE b db):DE Z X EE (.Compare a [.IsNot] [b] pos) (dOp nisW da db):=q8z x7y y0c ha hb (nomark _)
theorem x4e(ha:DE Z X EE a da)(hb:DE Z X EE b db):DT Z X EE (.Compare a [.Lt] [b] pos) (dTest (dOp ltW da db)):=q5u z1q z1y ha hb (nomark _)
theorem q9q(ha:DE Z X EE a da)(hb:DE Z X EE b db):DT Z X EE (.Compare a [.Gt] [b] pos) (dTest (dOp gtW da db)):=q5u y4f y4h ha hb (nomark _)
theorem q5q(hu:X.A.units+150<cLine)(ha:DE Z X EE a da)(hb:DE Z X EE b db):DT Z X EE (.Compare a [.Eq] [b] pos) (dTest (dOp eq2 da db)):=q5u (y0a hu) y4j ha hb (nomark _)
theorem q45(hu:X.A.units+150<cLine)(ha:DE Z X EE a da)(hb:DE Z X EE b db):DT Z X EE (.Compare a [.NotEq] [b] pos) (dTest (dOp ne2 da db)):=q5u (y84 hu) z10 ha hb (nomark _)
theorem x4f(ha:DE Z X EE a da)(hb:DE Z X EE b db):DT Z X EE (.Compare a [.Is] [b] pos) (dTest (dOp isW da db)):=q5u y0b y4k ha hb (nomark _)
theorem y0d(ha:DE Z X EE a da)(hb:DE Z X EE b db):DT Z X EE (.Compare a [.IsNot] [b] pos) (dTest (dOp nisW da db)):=q5u x7y y0c ha hb (nomark _)
theorem q0p{k:Nat}(h:Room k A):A.units+150<cLine:=by have:=h.un;omega
noncomputable def cutW(xs:List W)(lo hi:Option Int):List W:=(xs.drop (HT.sIx xs.length 0 lo)).take (HT.sIx xs.length xs.length hi-HT.sIx xs.length 0 lo)
theorem Reps.cut(r:Reps K G ws xs)(lo hi:Option Int):Reps K G (cutW ws lo hi) (cutV xs lo hi):=by
 unfold cutW cutV;rw[r.length];exact(r.drop _).take _
def DO(Z:Zt)(X:Cx)(EE:L2.St->XK)(e:Option Expr)(d:Den (Option Int)):Prop:=PO X e (fun σ H Q=>∃G e,Rel X.K Z G σ H e/\(d e).holds (fun o e'=>∀G' H',Rel X.K Z G' σ H' e'->Same G G'->Q o H') (XH X.K Z EE σ G))
noncomputable def dNoPart:Den (Option Int):=fun e=>.ok none e
noncomputable def dPart(d:Den W):Den (Option Int):=fun e=>(d e).bind fun w e1=>match w with
 |.int i=>.ok (some i) e1
 |_=>.no
theorem PO.mono{e:Option Expr}{t t':TO}(h:PO X e t)(i:∀σ H Q,t' σ H Q->t σ H Q):PO X e t':=fun pins s σ H Q I q=>h pins s σ H Q I (i σ H Q q)
theorem q4g:DO Z X EE none dNoPart:=PO.mono y44 fun σ H Q ⟨G,e,r,h⟩=>h G H r (.refl _)
theorem q4h(h:DE Z X EE e da):DO Z X EE (some e) (dPart da):=by
 refine PO.mono (y45 h) ?_;rintro σ H Q ⟨G,e,rel,h⟩;simp only[dPart,R.holds_bind]at h;refine⟨G,e,rel,h.imp (fun x e1 h G1 v1 H1 r1 s1 p1=>?_) fun _ _ h=>h⟩
 cases x with
 |int i=>cases(show v1=V.int i from p1);exact⟨i,rfl,h G1 H1 r1 s1⟩
 |_=>exact h.elim
noncomputable def slW:W->Option Int->Option Int->Option W
 |.lst ws,lo,hi=>some (.lst (cutW ws lo hi))
 |.tup ws,lo,hi=>if ¬(HT.sIx ws.length 0 lo=0/\HT.sIx ws.length ws.length hi=ws.length)then some (.tup (cutW ws lo hi))else none
 |_,_,_=>none
noncomputable def dSl(d:Den W)(dl dh:Den (Option Int)):Den W:=fun e=>(d e).bind fun w e1=>(dl e1).bind fun lo e2=>(dh e2).bind fun hi e3=>ofOpt (slW w lo hi) e3
theorem x47{lo hi:Option Expr}{dl dh:Den (Option Int)}(he:DE Z X EE e da)(hl:DO Z X EE lo dl)(hh:DO Z X EE hi dh):DE Z X EE (.Subscript e (.Slice lo hi none p2) pos) (dSl da dl dh):=by
 refine PE.mono (x4q (sl_list.or x9t) he hl hh) ?_;rintro σ H Q ⟨G,e,rel,h⟩;simp only[dSl,R.holds_bind,q3c]at h;refine⟨G,e,rel,h.imp (fun w e1 h G1 v1 H1 r1 s1 p1=>?_) fun _ _ h=>h⟩
 refine⟨G1,e1,r1,h.imp (fun lo e2 h G2 H2 r2 s2=>?_) fun _ _ h=>XH.trans s1 h⟩
 refine⟨G2,e2,r2,h.imp (fun hi e3 h G3 H3 r3 s3=>?_) fun _ _ h=>XH.trans (s1.trans s2) h⟩
 obtain⟨y,hf,h⟩:=h;have p3:=Rep.mono (s2.trans s3) w p1;have s03:=(s1.trans s2).trans s3;cases w with
 |lst ws=>
  cases hf;obtain⟨a,xs,rfl,q,r⟩:=p3;refine .inl ⟨a,xs,rfl,r3.sub.seq q,fun p hp=>?_⟩
  have g:=Grow.laid r3.sub hp (.lst (cutV xs lo hi));exact h _ _ _ (r3.grow g) (s03.trans g.gg) ⟨p,_,rfl,SqL.of q0m,Reps.mono g.gg _ (r.cut lo hi)⟩
 |tup ws=>
  simp only[slW]at hf;split at hf
  ·rename_i hw;cases hf;obtain⟨a,xs,rfl,q,r⟩:=p3;refine .inr ⟨a,xs,rfl,r3.sub.tup q,by rw[r.length];exact hw,fun p hp=>?_⟩
   have g:=Grow.laid r3.sub hp (.tup (cutV xs lo hi));exact h _ _ _ (r3.grow g) (s03.trans g.gg) ⟨p,_,rfl,SqT.of q0m,Reps.mono g.gg _ (r.cut lo hi)⟩
  ·cases hf
 |_=>cases hf
noncomputable def tyW:W->Value
 |.non=>.type "NoneType"
 |.bl _=>.type "bool"
 |.int _=>.type "int"
 |.str _=>.type "str"
 |.tup _=>.type "tuple"
 |.lst _=>.type "list"
 |.exc c=>c
 |.dic _=>.type "dict"
 |.dw _ _ _ _=>.type "dict"
 |.fn _ _ _=>.type "dict"
noncomputable def isiW(K:PySem.W.Frag)(cv:Value):W->Option W
 |.exc (.ref D)=>if excClsIn K D=true then(kitOne K (.ref D) cv).map .bl else none
 |.exc _=>none
 |.dic _=>none
 |.dw _ _ _ _=>none
 |.fn _ _ _=>none
 |w=>(kitOne K (tyW w) cv).map .bl
theorem y5k{b:Bool}{Q:VK}(I:Inv X pins σ H s)(sg:Same G H)(p:Rep X.K G w v)(r:RelV v u)(h:isiW X.K cv w=some (.bl b))(q:Q (.bl b) H):
  wpAny (model X.prog X.w) X.A (call (.builtin "isinstance") [u,cv]) (EP X pins σ Q) X.xe s:=by
 have fin:∀tk,EP X pins σ Q (.bool b) {s with toks:=tk}:=fun tk=>⟨.bl b,H,I.tok _,rfl,q⟩
 have kit:∀{t:Value},(kitOne X.K t cv).map W.bl=some (.bl b)->kitOne X.K t cv=some b:=fun z=>by
  obtain⟨y,h1,h2⟩:=w0n.mp z;cases h2;exact h1
 cases w with
 |non=>cases p;cases r;exact kia_one PySem.W.kitx_none I.kIn True.intro (kit h) (fun z=>nomatch z) fin
 |bl y=>cases p;cases r;exact kia_one PySem.W.kitx_bool I.kIn True.intro (kit h) (fun z=>nomatch z) fin
 |int y=>cases p;obtain⟨t,rfl⟩:=r;exact kia_one PySem.W.kitx_int I.kIn True.intro (kit h) (fun z=>nomatch z) fin
 |str y=>cases p;obtain⟨t,rfl⟩:=r;exact kia_one PySem.W.kitx_str I.kIn True.intro (kit h) (fun z=>nomatch z) fin
 |tup ws=>
  obtain⟨a,xs,rfl,hq,_⟩:=p;cases r;obtain⟨its,_,⟨o,h1,h2,_⟩,_⟩:=I.tuple (sg.tup hq);exact kia_one PySem.W.kitx_tuple I.kIn ⟨o,h1,h2⟩ (kit h) (fun z=>nomatch z) fin
 |lst ws=>
  obtain⟨a,xs,rfl,hq,_⟩:=p;cases r;obtain⟨its,_,⟨o,n,h1,h2,_⟩,_⟩:=I.list (sg.seq hq);exact kia_one PySem.W.kitx_list I.kIn ⟨o,h1,h2⟩ (kit h) (fun z=>nomatch z) fin
 |dic c=>simp[isiW]at h
 |dw _ _ _ _=>simp[isiW]at h
 |fn _ _ _=>simp[isiW]at h
 |exc c=>
  obtain⟨e,rfl,he⟩:=p;cases r;unfold isiW at h;split at h
  ·rename_i D heq;cases heq;split at h
   ·rename_i hC;obtain⟨⟨o,vs,h1,h2,h3⟩,_⟩:=(show ObjOk X.prog X.w H s.heap e (excO e (.ref D))from I.hok e _ (sg _ _ he));exact kia_one (y2j (ExcCls.of hC)) I.kIn ⟨o,vs,h1,h2,h3⟩ (kit h) (fun z=>nomatch z) fin
   ·cases h
  all_goals first|(cases h;done)|(rename_i h1 h2 h3 h4 h5;exact absurd rfl (h2 c))|(rename_i h1 h2 h3 h4;exact absurd rfl (h2 c))|(rename_i h1 h2 h3;exact absurd rfl (h2 c))|(rename_i h1 h2;exact absurd rfl (h2 c))
noncomputable def dIsi(K:PySem.W.Frag)(cv:Value)(d:Den W):Den W:=fun e=>(d e).bind fun w e1=>match isiW K cv w with
 |some (.bl b)=>.ok (.bl b) e1
 |_=>.no
theorem y0e{c:V}(hc:ClsV c cv):CallR X (.builtin "isinstance") (fun xs H Q=>∃x G w b,xs=[x,c]/\Same G H/\Rep X.K G w x/\isiW X.K cv w=some (.bl b)/\Q (.bl b) H):=by
 intro pins s σ H xs us Q I r h;obtain⟨x,G,w,b,rfl,sg,p,hi,q⟩:=h;obtain⟨u,u2,rfl,rx,rc⟩:=vals2 r
 have ec:u2=cv:=by
  cases c with
  |ty n=>exact(show u2=Value.type n from rc).trans (show cv=Value.type n from hc).symm
  |ref a=>exact(show u2=Value.ref a from rc).trans (show cv=Value.ref a from hc).symm
  |_=>exact hc.elim
 subst ec;exact y5k I sg p rx hi q
theorem q2m{c0:V}(hc:ClsV c0 cv)(hcl:PE X c (tC c0))(hm:X.mg "isinstance"=none)(he:DE Z X EE e da)(hg:Gl X "isinstance":=by rfl)(hs:starEach [e,c] X.env=(false,eval e X.env)::starEach [c] X.env:=by rfl)(hs2:starEach [c] X.env=(false,eval c X.env)::starEach [] X.env:=by rfl)(hpl:(backTo pos (starEach [c] X.env)).any (·.1)=false:=by rfl):
  DE Z X EE (.Call (.Name "isinstance" p) [e,c] [] pos) (dIsi X.K cv da):=by
 refine PE.mono (x4p (y0e hc) hg hm PyProof.Rows.Boot.«isinstance» (q9o he (q9o hcl x4n hs2) hs) (by decide) (by decide) hs hpl) ?_;rintro σ H Q ⟨G,e,rel,h⟩;simp only[dIsi,R.holds_bind]at h;refine⟨G,e,rel,h.imp (fun w e1 h G1 v1 H1 r1 s1 p1=>?_) fun _ _ h=>h⟩
 split at h
 ·rename_i b hb;exact⟨v1,G1,w,b,rfl,r1.sub,p1,hb,h G1 _ H1 r1 s1 rfl⟩
 ·exact h.elim
theorem y5l{n:Str}{a:Addr}(hm:X.mg n=some (.ref a))(hg:Gl X n:=by rfl)(hd:(n==("__debug__":Str))=false:=by decide):PE X (.Name n pos) (tC (.ref a)):=x7p (v:=.ref a) hg hm rfl hd
theorem q2g{n:Str}{T:String}(hv:bootBuiltins n=some (.type T))(hm:X.mg n=none)(hg:Gl X n:=by rfl)(hn:n≠"__name__":=by decide)(hd:(n==("__debug__":Str))=false:=by decide):PE X (.Name n pos) (tC (.ty T)):=y4u (v:=.ty T) hg hm hv rfl hn hd
noncomputable def tup1:List W->Option W
 |[.lst ws]=>some (.tup ws)
 |[.tup ws]=>some (.tup ws)
 |_=>none
theorem y87:OpN K (fun xs H Q=>∃p ys,xs=[.ref p]/\((SqL K H p ys/\∀l,H l=none->Q (.ref l) (upd H l (.tup ys)))\/(SqT K H p ys/\Q (.ref p) H))) tup1:=by
 intro G H xs ws w Q s pr hf h;unfold tup1 at hf;split at hf
 ·cases hf;obtain⟨x,r,rfl,px,pr⟩:=pr;cases(show r=[]from pr);obtain⟨a,ys,rfl,ha,ra⟩:=px;refine⟨a,ys,rfl,.inl ⟨s.seq ha,fun l hl=>?_⟩⟩
  have g:=Grow.laid s hl (.tup ys);exact h _ _ _ g ⟨l,ys,rfl,SqT.of q0m,Reps.mono g.gg _ ra⟩
 ·cases hf;obtain⟨x,r,rfl,px,pr⟩:=pr;cases(show r=[]from pr);obtain⟨a,ys,rfl,ha,ra⟩:=px;exact⟨a,ys,rfl,.inr ⟨s.tup ha,h G _ H (.refl s) ⟨a,ys,rfl,ha,ra⟩⟩⟩
 ·cases hf
theorem x48(hm:X.mg "tuple"=none)(ha:DA Z X EE [e] dA)(hg:Gl X "tuple":=by rfl)(he:starEach [e] X.env=(false,eval e X.env)::starEach [] X.env:=by rfl)(hpl:(backTo pos (starEach [] X.env)).any (·.1)=false:=by rfl):DE Z X EE (.Call (.Name "tuple" p) [e] [] pos) (dFn tup1 dA):=
 x93 x3x y87 PyProof.Rows.Boot.«tuple» hm ha hg (by decide) (by decide) he hpl
theorem q1a(hm:X.mg "len"=none)(ha:DA Z X EE [e] dA)(hg:Gl X "len":=by rfl)(he:starEach [e] X.env=(false,eval e X.env)::starEach [] X.env:=by rfl)(hpl:(backTo pos (starEach [] X.env)).any (·.1)=false:=by rfl):DE Z X EE (.Call (.Name "len" p) [e] [] pos) (dFn len1 dA):=
 x03 y2d y8z PySem.boot_len hm ha hg (by decide) (by decide) he hpl
noncomputable def lst1:List W->Option (List W)
 |[.lst ws]=>some ws
 |[.tup ws]=>some ws
 |_=>none
noncomputable def dList(dA:Den (List W)):Den (List W):=fun e=>(dA e).bind fun ws e1=>ofOpt (lst1 ws) e1
theorem x7z(hm:X.mg "list"=none)(ha:DA Z X EE [e] dA)(hg:Gl X "list":=by rfl)(he:starEach [e] X.env=(false,eval e X.env)::starEach [] X.env:=by rfl)(hpl:(backTo pos (starEach [] X.env)).any (·.1)=false:=by rfl):DF Z X EE (.Call (.Name "list" p) [e] [] pos) (dList dA):=by
 refine PE.mono (q8u x4s hg hm PyProof.Rows.Boot.«list» ha (by decide) (by decide) he hpl) ?_;rintro σ H Q ⟨G,e,rel,h⟩;simp only[dList,R.holds_bind,q3c]at h;refine⟨G,e,rel,h.imp (fun ws e1 h G1 vs H1 r1 s1 p1=>?_) fun _ _ h=>h⟩
 obtain⟨out,hf,h⟩:=h;unfold lst1 at hf;split at hf
 ·cases hf;obtain⟨y,r,rfl,py,pr⟩:=p1;cases(show r=[]from pr);obtain⟨a,ys,rfl,hq,rq⟩:=py;exact⟨a,ys,rfl,.inl (r1.sub.seq hq),q7t r1 s1 rq h⟩
 ·cases hf;obtain⟨y,r,rfl,py,pr⟩:=p1;cases(show r=[]from pr);obtain⟨a,ys,rfl,hq,rq⟩:=py;exact⟨a,ys,rfl,.inr (r1.sub.tup hq),q7t r1 s1 rq h⟩
 ·cases hf
end
section
variable{w:World}{mg:Str->Option Value}{base:Heap}
theorem y0f{F:List W->FR}(hF:∀ws,F ws=.no){vs:List V}{Q:VK}{E:XK}(h:spF K F vs H Q E):False:=by
 obtain⟨G,ws,hn,_⟩:=x4z h;exact hn (hF ws)
theorem conF{st:Stmt}{N ps:List Str}{k:Nat}{F:List W->FR}{f:Addr}{fd:FuncData}(A:Fun K x x st f fd)(sc:FnScope N ps (defScope st))(len:∀ws,F ws≠.no->ws.length=ps.length)
  (hb:∀ws,F ws≠.no->∀(cdv:Value)(A:Around)(outer:List Env)(s:Shared)(H:Hp)(E:XK)(Z:Zt),Room k (A.deeper (PyProof.Rows.envOfC x (defScope st) s.heap.objs.size f cdv)) ->
   ∃d,DSs Z (cxOf (CX1 P w) P w K mg base N x (defScope st) f cdv A outer s H E) (fun _=>E) (defBody st) d/\(d (init N.length ws)).fn=F ws):FnOk P w K mg base (CX1 P w) (k+1) f fd ps (spF K F):=by
 refine A.okX sc (fun vs H Q E h=>?_) (fun cdv A outer s H vs Q E hr h=>?_)
 ·obtain⟨G,ws,hn,r⟩:=x4z h;rw[r.length];exact len ws hn
 ·obtain⟨G,ws,sg,rp,h⟩:=h;have hn:F ws≠.no:=fun z=>by rw[z]at h;exact h
  obtain⟨d,hd,he⟩:=hb ws hn cdv A outer s H E ⟨H,G,[]⟩ hr;exact⟨_,hd,G,init N.length ws,x4y sg rp,x7w he h⟩
theorem q83:∀(ns:List Int),Reps K G (ns.map W.int) (ns.map V.int)
 |[]=>rfl
 |n::ns=>⟨_,_,rfl,rfl,q83 ns⟩
theorem y88{w:World}{e:Value}{s':Shared}(z:CX1 P w [] H s (fun _ _ _=>False) e s'):False:=by
 obtain⟨_,_,_,_,_,_,_,_,_,_,h⟩:=z;exact h
theorem con0{st:Stmt}{ps:List Str}{F:List W->FR}(A:At K mg x st ps)(hF:∀ws,F ws=.no:=by intro _;rfl):Cal P w K mg base 0 x ps (spF K F):=by
 obtain⟨f,fd,F0,m,b⟩:=A.ex;exact⟨f,fd,⟨fun vs H Q E h=>(y0f hF h).elim,fun A outer s H args us vs Q E _ _ _ _ h=>(y0f hF h).elim⟩,m,F0.kp,b⟩
end
section
variable{d:Den Str}
def DFm(Z:Zt)(X:Cx)(EE:L2.St->XK)(n:Nat)(es:List Expr)(d:Den Str):Prop:=PF X es (fun acc σ H Q=>acc.length+n*1000001<=16777216/\∃G e,Rel X.K Z G σ H e/\(d e).holds (fun y e'=>∀G' H',Rel X.K Z G' σ H' e'->Same G G'->Q (acc++y) H') (XH X.K Z EE σ G))
end
section
variable{β:Type}{c:Prop} [Decidable c]{a:α}{e e':List S}{k:α->List S->R β}{ks:α->List S->SR}{x y:R α}{s t:SR}{v:Value}{st:S}
theorem y5m:(R.ok a e).bind k=k a e:=rfl
theorem y5n:(R.ex v e:R α).bind k=.ex v e:=rfl
theorem y5o:(R.no:R α).bind k=.no:=rfl
theorem y2r:(if c then x else y).bind k=if c then x.bind k else y.bind k:=by split<;>rfl
theorem y89:(R.ok a e).stm ks=ks a e:=rfl
theorem y9a:(R.ex v e:R α).stm ks=.ex v e:=rfl
theorem y9b:(R.no:R α).stm ks=.no:=rfl
theorem y5p:(if c then x else y).stm ks=if c then x.stm ks else y.stm ks:=by split<;>rfl
noncomputable def SR.seq:SR->(List S->SR)->SR
 |.nx e,b=>b e
 |r,_=>r
theorem y9c{p:List S->SR}:dSeq p q e=(p e).seq q:=by
 unfold dSeq SR.seq;cases p e<;>rfl
theorem y9d:(SR.nx e).seq q=q e:=rfl
theorem y9e:(SR.rt st e).seq q=.rt st e:=rfl
theorem y9f:(SR.ex v e).seq q=.ex v e:=rfl
theorem y9g:(SR.bk e).seq q=.bk e:=rfl
theorem y9h:(SR.ct e).seq q=.ct e:=rfl
theorem y9i:(SR.no).seq q=.no:=rfl
theorem y5q:(if c then s else t).seq q=if c then s.seq q else t.seq q:=by split<;>rfl
theorem z13:(SR.nx e).fn=.ok (.fr .non):=rfl
theorem z14:(SR.rt st e).fn=.ok st:=rfl
theorem z15:(SR.ex v e).fn=.ex v:=rfl
theorem z16:(SR.no).fn=.no:=rfl
theorem y9j:(if c then s else t).fn=if c then s.fn else t.fn:=by split<;>rfl
theorem x8p:ofOpt (some a) e=.ok a e:=rfl
theorem x8q:ofOpt (none:Option α) e=.no:=rfl
theorem y0g{o p:Option α}:ofOpt (if c then o else p) e=if c then ofOpt o e else ofOpt p e:=by split<;>rfl
noncomputable def varS(i:Nat)(e:List S):Option S->R W
 |some (.fr w)=>.ok w e
 |some (.own none ws)=>.ok (.lst ws) (e.set i (.fr (.lst ws)))
 |some (.x k)=>match k.plain with
  |some w=>.ok w e
  |none=>.no
 |_=>.no
theorem y9k:dVar i e=varS i e e[i]?:=by
 unfold dVar varS;cases e[i]? with
 |none=>rfl
 |some s=>cases s with
  |own b ws=>cases b<;>rfl
  |_=>rfl
theorem y5r:varS i e (some (.x (.old w)))=.ok w e:=rfl
theorem y5s:varS i e (some (.x (.new w)))=.ok w e:=rfl
theorem y9l:varS i e (some (.fr w))=.ok w e:=rfl
theorem y5t:varS i e (some (.own none ws))=.ok (.lst ws) (e.set i (.fr (.lst ws))):=rfl
theorem dC_s:dC w e=.ok w e:=rfl
theorem z17{f:W->W->Option W}:dOp f da db e=(da e).bind fun x e1=>(db e1).bind fun y e2=>ofOpt (f x y) e2:=rfl
theorem z18{f:W->Option W}:dUn f da e=(da e).bind fun x e1=>ofOpt (f x) e1:=rfl
noncomputable def testW(e:List S):W->R Bool
 |.bl k=>.ok k e
 |_=>.no
theorem y5u:dTest da e=(da e).bind fun x e1=>testW e1 x:=rfl
theorem y5v{b:Bool}:testW e (.bl b)=.ok b e:=rfl
theorem y9m:dTru da e=(da e).bind fun x e1=>ofOpt (truW x) e1:=rfl
theorem y9n{p q:Den Bool}:dAnd p q e=(p e).bind fun x e1=>if x=true then q e1 else .ok false e1:=rfl
theorem z19{p q:Den Bool}:dOr p q e=(p e).bind fun x e1=>if x=true then .ok true e1 else q e1:=rfl
theorem y9o{p:Den Bool}:dNot p e=(p e).bind fun x e1=>.ok (!x) e1:=rfl
noncomputable def andK(q:Den W)(e:List S):W->R W
 |.bl true=>q e
 |.bl false=>.ok (.bl false) e
 |_=>.no
theorem y5w{p q:Den W}:dAndV p q e=(p e).bind fun x e1=>andK q e1 x:=rfl
theorem y9p{q:Den W}{b:Bool}:andK q e (.bl b)=if b=true then q e else .ok (.bl false) e:=by cases b<;>rfl
noncomputable def orK(q:Den W)(e:List S):W->R W
 |.bl true=>.ok (.bl true) e
 |.bl false=>q e
 |_=>.no
theorem y9q{p q:Den W}:dOrV p q e=(p e).bind fun x e1=>orK q e1 x:=rfl
theorem z2a{q:Den W}{b:Bool}:orK q e (.bl b)=if b=true then .ok (.bl true) e else q e:=by cases b<;>rfl
noncomputable def notK(e:List S):W->R W
 |.bl k=>.ok (.bl (!k)) e
 |_=>.no
theorem y5x{p:Den W}:dNotV p e=(p e).bind fun x e1=>notK e1 x:=rfl
theorem y9r{b:Bool}:notK e (.bl b)=.ok (.bl (!b)) e:=rfl
theorem z2b{p:Den Bool}{q q':Den W}:dIf p q q' e=(p e).bind fun x e1=>if x=true then q e1 else q' e1:=rfl
theorem y9s:dNil e=.ok [] e:=rfl
theorem y5y{p:Den W}{q:Den (List W)}:dCons p q e=(p e).bind fun x e1=>(q e1).bind fun xs e2=>.ok (x::xs) e2:=rfl
theorem y9t:dTup p e=(p e).bind fun xs e1=>if xs.length<=16777216 then .ok (.tup xs) e1 else .no:=rfl
theorem y9u:dLst p e=(p e).bind fun xs e1=>if xs.length<=16777216 then .ok xs e1 else .no:=rfl
theorem z2c:dFz p e=(p e).bind fun xs e1=>.ok (.lst xs) e1:=rfl
theorem z2d{f:List W->Option W}:dFn f p e=(p e).bind fun xs e1=>ofOpt (f xs) e1:=rfl
theorem y5z:dList p e=(p e).bind fun xs e1=>ofOpt (lst1 xs) e1:=rfl
theorem z2e:dNx e=.nx e:=rfl
theorem y50:dDrop d e=(d e).stm fun _ e'=>.nx e':=rfl
theorem y9v:dRet d e=(d e).stm fun w e'=>.rt (.fr w) e':=rfl
theorem y51{d:Den (List W)}:dRetF d e=(d e).stm fun w e'=>.rt (.own none w) e':=rfl
theorem y9w{p:Den Bool}{q':List S->SR}:dIfS p q q' e=(p e).stm fun x e1=>if x=true then q e1 else q' e1:=rfl
theorem y9x:dSet i d e=(d e).stm fun w e'=>.nx (e'.set i (.fr w)):=rfl
theorem y52{d:Den (List W)}:dSetO i d e=(d e).stm fun w e'=>.nx (e'.set i (.own none w)):=rfl
noncomputable def callR(e:List S):FR->R W
 |.ok (.fr w)=>.ok w e
 |.ok (.own none ws)=>.ok (.lst ws) e
 |.ok (.dic kvs)=>.ok (.dic kvs) e
 |.ok (.thr us ws vs)=>.ok (.tup (us++.lst ws::vs)) e
 |.ok (.x (.new w))=>.ok w e
 |.ok (.x (.tn us wss))=>.ok (.tup (us++[.lst (wss.map .lst)])) e
 |.ex c=>.ex c e
 |_=>.no
theorem y2s{vs:List W}:callR e (.ok (.thr us ws vs))=.ok (.tup (us++.lst ws::vs)) e:=rfl
theorem y2t:callR e (.ok (.x (.new w)))=.ok w e:=rfl
theorem y2u{kvs:Dd}:callR e (.ok (.dic kvs))=.ok (.dic kvs) e:=rfl
theorem y53{F:List W->FR}{d:Den (List W)}:dCall F d e=(d e).bind fun ws e1=>callR e1 (F ws):=by
 unfold dCall;congr 1
theorem y54:callR e (.ok (.fr w))=.ok w e:=rfl
theorem y2v:callR e (.ok (.own none ws))=.ok (.lst ws) e:=rfl
theorem y55:callR e (.ex v)=.ex v e:=rfl
theorem y56:callR e .no=.no:=rfl
theorem y2w{f g:FR}:callR e (if c then f else g)=if c then callR e f else callR e g:=by split<;>rfl
noncomputable def callF(e:List S):FR->R (List W)
 |.ok (.own none ws)=>.ok ws e
 |.ex c=>.ex c e
 |_=>.no
theorem y0h:callF e (.ok (.own none ws))=.ok ws e:=rfl
theorem y2x:callF e (.ex v)=.ex v e:=rfl
theorem y0i{f g:FR}:callF e (if c then f else g)=if c then callF e f else callF e g:=by split<;>rfl
noncomputable def forW(i:Nat)(b:List S->SR)(e:List S):Option (List W)->SR
 |some ws=>forD i b ws e
 |none=>.no
theorem y9y{b:List S->SR}:dFor i d b e=(d e).stm fun w e1=>forW i b e1 (seqW w):=by
 unfold dFor;congr 1
theorem y57{g:List W->Option (List W)}{d:Den (List W)}{b:List S->SR}:dForR i g d b e=(d e).stm fun w e1=>forW i b e1 (g w):=by
 unfold dForR;congr 1
theorem y0j{b:List S->SR}:forW i b e (some ws)=forD i b ws e:=rfl
noncomputable def SR.turn:SR->(List S->SR)->SR
 |.nx e,k=>k e
 |.ct e,k=>k e
 |.bk e,_=>.nx e
 |.rt s e,_=>.rt s e
 |.ex c e,_=>.ex c e
 |.no,_=>.no
theorem q4z{b:List S->SR}:forD i b (w::ws) e=(b (e.set i (.fr w))).turn (forD i b ws):=by
 show(match b (e.set i (.fr w))with|.nx e'=>forD i b ws e'|.ct e'=>forD i b ws e'|.bk e'=>.nx e'|.rt s e'=>.rt s e'|.ex c e'=>.ex c e'|.no=>.no)=_;cases b (e.set i (.fr w))<;>rfl
theorem q5k:(SR.nx e).turn q=q e:=rfl
theorem y58:(SR.ct e).turn q=q e:=rfl
theorem y59:(SR.bk e).turn q=.nx e:=rfl
theorem x70:(SR.rt st e).turn q=.rt st e:=rfl
theorem y6a:(SR.ex v e).turn q=.ex v e:=rfl
theorem y6b:(SR.no).turn q=.no:=rfl
theorem y2y:(if c then s else t).turn q=if c then s.turn q else t.turn q:=by split<;>rfl
theorem z2f:S.look (.fr w)=some w:=rfl
theorem y9z:S.look (.x (.old w))=some w:=rfl
theorem y90:S.look (.x (.new w))=some w:=rfl
theorem y91:S.look (.x (.acc ws))=some (.lst ws):=rfl
theorem y92:S.look (.own b ws)=some (.lst ws):=rfl
noncomputable def appK(i:Nat)(e:List S):List W->Option S->SR
 |[w],some (.own b xs)=>if xs.length<16777216 then .nx (e.set i (.own b (xs++[w])))else .no
 |_,_=>.no
noncomputable def ownQ(k:SR):Option S->SR
 |some (.own _ _)=>k
 |_=>.no
theorem y93{d:Den (List W)}:dApp i d e=ownQ ((d e).stm fun ws e1=>appK i e1 ws e1[i]?) e[i]?:=by
 unfold dApp ownQ;cases e[i]? with
 |none=>rfl
 |some s=>cases s with
  |own b xs=>
   dsimp only;try congr 1
  |_=>rfl
theorem z2g{k:SR}:ownQ k (some (.own b ws))=k:=rfl
theorem z2h{xs:List W}:appK i e [w] (some (.own b xs))=if xs.length<16777216 then .nx (e.set i (.own b (xs++[w])))else .no:=rfl
theorem y2z{C:Addr}{d:Den (List W)}:dRaise C d e=(d e).stm fun ws e1=>if ws.length<=16777216 then .ex (.ref C) e1 else .no:=rfl
theorem z2i{dl dh:Den (Option Int)}:dSl d dl dh e=(d e).bind fun w e1=>(dl e1).bind fun lo e2=>(dh e2).bind fun hi e3=>ofOpt (slW w lo hi) e3:=rfl
theorem y0k:dNoPart e=.ok none e:=rfl
noncomputable def partK(e:List S):W->R (Option Int)
 |.int i=>.ok (some i) e
 |_=>.no
theorem y6c:dPart d e=(d e).bind fun w e1=>partK e1 w:=rfl
theorem y20{i:Int}:partK e (.int i)=.ok (some i) e:=rfl
noncomputable def isiK(e:List S):Option W->R W
 |some (.bl b)=>.ok (.bl b) e
 |_=>.no
theorem y94:dIsi K cv d e=(d e).bind fun w e1=>isiK e1 (isiW K cv w):=by
 unfold dIsi;congr 1
theorem y95{b:Bool}:isiK e (some (.bl b))=.ok (.bl b) e:=rfl
theorem q5l{b k:Bool}(h:kitOne K (.type "bool") cv=some k):isiW K cv (.bl b)=some (.bl k):=by show(kitOne K (.type "bool") cv).map W.bl=_;rw[h];rfl
theorem x18{b:Int}{k:Bool}(h:kitOne K (.type "int") cv=some k):isiW K cv (.int b)=some (.bl k):=by show(kitOne K (.type "int") cv).map W.bl=_;rw[h];rfl
theorem q4i{b:List W}{k:Bool}(h:kitOne K (.type "tuple") cv=some k):isiW K cv (.tup b)=some (.bl k):=by show(kitOne K (.type "tuple") cv).map W.bl=_;rw[h];rfl
theorem x19{b:List W}{k:Bool}(h:kitOne K (.type "list") cv=some k):isiW K cv (.lst b)=some (.bl k):=by show(kitOne K (.type "list") cv).map W.bl=_;rw[h];rfl
theorem x2a{k:Bool}(h:kitOne K (.type "NoneType") cv=some k):isiW K cv .non=some (.bl k):=by show(kitOne K (.type "NoneType") cv).map W.bl=_;rw[h];rfl
theorem y6d{D:Addr}{k:Bool}(hc:excClsIn K D=true)(h:kitOne K (.ref D) cv=some k):isiW K cv (.exc (.ref D))=some (.bl k):=by show(if excClsIn K D=true then _ else _)=_;rw[if_pos hc,h];rfl
noncomputable def tryH(n:Nat):SR->SR
 |.nx _=>.nx (List.replicate n .no)
 |.bk _=>.bk (List.replicate n .no)
 |.ct _=>.ct (List.replicate n .no)
 |.rt s e=>.rt s e
 |_=>.no
noncomputable def tryK(K:PySem.W.Frag)(c:Addr)(i n:Nat)(h:List S->SR):SR->SR
 |.ex cls e'=>if exmOne K cls (.ref c)=some true then tryH n (h (e'.set i (.fr (.exc cls))))else .no
 |r=>r
theorem y96{c : Addr}{b h : List S -> SR} : dTry K c i n b h e = tryK K c i n h (b e) := by
  unfold dTry tryK;cases b e with
  | ex cls e' => dsimp only; split
                 . cases h (e'.set i (.fr (.exc cls))) <;> rfl
                 . rfl
  | _ => rfl
theorem y97{c:Addr}:tryK K c i n h (.nx e)=.nx e:=rfl
theorem y98{c:Addr}:tryK K c i n h (.rt st e)=.rt st e:=rfl
theorem y99{c:Addr}(hx:exmOne K v (.ref c)=some true):tryK K c i n h (.ex v e)=tryH n (h (e.set i (.fr (.exc v)))):=by show(if _ then _ else _)=_;rw[if_pos hx]
theorem y6e:tryH n (.rt st e)=.rt st e:=rfl
theorem y6f:tryH n (.nx e)=.nx (List.replicate n .no):=rfl
noncomputable def compR(e:List S):Option (List W)->R (List W)
 |some out=>.ok out e
 |none=>.no
theorem y6g:compK js cc d ws e=if ws.length<=16777216 then compR (frzs js e) (compD cc d (pjS js (frzs js e)) ws)else .no:=by
 unfold compK compR;split
 ·cases compD cc d (pjS js (frzs js e)) ws<;>rfl
 ·rfl
noncomputable def compW(js:List Nat)(cc:Den Bool)(d:Den W)(e:List S):Option (List W)->R (List W)
 |some ws=>compK js cc d ws e
 |none=>.no
theorem y6h{di:Den W}:dComp js di cc d e=(di e).bind fun w e1=>compW js cc d e1 (seqW w):=by
 unfold dComp;congr 1
theorem y21{g:List W->Option (List W)}{di:Den (List W)}:dCompR g js di cc d e=(di e).bind fun w e1=>compW js cc d e1 (g w):=by
 unfold dCompR;congr 1
theorem x8r:compW js cc d e (some ws)=compK js cc d ws e:=rfl
theorem x8s:compR e (some out)=.ok out e:=rfl
theorem y0l:dYes e=.ok true e:=rfl
theorem y22:frzs [] e=e:=rfl
theorem y0m{j:Nat}:frzs (j::js) e=frzs js (frz1 e j):=rfl
theorem y6i:pjS [] e=[]:=rfl
theorem y23{j:Nat}:pjS (j::js) e=pj1 e j::pjS js e:=rfl
theorem x49{g:W->W}:∀(ws:List W),(∀w∈ws,∃e',d (.fr w::pe)=.ok (g w) e')->compD dYes d pe ws=some (ws.map g)
 |[],_=>rfl
 |w::ws,h=>by
  obtain⟨e',he⟩:=h w (by simp);show(match d (.fr w::pe)with|.ok y _=>(compD dYes d pe ws).map (y::·)|_=>none)=_;rw[he,x49 ws fun u hu=>h u (by simp[hu])]
  rfl
theorem q84:compD cc d pe (w::ws)=(match cc (.fr w::pe)with
  |.ok true e1=>(match d e1 with|.ok y _=>(compD cc d pe ws).map (y::·)|_=>none)
  |.ok false _=>compD cc d pe ws
  |_=>none):=rfl
end
section
variable{i j:Int}{b c:Bool}
theorem z0a:addW (.int i) (.int j)=some (.int (i+j)):=rfl
theorem z0b:addW (.str x) (.str y)=if x.length+y.length<=16777216 then some (.str (x++y))else none:=rfl
theorem z0c:addW (.lst ws) (.lst us)=if ws.length+us.length<=16777216 then some (.lst (ws++us))else none:=rfl
theorem z0d:subW (.int i) (.int j)=some (.int (i-j)):=rfl
theorem z0e:mulW (.int i) (.int j)=if(-18446744073709551616<i/\i<18446744073709551616)\/(-18446744073709551616<j/\j<18446744073709551616)then some (.int (i*j))else none:=rfl
theorem y6j:fdivW (.int i) (.int j)=if 0<j/\j<1073741824 then some (.int (i / j))else none:=rfl
theorem z0f:modW (.int i) (.int j)=if 0<j then some (.int (i%j))else none:=rfl
theorem z2j:ltW (.int i) (.int j)=some (.bl (decide (i<j))):=rfl
theorem z2k:gtW (.int i) (.int j)=some (.bl (decide (j<i))):=rfl
theorem z2l:negW (.int i)=some (.int (-i)):=rfl
theorem z2m:eq2 (.int i) (.int j)=some (.bl (decide (i=j))):=by
 show some (W.bl (i==j))=_;congr 2
theorem z2n:eq2 (.str x) (.str y)=some (.bl (decide (x=y))):=by
 show some (W.bl (x==y))=_;congr 2
theorem z2o:eq2 (.bl b) (.bl c)=some (.bl (decide (b=c))):=by
 show some (W.bl (b==c))=_;congr 2
theorem z2p:ne2 (.int i) (.int j)=some (.bl (!decide (i=j))):=by
 show some (W.bl (!(i==j)))=_;congr 2
theorem z2q:ne2 (.str x) (.str y)=some (.bl (!decide (x=y))):=by
 show some (W.bl (!(x==y)))=_;congr 2
theorem z2r:ne2 (.bl b) (.bl c)=some (.bl (!decide (b=c))):=by
 show some (W.bl (!(b==c)))=_;congr 2
theorem z2s:isW (.bl b) (.bl c)=some (.bl (decide (b=c))):=by
 show some (W.bl (b==c))=_;congr 2
theorem z2t:isW .non .non=some (.bl true):=rfl
theorem z2u:isW (.bl b) .non=some (.bl false):=rfl
theorem z2v:isW (.int i) .non=some (.bl false):=rfl
theorem z2w:isW (.str x) .non=some (.bl false):=rfl
theorem z2x:isW (.tup ws) .non=some (.bl false):=rfl
theorem z2y:isW (.lst ws) .non=some (.bl false):=rfl
theorem z0g:nisW (.bl b) (.bl c)=some (.bl (!decide (b=c))):=by
 show some (W.bl (!(b==c)))=_;congr 2
theorem z0h:nisW .non .non=some (.bl false):=rfl
theorem z0i:nisW (.bl b) .non=some (.bl true):=rfl
theorem z0j:nisW (.int i) .non=some (.bl true):=rfl
theorem z0k:nisW (.str x) .non=some (.bl true):=rfl
theorem z0l:nisW (.tup ws) .non=some (.bl true):=rfl
theorem z0m:nisW (.lst ws) .non=some (.bl true):=rfl
theorem ix_t:ixW (.tup ws) (.int i)=atI ws i:=rfl
theorem ix_l:ixW (.lst ws) (.int i)=atI ws i:=rfl
theorem z2z:len1 [.tup ws]=some (.int ws.length):=rfl
theorem z20:len1 [.lst ws]=some (.int ws.length):=rfl
theorem z21:tup1 [.lst ws]=some (.tup ws):=rfl
theorem z22:tup1 [.tup ws]=some (.tup ws):=rfl
theorem z23:lst1 [.lst ws]=some ws:=rfl
theorem z24:lst1 [.tup ws]=some ws:=rfl
theorem z25:truW (.bl b)=some b:=rfl
theorem z26:truW (.int i)=some (i != 0):=rfl
theorem z27:truW .non=some false:=rfl
theorem z28:truW (.tup ws)=some (!ws.isEmpty):=rfl
theorem z29:truW (.lst ws)=some (!ws.isEmpty):=rfl
theorem z3a:seqW (.tup ws)=some ws:=rfl
theorem z3b:seqW (.lst ws)=some ws:=rfl
theorem sc_i:scalW (.int i)=true:=rfl
theorem sc_b:scalW (.bl b)=true:=rfl
theorem sc_s:scalW (.str x)=true:=rfl
theorem sc_n:scalW .non=true:=rfl
theorem sl_l{lo hi:Option Int}:slW (.lst ws) lo hi=some (.lst (cutW ws lo hi)):=rfl
theorem at0{xs:List α}:atI xs 0=xs[0]?:=by
 cases xs with
 |nil=>rfl
 |cons a l=>exact q43 (j:=0) rfl
theorem at1{xs:List α}:atI xs 1=xs[1]?:=by
 cases xs with
 |nil=>rfl
 |cons a l=>
  cases l with
  |nil=>rfl
  |cons b l=>exact q43 (j:=1) rfl
theorem at2{xs:List α}:atI xs 2=xs[2]?:=by
 cases xs with
 |nil=>rfl
 |cons a l=>
  cases l with
  |nil=>rfl
  |cons b l=>
   cases l with
   |nil=>rfl
   |cons c l=>exact q43 (j:=2) rfl
theorem x5a{xs:List α}{k:Int}(h0:0<=k):atI xs k=xs[k.toNat]?:=by
 unfold atI ixN;rw[if_pos h0]
 by_cases h:k<xs.length
 ·rw[if_pos h];rfl
 ·rw[if_neg h];exact(w1o (by omega)).symm
theorem x5b{a b:String}(h:Str.ofString a=Str.ofString b):a=b:=by
 rw[Str.ofString_eq_toList,Str.ofString_eq_toList]at h;have h1:(a.toList.map Char.toNat).toArray=(b.toList.map Char.toNat).toArray:=congrArg Str.cps h;have h2:a.toList.map Char.toNat=b.toList.map Char.toNat:=by simpa using congrArg Array.toList h1
 have h3:a.toList=b.toList:=by
  have inj:∀c d:Char,c.toNat=d.toNat->c=d:=fun c d e=>by
   apply Char.ext;exact UInt32.toNat_inj.mp e
  exact(List.map_inj_right inj).mp h2
 exact String.toList_inj.mp h3
theorem z0n{a b:String}:(Str.ofString a=Str.ofString b)=(a=b):=propext ⟨x5b,fun h=>by rw[h]⟩
end
noncomputable def tuprevW:W->Option W
 |.lst ws=>some (.tup ws.reverse)
 |_=>none
noncomputable def boolsW:List W->Option (List Bool)
 |[]=>some []
 |.bl b::ws=>(boolsW ws).map (b::·)
 |_=>none
noncomputable def all1:List W->Option W
 |[.lst ws]=>(boolsW ws).map fun bs=>.bl (bs.all id)
 |_=>none
noncomputable def int1:List W->Option W
 |[.int i]=>some (.int i)
 |[.bl b]=>some (.int (if b then 1 else 0))
 |_=>none
noncomputable def eqS(y x:W):Bool:=(eqW y x).getD false
noncomputable def inW:W->W->Option W
 |x,.tup ws=>if scalW x=true/\ws.all scalW=true then some (.bl (ws.any fun y=>eqS y x))else none
 |x,.lst ws=>if scalW x=true/\ws.all scalW=true then some (.bl (ws.any fun y=>eqS y x))else none
 |_,_=>none
noncomputable def ninW:W->W->Option W
 |x,.tup ws=>if scalW x=true/\ws.all scalW=true then some (.bl (!ws.any fun y=>eqS y x))else none
 |x,.lst ws=>if scalW x=true/\ws.all scalW=true then some (.bl (!ws.any fun y=>eqS y x))else none
 |_,_=>none
theorem q5w(h:scalW w=true)(p:Rep K G w v):flatV v=true:=by
 cases w with
 |non=>cases p;rfl
 |bl b=>cases p;rfl
 |int b=>cases p;rfl
 |str b=>cases p;rfl
 |_=>cases h
theorem y6k{u:W}{x:V}(h:scalW w=true)(h':scalW u=true)(p:Rep K G w v)(q:Rep K G u x):eqV v x=eqS w u:=by
 cases w<;>cases u<;>first|(cases p;cases q;rfl)|exact absurd (show false=true from h') w0q|exact absurd (show false=true from h) w0q
theorem q6m{u:W}{x:V}(hu:scalW u=true)(q:Rep K G u x):∀{ws:List W}{xs:List V},ws.all scalW=true->Reps K G ws xs->xs.all flatV=true/\inV x xs=ws.any fun y=>eqS y u
 |[],xs,_,r=>by cases r;exact⟨rfl,rfl⟩
 |w::ws,xs,h,r=>by
  obtain⟨y,r',rfl,p,r⟩:=r;rw[w1s,w0r]at h;obtain⟨i1,i2⟩:=q6m hu q h.2 r;refine⟨by rw[w1s,q5w h.1 p,i1];rfl,?_⟩;show(eqV y x||inV x r')=(eqS w u||ws.any _);rw[y6k h.1 hu p q,i2]
theorem z3c:Op2 K (rIn K false) inW:=by
 intro G H x y wx wy w Q s px py hf h;cases wy with
 |tup ws=>
  simp only[inW]at hf;split at hf
  ·rename_i hc;cases hf;obtain⟨a,xs,rfl,ha,ra⟩:=py;obtain⟨i1,i2⟩:=q6m hc.1 px hc.2 ra;refine⟨a,xs,rfl,.inr (s.tup ha),q5w hc.1 px,i1,?_⟩;rw[i2];exact h G _ H (.refl s) rfl
  ·cases hf
 |lst ws=>
  simp only[inW]at hf;split at hf
  ·rename_i hc;cases hf;obtain⟨a,xs,rfl,ha,ra⟩:=py;obtain⟨i1,i2⟩:=q6m hc.1 px hc.2 ra;refine⟨a,xs,rfl,.inl (s.seq ha),q5w hc.1 px,i1,?_⟩;rw[i2];exact h G _ H (.refl s) rfl
  ·cases hf
 |_=>simp[inW]at hf
theorem y0n:Op2 K (rIn K true) ninW:=by
 intro G H x y wx wy w Q s px py hf h;cases wy with
 |tup ws=>
  simp only[ninW]at hf;split at hf
  ·rename_i hc;cases hf;obtain⟨a,xs,rfl,ha,ra⟩:=py;obtain⟨i1,i2⟩:=q6m hc.1 px hc.2 ra;refine⟨a,xs,rfl,.inr (s.tup ha),q5w hc.1 px,i1,?_⟩;rw[i2];exact h G _ H (.refl s) rfl
  ·cases hf
 |lst ws=>
  simp only[ninW]at hf;split at hf
  ·rename_i hc;cases hf;obtain⟨a,xs,rfl,ha,ra⟩:=py;obtain⟨i1,i2⟩:=q6m hc.1 px hc.2 ra;refine⟨a,xs,rfl,.inl (s.seq ha),q5w hc.1 px,i1,?_⟩;rw[i2];exact h G _ H (.refl s) rfl
  ·cases hf
 |_=>simp[ninW]at hf
theorem y0o:Op1 K (fun x H1 Q=>∃p ys,x=.ref p/\SqL K H1 p ys/\∀l,H1 l=none->Q (.ref l) (upd H1 l (.tup ys.reverse))) tuprevW:=by
 intro G H x wx w Q s px hf h;unfold tuprevW at hf;split at hf
 ·cases hf;obtain⟨a,xs,rfl,ha,ra⟩:=px;refine⟨a,xs,rfl,s.seq ha,fun l hl=>?_⟩
  have g:=Grow.laid s hl (.tup xs.reverse);exact h _ _ _ g ⟨l,_,rfl,SqT.of q0m,Reps.mono g.gg _ ra.reverse⟩
 ·cases hf
theorem q7v:∀{ws:List W}{bs:List Bool},boolsW ws=some bs->ws=bs.map .bl
 |[],bs,h=>by cases h;rfl
 |.bl b::ws,bs,h=>by
  obtain⟨cs,h1,rfl⟩:=w0n.mp (show(boolsW ws).map (b::·)=some bs from h);rw[q7v h1];rfl
 |.non::ws,bs,h=>by cases h
 |.int _::ws,bs,h=>by cases h
 |.str _::ws,bs,h=>by cases h
 |.tup _::ws,bs,h=>by cases h
 |.lst _::ws,bs,h=>by cases h
 |.exc _::ws,bs,h=>by cases h
theorem q85:∀(bs:List Bool),boolsW (bs.map .bl)=some bs
 |[]=>rfl
 |b::bs=>by
  show(boolsW (bs.map W.bl)).map (b::·)=_;rw[q85 bs];rfl
theorem q7w:∀{bs:List Bool}{xs:List V},Reps K G (bs.map W.bl) xs->xs=bs.map V.bl
 |[],xs,h=>h
 |b::bs,xs,h=>by
  obtain⟨x,r,rfl,h1,h2⟩:=h;rw[q7w h2,show x=V.bl b from h1];rfl
theorem z0o:OpN K (fun xs H Q=>∃p ys,xs=[.ref p]/\SqL K H p ys/\(∀y∈ys,∃b,y=.bl b)/\Q (.bl (ys.all fun y=>decide (y=.bl true))) H) all1:=by
 intro G H xs ws w Q s pr hf h;unfold all1 at hf;split at hf
 ·obtain⟨bs,hb,rfl⟩:=w0n.mp hf;have:=q7v hb;subst this;obtain⟨x,r,rfl,px,pr⟩:=pr;cases(show r=[]from pr);obtain⟨a,ys,rfl,ha,ra⟩:=px;have:=q7w ra;subst this;refine⟨a,_,rfl,s.seq ha,fun y hy=>?_,h G _ H (.refl s) ?_⟩
  ·obtain⟨b,_,rfl⟩:=w1g.mp hy;exact⟨b,rfl⟩
  ·show V.bl _=V.bl _;congr 1;rw[w3m];congr 1;funext b
   cases b<;>rfl
 ·cases hf
theorem z0p:OpN K (fun xs H Q=>(∃i,xs=[.int i]/\Q (.int i) H)\/∃k,xs=[.bl k]/\Q (.int (if k then 1 else 0)) H) int1:=by
 intro G H xs ws w Q s pr hf h;unfold int1 at hf;split at hf
 ·cases hf;obtain⟨x,r,rfl,px,pr⟩:=pr;cases(show r=[]from pr);cases px;exact .inl ⟨_,rfl,h G _ H (.refl s) rfl⟩
 ·cases hf;obtain⟨x,r,rfl,px,pr⟩:=pr;cases(show r=[]from pr);cases px;exact .inr ⟨_,rfl,h G _ H (.refl s) rfl⟩
 ·cases hf
section
variable{a b c:Expr}{p pos1 pos2:Pos}
theorem y4l(hu:X.A.units+150<cLine)(ha:DE Z X EE a da)(hb:DE Z X EE b db)(hm:behindInMarks .In b=false:=by with_unfolding_all rfl):DT Z X EE (.Compare a [.In] [b] pos) (dTest (dOp inW da db)):=q5u x9v z3c ha hb hm
theorem z0q(hu:X.A.units+150<cLine)(ha:DE Z X EE a da)(hb:DE Z X EE b db)(hm:behindInMarks .NotIn b=false:=by with_unfolding_all rfl):DE Z X EE (.Compare a [.NotIn] [b] pos) (dOp ninW da db):=q8z q8v y0n ha hb hm
theorem x09(hu:X.A.units+150<cLine)(ha:DE Z X EE a da)(hb:DE Z X EE b db)(hm:behindInMarks .NotIn b=false:=by with_unfolding_all rfl):DT Z X EE (.Compare a [.NotIn] [b] pos) (dTest (dOp ninW da db)):=q5u q8v y0n ha hb hm
theorem y0p(hc:X.calm=true)(hm1:X.mg "tuple"=none)(hm2:X.mg "reversed"=none)(he:DE Z X EE e da)(hg1:Gl X "tuple":=by rfl)(hg2:Gl X "reversed":=by rfl)
  (hs1:starEach [.Call (.Name "reversed" p2) [e] [] pos2] X.env=(false,eval (.Call (.Name "reversed" p2) [e] [] pos2) X.env)::starEach [] X.env:=by rfl)(hs2:starEach [e] X.env=(false,eval e X.env)::starEach [] X.env:=by rfl):
  DE Z X EE (.Call (.Name "tuple" p1) [.Call (.Name "reversed" p2) [e] [] pos2] [] pos1) (dUn tuprevW da):=PE.mono (x9x hc hm1 hm2 he hg1 hg2 hs1 hs2) (x7s y0o)
theorem x1a(hc:X.calm=true)(hm:X.mg "all"=none)(ha:DA Z X EE [e] dA)(hg:Gl X "all":=by rfl)(he:starEach [e] X.env=(false,eval e X.env)::starEach [] X.env:=by rfl)(hpl:(backTo pos (starEach [] X.env)).any (·.1)=false:=by rfl):DE Z X EE (.Call (.Name "all" p) [e] [] pos) (dFn all1 dA):=
 x03 (y2h hc) z0o PyProof.Rows.Boot.«all» hm ha hg (by decide) (by decide) he hpl
theorem x71(hm:X.mg "int"=none)(ha:DA Z X EE [e] dA)(hg:Gl X "int":=by rfl)(he:starEach [e] X.env=(false,eval e X.env)::starEach [] X.env:=by rfl)(hpl:(backTo pos (starEach [] X.env)).any (·.1)=false:=by rfl):DE Z X EE (.Call (.Name "int" p) [e] [] pos) (dFn int1 dA):=
 x93 x9r z0p PyProof.Rows.Boot.«int» hm ha hg (by decide) (by decide) he hpl
end
theorem y24:tuprevW (.lst ws)=some (.tup ws.reverse):=rfl
theorem x4g{bs:List Bool}:all1 [.lst (bs.map .bl)]=some (.bl (bs.all id)):=by
 show(boolsW (bs.map W.bl)).map _=_;rw[q85];rfl
theorem z3d{i:Int}:int1 [.int i]=some (.int i):=rfl
theorem z3e{b:Bool}:int1 [.bl b]=some (.int (if b then 1 else 0)):=rfl
theorem cast0:((0:Nat):Int)=0:=rfl
theorem cast1:((1:Nat):Int)=1:=rfl
theorem y0q{b:List S->SR}(I:Nat->List S->Prop):∀(ws:List W)(k:Nat)(e:List S),I k e->(∀(j:Nat)(w:W)(e:List S),ws[j]?=some w->I (k+j) e->∃e',b (e.set i (.fr w))=.nx e'/\I (k+j+1) e')->∃e',forD i b ws e=.nx e'/\I (k+ws.length) e'
 |[],k,e,h0,_=>⟨e,rfl,h0⟩
 |w::ws,k,e,h0,h=>by
  obtain⟨e1,h1,h2⟩:=h 0 w e rfl h0
  obtain⟨e2,h3,h4⟩:=y0q I ws (k+1) e1 h2 fun j u e hu hI=>by
   have z:=h (j+1) u e (by simpa using hu) (by rw[show k+(j+1)=k+1+j by omega];exact hI);rw[show k+(j+1)+1=k+1+j+1 by omega]at z;exact z
  refine⟨e2,?_,?_⟩
  ·rw[q4z,h1,q5k,h3]
  ·rw[w0o,show k+(ws.length+1)=k+1+ws.length by omega];exact h4
theorem q44{hi:Int}:(rangeW lo hi).length=(hi-lo).toNat:=by simp[rangeW]
theorem y0r{hi:Int}{j:Nat}(h:(rangeW lo hi)[j]?=some w):w=.int (lo+j)/\j<(hi-lo).toNat:=by
 unfold rangeW at h;rw[w0v]at h;obtain⟨k,h1,rfl⟩:=w0n.mp h;obtain⟨h2,h3⟩:=w0c.mp h1;simp at h2 h3;subst h3;exact⟨rfl,by omega⟩
theorem q46{b:List S->SR}{hi:Int}(n:Nat)(hn:(hi-lo).toNat=n)(I:Nat->List S->Prop)(e:List S)(h0:I 0 e)(h:∀(j:Nat)(e:List S),j<n->I j e->∃e',b (e.set i (.fr (.int (lo+j))))=.nx e'/\I (j+1) e'):∃e',forD i b (rangeW lo hi) e=.nx e'/\I n e':=by
 obtain⟨e',h1,h2⟩:=y0q (b:=b) (i:=i) I (rangeW lo hi) 0 e h0 fun j w e hw hI=>by
  obtain⟨rfl,hj⟩:=y0r hw;rw[w4q]at hI |-
  exact h j e (by omega) hI
 rw[q44,hn,w4q]at h2;exact⟨e',h1,h2⟩
noncomputable def dLend(F:List W->FR)(i:Nat)(dA:Den (List W)):Den W:=fun e=>match e[i]? with
 |some (.own _ _)=>(dA e).bind fun us e1=>match e1[i]? with
  |some (.own _ ws)=>match F (.lst ws::us)with
   |.ok (.fr w)=>if scalW w=true then .ok w e1 else .no
   |_=>.no
  |_=>.no
 |_=>.no
mutual
noncomputable def conIn(K:PySem.W.Frag):W->Value->Bool
 |.non,u=>match u with|.none=>true|_=>false
 |.bl b,u=>match u with|.bool c=>b==c|_=>false
 |.int i,u=>match u with|.int j _=>decide (i=j)|_=>false
 |.str x,u=>match u with|.str y _=>decide (x=y)|_=>false
 |.tup ws,u=>match u with
  |.ref a=>match K.lookup a with
   |some o=>(o.cls==.type "tuple"&&o.dict.isNone)&&(match o.data with|.seq its _=>Nat.ble its.size 1000000&&consIn K ws its.toList|_=>false)
   |none=>false
  |_=>false
 |.lst _,_=>false
 |.exc _,_=>false
 |.dic _,_=>false
 |.dw _ _ _ _,_=>false
 |.fn _ _ _,_=>false
noncomputable def consIn(K:PySem.W.Frag):List W->List Value->Bool
 |[],us=>us.isEmpty
 |w::ws,us=>match us with
  |u::us=>conIn K w u&&consIn K ws us
  |[]=>false
end
mutual
theorem x72{K:PySem.W.Frag}:∀(w:W){u:Value},conIn K w u=true->∃v,RelV v u/\∀G,Rep K G w v
 |.non,u,h=>by
  unfold conIn at h;split at h
  ·exact⟨.non,rfl,fun _=>rfl⟩
  ·cases h
 |.bl b,u,h=>by
  unfold conIn at h;split at h
  ·rename_i c;have:b=c:=by simpa using h
   exact⟨.bl b,by rw[this];rfl,fun _=>rfl⟩
  ·cases h
 |.int i,u,h=>by
  unfold conIn at h;split at h
  ·rename_i j t;have:i=j:=by simpa using h
   exact⟨.int i,⟨t,by rw[this]⟩,fun _=>rfl⟩
  ·cases h
 |.str x,u,h=>by
  unfold conIn at h;split at h
  ·rename_i y t;have:x=y:=by simpa using h
   exact⟨.str x,⟨t,by rw[this]⟩,fun _=>rfl⟩
  ·cases h
 |.tup ws,u,h=>by
  unfold conIn at h;split at h
  ·rename_i a;split at h
   ·rename_i o ho;rw[w0r]at h;obtain⟨h1,h2⟩:=h;split at h2
    ·rename_i its n hd;rw[w0r]at h2;obtain⟨h3,h4⟩:=h2;obtain⟨xs,r,q⟩:=x5c ws h4;exact⟨.ref a,rfl,fun G=>⟨a,xs,rfl,.inr ⟨o,its,n,ho,by simpa using ((w0r _ _).mp h1).1,Option.isNone_iff_eq_none.mp ((w0r _ _).mp h1).2,hd,by rw[sizeLine_eq];have:=w4b h3;omega,r⟩,q G⟩⟩
    ·cases h2
   ·cases h
  ·cases h
 |.lst _,u,h=>by unfold conIn at h;cases h
 |.exc _,u,h=>by unfold conIn at h;cases h
 |.dic _,u,h=>by unfold conIn at h;cases h
 |.dw _ _ _ _,u,h=>by unfold conIn at h;cases h
 |.fn _ _ _,u,h=>by unfold conIn at h;cases h
theorem x5c{K:PySem.W.Frag}:∀(ws:List W){us:List Value},consIn K ws us=true->∃xs,Vals xs us/\∀G,Reps K G ws xs
 |[],us,h=>by
  unfold consIn at h;cases us with
  |nil=>exact⟨[],.nil,fun _=>rfl⟩
  |cons _ _=>cases h
 |w::ws,us,h=>by
  unfold consIn at h;cases us with
  |nil=>cases h
  |cons u us=>
   rw[w0r]at h;obtain⟨v,r,q⟩:=x72 w h.1;obtain⟨xs,r',q'⟩:=x5c ws h.2;exact⟨v::xs,.cons r r',fun G=>⟨v,xs,rfl,q G,q' G⟩⟩
end
theorem y0s(hm:X.mg x=some u)(hc:conIn X.K w u=true)(hg:Gl X x:=by rfl)(hd:(x==("__debug__":Str))=false:=by decide):DE Z X EE (.Name x pos) (dC w):=by
 obtain⟨v,r,q⟩:=x72 w hc;exact PE.mono (x7p hg hm r hd) fun σ H Q ⟨G,e,rel,h⟩=>h G v H rel (.refl _) (q G)
theorem x1b(l : Addr)(items : Array Value)(n : Nat)(b : Addr)(items2 : Array Value)(n2 : Nat)(T : String)(hT : T = "list" \/ T = "tuple")(hs0 : ¬(!items.isEmpty && Builtin.List.listTooLong (items.size + items2.size)) = true)(hs1 : items.size <= sizeLine)(hs2 : items.size + items2.size <= sizeLine + 1) :
  Meets (Builtin.«list.extend» { pos := [Value.ref l, Value.ref b] }) fun _ R s =>
     s.heap.get? l = some { cls := Value.type "list", data := Data.seq items n } /\
      (∃ o, s.heap.get? b = some o /\ o.cls = .type T /\ o.data = Data.seq items2 n2) /\
       R (Except.ok (Flow.ret Value.none)) { s with heap := s.heap.update l (Obj.mapSeq fun x => x ++ items2) } := by
 refine Meets.of_wp fun prog w A R s h => ?_
 obtain ⟨hl, ⟨o, hb, hc, hd⟩, h⟩ := h;obtain ⟨cls, dict, data, slots⟩ := o;simp only at hc hd;subst hc hd;refine wpAny_bind (wpAny_bind (wpAny_ite_true rfl (wpAny_pure (wpAny_pure ?_))));refine wpAny_bind (wpAny_bind (AutoSeq1.wpAny_loadPart' hb (wpAny_pure (wpAny_ite_true ?_ ?_))))
 ·rcases hT with rfl | rfl <;> simp
 refine wpAny_bind (wpAny_bind (wpAny_bind (wpAny_load' hb (wpAny_pure (wpAny_pure ?_)))));refine wpAny_bind (wpAny_bind (wpAny_bind (wpAny_load' hl (wpAny_pure (wpAny_pure ?_)))));refine wpAny_ite_false (by simpa using hs0) ?_;exact wpAny_bind (wpAny_updateSeq hl rfl (wpAny_pure ⟨_, rfl, h⟩) hs1 (by rw [Array.size_append]; exact hs2))
def rExt(K:PySem.W.Frag):V->List V->Hp->VK->Prop:=fun x vs H Q=>∃l b xs zs,x=.ref l/\vs=[.ref b]/\H l=some (.lst xs)/\(SqL K H b zs\/SqT K H b zs)/\xs.length+zs.length<=sizeLine/\Q .non (upd H l (.lst (xs++zs)))
theorem z0r:MtM X "list.extend" (rExt X.K):=by
 intro pins s σ H x vs v us Q I rx rv h;obtain⟨l,b,xs,zs,rfl,rfl,hH,hB,hz,q⟩:=h;cases rx;obtain⟨u,rfl,ru⟩:=rv.one;cases ru;obtain⟨z,its,n,r,hl,e⟩:=I.lstM hH
 have fin:∀(T:String)(its2:List Value)(n2:Nat)(o:Obj),T="list"\/T="tuple"->Vals zs its2->s.heap.get? b=some o->o.cls=.type T->o.data=.seq its2.toArray n2->wpAny (model X.prog X.w) X.A (call (.builtin "list.extend") [.ref l,.ref b]) (EP X pins σ Q) X.xe s:=fun T its2 n2 o hT r2 e2 hc hd=>by
  have hl2:=r2.length;have hsz:its.toArray.size+its2.toArray.size<=sizeLine:=by rw[w0d,w0d];omega
  have hlong:¬(!its.toArray.isEmpty&&Builtin.List.listTooLong (its.toArray.size+its2.toArray.size))=true:=by
   rw[notLongL hsz,w4f];exact w0q
  refine call_meets F.slot_list_extend ⟨_,e,rfl⟩ F.entry_list_extend (F.args_list_extend_2 _ _)
   (x1b l its.toArray n b its2.toArray n2 T hT hlong (by rw[w0d];omega) (by omega)) ⟨e,⟨o,e2,hc,hd⟩,?_⟩
  refine⟨.non,_,I.lset (its':=its++its2) hH e (by simp) (r.append r2) ?_,rfl,q⟩;rw[w0i];omega
 rcases hB with hB|hB
 ·obtain⟨its2,r2,pl,_⟩:=I.list hB;obtain⟨o,e2,hc,n2,hd⟩:=pl.isList;exact fin "list" its2 n2 o (.inl rfl) r2 e2 hc hd
 ·obtain⟨its2,r2,⟨o,e2,hc,n2,hd⟩,_⟩:=I.tuple hB;exact fin "tuple" its2 n2 o (.inr rfl) r2 e2 hc hd
noncomputable def dExt(i:Nat)(d:Den (List W)):List S->SR:=fun e=>match e[i]? with
 |some (.own _ _)=>(d e).stm fun ws e1=>match ws,e1[i]? with
  |[w],some (.own b xs)=>match seqW w with
   |some ys=>if xs.length+ys.length<=16777216 then .nx (e1.set i (.own b (xs++ys)))else .no
   |none=>.no
  |_,_=>.no
 |_=>.no
section
variable{p:Pos}
theorem z0s(i:Nat){apos cpos:Pos}(ha:DA Z X EE (e::es) dA)(hN:X.N[i]?=some x:=by rfl)(hv:Vis X.env.scope x:=by walk_at "1")(hd:(x==("__debug__":Str))=false:=by decide)(hcd:(x==("__classdict__":Str))=false:=by decide)
  (hbase:attributeBase (.Name x p) "extend" X.env (eval (.Name x p) X.env)=eval (.Name x p) X.env:=by rfl)
  (hfew:((backTo cpos (starEach (e::es) X.env)).all (fun x=>!x.1)&&(backToKw cpos (keywordEach [] X.env)).all (fun x=>x.1.isSome)&&decide ((e::es).length+([]:List Keyword).length+(if([]:List Keyword).isEmpty then 0 else 1)<30))=true:=by rfl)
  (hline:(apos.endLine==cpos.line)=true:=by rfl)(hs:starEach (e::es) X.env=(false,eval e X.env)::starEach es X.env:=by rfl)(hplain:(backTo cpos (starEach es X.env)).any (·.1)=false:=by rfl)
  (hsw:swapsWith (.Call (.Attribute (.Name x p) "extend" apos) (e::es) [] cpos) none pos.line X.env=pure false:=by rfl):
  DS Z X EE (.Expr (.Call (.Attribute (.Name x p) "extend" apos) (e::es) [] cpos) pos) (dExt i dA):=by
 refine PS.mono (x13 (y4g PySem.F.plainAttrs_list PySem.F.slot_list_extend PySem.F.type_list_extend z0r (pv i hN hv hd hcd) ha hbase hfew hline hs hplain) hsw) ?_;rintro D σ H ⟨G,e,rel,h⟩;unfold dExt at h;split at h
 ·rename_i b0 ws0 he0;obtain⟨a,xs,h1,h2,h3,h4,h5⟩:=rel.own he0;refine⟨.ref a,h1,.inl ⟨rfl,xs,SqL.of h2⟩,G,e,rel,(q2d h).imp (fun ws e1 h G1 vs H1 r1 s1 p1=>?_) fun _ _ h=>h⟩
  split at h
  ·rename_i w b ys he1;obtain⟨a',zs,g1,g2,g3,g4,g5⟩:=r1.own he1;rw[h1]at g1;cases g1;obtain⟨y,r,rfl,py,pr⟩:=p1;cases(show r=[]from pr);split at h
   ·rename_i us hu;split at h
    ·rename_i hl
     have step:∀c cs,y=.ref c->(SqL X.K G1 c cs\/SqT X.K G1 c cs)->Reps X.K G1 us cs->rExt X.K (.ref a) [y] H1 (fun v H'=>D.nx σ H'):=fun c cs hy hq hr=>by
      subst hy;refine⟨a,c,zs,cs,rfl,rfl,g2,?_,by rw[g5.length,hr.length,sizeLine_eq];exact hl,?_⟩
      ·rcases hq with q|q
       ·exact .inl (r1.sub.seq q)
       ·exact .inr (r1.sub.tup q)
      ·exact h G1 σ _ (r1.mut he1 h1 (g5.append hr)) s1
     unfold seqW at hu;split at hu
     ·cases hu;obtain⟨c,cs,hy,q,hr⟩:=py;exact step c cs hy (.inr q) hr
     ·cases hu;obtain⟨c,cs,hy,q,hr⟩:=py;exact step c cs hy (.inl q) hr
     ·cases hu
    ·exact h.elim
   ·exact h.elim
  ·exact h.elim
 ·exact h.elim
end
structure TabK(P:Program)(w:World)(K:PySem.W.Frag)(d:Addr)(tb:List (Str×Int)):Prop where
 tab:∀h,K.In h->PyProof.Rows.StrTab P w h d (PySem.W.kdpD tb)
 obj:∃o,K.lookup d=some o/\o.cls=.type "dict" /\ o.dict=none
section
variable{e:List S}
noncomputable def putC(i:Nat)(e:List S)(b:Option Nat)(ws:List W)(w:W):Option Nat->SR
 |some j=>.nx (e.set i (.own b (ws.set j w)))
 |none=>.no
noncomputable def putB(i:Nat)(e:List S)(w:W):W->Option S->SR
 |.int k,some (.own b ws)=>putC i e b ws w (ixN ws.length k)
 |_,_=>.no
noncomputable def putA(i:Nat)(dk:Den W)(w:W)(e:List S):Option S->SR
 |some (.own _ _)=>(dk e).stm fun k e2=>putB i e2 w k e2[i]?
 |_=>.no
theorem y25:putA i dk w e (some (.own b ws))=(dk e).stm fun k e2=>putB i e2 w k e2[i]?:=rfl
theorem y26{k:Int}:putB i e w (.int k) (some (.own b ws))=putC i e b ws w (ixN ws.length k):=rfl
theorem y0t{j:Nat}:putC i e b ws w (some j)=.nx (e.set i (.own b (ws.set j w))):=rfl
noncomputable def lendC(e:List S):FR->R W
 |.ok (.fr w)=>if scalW w=true then .ok w e else .no
 |_=>.no
noncomputable def lendB(F:List W->FR)(us:List W)(e:List S):Option S->R W
 |some (.own _ ws)=>lendC e (F (.lst ws::us))
 |_=>.no
noncomputable def lendA(F:List W->FR)(i:Nat)(dA:Den (List W))(e:List S):Option S->R W
 |some (.own _ _)=>(dA e).bind fun us e1=>lendB F us e1 e1[i]?
 |_=>.no
theorem y6l{F:List W->FR}:dLend F i dA e=lendA F i dA e e[i]?:=by
 unfold dLend lendA;cases e[i]? with
 |none=>rfl
 |some s=>cases s with
  |own b ws=>
   dsimp only;congr 1
  |_=>rfl
theorem y0u{F:List W->FR}:lendA F i dA e (some (.own b ws))=(dA e).bind fun us e1=>lendB F us e1 e1[i]?:=rfl
theorem y0v{F:List W->FR}:lendB F us e (some (.own b ws))=lendC e (F (.lst ws::us)):=rfl
theorem y27:lendC e (.ok (.fr w))=if scalW w=true then .ok w e else .no:=rfl
noncomputable def extB(i:Nat)(e:List S)(b:Option Nat)(xs:List W):Option (List W)->SR
 |some ys=>if xs.length+ys.length<=16777216 then .nx (e.set i (.own b (xs++ys)))else .no
 |none=>.no
noncomputable def extA(i:Nat)(e:List S):List W->Option S->SR
 |[w],some (.own b xs)=>extB i e b xs (seqW w)
 |_,_=>.no
noncomputable def ext0(i:Nat)(d:Den (List W))(e:List S):Option S->SR
 |some (.own _ _)=>(d e).stm fun ws e1=>extA i e1 ws e1[i]?
 |_=>.no
theorem z0t{d:Den (List W)}:dExt i d e=ext0 i d e e[i]?:=by
 unfold dExt ext0;cases e[i]? with
 |none=>rfl
 |some s=>cases s with
  |own b ws=>
   dsimp only;congr 1
  |_=>rfl
theorem y28{d:Den (List W)}{xs:List W}:ext0 i d e (some (.own b xs))=(d e).stm fun ws e1=>extA i e1 ws e1[i]?:=rfl
theorem y29{xs:List W}:extA i e [w] (some (.own b xs))=extB i e b xs (seqW w):=rfl
theorem y0w{xs ys:List W}:extB i e b xs (some ys)=if xs.length+ys.length<=16777216 then .nx (e.set i (.own b (xs++ys)))else .no:=rfl
end
noncomputable def compP(c:Den Bool)(d:Den W)(pe:List S):List (W×W)->Option (List W)
 |[]=>some []
 |p::ps=>match c (.fr p.1::.fr p.2::pe)with
  |.ok true e1=>match d e1 with
   |.ok y _=>(compP c d pe ps).map (y::·)
   |_=>none
  |.ok false _=>compP c d pe ps
  |_=>none
noncomputable def compPK(js:List Nat)(c:Den Bool)(d:Den W)(ps:List (W×W))(e1:List S):R (List W):=
 if ps.length<=16777216 then(match compP c d (pjS js (frzs js e1)) ps with
  |some out=>.ok out (frzs js e1)
  |none=>.no)else .no
noncomputable def dCompP(js:List Nat)(di:Den (List (W×W)))(c:Den Bool)(d:Den W):Den (List W):=fun e=>(di e).bind fun ps e1=>compPK js c d ps e1
structure Walk2(K:PySem.W.Frag)(G1:Hp)(J:It)(ps:List (W×W)):Prop where
 go:∀(i:Nat)(G H:Hp),Same G1 G->Same G H->i<ps.length->J.go i H
 yld:∀(i:Nat)(G H:Hp)(x:V)(H':Hp),Same G1 G->Same G H->J.yld i H x H'->∀u v,ps[i]?=some (u,v) ->
  Grow G H G H'/\∀(m n:Nat)(σ:St)(Q:St->Hp->Prop),(∀y z,Rep K G u y->Rep K G v z->Q ((σ.set m (some y)).set n (some z)) H')->gTup K 2 (gCons (gName m) (gCons (gName n) gNil)) x σ H' Q
 stop:∀(i:Nat)(G H:Hp),Same G1 G->Same G H->ps.length<=i->J.stop i H
def liftI(K:PySem.W.Frag)(Z:Zt)(EE:L2.St->XK)(d:Den (List (W×W))):TI:=fun σ H R=>AtG K Z σ H fun G e=>(d e).holds (fun ps e1=>∀G1 H1 J,Rel K Z G1 σ H1 e1->Same G G1->Walk2 K G1 J ps->R J H1) (XH K Z EE σ G)
def DI(Z:Zt)(X:Cx)(EE:L2.St->XK)(tg iter:Expr)(d:Den (List (W×W))):Prop:=PI X tg iter (liftI X.K Z EE d)
theorem PI.mono{tg iter:Expr}{wi wi':TI}(h:PI X tg iter wi)(m:∀σ H R,wi' σ H R->wi σ H R):PI X tg iter wi':=fun pins s σ H R I q=>h pins s σ H R I (m σ H R q)
theorem x8t{k:Nat}{p:W×W}(h:ps[k]?=some p):ps.drop k=p::ps.drop (k+1):=by
 obtain⟨h1,h2⟩:=w0c.mp h;rw[w3p h1,h2]
theorem Rel.block2{e:List S}(r:Rel K Z G σ H e)(js:List Nat){u:W}{y x:V}(q:Rep K G u y)(p:Rep K G w x):Rel K ⟨H,G,[]⟩ G (some y::some x::pj js σ) H (.fr u::.fr w::pjS js e):=by
 have b:=r.block js p
 have hfr:∀(i:Nat)(s:S),(S.fr w::pjS js e)[i]?=some s->s=.no\/∃u,s=.fr u:=fun i s h=>by
  cases i with
  |zero=>cases h;exact .inr ⟨w,rfl⟩
  |succ k=>
   rw[w0f]at h;unfold pjS at h;rw[w0v]at h;obtain⟨j,h1,h2⟩:=w0n.mp h;unfold pj1 at h2;split at h2
   ·subst h2;exact .inr ⟨_,rfl⟩
   ·subst h2;exact .inl rfl
 refine⟨b.sub,fun i s h=>?_,?_,fun i j b1 b2 w1 w2 a h1 h2 _ _=>?_,b.ent,b.ion,b.gen⟩
 ·cases i with
  |zero=>cases h;exact⟨y,rfl,q⟩
  |succ i=>
   rw[w0f]at h;have z:=b.slot i s h;rcases hfr i s h with rfl|⟨u',rfl⟩
   ·trivial
   ·obtain⟨v,z1,z2⟩:=b.fr h;exact⟨v,by rw[w0f,z1];rfl,z2⟩
 ·have:=b.len;simp only[w0o]at this |-
  omega
 ·cases i with
  |zero=>cases h1
  |succ i=>
   rw[w0f]at h1;rcases hfr i _ h1 with z|⟨u',z⟩<;>cases z
theorem y3a{J:It}{Q:VK}{G0 H1:Hp}{e1:List S}(W0:Walk2 K G1 J ps)(r1:Rel K Z G1 σ H1 e1)(s1:Same G0 G1)(hl:ps.length<=16777216)
  (hz:∀p,H1 p=none->p∉Z.io)(hc:compP c d (pjS js e1) ps=some out)
  (h:∀G' a xs H',Rel K Z G' σ H' e1->Same G0 G'->H' a=some (.lst xs)->G' a=none->Z.H a=none->Free σ e1 a->Reps K G' out xs->Q (.ref a) H'):
  ∀D,H1 D=none->∃W:Nat->Nat->Hp->Prop,(∃m,W 0 m (upd H1 D (.lst [])))/\∀i m H2,W i m H2 ->
   (J.stop i H2/\Q (.ref D) H2)\/(J.go i H2/\∀x H3,J.yld i H2 x H3->gTup K 2 (gCons (gName 0) (gCons (gName 1) gNil)) x (List.replicate 2 none++pj js σ) H3 fun σ4 H4=>Kp (List.replicate 2 none++pj js σ) σ4/\cT K c σ4 H4 fun b H5=>
    if b=true then cE K d σ4 H5 fun y H6=>∃ys,H6 D=some (.lst ys)/\ys.length<sizeLine/\∃m',m'<m/\W (i+1) m' (upd H6 D (.lst (ys++[y])))else ∃m',m'<m/\W (i+1) m' H5):=by
 intro D hD
 refine⟨fun i m H2=>m=ps.length-i/\i<=ps.length/\∃G2 ys done rest,Rel K Z G2 σ H2 e1/\Same G1 G2/\H2 D=some (.lst ys)/\G2 D=none/\Reps K G2 done ys/\done.length<=i/\compP c d (pjS js e1) (ps.drop i)=some rest/\done++rest=out,
  ⟨ps.length,by omega,w1i _,G1,[],[],out,r1.grow (Grow.hid r1.sub hD _),.refl _,q0m,r1.sub.free hD,rfl,w0e _,hc,rfl⟩,?_⟩
 rintro i m H2 ⟨rfl,hi,G2,ys,done,rest,r2,s2,hd2,hg2,rp2,hdl,hc2,ho⟩;have hfree:Free σ e1 D:=q7s r1 hD;have hzh:Z.H D=none:=q6l r1 hD
 by_cases hlt:i<ps.length
 ·refine .inr ⟨W0.go i G2 H2 s2 r2.sub hlt,fun x H3 hy=>?_⟩
  have hp:ps[i]?=some ((ps[i]).1,(ps[i]).2):=by rw[w0b hlt]
  obtain⟨g3,hgo⟩:=W0.yld i G2 H2 x H3 s2 r2.sub hy _ _ hp;have r2':=r2.grow g3;have hd3:H3 D=some (.lst ys):=g3.hh _ _ hd2;rw[x8t hp]at hc2;refine hgo 0 1 _ _ fun yv zv py pz=>⟨Kp.two,⟨H3,G2,[]⟩,G2,.fr (ps[i]).1::.fr (ps[i]).2::pjS js e1,r2'.block2 js py pz,?_⟩
  unfold compP at hc2;cases qc:c (.fr (ps[i]).1::.fr (ps[i]).2::pjS js e1)with
  |no=>rw[qc]at hc2;cases hc2
  |ex _ _=>rw[qc]at hc2;cases hc2
  |ok k e2=>
   rw[qc]at hc2;intro G3 H5 r3 s3;have g3:=r3.toGrow s3;cases k with
   |false=>
    exact⟨ps.length-(i+1),by omega,rfl,hlt,G3,ys,done,rest,r2'.grow g3,s2.trans s3,g3.hh _ _ hd3,by rw[g3.new D (by rw[hd3];simp)];exact hg2,Reps.mono s3 _ rp2,by omega,hc2,ho⟩
   |true=>
    refine⟨⟨H3,G2,[]⟩,G3,e2,r3,?_⟩;dsimp only at hc2;cases qd:d e2 with
    |no=>rw[qd]at hc2;cases hc2
    |ex _ _=>rw[qd]at hc2;cases hc2
    |ok y e3=>
     rw[qd]at hc2;intro G4 v H6 r4 s4 p4;have g4:=r4.toGrow (s3.trans s4);obtain⟨rest',hr,rfl⟩:=w0n.mp hc2;have hd6:H6 D=some (.lst ys):=g4.hh _ _ hd3;have hg6:G4 D=none:=by rw[g4.new D (by rw[hd3];simp)];exact hg2
     refine⟨ys,hd6,?_,ps.length-(i+1),by omega,rfl,hlt,G4,ys++[v],done++[y],rest',(r2'.grow g4).mutFree hg6 hzh (hz D hD) hfree hd6,s2.trans (s3.trans s4),q0m,hg6,(Reps.mono (s3.trans s4) _ rp2).append (.one p4),by simp;omega,hr,by rw[w2w];exact ho⟩;rw[rp2.length,sizeLine_eq];omega
 ·have:i=ps.length:=by omega
  subst this;rw[w3w]at hc2;cases hc2;rw[w2q]at ho;subst ho;exact .inl ⟨W0.stop _ G2 H2 s2 r2.sub (by omega),h G2 D ys H2 r2 (s1.trans s2) hd2 hg2 hzh hfree rp2⟩
section
variable{elt iter a:Expr}{body:List Stmt}{ifs:List Expr}{scope sc:Scope}{pt p3:Pos}{Nf N:List Str}{di:Den (List (W×W))}{d0:Den W}{s1:List S->SR}
theorem x8u:∀σ H Q,liftF K Z EE (dCompP js di c d) σ H Q->tComp (liftI K Z EE di) 2 js (gTup K 2 (gCons (gName 0) (gCons (gName 1) gNil))) (cT K c) (cE K d) σ H Q:=by
 rintro σ H Q ⟨G,e,rel,h⟩;simp only[dCompP,R.holds_bind]at h;refine⟨G,e,rel,h.imp (fun ps e1 h G1 H1 J r1 s1 W0=>?_) fun _ _ h=>h⟩
 unfold compPK at h;split at h
 ·rename_i hl;split at h
  ·rename_i out ho;obtain⟨G2,s2,r2⟩:=r1.frzs js;have W1:Walk2 K G2 J ps:=⟨fun i G H a=>W0.go i G H (s2.trans a),fun i G H x H' a=>W0.yld i G H x H' (s2.trans a),fun i G H a=>W0.stop i G H (s2.trans a)⟩
   exact y3a W1 r2 (s1.trans s2) hl (ionone r2) ho h
  ·exact h.elim
 ·exact h.elim
theorem q6n(hc:X.calm=true)(hi:DI Z X EE (.Tuple [.Name x p1,.Name y p2] kt p3) iter di)(ok:compOk sc scope N Nf js=true)
  (ht:∀Z' cl C s₀ H₀ ex,DTs Z' (X.cp ([x,y]++Nf) scope cl C s₀ H₀ ex) (fun _=>E0) ifs c)(he:∀Z' cl C s₀ H₀ ex,DE Z' (X.cp ([x,y]++Nf) scope cl C s₀ H₀ ex) (fun _=>E0) elt d)
  (hg:∀cl C s₀ H₀ ex,PG (X.cp ([x,y]++Nf) scope cl C s₀ H₀ ex) (.Tuple [.Name x p1,.Name y p2] kt p3) (gTup X.K 2 (gCons (gName 0) (gCons (gName 1) gNil))))
  (hsc:X.env.scope=sc:=by rfl)(hN:X.N=N:=by rfl)(hs:∀x,foldedSetIterable iter X.env x=pure x:=by intro _;rfl):
  DF Z X EE (.ListComp elt [⟨.Tuple [.Name x p1,.Name y p2] kt p3,iter,ifs,0⟩] scope pos) (dCompP js di c d):=by
 exact PE.mono (x0f (Nl:=[x,y]) (tc:=cT X.K c) (te:=cE X.K d) hc hi ok hg (x05 ht) (x06 he) hsc hN hs) x8u
noncomputable def pairsW:List W->Option (List (W×W))
 |[]=>some []
 |.tup [u,v]::ws=>(pairsW ws).map ((u,v)::·)
 |_=>none
noncomputable def enumL:Nat->List W->List (W×W)
 |_,[]=>[]
 |k,w::ws=>(.int k,w)::enumL (k+1) ws
noncomputable def srcE(dA:Den (List W)):Den (List (W×W)):=fun e=>(dA e).bind fun ws e1=>match ws with
 |[.lst us]=>.ok (enumL 0 us) e1
 |_=>.no
theorem x3d:∀(k:Nat)(ws:List W),(enumL k ws).length=ws.length
 |_,[]=>rfl
 |k,w::ws=>by simp[enumL,x3d (k+1) ws]
theorem x3e:∀(k:Nat)(ws:List W)(i:Nat)(u v:W),(enumL k ws)[i]?=some (u,v)->u=.int ((k+i:Nat):Int)/\ws[i]?=some v
 |_,[],i,u,v,h=>by simp[enumL]at h
 |k,w::ws,i,u,v,h=>by
  cases i with
  |zero=>
   have e:(W.int k,w)=(u,v):=Option.some.inj h;cases e;exact⟨rfl,rfl⟩
  |succ i=>
   have h:(enumL (k+1) ws)[i]?=some (u,v):=h;obtain⟨h1,h2⟩:=x3e (k+1) ws i u v h;exact⟨by rw[h1];congr 2;omega,h2⟩
noncomputable def Ite(K:PySem.W.Frag)(a:Addr):It:=
 ⟨fun i H=>∃xs x,SqL K H a xs/\xs[i]?=some x,fun i H x H'=>∃b y,x=.ref b/\H b=none/\(∀xs,SqL K H a xs->xs[i]?=some y)/\H'=upd H b (.tup [.int i,y]),fun i H=>∃xs,SqL K H a xs/\xs.length<=i⟩
theorem x3f{t':Nat}{fp:List Addr}{b:Addr}{o:HO}(I:Inv X pins σ H s)(k:∀b o,b∉fp->s.heap.get? b=some o->h'.get? b=some o)(hf:∀b∈fp,FpOk X pins H b)(hp:s.heap.objs.size<=b)(new:ObjOk X.prog X.w (upd H b o) h' b o):Inv X pins σ (upd H b o) {s with heap:=h',toks:=t'}:=by
 have hn:H b=none:=I.hok.fresh hp;have ne:∀c u,H c=some u->c≠b:=fun c u e=>q0s e hn
 have nfp:∀c u,H c=some u->c∉fp:=fun c u e z=>by rw[(hf c z).1]at e;cases e
 have lt:∀c o,s.heap.get? c=some o->c≠b:=fun c o e=>w0t (w0s (Heap.lt_size e) hp)
 refine I.step (g':=s.gens) (d':=s.drawn) (ch:=fp) (fun c hc=>?_) (fun c o _ _ hc e _=>k c o hc e) (fun c o _ _ hc e _=>⟨o.slots,k c o hc e⟩) (fun c o _ e n=>by rw[q0f (lt c o e)];exact n)
  (fun c o hc e=>⟨o,k c o hc e⟩) (fun c xs e=>by rw[q0f (ne c _ e)];exact e) (fun c o u e=>by rw[q0f (ne c _ e)];exact e) (fun c ps e=>⟨#[],by rw[q0f (ne c _ e),e];simp⟩) (fun m hm=>?_) (fun c u e=>?_) I.bare
 ·obtain⟨f0,f1,f2,f3,f4,f5⟩:=hf c hc;exact⟨f3,f1,f4,f5⟩
 ·obtain⟨o,es,ep,ho,r⟩:=hm;exact⟨o,es,ep,k _ o (fun z=>(hf _ z).2.1 rfl) ho,r⟩
 ·by_cases hb:c=b
  ·subst hb;rw[q0m]at e;cases e;exact new
  ·rw[q0f hb]at e;refine(I.hok c u e).stay (fun d v hd q=>k d v ?_ q) (fun d q=>by rw[q0f (ne d _ q)];exact q) fun d xs _ q=>by rw[q0f (ne d _ q)];exact q
   rcases hd with z|z
   ·rw[z];exact nfp c u e
   ·exact nfp d _ z
theorem y0x{w:World}(a e it:Addr)(hne:e≠it):Turn P w K (.Tuple elts kt pt) (Ite K a) [e,it] e (fun i h=>∃old,PySem.IsEnum h e it (i:Nat) old/\h.IsListIter it a i) where
 mem:=by simp
 obj:=fun i h ⟨old,st1,st2⟩ b hb=>by
  simp only[w0h,w0y,or_false]at hb;rcases hb with rfl|rfl
  ·exact⟨_,st1,fun v z=>by cases z⟩
  ·obtain⟨o,e,c,d⟩:=st2;exact⟨o,e,fun v z=>by rw[d]at z;cases z⟩
 keep:=fun i h h' ⟨old,st1,st2⟩ k=>⟨old,k e (by simp) _ st1,st2.at fun o e=>k it (by simp) o e⟩
 item:=by
  intro X hP hw hK hc i pins s σ H E I hf st hg;subst hP hw hK;obtain⟨old,st1,st2⟩:=st;obtain⟨xs,x,hq,hx⟩:=hg;obtain⟨its,rv,p,hz⟩:=I.list hq;obtain⟨u,hu,ru⟩:=rv.get hx;refine wpAny_pyNext_enum_item st1 st2 p.isList (x:=u) (by simpa using hu) hne fun h1 heo hit1 ht1 hz1 hk1=>⟨_,rfl,?_⟩
  refine wpAny_letOwnedTupleGo_enum heo fun h2 he2 hs2=>?_
  have hs2:Heap.SameBut e h1 h2:=hs2;have hlt:e<s.heap.objs.size:=Heap.lt_size st1;have hfr:H s.heap.objs.size=none:=I.hok.fresh (w0e _);have ht2:h2.get? s.heap.objs.size=some {cls:=.type "tuple", data:=.seq #[.int i s.toks,u]}:=(hs2.2 _ (w3k hlt)).trans ht1;refine⟨.ref s.heap.objs.size,upd H s.heap.objs.size (.tup [.int i,x]),?_,rfl,⟨_,x,rfl,hfr,fun ys hy=>by rw[I.list_inj hy hq];exact hx,rfl⟩,⟨u,he2,?_⟩,fun b hb=>?_⟩
  ·show L2.Inv X pins σ _ {s with heap:=h2,toks:=s.toks+1};refine x3f (fp:=[e,it]) I (fun b o hb q=>?_) hf (w0e _) ⟨?_,[.int i s.toks,u],.cons ⟨_,rfl⟩ (.cons ru .nil),⟨_,ht2,rfl,?_⟩,⟨_,ht2,rfl⟩⟩
   ·simp only[w0h,w0y,or_false,not_or]at hb;exact(hs2.2 b hb.1).trans (hk1 b o hb.1 hb.2 q)
   ·rw[sizeLine_eq];simp
   ·exact⟨_,rfl⟩
  ·exact hit1.at fun o q=>(hs2.2 it (Ne.symm hne)).trans q
  ·have:b≠s.heap.objs.size:=by
    obtain⟨o,q,_⟩:∃o,s.heap.get? b=some o/\True:=by
     simp only[w0h,w0y,or_false]at hb;rcases hb with rfl|rfl
     ·exact⟨_,st1,trivial⟩
     ·obtain⟨o,e,_⟩:=st2;exact⟨o,e,trivial⟩
    exact w0t (Heap.lt_size q)
   rw[q0f this];exact(hf b hb).1
 done:=by
  intro X hP hw hK hc i pins s σ H E I hf st hg;subst hP hw hK;obtain⟨old,st1,st2⟩:=st;obtain⟨xs,hq,hx⟩:=hg;obtain⟨its,rv,p,hz⟩:=I.list hq;obtain⟨f0,f1,f2,f3,f4,f5⟩:=hf it (by simp);have hl:=rv.length;exact wpAny_pyNext_enum_end (I.ok.hd hc) st1 st2 p.isList (by simp;omega) fun h' eb=>⟨rfl,I.turned (t':=s.toks) (fun b o hb e=>eb b o hb e) f0 f1 f3 f4 f5⟩
 self:=fun _ _ _ _ _ ⟨old,st1,_⟩ h=>wpAny_pyIter_enum st1 h
def iEnum(K:PySem.W.Frag)(ta:TA):TI:=fun σ H R=>ta σ H fun vs H1=>∃a,vs=[.ref a]/\(∃xs,SqL K H1 a xs)/\R (Ite K a) H1
theorem y6m{ta:TA}{p:Pos}(hg:Gl X "enumerate")(hm:X.mg "enumerate"=none)(ha:PA X [a] ta)(hs:starEach [a] X.env=[(false,eval a X.env)]:=by rfl):PI X (.Tuple elts kt pt) (.Call (.Name "enumerate" p) [a] [] pos) (iEnum X.K ta):=by
 intro pins s σ H R I h;refine PyProof.Rows.Call_ (q5s I hg hm PyProof.Rows.boot_enumerate (PyProof.Rows.callWith_type1 (thn (ha pos pins s σ H _ I h) fun us s1 ⟨vs,H1,I1,r1,q1⟩=>?_) hs rfl))
 obtain⟨l,e,⟨xs,hq⟩,q⟩:=q1;subst e;cases r1 with
 |cons r rr=>
  cases rr;cases r;obtain⟨its,rv,p,hz⟩:=I1.list hq;refine call_enumerate_list p.isList fun h' he hit hsz hk=>?_
  refine wpAny_pyIter_enum he ?_;refine⟨s1.heap.objs.size+1,[s1.heap.objs.size+1,s1.heap.objs.size],_,_,H1,rfl,I1.kept (t':=s1.toks) hk,y0x l _ _ (Nat.succ_ne_self _),⟨_,he,hit⟩,fun b hb=>?_,q⟩
  simp only[w0h,w0y,or_false]at hb;rcases hb with rfl|rfl
  ·exact I1.fpOk (by omega) (I1.hok.fresh (by omega))
  ·exact I1.fpOk (w0e _) (I1.hok.fresh (w0e _))
theorem x8v{b:Addr}(rp:Reps K G1 ws xs)(hq:SqL K G1 b xs):Walk2 K G1 (Ite K b) (enumL 0 ws):=by
 have hx:=rp.length;have hl:=x3d 0 ws;refine⟨fun i G H s s' h=>⟨xs,xs[i]'(by omega),Same.seq s' (Same.seq s hq),by simp⟩,fun i G H x H' s s' hy u v h=>?_,fun i G H s s' h=>⟨xs,Same.seq s' (Same.seq s hq),by omega⟩⟩
 obtain⟨c,y,rfl,hn,hx',rfl⟩:=hy;obtain⟨hu,hv⟩:=x3e 0 ws i u v h;obtain⟨w,hw,pw⟩:=rp.getV (hx' xs (Same.seq s' (Same.seq s hq)));rw[hv]at hw;cases hw;refine⟨Grow.hid s' hn _,fun m n σ Q hQ=>⟨c,[.int i,y],rfl,SqT.of q0m,rfl,.int i,[y],rfl,y,[],rfl,rfl,hQ _ _ ?_ (Rep.mono s _ pw)⟩⟩
 rw[hu,w4q];exact rfl
theorem x73{p:Pos}(hm:X.mg "enumerate"=none)(ha:DA Z X EE [a] dA)(hg:Gl X "enumerate":=by rfl)(hs:starEach [a] X.env=[(false,eval a X.env)]:=by rfl):DI Z X EE (.Tuple elts kt pt) (.Call (.Name "enumerate" p) [a] [] pos) (srcE dA):=by
 refine PI.mono (y6m hg hm ha hs) ?_;rintro σ H RR ⟨G,e,rel,h⟩;simp only[srcE,R.holds_bind]at h;refine⟨G,e,rel,h.imp (fun ws e1 h G1 vs H1 r1 s1 p1=>?_) fun _ _ h=>h⟩
 split at h
 ·rename_i us;obtain⟨y,r,rfl,e1,e2⟩:=p1;cases(show r=[]from e2);obtain⟨b,xs,rfl,hq,rp⟩:=e1;exact⟨b,rfl,⟨xs,r1.sub.seq hq⟩,h _ _ _ r1 s1 (x8v rp hq)⟩
 ·exact h.elim
end
theorem q86{p3:Pos}(hN:X.N.Nodup)(hc:X.calm=true)
  (hi:X.N[0]?=some x:=by rfl)(hx:Loc X.env.scope x:=by walk_at "3")(hf:X.fn x=true\/X.env.scope.names.lookup x=some .local:=by walk_at "2")
  (hj:X.N[1]?=some y:=by rfl)(hy:Loc X.env.scope y:=by walk_at "3")(hf':X.fn y=true\/X.env.scope.names.lookup y=some .local:=by walk_at "2")
  (hn:(assignEach [.Name x p1,.Name y p2] X.env).length=2:=by rfl)(hst:(assignEach [.Name x p1,.Name y p2] X.env).findIdx? (·.1)=none:=by rfl)
  (g1:(assignEach [.Name x p1,.Name y p2] X.env).map (·.2)=assign (.Name x p1) X.env::(assignEach [.Name y p2] X.env).map (·.2):=by rfl)(g2:(assignEach [.Name y p2] X.env).map (·.2)=assign (.Name y p2) X.env::(assignEach [] X.env).map (·.2):=by rfl):
  PG X (.Tuple [.Name x p1,.Name y p2] kt p3) (gTup X.K 2 (gCons (gName 0) (gCons (gName 1) gNil))):=
 y8c hc (x4m (q1n 0 hN hi hx hf) (x4m (q1n 1 hN hj hy hf') y4z g2) g1) hn hst
section
variable{e:List S}{di:Den (List (W×W))}{b:List S->SR}{j:Nat}{c:Prop} [Decidable c]{s t:SR}{k:List S->SR}{v:Value}{st:S}
noncomputable def srcEW(e:List S):List W->R (List (W×W))
 |[.lst us]=>.ok (enumL 0 us) e
 |_=>.no
theorem z0u:srcE dA e=(dA e).bind fun ws e1=>srcEW e1 ws:=by
 unfold srcE;congr 1
theorem y6n:srcEW e [.lst ws]=.ok (enumL 0 ws) e:=rfl
theorem y3b:compPK js cc d ps e=if ps.length<=16777216 then compR (frzs js e) (compP cc d (pjS js (frzs js e)) ps)else .no:=by
 unfold compPK compR;split
 ·cases compP cc d (pjS js (frzs js e)) ps<;>rfl
 ·rfl
theorem y3c:dCompP js di cc d e=(di e).bind fun ps e1=>compPK js cc d ps e1:=rfl
theorem q6d{p:W×W}:compP cc d pe (p::ps)=(match cc (.fr p.1::.fr p.2::pe)with
  |.ok true e1=>(match d e1 with|.ok y _=>(compP cc d pe ps).map (y::·)|_=>none)
  |.ok false _=>compP cc d pe ps
  |_=>none):=rfl
end
theorem y0y(l:Addr)(items:Array Value)(n:Nat)(x:Int)(u:Tok)(dd:Option Addr)(sl:Array (Option Value))(hc0:¬(!Builtin.List.listFitsIndex x)=true)(hc1:¬items.size*x.toNat>(2^63-1) / 8)(hc2:¬Builtin.List.listTooLong (items.size*x.toNat)=true):
  Meets (Builtin.«list.__mul__» ⟨[.ref l,.int x u],[]⟩) (fun _ R s=>s.heap.get? l=some {cls:=.type "list", dict:=dd,data:=.seq items n,slots:=sl}/\R (.ok (.ret (Value.ref s.heap.objs.size))) {s with heap:=s.heap.push {cls:=Value.type "list", data:=Data.seq (List.foldl (fun x1 x2=>x1++x2) #[] (List.replicate (if items.isEmpty=true then 0 else x.toNat) items))},toks:=s.toks}):=
 .of_wp fun prog w A R s h=>by
  obtain⟨hp,g,d,tk,os⟩:=s;obtain⟨hl,h⟩:=h;have hsz:=PySem.AutoListH.joined_fits hc2
  wp_walk;refine wpAny_ite_false (decide_eq_false (w4n.mpr hsz)) ?_;wp_walk;exact⟨_,rfl,h⟩
theorem y0z(a:Int)(t:Tok)(l:Addr)(items:Array Value)(n:Nat)(dd:Option Addr)(sl:Array (Option Value)):
  Meets (Builtin.«int.__rmul__» ⟨[.int a t,.ref l],[]⟩) (fun _ R s=>s.heap.get? l=some {cls:=.type "list", dict:=dd,data:=.seq items n,slots:=sl}/\R (.ok (.ret Value.notImplemented)) s):=
 .of_wp fun prog w A R s h=>by obtain⟨hp,g,d,tk,os⟩:=s;obtain⟨hl,h⟩:=h;wp_walk;exact⟨_,rfl,h⟩
def rRepS(K:PySem.W.Frag):R2:=fun x y H Q=>∃l k xs,x=.ref l/\y=.int k/\SqL K H l xs/\-(2^63)<=k/\k<2^63/\xs.length*k.toNat<=sizeLine /\
 ∀p,H p=none->Q (.ref p) (upd H p (.lst (List.replicate k.toNat xs).flatten))
theorem y6o:OpR X (binaryOp .Mult) (rRepS X.K):=by
 intro pins s σ H x y v u Q I rx ry h;obtain⟨l,k,xs,rfl,rfl,hH,h1,h2,hz,q⟩:=h;cases rx;obtain⟨t,rfl⟩:=ry;obtain⟨its,r,p1,_⟩:=I.list hH;obtain⟨⟨cls,dd,data,sl⟩,ho,hc,n,hd⟩:=id p1.isList;simp only at hc hd;subst hc hd;have hl:=r.length;have hlen:its.toArray.size*k.toNat<=sizeLine:=by rw[w0d,<- hl];exact hz
 have hcap:¬its.toArray.size*k.toNat>(2^63-1) / 8:=by
  have:(sizeLine:Nat)<=(2^63-1) / 8:=by decide
  omega
 have hfit:¬(!Builtin.List.listFitsIndex k)=true:=by
  rw[fitsIndex_both h1 h2];exact w0q
 have hlong:¬Builtin.List.listTooLong (its.toArray.size*k.toNat)=true:=by
  rw[notLongL hlen];exact w0q
 have hnew:List.foldl (fun x1 x2=>x1++x2) #[] (List.replicate (if its.toArray.isEmpty=true then 0 else k.toNat) its.toArray)=(List.replicate k.toNat its).flatten.toArray:=by
  have f0:∀m:Nat,List.foldl (fun x1 x2=>x1++x2) #[] (List.replicate m its.toArray)=(List.replicate m its).flatten.toArray:=fun m=>by
   have:=x23 its m [];rw[List.nil_append]at this;exact this
  rw[f0];cases its with
  |nil=>simp
  |cons a r'=>rw[if_neg (by simp)]
 refine wpAny_binaryOp_repeat_ref (T:="list") (U:="int") (by decide) ⟨_,ho,rfl⟩ (fun s'=>typeIs_int s' k t) noFill_list_mul F.fills_int_mul F.slot_int_rmul repeat_list F.slot_int_index.lookup
  (PySem.call_meets F.slot_int_rmul (typeIs_int s k t) F.entry_int_rmul (F.args_int_rmul_2 _ _) (y0z k t l its.toArray n dd sl)
   ⟨ho,rfl,⟨_,ho,rfl⟩,PySem.call_meets F.slot_list_mul ⟨_,ho,rfl⟩ F.entry_list_mul (F.args_list_mul_2 _ _) (y0y l its.toArray n k t dd sl hfit hcap hlong) ⟨ho,?_⟩⟩)
 rw[hnew];exact⟨.ref _,_,I.lnew (t':=s.toks) (r.rep k.toNat) (by rw[y47,w4c];exact hz),rfl,q _ I.fresh⟩
noncomputable def repW:W->W->Option W
 |.lst ws,.int k=>if okI k=true/\ws.length*k.toNat<=16777216 then some (.lst (List.replicate k.toNat ws).flatten)else none
 |_,_=>none
theorem x5d(r:Reps K G ws xs):∀k:Nat,Reps K G (List.replicate k ws).flatten (List.replicate k xs).flatten
 |0=>rfl
 |k+1=>by
  rw[w1m,w1m,w2f,w2f];exact r.append (x5d r k)
theorem z0v:Op2 K (rRepS K) repW:=by
 intro G H x y wx wy w Q s px py hf h;unfold repW at hf;split at hf
 ·rename_i ws k;split at hf
  ·rename_i hc;cases hf;cases(show y=V.int k from py);obtain⟨l,xs,rfl,hq,rp⟩:=px;have hb:=q81 hc.1;refine⟨l,k,xs,rfl,rfl,s.seq hq,by omega,by omega,by rw[sizeLine_eq,rp.length];exact hc.2,fun p hp=>?_⟩
   have g:Grow G H (upd G p (.lst (List.replicate k.toNat xs).flatten)) (upd H p (.lst (List.replicate k.toNat xs).flatten)):=Grow.laid s hp _;exact h _ _ _ g ⟨p,_,rfl,SqL.of q0m,Reps.mono g.gg _ (x5d rp _)⟩
  ·cases hf
 ·cases hf
section
variable{a b:Expr}
theorem x5e(ha:DE Z X EE a da)(hb:DE Z X EE b db):DE Z X EE (.BinOp a .Mult b pos) (dOp repW da db):=q7r y6o z0v ha hb
end
noncomputable def intsW:List W->Option (List Int)
 |[]=>some []
 |.int x::r=>(intsW r).map (x::·)
 |_=>none
theorem x5f:∀{ws:List W}{ys:List Int}{xs:List V},intsW ws=some ys->Reps K G ws xs->xs=ys.map V.int
 |[],ys,xs,h,r=>by cases h;cases(show xs=[]from r);rfl
 |w::ws,ys,xs,h,r=>by
  unfold intsW at h;split at h
  ·rename_i z;cases z
  ·rename_i y r' z;cases z;obtain⟨ys',h1,rfl⟩:=w0n.mp h;obtain⟨v,vs,rfl,p1,p2⟩:=r;cases(show v=V.int y from p1);rw[x5f h1 p2];rfl
  ·cases h
section
variable{prog:Program}{w:World}{E:Value->Shared->Prop}
theorem x5g{b:Addr}{k:Nat}{x:Value}{Q:Value->Shared->Prop}(gi:s.heap.IsTupleIter j b k)(gt:s.heap.IsTuple b vs)(gx:vs[k]?=some x)
  (hQ:∀h',h'.IsTupleIter j b (k+1)->Heap.SameBut j s.heap h'->Q x {s with heap:=h'}):wpAny (model prog w) A (Builtin.SmallTypes.nextOf (.ref j)) Q E s:=by
 obtain⟨o,ho,hc,hd⟩:=id gi;obtain⟨ot,hot,_,m,hdt⟩:=gt;unfold Builtin.SmallTypes.nextOf;refine wpAny_bind (wpAny_callSpecial?_slot (name:=Str.ofString "__next__") gi.typeIs F.slot_tuple_iterator_next (wpAny_call_entry F.slot_tuple_iterator_next gi.typeIs F.entry_tuple_iterator_next ?_ (F.args_tuple_iterator_next_1 _)));show wpAny _ _ (field (.ref j) 0 >>= _) _ _ s;refine wpAny_bind (wpAny_field ho hd (x:=.ref b) rfl ?_);show wpAny _ _ (if(Value.ref b==Value.none)=true then _ else _) _ _ s;rw[if_neg (show ¬((Value.ref b==Value.none)=true)from w0q)];show wpAny _ _ (field (.ref j) 1 >>= _) _ _ s;refine wpAny_bind (wpAny_field ho hd (x:=.int k 0) rfl ?_);show wpAny _ _ (seqItems? (.ref b) >>= _) _ _ s;refine wpAny_bind (wpAny_seqItems hot hdt ?_);simp only[w1k,gx];refine wpAny_bind (wpAny_setField ho hd (by simp) (wpAny_pure ⟨x,rfl,wpAny_pure (hQ _ ⟨_,Heap.get?_update_self _ ho (Obj.isFreed_of_fields (Obj.data_mapFields hd _)),(Obj.cls_mapFields ..).trans hc,by rw[Obj.data_mapFields hd];simp[rawInt]⟩ (Heap.SameBut.update ..))⟩))
theorem x6r{b:Addr}{k:Nat}{Q:Value->Shared->Prop}(hh:A.handled=none)(gi:s.heap.IsTupleIter j b k)(gt:s.heap.IsTuple b vs)(gx:vs[k]?=none)
  (hE:∀h' e,Heap.ExtBut j s.heap h'->(∃o,h'.get? e=some o/\o.cls=.type "StopIteration")->E (.ref e) {s with heap:=h'}):wpAny (model prog w) A (Builtin.SmallTypes.nextOf (.ref j)) Q E s:=by
 obtain⟨o,ho,hc,hd⟩:=id gi;obtain⟨ot,hot,_,m,hdt⟩:=gt;unfold Builtin.SmallTypes.nextOf;refine wpAny_bind (wpAny_callSpecial?_slot (name:=Str.ofString "__next__") gi.typeIs F.slot_tuple_iterator_next (wpAny_call_entry F.slot_tuple_iterator_next gi.typeIs F.entry_tuple_iterator_next ?_ (F.args_tuple_iterator_next_1 _)));show wpAny _ _ (field (.ref j) 0 >>= _) _ _ s;refine wpAny_bind (wpAny_field ho hd (x:=.ref b) rfl ?_);show wpAny _ _ (if(Value.ref b==Value.none)=true then _ else _) _ _ s;rw[if_neg (show ¬((Value.ref b==Value.none)=true)from w0q)];show wpAny _ _ (field (.ref j) 1 >>= _) _ _ s;refine wpAny_bind (wpAny_field ho hd (x:=.int k 0) rfl ?_);show wpAny _ _ (seqItems? (.ref b) >>= _) _ _ s;refine wpAny_bind (wpAny_seqItems hot hdt ?_);simp only[w1k,gx];refine wpAny_bind (wpAny_rule (wpAny_bind (wpAny_setField ho hd (by simp) ?_)));show wpAny _ _ (newExc (.type "StopIteration") [] >>= _) _ _ _;refine wpAny_bind ?_;simp only[newExc,newTuple];refine wpAny_bind (wpAny_newObj_type ?_ (by size_fits));refine wpAny_bind (m:=firstArgMember _ _) (wpAny_of_eq (a:=Value.none) (by first|rfl|(simp only[firstArgMember];rfl)) (wpAny_newObj_type ?_ (by size_fits)));simp only[raiseNew];refine wpAny_bind (wpAny_handled ?_)
 first|rw[show A.in1.handled=none from hh]|rw[hh]
 refine wpAny_bind (wpAny_pure (wpAny_throw (hE _ _ (((Heap.SameBut.update ..).extBut.push _).push _) ⟨_,Heap.get?_push_size _ rfl,rfl⟩)))
def IsIt(t:Bool)(j b:Addr)(k:Nat)(h:Heap):Prop:=if t=true then h.IsTupleIter j b k else h.IsListIter j b k
def IsSq(t:Bool)(b:Addr)(vs:Array Value)(h:Heap):Prop:=if t=true then h.IsTuple b vs else h.IsList b vs
theorem IsIt.keep{b:Addr}{k:Nat}{h:Heap}(x:IsIt t j b k h)(e:∀o,h.get? j=some o->h'.get? j=some o):IsIt t j b k h':=by
 cases t with
 |true=>obtain⟨o,ho,r⟩:=(show h.IsTupleIter j b k from x);exact⟨o,e o ho,r⟩
 |false=>obtain⟨o,ho,r⟩:=(show h.IsListIter j b k from x);exact⟨o,e o ho,r⟩
theorem IsIt.obj{b:Addr}{k:Nat}{h:Heap}(x:IsIt t j b k h):∃o,h.get? j=some o/\∀v,o.data≠.cell v:=by
 cases t with
 |true=>obtain⟨o,ho,c,d⟩:=(show h.IsTupleIter j b k from x);exact⟨o,ho,fun v z=>by rw[d]at z;cases z⟩
 |false=>obtain⟨o,ho,c,d⟩:=(show h.IsListIter j b k from x);exact⟨o,ho,fun v z=>by rw[d]at z;cases z⟩
theorem IsSq.keep{b:Addr}{h:Heap}(x:IsSq t b vs h)(e:∀o,h.get? b=some o->h'.get? b=some o):IsSq t b vs h':=by
 cases t with
 |true=>obtain⟨o,ho,r⟩:=(show h.IsTuple b vs from x);exact⟨o,e o ho,r⟩
 |false=>obtain⟨o,ho,r⟩:=(show h.IsList b vs from x);exact⟨o,e o ho,r⟩
theorem x2b{b:Addr}{k:Nat}{x:Value}{Q:Value->Shared->Prop}(gi:IsIt t j b k s.heap)(gt:IsSq t b vs s.heap)(gx:vs[k]?=some x)
  (hQ:∀h',IsIt t j b (k+1) h'->Heap.SameBut j s.heap h'->Q x {s with heap:=h'}):wpAny (model prog w) A (Builtin.SmallTypes.nextOf (.ref j)) Q E s:=by
 cases t with
 |true=>exact x5g gi gt gx hQ
 |false=>exact wpAny_nextOf_list_item gi gt gx hQ
theorem y00{b:Addr}{k:Nat}{Q:Value->Shared->Prop}(hh:A.handled=none)(gi:IsIt t j b k s.heap)(gt:IsSq t b vs s.heap)(gx:vs[k]?=none)
  (hE:∀h' e,Heap.ExtBut j s.heap h'->(∃o,h'.get? e=some o/\o.cls=.type "StopIteration")->E (.ref e) {s with heap:=h'}):wpAny (model prog w) A (Builtin.SmallTypes.nextOf (.ref j)) Q E s:=by
 cases t with
 |true=>exact x6r hh gi gt gx hE
 |false=>exact wpAny_nextOf_list_end hh gi gt gx hE
structure Apart(z I O i j a b:Addr):Prop where
 Iz:I≠z
 Oz:O≠z
 iz:i≠z
 jz:j≠z
 IO:I≠O
 Ii:I≠i
 Ij:I≠j
 Oi:O≠i
 Oj:O≠j
 ij:i≠j
 az:a≠z
 aO:a≠O
 ai:a≠i
 aj:a≠j
 bz:b≠z
 bO:b≠O
 bi:b≠i
 bj:b≠j
theorem y6p{z I O i b:Addr}{u:Bool}{k:Nat}{xs:Array Value}{x y p q:Value}{Q:Value->Shared->Prop}(D:Apart z I O i j a b)
  (gz:IsZip s.heap z I O .none)(gI:IsPair s.heap I (.ref i) (.ref j))(gO:IsPair s.heap O p q)
  (g1:IsIt t i a k s.heap)(g2:IsIt u j b k s.heap)(l1:IsSq t a xs s.heap)(l2:IsSq u b ys s.heap)(hx:xs[k]?=some x)(hy:ys[k]?=some y)
  (hQ:∀h',IsZip h' z I O (rawInt s.heap.objs.size)->IsPair h' O x y->IsIt t i a (k+1) h'->IsIt u j b (k+1) h'->IsPair h' s.heap.objs.size x y->h'.objs.size=s.heap.objs.size+1 ->
   (∀c o,c≠z->c≠O->c≠i->c≠j->s.heap.get? c=some o->h'.get? c=some o)->Q (.ref s.heap.objs.size) {s with heap:=h'}):
  wpAny (model prog w) A (Builtin.«zip.__next__» ⟨[.ref z],[]⟩) (fun fin s'=>∃v,fin=.done (.ret v)/\Q v s') E s:=by
 show wpAny _ _ (field (.ref z) 2 >>= _) _ _ _;refine wpAny_bind (wpAny_field gz rfl (x:=.bool false) rfl ?_);show wpAny _ _ (field (.ref z) 3 >>= _) _ _ _;refine wpAny_bind (wpAny_field gz rfl (x:=.ref I) rfl (wpAny_bind (wpAny_seqItems gI rfl ?_)));show wpAny _ _ (Builtin.SmallTypes.ownedTupleIsFree (.ref z) >>= _) _ _ _;refine wpAny_bind ?_;unfold Builtin.SmallTypes.ownedTupleIsFree;refine wpAny_bind (wpAny_field gz rfl (x:=.none) rfl (wpAny_pure ?_));simp only[if_true];refine wpAny_bind (wpAny_rule (wpAny_bind (wpAny_field gz rfl (x:=.ref O) rfl (wpAny_bind (wpAny_setField_rec gz (by simp) fun ha za sa=>?_)))))
 replace za:IsZip ha z I O .ellipsis:=za
 refine wpAny_bind ?_;simp only[List.zipIdx_cons,List.zipIdx_nil,w2p,List.forIn_nil];refine wpAny_bind (wpAny_bind (wpAny_onRaise ?_));show wpAny _ _ (Builtin.SmallTypes.nextOf (.ref i) >>= _) _ _ _;refine wpAny_bind (x2b (s:={s with heap:=ha}) (g1.keep fun o e=>sa.extBut _ _ D.iz e) (l1.keep fun o e=>sa.extBut _ _ D.az e) hx fun hb ib sb=>wpAny_pure ?_)
 have Ob:IsPair hb O p q:=sb.extBut _ _ D.Oi (sa.extBut _ _ D.Oz gO);refine wpAny_bind (wpAny_seqItems Ob rfl (wpAny_bind (wpAny_updateSeq_pair Ob fun hc Oc sc=>?_)))
 replace Oc:IsPair hc O x q:=Oc
 refine wpAny_bind (wpAny_letGo (wpAny_pure (wpAny_bind (wpAny_bind (wpAny_onRaise ?_)))));show wpAny _ _ (Builtin.SmallTypes.nextOf (.ref j) >>= _) _ _ _;refine wpAny_bind (x2b (s:={s with heap:=hc}) (g2.keep fun o e=>sc.extBut _ _ D.Oj.symm (sb.extBut _ _ D.ij.symm (sa.extBut _ _ D.jz e))) (l2.keep fun o e=>sc.extBut _ _ D.bO (sb.extBut _ _ D.bi (sa.extBut _ _ D.bz e))) hy fun hd jd sd=>wpAny_pure ?_)
 have Od:IsPair hd O x q:=sd.extBut _ _ D.Oj Oc;refine wpAny_bind (wpAny_seqItems Od rfl (wpAny_bind (wpAny_updateSeq_pair Od fun he Oe se=>?_)))
 replace Oe:IsPair he O x y:=Oe
 refine wpAny_bind (wpAny_letGo (wpAny_pure (wpAny_pure (wpAny_bind (wpAny_seqItems Oe rfl (wpAny_bind (wpAny_newTuple ?_)))))));have sz:he.objs.size=s.heap.objs.size:=by rw[se.1,sd.1,sc.1,sb.1,sa.1]
 have ze:IsZip he z I O .ellipsis:=se.extBut _ _ D.Oz.symm (sd.extBut _ _ D.jz.symm (sc.extBut _ _ D.Oz.symm (sb.extBut _ _ D.iz.symm za)));have ke:∀c o,c≠z->c≠O->c≠i->c≠j->s.heap.get? c=some o->he.get? c=some o:=fun c o c1 c2 c3 c4 e=>se.extBut _ _ c2 (sd.extBut _ _ c4 (sc.extBut _ _ c2 (sb.extBut _ _ c3 (sa.extBut _ _ c1 e))))
 have ie:IsIt t i a (k+1) he:=ib.keep fun o e=>se.extBut _ _ D.Oi.symm (sd.extBut _ _ D.ij (sc.extBut _ _ D.Oi.symm e))
 have je:IsIt u j b (k+1) he:=jd.keep fun o e=>se.extBut _ _ D.Oj.symm e
 have zlt:z<he.objs.size:=Heap.lt_size ze;show wpAny _ _ (Builtin.SmallTypes.ownedTupleHandOut (.ref z) (.ref he.objs.size) >>= _) _ _ _;refine wpAny_bind ?_;unfold Builtin.SmallTypes.ownedTupleHandOut;have zf:IsZip (he.push {cls:=.type "tuple", data:=.seq #[x,y]}) z I O .ellipsis:=Heap.get?_push_of_some _ ze;refine wpAny_bind (wpAny_setField_rec zf (by simp) fun hg zg sg=>?_)
 replace zg:IsZip hg z I O (rawInt he.objs.size):=zg
 refine wpAny_setField_rec zg (by simp) fun hk zk sk=>?_
 replace zk:IsZip hk z I O (rawInt he.objs.size):=zk
 have up:∀c o,c≠z->he.get? c=some o->hk.get? c=some o:=fun c o c1 e=>sk.extBut _ _ c1 (sg.extBut _ _ c1 (Heap.get?_push_of_some _ e))
 have Tk:IsPair hk he.objs.size x y:=sk.extBut _ _ (w3k zlt) (sg.extBut _ _ (w3k zlt) (Heap.get?_push_size _ rfl));have nk:hk.objs.size=he.objs.size+1:=by rw[sk.1,sg.1,Heap.size_push]
 rw[sz]at zk Tk nk;refine wpAny_pure ⟨_,rfl,?_⟩;show Q (.ref he.objs.size) _;rw[sz];exact hQ hk zk (up _ _ D.Oz Oe) (ie.keep fun o e=>up _ o D.iz e) (je.keep fun o e=>up _ o D.jz e) Tk nk fun c o c1 c2 c3 c4 e=>up c o c1 (ke c o c1 c2 c3 c4 e)
theorem z0w{z I O i b:Addr}{u:Bool}{k:Nat}{xs:Array Value}{p q:Value}{Q:Fin->Shared->Prop}(hh:A.handled=none)(D:Apart z I O i j a b)
  (gz:IsZip s.heap z I O .none)(gI:IsPair s.heap I (.ref i) (.ref j))(gO:IsPair s.heap O p q)
  (g1:IsIt t i a k s.heap)(g2:IsIt u j b k s.heap)(l1:IsSq t a xs s.heap)(l2:IsSq u b ys s.heap)(hend:xs[k]?=none\/ys[k]?=none)
  (hE:∀h' e,(∀c o,c≠z->c≠O->c≠i->c≠j->s.heap.get? c=some o->h'.get? c=some o)->(∃o,h'.get? e=some o/\o.cls=.type "StopIteration")->E (.ref e) {s with heap:=h'}):
  wpAny (model prog w) A (Builtin.«zip.__next__» ⟨[.ref z],[]⟩) Q E s:=by
 show wpAny _ _ (field (.ref z) 2 >>= _) _ _ _;refine wpAny_bind (wpAny_field gz rfl (x:=.bool false) rfl ?_);show wpAny _ _ (field (.ref z) 3 >>= _) _ _ _;refine wpAny_bind (wpAny_field gz rfl (x:=.ref I) rfl (wpAny_bind (wpAny_seqItems gI rfl ?_)));show wpAny _ _ (Builtin.SmallTypes.ownedTupleIsFree (.ref z) >>= _) _ _ _;refine wpAny_bind ?_;unfold Builtin.SmallTypes.ownedTupleIsFree;refine wpAny_bind (wpAny_field gz rfl (x:=.none) rfl (wpAny_pure ?_));simp only[if_true];refine wpAny_bind (wpAny_rule (wpAny_bind (wpAny_field gz rfl (x:=.ref O) rfl (wpAny_bind (wpAny_setField_rec gz (by simp) fun ha za sa=>?_)))))
 replace za:IsZip ha z I O .ellipsis:=za
 refine wpAny_bind ?_;simp only[List.zipIdx_cons,List.zipIdx_nil,w2p,List.forIn_nil];refine wpAny_bind (wpAny_bind (wpAny_onRaise ?_));show wpAny _ _ (Builtin.SmallTypes.nextOf (.ref i) >>= _) _ _ _;cases hx:xs[k]? with
 |none=>
  refine wpAny_bind (y00 (s:={s with heap:=ha}) hh (g1.keep fun o e=>sa.extBut _ _ D.iz e) (l1.keep fun o e=>sa.extBut _ _ D.az e) hx fun hb e sb ge=>?_)
  obtain⟨oe,hoe,hce⟩:=ge;have zb:IsZip hb z I O .ellipsis:=sb _ _ D.iz.symm za;have nz:e≠z:=fun x=>by subst x;rw[zb]at hoe;cases hoe;simp at hce
  refine wpAny_setField_rec zb (by simp) fun hc _ sc=>hE hc e (fun c o c1 _ c3 _ x=>sc.extBut _ _ c1 (sb _ _ c3 (sa.extBut _ _ c1 x))) ⟨oe,sc.extBut _ _ nz hoe,hce⟩
 |some x=>
  have hy:ys[k]?=none:=by rcases hend with h|h;rw[hx]at h;cases h;exact h
  refine wpAny_bind (x2b (s:={s with heap:=ha}) (g1.keep fun o e=>sa.extBut _ _ D.iz e) (l1.keep fun o e=>sa.extBut _ _ D.az e) hx fun hb ib sb=>wpAny_pure ?_)
  have Ob:IsPair hb O p q:=sb.extBut _ _ D.Oi (sa.extBut _ _ D.Oz gO);refine wpAny_bind (wpAny_seqItems Ob rfl (wpAny_bind (wpAny_updateSeq_pair Ob fun hc Oc sc=>?_)))
  refine wpAny_bind (wpAny_letGo (wpAny_pure (wpAny_bind (wpAny_bind (wpAny_onRaise ?_)))));show wpAny _ _ (Builtin.SmallTypes.nextOf (.ref j) >>= _) _ _ _;refine wpAny_bind (y00 (s:={s with heap:=hc}) hh (g2.keep fun o e=>sc.extBut _ _ D.Oj.symm (sb.extBut _ _ D.ij.symm (sa.extBut _ _ D.jz e))) (l2.keep fun o e=>sc.extBut _ _ D.bO (sb.extBut _ _ D.bi (sa.extBut _ _ D.bz e))) hy fun hd e sd ge=>?_)
  obtain⟨oe,hoe,hce⟩:=ge;have zd:IsZip hd z I O .ellipsis:=sd _ _ D.jz.symm (sc.extBut _ _ D.Oz.symm (sb.extBut _ _ D.iz.symm za));have nz:e≠z:=fun x=>by subst x;rw[zd]at hoe;cases hoe;simp at hce
  refine wpAny_setField_rec zd (by simp) fun he _ se=>hE he e (fun c o c1 c2 c3 c4 x=>se.extBut _ _ c1 (sd _ _ c4 (sc.extBut _ _ c2 (sb.extBut _ _ c3 (sa.extBut _ _ c1 x))))) ⟨oe,se.extBut _ _ nz hoe,hce⟩
theorem y6q{z I O i b:Addr}{u:Bool}{k:Nat}{xs:Array Value}{x y p q:Value}{Q:Option Value->Shared->Prop}(D:Apart z I O i j a b)
  (gz:IsZip s.heap z I O .none)(gI:IsPair s.heap I (.ref i) (.ref j))(gO:IsPair s.heap O p q)
  (g1:IsIt t i a k s.heap)(g2:IsIt u j b k s.heap)(l1:IsSq t a xs s.heap)(l2:IsSq u b ys s.heap)(hx:xs[k]?=some x)(hy:ys[k]?=some y)
  (hQ:∀h',IsZip h' z I O (rawInt s.heap.objs.size)->IsPair h' O x y->IsIt t i a (k+1) h'->IsIt u j b (k+1) h'->IsPair h' s.heap.objs.size x y->h'.objs.size=s.heap.objs.size+1 ->
   (∀c o,c≠z->c≠O->c≠i->c≠j->s.heap.get? c=some o->h'.get? c=some o)->Q (some (.ref s.heap.objs.size)) {s with heap:=h'}):wpAny (model prog w) A (pyNext (.ref z)) Q E s:=by
 have hT:s.TypeIs (.ref z) "zip":=⟨_,gz,rfl⟩;unfold pyNext;exact wpAny_bind (wpAny_attempt (wpAny_callSpecial?_slot (name:=Str.ofString "__next__") hT F.slot_zip_next (wpAny_call_entry F.slot_zip_next hT F.entry_zip_next (y6p D gz gI gO g1 g2 l1 l2 hx hy fun h' a1 a2 a3 a4 a5 a6 a7=>wpAny_pure (hQ h' a1 a2 a3 a4 a5 a6 a7)) (F.args_zip_next_1 _))))
theorem y6r{z I O i b:Addr}{u:Bool}{k:Nat}{xs:Array Value}{p q:Value}{Q:Option Value->Shared->Prop}(hh:A.handled=none)(D:Apart z I O i j a b)
  (gz:IsZip s.heap z I O .none)(gI:IsPair s.heap I (.ref i) (.ref j))(gO:IsPair s.heap O p q)
  (g1:IsIt t i a k s.heap)(g2:IsIt u j b k s.heap)(l1:IsSq t a xs s.heap)(l2:IsSq u b ys s.heap)(hend:xs[k]?=none\/ys[k]?=none)
  (hQ:∀h',(∀c o,c≠z->c≠O->c≠i->c≠j->s.heap.get? c=some o->h'.get? c=some o)->Q none {s with heap:=h'}):wpAny (model prog w) A (pyNext (.ref z)) Q E s:=by
 have hT:s.TypeIs (.ref z) "zip":=⟨_,gz,rfl⟩;unfold pyNext;refine wpAny_bind (wpAny_attempt (wpAny_callSpecial?_slot (name:=Str.ofString "__next__") hT F.slot_zip_next (wpAny_call_entry F.slot_zip_next hT F.entry_zip_next (z0w hh D gz gI gO g1 g2 l1 l2 hend fun h' e hk he=>?_) (F.args_zip_next_1 _))))
 obtain⟨o,ho,hc⟩:=he;exact wpAny_bind (wpAny_isInstance (T:="StopIteration") (b:=true) ⟨o,ho,hc⟩ isSubtype_stop (wpAny_pure (hQ _ hk)))
end
noncomputable def itT(t:Bool):String:=if t=true then "tuple_iterator" else "list_iterator"
noncomputable abbrev zq1(t:Bool)(h:Heap)(a:Addr):Heap:=h.push {cls:=.type (itT t),data:=.fields #[.ref a,.int 0 0]}
noncomputable abbrev zq2(t u:Bool)(h:Heap)(a b:Addr):Heap:=(zq1 t h a).push {cls:=.type (itT u),data:=.fields #[.ref b,.int 0 0]}
noncomputable abbrev zq3(t u:Bool)(h:Heap)(a b:Addr):Heap:=(zq2 t u h a b).push {cls:=.type "tuple", data:=.seq #[.ref h.objs.size,.ref (zq1 t h a).objs.size]}
noncomputable abbrev zq4(t u:Bool)(h:Heap)(a b:Addr):Heap:=(zq3 t u h a b).push {cls:=.type "tuple", data:=.seq #[.none,.none]}
noncomputable abbrev zq5(t u:Bool)(h:Heap)(a b:Addr):Heap:=(zq4 t u h a b).push {cls:=.type "zip", data:=.fields #[.none,.bool false,.bool false,.ref (zq2 t u h a b).objs.size,.ref (zq3 t u h a b).objs.size]}
theorem z0x(t u:Bool)(a b:Addr)(xs ys:Array Value):
  Meets (Builtin.«zip.__new__» ⟨[.type "zip", .ref a,.ref b],[]⟩) (fun _ R s=>IsSq t a xs s.heap/\IsSq u b ys s.heap/\R (.ok (.ret (.ref (zq4 t u s.heap a b).objs.size))) {s with heap:=zq5 t u s.heap a b}):=
 .of_wp fun prog w A R s hyp=>by
  obtain⟨hp,g,d,tk,os⟩:=s;obtain⟨g1,g2,h⟩:=hyp;have hsub:=sub_zip;have q2:IsSq u b ys (zq1 t hp a):=g2.keep fun o e=>Heap.get?_push_of_some _ e
  cases t with
  |false=>
   have p1:Heap.IsList (Shared.heap ⟨hp,g,d,tk,os⟩) a xs:=g1;cases u with
   |false=>
    have p2:Heap.IsList (Shared.heap ⟨hp.push {cls:=.type "list_iterator", data:=.fields #[.ref a,.int 0 0]},g,d,tk,os⟩) b ys:=q2
    wp_walk using wpAny_pyIter_list p1,wpAny_pyIter_list p2
    exact⟨_,rfl,h⟩
   |true=>
    have p2:Heap.IsTuple (Shared.heap ⟨hp.push {cls:=.type "list_iterator", data:=.fields #[.ref a,.int 0 0]},g,d,tk,os⟩) b ys:=q2
    wp_walk using wpAny_pyIter_list p1,wpAny_pyIter_tuple p2
    exact⟨_,rfl,h⟩
  |true=>
   have p1:Heap.IsTuple (Shared.heap ⟨hp,g,d,tk,os⟩) a xs:=g1;cases u with
   |false=>
    have p2:Heap.IsList (Shared.heap ⟨hp.push {cls:=.type "tuple_iterator", data:=.fields #[.ref a,.int 0 0]},g,d,tk,os⟩) b ys:=q2
    wp_walk using wpAny_pyIter_tuple p1,wpAny_pyIter_list p2
    exact⟨_,rfl,h⟩
   |true=>
    have p2:Heap.IsTuple (Shared.heap ⟨hp.push {cls:=.type "tuple_iterator", data:=.fields #[.ref a,.int 0 0]},g,d,tk,os⟩) b ys:=q2
    wp_walk using wpAny_pyIter_tuple p1,wpAny_pyIter_tuple p2
    exact⟨_,rfl,h⟩
section
variable{prog:Program}{w:World}{E:Value->Shared->Prop}
theorem x5h{h:Heap}{o:Obj}(e:h.get? j=some o)(c:o.cls=.type (itT t))(d:o.data=.fields #[.ref a,.int 0 0]):IsIt t j a 0 h:=by
 cases t with
 |true=>exact(show h.IsTupleIter j a 0 from⟨o,e,c,d⟩)
 |false=>exact(show h.IsListIter j a 0 from⟨o,e,c,d⟩)
theorem y01{u:Bool}{b:Addr}{xs:Array Value}{Q:Value->Shared->Prop}(g1:IsSq t a xs s.heap)(g2:IsSq u b ys s.heap)
  (h:∀h',IsZip h' (s.heap.objs.size+4) (s.heap.objs.size+2) (s.heap.objs.size+3) .none->IsPair h' (s.heap.objs.size+2) (.ref s.heap.objs.size) (.ref (s.heap.objs.size+1)) ->
   IsPair h' (s.heap.objs.size+3) .none .none->IsIt t s.heap.objs.size a 0 h'->IsIt u (s.heap.objs.size+1) b 0 h'->(∀c o,s.heap.get? c=some o->h'.get? c=some o)->Q (.ref (s.heap.objs.size+4)) {s with heap:=h'}):
  wpAny (model prog w) A (call (.type "zip") [.ref a,.ref b]) Q E s:=by
 refine callType_new F.called_zip (by decide) (F.typeCall_zip_2 _ _) (F.newCall_zip_2 _ _) (fun obj=>F.args_object_init_3 obj _ _) F.entry_zip_new (z0x t u a b xs ys) ⟨g1,g2,?_⟩
 have n1:(zq1 t s.heap a).objs.size=s.heap.objs.size+1:=Heap.size_push ..;have n2:(zq2 t u s.heap a b).objs.size=s.heap.objs.size+2:=by rw[Heap.size_push,n1]
 have n3:(zq3 t u s.heap a b).objs.size=s.heap.objs.size+3:=by rw[Heap.size_push,n2]
 have n4:(zq4 t u s.heap a b).objs.size=s.heap.objs.size+4:=by rw[Heap.size_push,n3]
 have k5:(zq5 t u s.heap a b).get? (zq4 t u s.heap a b).objs.size=some _:=Heap.get?_push_size _ rfl;have k4:(zq5 t u s.heap a b).get? (zq3 t u s.heap a b).objs.size=some _:=Heap.get?_push_of_some _ (Heap.get?_push_size _ rfl);have k3:(zq5 t u s.heap a b).get? (zq2 t u s.heap a b).objs.size=some _:=Heap.get?_push_of_some _ (Heap.get?_push_of_some _ (Heap.get?_push_size _ rfl));have k2:(zq5 t u s.heap a b).get? (zq1 t s.heap a).objs.size=some _:=Heap.get?_push_of_some _ (Heap.get?_push_of_some _ (Heap.get?_push_of_some _ (Heap.get?_push_size _ rfl)));have k1:(zq5 t u s.heap a b).get? s.heap.objs.size=some _:=Heap.get?_push_of_some _ (Heap.get?_push_of_some _ (Heap.get?_push_of_some _ (Heap.get?_push_of_some _ (Heap.get?_push_size _ rfl))));have up:∀c o,s.heap.get? c=some o->(zq5 t u s.heap a b).get? c=some o:=fun c o e=>Heap.get?_push_of_some _ (Heap.get?_push_of_some _ (Heap.get?_push_of_some _ (Heap.get?_push_of_some _ (Heap.get?_push_of_some _ e))))
 show _/\_;rw[n2,n3,n4]at k5;rw[n1,n2]at k3;rw[n3]at k4;rw[n1]at k2;rw[n4];exact⟨⟨_,k5,rfl⟩,h _ k5 k3 k4 (x5h k1 rfl rfl) (x5h k2 rfl rfl) up⟩
end
section
variable{e1 e2:Expr}{pt:Pos}
def SqG(K:PySem.W.Frag)(t:Bool)(H:Hp)(a:Addr)(xs:List V):Prop:=if t=true then SqT K H a xs else SqL K H a xs
theorem q7g(I:Inv X pins σ H s)(h:SqG X.K t H a xs):∃its:List Value,Vals xs its/\IsSq t a its.toArray s.heap:=by
 cases t with
 |true=>
  obtain⟨its,r,p,_⟩:=I.tuple h;exact⟨its,r,(show s.heap.IsTuple a its.toArray from p)⟩
 |false=>
  obtain⟨its,r,p,_⟩:=I.list h;exact⟨its,r,p.isList⟩
theorem y02{ys:List V}(I:Inv X pins σ H s)(h:SqG X.K t H a xs)(h':SqG X.K t H a ys):xs=ys:=by
 cases t with
 |true=>exact I.tuple_inj h h'
 |false=>exact I.list_inj h h'
theorem IsSq.obj{h:Heap}(x:IsSq t a vs h):∃o,h.get? a=some o/\o.cls=.type (if t=true then "tuple" else "list"):=by
 cases t with
 |true=>obtain⟨o,ho,c,_⟩:=(show h.IsTuple a vs from x);exact⟨o,ho,c⟩
 |false=>obtain⟨o,ho,c,_⟩:=(show h.IsList a vs from x);exact⟨o,ho,c⟩
theorem x6s{t':Nat}{fp:List Addr}(I:Inv X pins σ H s)(k:∀b o,b∉fp->s.heap.get? b=some o->h'.get? b=some o)(hf:∀b∈fp,FpOk X pins H b):Inv X pins σ H {s with heap:=h',toks:=t'}:=by
 have nfp:∀c u,H c=some u->c∉fp:=fun c u e z=>by rw[(hf c z).1]at e;cases e
 refine I.step (g':=s.gens) (d':=s.drawn) (ch:=fp) (fun c hc=>?_) (fun c o _ _ hc e _=>k c o hc e) (fun c o _ _ hc e _=>⟨o.slots,k c o hc e⟩) (fun c o _ e n=>n)
  (fun c o hc e=>⟨o,k c o hc e⟩) (fun c xs e=>e) (fun c o u e=>e) (fun c ps e=>⟨#[],by rw[e];simp⟩) (fun m hm=>?_) (fun c u e=>?_) I.bare
 ·obtain⟨f0,f1,f2,f3,f4,f5⟩:=hf c hc;exact⟨f3,f1,f4,f5⟩
 ·obtain⟨o,es,ep,ho,r⟩:=hm;exact⟨o,es,ep,k _ o (fun z=>(hf _ z).2.1 rfl) ho,r⟩
 ·refine(I.hok c u e).stay (fun d v hd q=>k d v ?_ q) (fun d q=>q) fun d xs _ q=>q
  rcases hd with z|z
  ·rw[z];exact nfp c u e
  ·exact nfp d _ z
noncomputable def Itz(K:PySem.W.Frag)(t u:Bool)(a b:Addr):It:=
  ⟨fun i H=>∃xs ys x y,SqG K t H a xs/\SqG K u H b ys/\xs[i]?=some x/\ys[i]?=some y,
   fun i H v H'=>∃c x y,v=.ref c/\H c=none/\(∀xs,SqG K t H a xs->xs[i]?=some x)/\(∀ys,SqG K u H b ys->ys[i]?=some y)/\H'=upd H c (.tup [x,y]),
   fun i H=>∃xs ys,SqG K t H a xs/\SqG K u H b ys/\(xs.length<=i\/ys.length<=i)⟩
theorem y3d{w:World}(t u:Bool)(a b z I O i j:Addr)(D:Apart z I O i j a b):
  Turn P w K (.Tuple elts kt pt) (Itz K t u a b) [z,I,O,i,j] z (fun k h=>IsZip h z I O .none/\IsPair h I (.ref i) (.ref j)/\(∃p q,IsPair h O p q)/\IsIt t i a k h/\IsIt u j b k h) where
 mem:=by simp
 obj:=fun k h ⟨s1,s2,⟨p,q,s3⟩,s4,s5⟩ c hc=>by
  simp only[w0h,w0y,or_false]at hc;rcases hc with rfl|rfl|rfl|rfl|rfl
  ·exact⟨_,s1,fun v z=>by cases z⟩
  ·exact⟨_,s2,fun v z=>by cases z⟩
  ·exact⟨_,s3,fun v z=>by cases z⟩
  ·exact s4.obj
  ·exact s5.obj
 keep:=fun k h h' ⟨s1,s2,⟨p,q,s3⟩,s4,s5⟩ f=>⟨f z (by simp) _ s1,f I (by simp) _ s2,⟨p,q,f O (by simp) _ s3⟩,s4.keep fun o e=>f i (by simp) o e,s5.keep fun o e=>f j (by simp) o e⟩
 item:=by
  intro X hP hw hK hc k pins s σ H E Iv hf st hg;subst hP hw hK;obtain⟨s1,s2,⟨p,q,s3⟩,s4,s5⟩:=st;obtain⟨xs,ys,x,y,q1,q2,hx,hy⟩:=hg;obtain⟨is1,r1,p1⟩:=q7g Iv q1;obtain⟨is2,r2,p2⟩:=q7g Iv q2;obtain⟨ux,hux,rux⟩:=r1.get hx;obtain⟨uy,huy,ruy⟩:=r2.get hy;refine y6q D s1 s2 s3 s4 s5 p1 p2 (x:=ux) (y:=uy) (by simpa using hux) (by simpa using huy) fun h1 z1 o1 i1 j1 t1 n1 k1=>⟨_,rfl,?_⟩
  refine wpAny_letOwnedTupleGo_zip z1 fun h2 z2 b2=>?_
  have b2:Heap.SameBut z h1 h2:=b2;have zlt:z<s.heap.objs.size:=Heap.lt_size s1;have hfr:H s.heap.objs.size=none:=Iv.hok.fresh (w0e _);have t2:IsPair h2 s.heap.objs.size ux uy:=(b2.2 _ (w3k zlt)).trans t1;have I1:IsPair h1 I (.ref i) (.ref j):=k1 I _ D.Iz D.IO D.Ii D.Ij s2;refine⟨.ref s.heap.objs.size,upd H s.heap.objs.size (.tup [x,y]),?_,rfl,⟨_,x,y,rfl,hfr,fun xs' h'=>by rw[y02 Iv h' q1];exact hx,fun ys' h'=>by rw[y02 Iv h' q2];exact hy,rfl⟩,⟨z2,(b2.2 _ D.Iz).trans I1,⟨ux,uy,(b2.2 _ D.Oz).trans o1⟩,i1.keep fun o e=>(b2.2 _ D.iz).trans e,j1.keep fun o e=>(b2.2 _ D.jz).trans e⟩,fun c hc=>?_⟩
  ·show L2.Inv X pins σ _ {s with heap:=h2,toks:=s.toks};refine x3f (fp:=[z,I,O,i,j]) Iv (fun c o hc q=>?_) hf (w0e _) ⟨?_,[ux,uy],.cons rux (.cons ruy .nil),⟨_,t2,rfl,?_⟩,⟨_,t2,rfl⟩⟩
   ·simp only[w0h,w0y,or_false,not_or]at hc;exact(b2.2 c hc.1).trans (k1 c o hc.1 hc.2.2.1 hc.2.2.2.1 hc.2.2.2.2 q)
   ·rw[sizeLine_eq];simp
   ·exact⟨_,rfl⟩
  ·have:c≠s.heap.objs.size:=by
    obtain⟨o,q,_⟩:∃o,s.heap.get? c=some o/\True:=by
     simp only[w0h,w0y,or_false]at hc;rcases hc with rfl|rfl|rfl|rfl|rfl
     ·exact⟨_,s1,trivial⟩
     ·exact⟨_,s2,trivial⟩
     ·exact⟨_,s3,trivial⟩
     ·obtain⟨o,e,_⟩:=s4.obj;exact⟨o,e,trivial⟩
     ·obtain⟨o,e,_⟩:=s5.obj;exact⟨o,e,trivial⟩
    exact w0t (Heap.lt_size q)
   rw[q0f this];exact(hf c hc).1
 done:=by
  intro X hP hw hK hc k pins s σ H E Iv hf st hg;subst hP hw hK;obtain⟨s1,s2,⟨p,q,s3⟩,s4,s5⟩:=st;obtain⟨xs,ys,q1,q2,hlen⟩:=hg;obtain⟨is1,r1,p1⟩:=q7g Iv q1;obtain⟨is2,r2,p2⟩:=q7g Iv q2;have l1:=r1.length;have l2:=r2.length;refine y6r (Iv.ok.hd hc) D s1 s2 s3 s4 s5 p1 p2 (by rcases hlen with h|h;left;simp;omega;right;simp;omega) fun h' k1=>⟨rfl,?_⟩
  have hfp:∀c∈[z,I,O,i,j],FpOk X pins H c:=hf;refine x6s (fp:=[z,I,O,i,j]) (t':=s.toks) Iv (fun c o hc q=>?_) hfp
  simp only[w0h,w0y,or_false,not_or]at hc;exact k1 c o hc.1 hc.2.2.1 hc.2.2.2.1 hc.2.2.2.2 q
 self:=fun _ _ _ _ _ ⟨s1,_⟩ h=>wpAny_pyIter_zip s1 h
end
theorem y03(n a b:Nat)(ha:a<n)(hb:b<n):Apart (n+4) (n+2) (n+3) n (n+1) a b where
 Iz:=by show ¬(n+2:Nat)=n+4;omega
 Oz:=by show ¬(n+3:Nat)=n+4;omega
 iz:=by show ¬(n:Nat)=n+4;omega
 jz:=by show ¬(n+1:Nat)=n+4;omega
 IO:=by show ¬(n+2:Nat)=n+3;omega
 Ii:=by show ¬(n+2:Nat)=n;omega
 Ij:=by show ¬(n+2:Nat)=n+1;omega
 Oi:=by show ¬(n+3:Nat)=n;omega
 Oj:=by show ¬(n+3:Nat)=n+1;omega
 ij:=by show ¬(n:Nat)=n+1;omega
 az:=by show ¬(a:Nat)=n+4;omega
 aO:=by show ¬(a:Nat)=n+3;omega
 ai:=by show ¬(a:Nat)=n;omega
 aj:=by show ¬(a:Nat)=n+1;omega
 bz:=by show ¬(b:Nat)=n+4;omega
 bO:=by show ¬(b:Nat)=n+3;omega
 bi:=by show ¬(b:Nat)=n;omega
 bj:=by show ¬(b:Nat)=n+1;omega
section
variable{a1 a2:Expr}{pt:Pos}
def iZip(K:PySem.W.Frag)(ta:TA):TI:=fun σ H R=>ta σ H fun vs H1=>∃t u a b,vs=[.ref a,.ref b]/\(∃xs,SqG K t H1 a xs)/\(∃ys,SqG K u H1 b ys)/\R (Itz K t u a b) H1
theorem z0y{ta:TA}{p:Pos}(hg:Gl X "zip")(hm:X.mg "zip"=none)(ha:PA X [a1,a2] ta)(hs:starEach [a1,a2] X.env=[(false,eval a1 X.env),(false,eval a2 X.env)]:=by rfl)(hs2:starEach [a2] X.env=[(false,eval a2 X.env)]:=by rfl):
  PI X (.Tuple elts kt pt) (.Call (.Name "zip" p) [a1,a2] [] pos) (iZip X.K ta):=by
 intro pins s σ H R I h;refine PyProof.Rows.Call_ (q5s I hg hm PyProof.Rows.boot_zip (PyProof.Rows.callWith_type1 (thn (ha pos pins s σ H _ I h) fun us s1 ⟨vs,H1,I1,r1,q1⟩=>?_) (by rw[hs,hs2]) (by rw[hs2];rfl)))
 obtain⟨t,u,a,b,e,⟨xs,hx⟩,⟨ys,hy⟩,q⟩:=q1;subst e;cases r1 with
 |cons r rr=>
  cases rr with
  |cons r' rr=>
   cases rr;cases r;cases r';obtain⟨is1,v1,p1⟩:=q7g I1 hx;obtain⟨is2,v2,p2⟩:=q7g I1 hy;obtain⟨oa,ea,_⟩:=p1.obj;obtain⟨ob,eb,_⟩:=p2.obj;have la:=Heap.lt_size ea;have lb:=Heap.lt_size eb;refine y01 p1 p2 fun h' z1 i1 o1 k1 k2 up=>?_
   refine wpAny_pyIter_zip z1 ?_
   have D:Apart (s1.heap.objs.size+4) (s1.heap.objs.size+2) (s1.heap.objs.size+3) s1.heap.objs.size (s1.heap.objs.size+1) a b:=by
    have la':(a:Nat)<s1.heap.objs.size:=la;have lb':(b:Nat)<s1.heap.objs.size:=lb;generalize s1.heap.objs.size=n at la' lb';exact y03 n a b la' lb'
   refine⟨s1.heap.objs.size+4,[s1.heap.objs.size+4,s1.heap.objs.size+2,s1.heap.objs.size+3,s1.heap.objs.size,s1.heap.objs.size+1],_,_,H1,rfl,I1.kept (t':=s1.toks) up,y3d t u a b _ _ _ _ _ D,⟨z1,i1,⟨_,_,o1⟩,k1,k2⟩,fun c hc=>?_,q⟩
   simp only[w0h,w0y,or_false]at hc;rcases hc with rfl|rfl|rfl|rfl|rfl<;>exact I1.fpOk (by omega) (I1.hok.fresh (by omega))
noncomputable def srcZ(dA:Den (List W)):Den (List (W×W)):=fun e=>(dA e).bind fun ws e1=>match ws with
 |[x,y]=>match seqW x,seqW y with
  |some us,some vs=>.ok (us.zip vs) e1
  |_,_=>.no
 |_=>.no
theorem x74(h:seqW w=some us)(p:Rep K G w v):∃t a xs,v=.ref a/\SqG K t G a xs/\Reps K G us xs:=by
 cases w with
 |tup l=>
  cases h;obtain⟨a,xs,rfl,hq,rp⟩:=p;exact⟨true,a,xs,rfl,hq,rp⟩
 |lst l=>
  cases h;obtain⟨a,xs,rfl,hq,rp⟩:=p;exact⟨false,a,xs,rfl,hq,rp⟩
 |_=>cases h
theorem q2e(s:Same G H)(h:SqG K t G a xs):SqG K t H a xs:=by
 cases t with
 |true=>exact s.tup h
 |false=>exact s.seq h
theorem y04{u:Bool}{b:Addr}{vs:List W}{ys:List V}(r1:Reps K G1 us xs)(r2:Reps K G1 vs ys)(h1:SqG K t G1 a xs)(h2:SqG K u G1 b ys):Walk2 K G1 (Itz K t u a b) (us.zip vs):=by
 have l1:=r1.length;have l2:=r2.length;have lz:(us.zip vs).length=min us.length vs.length:=w2g ..;refine⟨fun i G H s s' h=>⟨xs,ys,xs[i]'(by omega),ys[i]'(by omega),q2e s' (q2e s h1),q2e s' (q2e s h2),by simp,by simp⟩,fun i G H x H' s s' hy p q h=>?_,fun i G H s s' h=>⟨xs,ys,q2e s' (q2e s h1),q2e s' (q2e s h2),by omega⟩⟩
 obtain⟨c,x1,y1,rfl,hn,hx1,hy1,rfl⟩:=hy;obtain⟨hu,hv⟩:=List.getElem?_zip_eq_some.mp h;obtain⟨w1,hw1,pw1⟩:=r1.getV (hx1 xs (q2e s' (q2e s h1)));obtain⟨w2,hw2,pw2⟩:=r2.getV (hy1 ys (q2e s' (q2e s h2)));rw[hu]at hw1;rw[hv]at hw2;cases hw1;cases hw2;exact⟨Grow.hid s' hn _,fun m n σ Q hQ=>⟨c,[x1,y1],rfl,SqT.of q0m,rfl,x1,[y1],rfl,y1,[],rfl,rfl,hQ _ _ (Rep.mono s _ pw1) (Rep.mono s _ pw2)⟩⟩
theorem x5i{p:Pos}(hm:X.mg "zip"=none)(ha:DA Z X EE [a1,a2] dA)(hg:Gl X "zip":=by rfl)(hs:starEach [a1,a2] X.env=[(false,eval a1 X.env),(false,eval a2 X.env)]:=by rfl)(hs2:starEach [a2] X.env=[(false,eval a2 X.env)]:=by rfl):
  DI Z X EE (.Tuple elts kt pt) (.Call (.Name "zip" p) [a1,a2] [] pos) (srcZ dA):=by
 refine PI.mono (z0y hg hm ha hs hs2) ?_;rintro σ H RR ⟨G,e,rel,h⟩;simp only[srcZ,R.holds_bind]at h;refine⟨G,e,rel,h.imp (fun ws e1 h G1 vs H1 r1 s1 p1=>?_) fun _ _ h=>h⟩
 split at h
 ·rename_i w1 w2;split at h
  ·rename_i us ws hu hw;obtain⟨y1,r,rfl,q1,y2,r',rfl,q2,q3⟩:=p1;cases(show r'=[]from q3);obtain⟨t,a,xs,rfl,hx,rx⟩:=x74 hu q1;obtain⟨u,b,ys,rfl,hy,ry⟩:=x74 hw q2;exact⟨t,u,a,b,rfl,⟨xs,q2e r1.sub hx⟩,⟨ys,q2e r1.sub hy⟩,h _ _ _ r1 s1 (y04 rx ry hx hy)⟩
  ·exact h.elim
 ·exact h.elim
end
section
variable{e:List S}{vs:List W}
noncomputable def srcZW(e:List S):List W->R (List (W×W))
 |[x,y]=>match seqW x,seqW y with
  |some us,some vs=>.ok (us.zip vs) e
  |_,_=>.no
 |_=>.no
theorem z0z:srcZ dA e=(dA e).bind fun ws e1=>srcZW e1 ws:=by
 unfold srcZ;congr 1
theorem y3e:srcZW e [.tup us,.tup vs]=.ok (us.zip vs) e:=rfl
theorem y3f:srcZW e [.lst us,.lst vs]=.ok (us.zip vs) e:=rfl
theorem y3g:srcZW e [.tup us,.lst vs]=.ok (us.zip vs) e:=rfl
theorem y3h:srcZW e [.lst us,.tup vs]=.ok (us.zip vs) e:=rfl
end
noncomputable def insI(x:Int):List Int->List Int
 |[]=>[x]
 |y::ys=>if x<=y then x::y::ys else y::insI x ys
noncomputable def sortI:List Int->List Int
 |[]=>[]
 |x::xs=>insI x (sortI xs)
theorem q87(x:Int):∀l:List Int,(insI x l).Perm (x::l)
 |[]=>.refl _
 |y::ys=>by
  unfold insI;split
  ·exact .refl _
  ·exact((q87 x ys).cons y).trans (.swap x y ys)
theorem q47:∀l:List Int,(sortI l).Perm l
 |[]=>.refl _
 |x::xs=>(q87 x _).trans ((q47 xs).cons x)
theorem q9u{x:Int}:∀{l:List Int},l.Pairwise (·<=·)->(insI x l).Pairwise (·<=·)
 |[],_=>by simp[insI]
 |y::ys,h=>by
  unfold insI;rw[w2s]at h;split
  ·rename_i hxy;refine w2s.mpr ⟨fun z hz=>?_,w2s.mpr h⟩
   rcases w0h.mp hz with rfl|hz
   ·exact hxy
   ·exact Int.le_trans hxy (h.1 z hz)
  ·rename_i hxy;refine w2s.mpr ⟨fun z hz=>?_,q9u h.2⟩
   rcases w0h.mp ((q87 x ys).mem_iff.mp hz)with rfl|hz
   ·omega
   ·exact h.1 z hz
theorem q88:∀l:List Int,(sortI l).Pairwise (·<=·)
 |[]=>.nil
 |x::xs=>q9u (q88 xs)
theorem x3z{l l':List Int}(p:l.Perm l')(h:l.Pairwise (·<=·))(h':l'.Pairwise (·<=·)):l=l':=p.eq_of_pairwise (fun a b _ _ h1 h2=>Int.le_antisymm h1 h2) h h'
theorem x5j:∀{ys:List Int}{its:List Value},Vals (ys.map V.int) its->PyProof.Rows.IntsAre its ys
 |[],its,h=>by cases h;exact .nil
 |y::ys,its,h=>by
  cases h with
  |cons r t=>
   obtain⟨k,rfl⟩:=r;exact .cons y k (x5j t)
theorem x5k:∀{ys:List Int}{its:List Value},PyProof.Rows.IntsAre its ys->Vals (ys.map V.int) its
 |_,_,.nil=>.nil
 |_,_,.cons n t h=>.cons ⟨_,rfl⟩ (x5k h)
theorem x6t:CallR X (.builtin "sorted") (fun xs H Q=>∃p ns,xs=[.ref p]/\SqL X.K H p (ns.map V.int)/\ns.length<64/\∀b,H b=none->Q (.ref b) (upd H b (.lst ((sortI ns).map V.int)))):=by
 intro pins s σ H xs us Q I r h;obtain⟨p,ns,rfl,hq,hn,q⟩:=h;obtain⟨u,rfl,ru⟩:=vals1 r;cases ru;obtain⟨its,rv,pl,hz⟩:=I.list hq;have hlen:=rv.length;rw[w0a]at hlen;refine PyProof.Rows.sorted_ints pl.isList (x5j rv) (by omega) fun out ns' a1 a2 a3=>?_
 have e:ns'=sortI ns:=x3z (a2.trans (q47 ns).symm) a3 (q88 ns);subst e;obtain⟨n,hat⟩:=PyProof.Rows.sortedAll_at s.heap its out;have fr:H (s.heap.objs.size+1)=none:=I.hok.fresh (w4g _);refine⟨.ref (s.heap.objs.size+1),_,I.laid (t':=s.toks) (a:=s.heap.objs.size+1) (o:=.lst ((sortI ns).map V.int)) (fun b ob z=>PyProof.Rows.sortedAll_old z) (w4g _) ?_,rfl,q _ fr⟩
 refine⟨?_,out.toList,n,x5k a1,?_⟩
 ·rw[w0a,(q47 ns).length_eq,sizeLine_eq];omega
 ·rw[hat]
noncomputable def sorted1:List W->Option W
 |[.lst ws]=>match intsW ws with
  |some ns=>if ns.length<64 then some (.lst ((sortI ns).map .int))else none
  |none=>none
 |_=>none
theorem y05:OpN K (fun xs H Q=>∃p ns,xs=[.ref p]/\SqL K H p (ns.map V.int)/\ns.length<64/\∀b,H b=none->Q (.ref b) (upd H b (.lst ((sortI ns).map V.int)))) sorted1:=by
 intro G H xs ws w Q s pr hf h;unfold sorted1 at hf;split at hf
 ·rename_i us;obtain⟨y,r,rfl,py,pr⟩:=pr;cases(show r=[]from pr);split at hf
  ·rename_i ns hns;split at hf
   ·rename_i hl;cases hf;obtain⟨a,cs,rfl,hq,rp⟩:=py;have:=x5f hns rp;subst this;refine⟨a,ns,rfl,s.seq hq,hl,fun b hb=>?_⟩
    exact h _ _ _ (Grow.laid s hb _) ⟨b,_,rfl,SqL.of q0m,q83 _⟩
   ·cases hf
  ·cases hf
 ·cases hf
section
variable{p:Pos}
theorem y06(hc:X.calm=true)(hm:X.mg "sorted"=none)(ha:DA Z X EE [e] dA)(hg:Gl X "sorted":=by rfl)(he:starEach [e] X.env=(false,eval e X.env)::starEach [] X.env:=by rfl)(hpl:(backTo pos (starEach [] X.env)).any (·.1)=false:=by rfl):DE Z X EE (.Call (.Name "sorted" p) [e] [] pos) (dFn sorted1 dA):=
 x03 x6t y05 PyProof.Rows.Boot.«sorted» hm ha hg (by decide) (by decide) he hpl
end
theorem x75:∀ns:List Int,intsW (ns.map .int)=some ns
 |[]=>rfl
 |n::ns=>by rw[w0l];show(intsW (ns.map .int)).map (n::·)=_;rw[x75 ns];rfl
theorem y3i{ns:List Int}(h:ns.length<64):sorted1 [.lst (ns.map .int)]=some (.lst ((sortI ns).map .int)):=by
 show(match intsW (ns.map .int)with|some ns=>if ns.length<64 then some (W.lst ((sortI ns).map .int))else none|none=>none)=_;rw[x75];exact if_pos h
end D
namespace L2
open PySem PySem.Spec PyProof.Rows
structure FlyA(outer:List Env)(H H':Hp)(h h':Heap)(e:Addr)(cls:Value)(B:Heap):Prop where
 stay:B.StaysIn h'
 bare:B.get? e=none
 ff:h'.FunFrames B outer
 tr:∃a0 fl,h'.TracedAtW B e cls a0 fl
 old:∀b o,h.get? b=some o->H b=none->b∉frs outer->B.get? b=some o
 trk:∀b u o,H' b=some u->h'.get? b=some o->B.get? b=some o
 all:∀b o,h.get? b=some o->b∈frs outer\/∃o',B.get? b=some o'
 new:h.get? e=none
end L2
namespace D
open PySem L2
variable{e:List S}
noncomputable def compX(c:Den Bool)(d:Den W)(pe:List S):List W->Option (Value ⊕ List W)
 |[]=>some (.inr [])
 |w::ws=>match c (.fr w::pe)with
  |.ok true e1=>match d e1 with
   |.ok y _=>(compX c d pe ws).map (Sum.map id (y::·))
   |.ex k _=>some (.inl k)
   |.no=>none
  |.ok false _=>compX c d pe ws
  |.ex k _=>some (.inl k)
  |.no=>none
noncomputable def compXR(e:List S):Option (Value ⊕ List W)->R (List W)
 |some (.inr out)=>.ok out e
 |some (.inl k)=>.ex k e
 |none=>.no
noncomputable def compKX(js:List Nat)(c:Den Bool)(d:Den W)(ws:List W)(e1:List S):R (List W):=
 if ws.length<=16777216 then compXR (frzs js e1) (compX c d (pjS js (frzs js e1)) ws)else .no
theorem y3j{js:List Nat}{cc:Den Bool}{d:Den W}{ws:List W}:compKX js cc d ws e=if ws.length<=16777216 then compXR (frzs js e) (compX cc d (pjS js (frzs js e)) ws)else .no:=rfl
theorem y07{out:List W}:compXR e (some (.inr out))=.ok out e:=rfl
theorem y08{k:Value}:compXR e (some (.inl k))=.ex k e:=rfl
section
variable{X:Cx}{Z:Zt}{EE:L2.St->XK}{elt iter a b:Expr}{ifs:List Expr}{scope sc:Scope}{pos pt:Pos}{x:Str}{Nf N:List Str}{js:List Nat}{di:Den W}{dA:Den (List W)}{c:Den Bool}{d:Den W}
theorem z00{ws:List W}{P:List W->List S->Prop}{Ex:Value->List S->Prop}{e1:List S}(h:(compKX js c d ws e1).holds P Ex):ws.length<=16777216/\∃out,compX c d (pjS js (frzs js e1)) ws=some out/\Sum.elim (fun k=>Ex k (frzs js e1)) (fun o=>P o (frzs js e1)) out:=by
 unfold compKX at h;split at h
 ·rename_i hl;cases ho:compX c d (pjS js (frzs js e1)) ws with
  |none=>rw[ho]at h;exact h.elim
  |some out=>rw[ho]at h;exact⟨hl,out,rfl,by cases out<;>exact h⟩
 ·exact h.elim
end
end D
namespace L2
open PySem PySem.Spec PyProof.Rows
variable{A:Around}{prog:Program}{s:Shared}{E:Value->Shared->Prop}{w:World}
def Rise(t:SetTable):Prop:=t.place.toList.Pairwise (·<·)/\t.dummies=#[]
noncomputable def valI:Value->Int
 |.int n _=>n
 |_=>0
structure SetData(prog:Program)(w:World)(es:Array (Int×Value))(t:SetTable)(S:List Int):Prop where
 el:ElemsOf (intKind prog w) es.toList
 sz:es.size<scanBound
 fit:t.fits es.size=true
 rise:Rise t
 led:t.led=!w.params.followText "set-order"
 whole:∀e∈es.toList,∃n k,e.2=Value.int n k
 perm:(es.toList.map fun e=>valI e.2).Perm S
namespace SI
theorem own:Manifest.owners.lookup (String.ofList ['r','o','t','a','r','e','t','i','_','t','e','s'].reverse)=some Manifest.sig_set_iterator:=by kernel_rfl
theorem next:Slot "set_iterator" "__next__" "set_iterator.__next__":=.of (owner:="set_iterator") (n:="__next__") (by rw[typeLookup_type,builtinLookup_eq_fast];kernel_rfl) (by decide +kernel) (by decide +kernel) (by decide +kernel) (by first|exact .inl (by decide +kernel)|exact .inr (by decide +kernel)) (by rw[isSubtype_type];kernel_rfl)
theorem iter:Slot "set_iterator" "__iter__" "set_iterator.__iter__":=.of (owner:="set_iterator") (n:="__iter__") (by rw[typeLookup_type,builtinLookup_eq_fast];kernel_rfl) (by decide +kernel) (by decide +kernel) (by decide +kernel) (by first|exact .inl (by decide +kernel)|exact .inr (by decide +kernel)) (by rw[isSubtype_type];kernel_rfl)
end SI
open PySem PySem.Spec PyProof.Rows
end L2
namespace D
open PySem L2
variable{X:Cx}{dA:Den (List W)}{a e:Expr}{EE:L2.St->XK}{p pos:Pos}{Z:Zt}
theorem y3k(hc:X.calm=true):CallR X (.builtin "any") (fun xs H Q=>∃p ys,xs=[.ref p]/\SqL X.K H p ys/\(∀y∈ys,∃b,y=.bl b)/\Q (.bl (ys.any fun y=>decide (y=.bl true))) H):=by
 intro pins s σ H xs us Q I r h;obtain⟨p,ys,rfl,hq,hb,q⟩:=h;obtain⟨u,rfl,rx⟩:=vals1 r;cases rx;obtain⟨its,r',pl,hz⟩:=I.list hq;have hl:=pl.isList;have hlt:p<s.heap.objs.size:=by obtain⟨_,e,_⟩:=hl;exact Heap.lt_size e
 have hh:X.A.in1.handled=none:=I.ok.hd hc;refine call_any_walk (wpAny_pyIter_list hl ⟨s.heap.objs.size,[s.heap.objs.size,p],[s.heap.objs.size],_,_,_,fun i=>decide (ys[i]?=some (.bl true)),rfl,Walks.list hh s.heap.objs.size p (w0t hlt) its.toArray,⟨⟨_,Heap.get?_push_size _ rfl,rfl,rfl⟩,hl.push _⟩,?_,fun h' tk kp=>?_⟩)
 ·intro i v s1 Q1 E1 hv hQ;have hv':its[i]?=some v:=by simpa using hv
  have hi:i<ys.length:=by rw[r'.length];exact(w0c.mp hv').1
  obtain⟨u,hu,ru⟩:=r'.get (w0b hi);rw[hv']at hu;cases hu;obtain⟨b,eb⟩:=hb ys[i] (w1w hi);rw[eb]at ru;cases ru;refine wpAny_truthy_bool ?_
  have e:decide (ys[i]?=some (V.bl true))=b:=by
   rw[w0b hi,eb];cases b<;>simp
  rw[<- e];exact hQ
 ·have e:(List.range its.toArray.size).any (fun i=>decide (ys[i]?=some (V.bl true)))=ys.any fun y=>decide (y=.bl true):=by
   rw[w1l,w2j,w2j];constructor
   ·rintro⟨i,hi,z⟩;rw[w0w,w0d,<- r'.length]at hi;rw[w0b hi]at z;exact⟨ys[i],w1w hi,by simpa using z⟩
   ·rintro⟨y,hy,z⟩;obtain⟨i,hi,rfl⟩:=w4h hy;exact⟨i,by rw[w0w,w0d,<- r'.length];exact hi,by rw[w0b hi];simpa using z⟩
  refine⟨.bl _,H,I.kept (t':=tk) fun b o hbo=>kp b o (fun z=>?_) (Heap.get?_push_of_some _ hbo),rfl,e ▸ q⟩
  rw[w0u]at z;exact absurd (Heap.lt_size hbo) (by rw[z];exact w1y _)
noncomputable def any1:List W->Option W
 |[.lst ws]=>(boolsW ws).map fun bs=>.bl (bs.any id)
 |_=>none
theorem z01{K:PySem.W.Frag}:OpN K (fun xs H Q=>∃p ys,xs=[.ref p]/\SqL K H p ys/\(∀y∈ys,∃b,y=.bl b)/\Q (.bl (ys.any fun y=>decide (y=.bl true))) H) any1:=by
 intro G H xs ws w Q s pr hf h;unfold any1 at hf;split at hf
 ·obtain⟨bs,hb,rfl⟩:=w0n.mp hf;have:=q7v hb;subst this;obtain⟨x,r,rfl,px,pr⟩:=pr;cases(show r=[]from pr);obtain⟨a,ys,rfl,ha,ra⟩:=px;have:=q7w ra;subst this;refine⟨a,_,rfl,s.seq ha,fun y hy=>?_,h G _ H (.refl s) ?_⟩
  ·obtain⟨b,_,rfl⟩:=w1g.mp hy;exact⟨b,rfl⟩
  ·show V.bl _=V.bl _;congr 1;rw[w4r];congr 1;funext b
   cases b<;>rfl
 ·cases hf
theorem y09(hc:X.calm=true)(hm:X.mg "any"=none)(ha:DA Z X EE [e] dA)(hg:Gl X "any":=by rfl)(he:starEach [e] X.env=(false,eval e X.env)::starEach [] X.env:=by rfl)(hpl:(backTo pos (starEach [] X.env)).any (·.1)=false:=by rfl):DE Z X EE (.Call (.Name "any" p) [e] [] pos) (dFn any1 dA):=
 x03 (y3k hc) z01 PyProof.Rows.Boot.«any» hm ha hg (by decide) (by decide) he hpl
theorem z3f{bs:List Bool}:any1 [.lst (bs.map .bl)]=some (.bl (bs.any id)):=by
 show(boolsW (bs.map .bl)).map _=_;rw[q85];rfl
def rCat0(K:PySem.W.Frag):R2:=fun x y H Q=>∃a b ys,x=.ref a/\y=.ref b/\SqT K H a []/\SqT K H b ys/\Q (.ref b) H
open PyProof.Rows in
theorem op_cat0:OpR X (binaryOp .Add) (rCat0 X.K):=by
 intro pins s σ H x y v u Q I rx ry h;obtain⟨a,b,ys,rfl,rfl,ha,hb,q⟩:=h;cases rx;cases ry;obtain⟨its,r1,p1,_⟩:=I.tuple ha;obtain⟨its2,r2,p2,_⟩:=I.tuple hb;cases r1;obtain⟨⟨cls,dd,data,sl⟩,ho,hc,n,hd⟩:=id p1;obtain⟨⟨cls2,dd2,data2,sl2⟩,ho2,hc2,n2,hd2⟩:=id p2;simp only at hc hd hc2 hd2;subst hc hd hc2 hd2;exact concat_meets ⟨_,ho,rfl⟩ ⟨_,ho2,rfl⟩ noFill_tuple_add seq_tuple_add PySem.F.slot_tuple_add PySem.F.entry_tuple_add (PySem.F.args_tuple_add_2 _ _) (tuple_addW0 a b _ _ n n2 dd dd2 sl sl2 rfl) ⟨ho,ho2,.ref b,H,I,rfl,q⟩
noncomputable def addX:W->W->Option W
 |.tup xs,.tup ys=>if xs.length+ys.length<=16777216 then some (.tup (xs++ys))else none
 |x,y=>addW x y
theorem y6s{xs ys:List W}:addX (.tup xs) (.tup ys)=if xs.length+ys.length<=16777216 then some (.tup (xs++ys))else none:=rfl
theorem y6t{i j:Int}:addX (.int i) (.int j)=some (.int (i+j)):=rfl
theorem y6u{xs ys:List W}:addX (.lst xs) (.lst ys)=if xs.length+ys.length<=16777216 then some (.lst (xs++ys))else none:=rfl
theorem y6v{x y:Str}:addX (.str x) (.str y)=if x.length+y.length<=16777216 then some (.str (x++y))else none:=rfl
theorem y6w{K:PySem.W.Frag}:Op2 K (fun x y H Q=>rCat0 K x y H Q\/(rI0 (fun i j=>.int (i+j)) x y H Q\/((∃i j,x=.str i/\y=.str j/\i.length+j.length<=sizeLine/\Q (.str (i++j)) H)\/(rCatT K x y H Q\/rCatS K x y H Q)))) addX:=by
 intro G H x y wx wy w Q s px py hf h;unfold addX at hf;split at hf
 ·rename_i xs ys;split at hf
  ·rename_i hl
   by_cases h0:xs=[]
   ·subst h0;cases hf;obtain⟨a,vs,rfl,hq,rp⟩:=px;obtain⟨b,us,rfl,hq2,rp2⟩:=py;cases(show vs=[]from rp);exact .inl ⟨a,b,us,rfl,rfl,s.tup hq,s.tup hq2,h G _ H (.refl s) ⟨b,us,rfl,hq2,rp2⟩⟩
   ·exact .inr (x98 G H x y (.tup xs) (.tup ys) w Q s px py (by show(if xs≠[]/\xs.length+ys.length<=16777216 then some (W.tup (xs++ys))else none)=some w;rw[if_pos ⟨h0,hl⟩];exact hf) h)
  ·cases hf
 ·exact .inr (x98 G H x y _ _ w Q s px py hf h)
section
variable{b:Expr}{da db:Den W}
theorem q0r(ha:DE Z X EE a da)(hb:DE Z X EE b db):DE Z X EE (.BinOp a .Add b pos) (dOp addX da db):=q7r (op_cat0.or (op_add.or (op_add_str.or (op_catT.or y5h)))) y6w ha hb
end
open PySem L2 PySem.Spec PyProof.Rows
end D
namespace Att
open PySem PySem.W PySem.Calls PyProof.Rows
theorem x76:∀{ns:List Int}{m:Nat},WData.weightAll (ns.map WData.int)<=m->∀i∈ns,Builtin.Int.intBits i<=m
 |[],_,_,_,h=>nomatch h
 |n::ns,m,hw,i,h=>by
  have e:WData.weightAll ((n::ns).map WData.int)=Builtin.Int.intBits n+1+WData.weightAll (ns.map WData.int):=rfl;rw[e]at hw;cases h with
  |head=>omega
  |tail _ h=>exact x76 (by omega) i h
theorem y3l{ns:List Int}(h:WData.layableAll [WData.list (ns.map WData.int)]=true):∀i∈ns,Builtin.Int.intBits i<=1048576:=by
 have h1:(WData.layable (WData.list (ns.map WData.int))&&true)=true:=h;rw[w4m]at h1;unfold WData.layable at h1;rw[w0r]at h1;have h2:=of_decide_eq_true h1.2;have e:WData.weight (WData.list (ns.map WData.int))=WData.weightAll (ns.map WData.int):=rfl;rw[e]at h2;exact x76 h2
theorem attach_callB{l:OpenLaw}{n:Nat}{q:Program}{loose:List Str}{XP:(Str->Option Value)->Heap->Prop}{YP:World->Heap->Prop}{d:DefRec}
  (hn:l.most=some n)(hdf:d.params.defaults=[])
  (call:∀(w:World)(s₀ s₁:Shared)(mg mb:Str->Option Value)(fa:Addr)(o:Obj)(pm cd doc:Value)(a:Addr)(vs:List Value)(ns:List Int),
   Ground q loose [] XP w s₀ mg mb s₁.heap->YP w s₁.heap ->
   s₁.heap.get? fa=some o->o.data=.func (docDef d.name d.params d.body d.scope pm cd doc)->s₁.heap.CodeRec cd d.name->mg d.name=some (.ref fa) ->
   s₁.heap.get? a=some {cls:=.type "list", data:=.seq vs.toArray}->IntsAre vs ns->ns.length<=n->(∀i∈ns,Builtin.Int.intBits i<=1048576)->s₁.gens=#[] ->
   codeAny (model l.prog w) callerA (.call (.ref fa) ⟨[.ref a],[]⟩) (fun r s'=>r=.ok (.ret (.bool true))/\OldK s₁.heap s'.heap/\s'.os=s₁.os/\AllBare s'.gens) s₁):
  WalkO q loose XP YP l.row.toRowW d [] (fun f vs=>PySem.call f vs):=by
 intro w s₀ s₁ mg mb G Y fa o pm cd doc dV kV ho hd hcd hD hmg hg args vals as hpre hlay hrd hwl hlo;obtain rfl:dV=.none:=Dflts.none hD hdf;obtain rfl:kV=.none:=Dflts.noKw hD;obtain⟨a,vs,ns,rfl,rfl,hobj,hints,hlen⟩:=x24 hn hpre hwl;refine enter_call (codeAny_mono (call w s₀ s₁ mg mb fa o pm cd doc a vs ns G Y ho (fd_plain hd) hcd hmg hobj hints hlen (y3l hlay) hg) fun r s' hq=>?_)
 obtain⟨rfl,h2,h3,h4⟩:=hq;exact⟨.inl ⟨.bool true,.bool true,[],rfl,fun _=>rfl,.bool true,x25 l _,fun _=>⟨List.Pairwise.nil,fun _ hm=>(nomatch hm)⟩⟩,h2,h3,h4⟩
end Att
namespace L2
open PySem PySem.Spec PyProof.Rows
theorem y3m{l:PySem.W.OpenLaw}{n k:Nat}{q:Program}{loose:List Str}{XP:(Str->Option Value)->Heap->Prop}{YP:World->Heap->Prop}{d:DefRec}{K:Params->PySem.W.Frag}{CX:World->CXT}{sp:World->Sp}{x:Str}
  (hn:l.most=some n)(hn2:n<=sizeLine)(hdf:d.params.defaults=[])(hr:Room k callerA)
  (hY:∀(w:World)(h:Heap),YP w h->(K w.params).In h)
  (F:∀(w:World)(mg:Str->Option Value)(fa:Addr)(h:Heap),(K w.params).In h->h.Ns mainGlobals mg->mg d.name=some (.ref fa) ->
   ∃fd:FuncData,(∀(s:Shared)(u:Value),BindsTo s fd ⟨[u],[]⟩ [(x,u)]) /\
    ∀base:Heap,(K w.params).In base->base.Ns mainGlobals mg->FnOk l.prog w (K w.params) mg base (CX w) k fa fd [x] (sp w))
  (hsp:∀(w:World)(H:Hp)(a:Addr)(ns:List Int),ns.length<=n->(∀i∈ns,Builtin.Int.intBits i<=1048576)->Only H->SqL (K w.params) H a (ns.map V.int)->sp w [.ref a] H (fun v _=>v=.bl true) fun _ _ _=>False)
  (hCX:∀(w:World)(H:Hp)(s:Shared)(e:Value)(s':Shared),CX w [] H s (fun _ _ _=>False) e s'->False)(hNM:∀w:World,noMark (K w.params)=true):
  PySem.W.WalkO q loose XP YP l.row.toRowW d [] (fun f vs=>PySem.call f vs):=by
 refine Att.attach_callB hn hdf fun w s₀ s₁ mg mb fa o pm cd doc a vs ns G Y ho hd hcd hmg hobj hints hlen hbits hg=>?_
 have KX:=hY w _ Y;obtain⟨fd,hb,hF⟩:=F w mg fa _ KX G.T.g hmg;exact x4t KX G.T.g G.T.b G.T.builtins G.T.nolimit hg hobj hints (w0g hlen hn2) hr hF hb (fun H hO hS=>hsp w H a ns hlen hbits hO hS) (fun H e s'=>hCX w H s₁ e s') (hNM w)
theorem y6x{X:Cx}:OpR X (binaryOp .Mult) (rI IntMulOk fun i j=>.int (i*j)):=opI fun _ _ _ _ _ _ _ hc q=>mul_int q hc
end L2
namespace D
open PySem L2
open Classical in
noncomputable def mulB:W->W->Option W
 |.int i,.int j=>if IntMulOk i j then some (.int (i*j))else none
 |_,_=>none
theorem y6y{K:PySem.W.Frag}:Op2 K (rI IntMulOk fun i j=>.int (i*j)) mulB:=by
 intro G H x y wx wy w Q s px py hf h;unfold mulB at hf;split at hf
 ·split at hf
  ·rename_i hc;cases hf;cases px;cases py;exact⟨_,_,rfl,rfl,hc,h G _ H (.refl s) rfl⟩
  ·cases hf
 ·cases hf
theorem y6z{X:Cx}{Z:Zt}{EE:L2.St->XK}{a b:Expr}{da db:Den W}{pos:Pos}(ha:DE Z X EE a da)(hb:DE Z X EE b db):DE Z X EE (.BinOp a .Mult b pos) (dOp mulB da db):=q7r y6x y6y ha hb
theorem y60{i j:Int}{m n:Nat}(hi:Builtin.Int.intBits i<=m)(hj:Builtin.Int.intBits j<=n)(h:m+n<=134217728):mulB (.int i) (.int j)=some (.int (i*j)):=if_pos (PyProof.Rows.mulOk_of_bits hi hj h)
def Fit(ns:List Int):Prop:=ns.length<=63/\∀i∈ns,Builtin.Int.intBits i<=1048576
noncomputable def spLawB(K:PySem.W.Frag):Sp:=fun vs H Q _=>∃(a:Addr)(ns:List Int),vs=[.ref a]/\SqL K H a (ns.map V.int)/\Fit ns/\∀H',Q (.bl true) H'
theorem y1a{K:PySem.W.Frag}{F:List W->FR}(hF:∀ns:List Int,Fit ns->F [.lst (ns.map .int)]=.ok (.fr (.bl true))){vs:List V}{H:Hp}{Q:VK}{E:XK}(h:spLawB K vs H Q E):spF K F vs H Q E:=by
 obtain⟨a,ns,rfl,hS,hl,q⟩:=h;refine⟨fun b=>if b=a then H a else none,[.lst (ns.map .int)],fun b o z=>?_,⟨.ref a,[],rfl,⟨a,ns.map V.int,rfl,?_,q83 ns⟩,rfl⟩,?_⟩
 ·by_cases hb:b=a
  ·subst hb;simpa using z
  ·simp[hb]at z
 ·rcases hS with(h|⟨o,h⟩)|h
  ·exact .inl (.inl (by simpa using h))
  ·exact .inl (.inr ⟨o,by simpa using h⟩)
  ·exact .inr h
 ·rw[hF ns hl];intro G' H' v g sl;obtain⟨u,h1,h2⟩:=sl;cases h1;cases(show v=V.bl true from h2);exact q H'
end D
namespace L2
open PySem PySem.Spec PyProof.Rows
section
variable{κ:Type} [DecidableEq κ]
noncomputable def valV(kvs:List (κ×V))(k:κ):Option V:=(kvs.find? fun kv=>decide (kv.1=k)).map (·.2)
noncomputable def putK(kvs:List (κ×V))(k:κ)(v:V):List (κ×V):=
 if(kvs.any fun kv=>decide (kv.1=k))=true then kvs.map (fun kv=>if kv.1=k then(kv.1,v)else kv)else kvs++[(k,v)]
theorem q7x{p:κ×V}{r:List (κ×V)}{k:κ}(e:p.1=k):valV (p::r) k=some p.2:=by simp[valV,w2k,e]
theorem q6o{p:κ×V}{r:List (κ×V)}{k:κ}(e:¬p.1=k):valV (p::r) k=valV r k:=by simp[valV,w2k,e]
theorem x0j(k:κ):∀kvs:List (κ×V),(kvs.any fun kv=>decide (kv.1=k))=(valV kvs k).isSome
 |[]=>rfl
 |p::r=>by
  rw[w2r]
  by_cases e:p.1=k
  ·simp only[q7x e,decide_eq_true e,Bool.true_or,Option.isSome_some]
  ·rw[q6o e,decide_eq_false e,Bool.false_or];exact x0j k r
theorem q9v(kvs:List (κ×V))(k:κ)(v:V):(putK kvs k v).length<=kvs.length+1:=by
 unfold putK;split
 ·rw[w0a];omega
 ·rw[w0i,w0o,w1v];omega
theorem y3n{kvs:List (κ×V)}{k:κ}(v:V)(h:valV kvs k=none):putK kvs k v=kvs++[(k,v)]:=by
 unfold putK;rw[x0j,h];exact if_neg (by decide)
theorem RelO.isSome_eq{o:Option V}{u:Option Value}(r:RelO o u):o.isSome=u.isSome:=by
 cases o with
 |none=>cases u with
  |none=>rfl
  |some _=>exact(show False from r).elim
 |some _=>cases u with
  |none=>exact(show False from r).elim
  |some _=>rfl
theorem KV.val{kvs:List (κ×V)}{vs:List (κ×Value)}(r:KV kvs vs)(k:κ):RelO (valV kvs k) (valueAt vs k):=by
 unfold KV at r
 induction r with
 |nil=>exact True.intro
 | @cons p q ps qs h t ih=>
  obtain⟨h1,h2⟩:=h
  by_cases e:p.1=k
  ·have e':q.1=k:=h1.symm.trans e;have b:valueAt (q::qs) k=some q.2:=by simp[valueAt,w2k,e']
   rw[q7x e,b];exact h2
  ·have e':¬q.1=k:=fun z=>e (h1.trans z)
   have b:valueAt (q::qs) k=valueAt qs k:=by simp[valueAt,w2k,e']
   rw[q6o e,b];exact ih
theorem KV.any{kvs:List (κ×V)}{vs:List (κ×Value)}(r:KV kvs vs)(k:κ):(kvs.any fun kv=>decide (kv.1=k))=vs.any fun kv=>decide (kv.1=k):=by
 unfold KV at r
 induction r with
 |nil=>rfl
 |cons h t ih=>rw[w2r,w2r,ih,h.1]
theorem KV.repl{kvs:List (κ×V)}{vs:List (κ×Value)}(r:KV kvs vs)(k:κ){y:V}{u:Value}(ry:RelV y u):
  KV (kvs.map fun kv=>if kv.1=k then(kv.1,y)else kv) (vs.map fun kv=>if kv.1=k then(kv.1,u)else kv):=by
 unfold KV at r |-
 induction r with
 |nil=>exact .nil
 | @cons p q ps qs h t ih=>
  rw[w0l,w0l];refine .cons ?_ ih;obtain⟨h1,h2⟩:=h
  by_cases e:p.1=k
  ·rw[if_pos e,if_pos (h1.symm.trans e)];exact⟨h1,ry⟩
  ·rw[if_neg e,if_neg (fun z=>e (h1.trans z))];exact⟨h1,h2⟩
theorem KV.put{kvs:List (κ×V)}{vs:List (κ×Value)}(r:KV kvs vs)(k:κ){y:V}{u:Value}(ry:RelV y u):KV (putK kvs k y) (stored vs k u):=by
 unfold putK stored;rw[r.any k]
 by_cases e:(vs.any fun kv=>decide (kv.1=k))=true
 ·rw[if_pos e,if_pos e];exact r.repl k ry
 ·rw[if_neg e,if_neg e];exact Paired.snoc r ⟨rfl,ry⟩
theorem KV.keys{kvs:List (κ×V)}{vs:List (κ×Value)}(r:KV kvs vs):kvs.map (·.1)=vs.map (·.1):=by
 unfold KV at r
 induction r with
 |nil=>rfl
 |cons h t ih=>rw[w0l,w0l,ih,h.1]
theorem KV.length{kvs:List (κ×V)}{vs:List (κ×Value)}(r:KV kvs vs):kvs.length=vs.length:=Paired.length r
end
variable{a:Addr}{A:Around}{X:Cx}{H H':Hp}{pins:List (Addr×Obj)}{xs:List (Kx×Addr×Value)}{kvs:List (Kx×V)}{kas:List Addr}{pos:Pos}{P:Program}{sh:Sh}{s:Shared}{σ:St}{y:V}{u:Value}{E:Value->Shared->Prop}{w:World}
theorem y4m{k:Key}(r:RelV (kV k) u):(mixKind P w).is k u=true:=by
 cases k with
 |inl i=>obtain⟨t,e⟩:=(show ∃t,u=Value.int i t from r);subst e;exact x6n P w i t
 |inr x=>obtain⟨t,e⟩:=(show ∃t,u=Value.str x t from r);subst e;exact x6o P w x t
abbrev KT(sh:Sh)(H:Hp):List (Kx×V)->List (Kx×Addr×Value)->Prop:=Paired fun p q=>p.1=q.1/\(KRep H p.1 (.ref q.2.1)/\Conf p.1 sh/\p.1.depth<=7)/\RelV p.2 q.2.2
theorem KT.val(r:KT sh H kvs xs)(k:Kx):RelO (valV kvs k) ((atKey xs k).map (·.2)):=by
 induction r with
 |nil=>exact True.intro
 | @cons p q ps qs h t ih=>
  obtain⟨h1,_,h2⟩:=h
  by_cases e:p.1=k
  ·have e':q.1=k:=h1.symm.trans e;have b:atKey (q::qs) k=some q.2:=by simp[atKey,w2k,e']
   rw[q7x e,b];exact h2
  ·have e':¬q.1=k:=fun z=>e (h1.trans z)
   have b:atKey (q::qs) k=atKey qs k:=by simp[atKey,w2k,e']
   rw[q6o e,b];exact ih
theorem KT.repl(r:KT sh H kvs xs)(k:Kx)(ry:RelV y u):
  KT sh H (kvs.map fun kv=>if kv.1=k then(kv.1,y)else kv) (xs.map (putAt k u)):=by
 induction r with
 |nil=>exact .nil
 | @cons p q ps qs h t ih=>
  rw[w0l,w0l];refine .cons ?_ ih;obtain⟨h1,h2,h3⟩:=h;unfold putAt
  by_cases e:p.1=k
  ·rw[if_pos e,if_pos (h1.symm.trans e)];exact⟨h1,h2,ry⟩
  ·rw[if_neg e,if_neg (fun z=>e (h1.trans z))];exact⟨h1,h2,h3⟩
theorem KT.put(r:KT sh H kvs xs)(k:Kx){b:Addr}(hb:KRep H k (.ref b)/\Conf k sh/\k.depth<=7)(ry:RelV y u):
  KT sh H (putK kvs k y) (storedH xs k b u):=by
 have e:(kvs.any fun kv=>decide (kv.1=k))=(atKey xs k).isSome:=by
  rw[x0j,(r.val k).isSome_eq,Option.isSome_map]
 unfold putK storedH;rw[e]
 by_cases q:(atKey xs k).isSome=true
 ·rw[if_pos q,if_pos q];exact r.repl k ry
 ·rw[if_neg q,if_neg q];exact Paired.snoc r ⟨rfl,hb,ry⟩
noncomputable def putAd(kvs:List (Kx×V))(kas:List Addr)(k:Kx)(b:Addr):List Addr:=if(valV kvs k).isSome=true then kas else kas++[b]
theorem KT.putAd(r:KT sh H kvs xs)(ka:xs.map (·.2.1)=kas)(k:Kx){b:Addr}:(storedH xs k b u).map (·.2.1)=L2.putAd kvs kas k b:=by
 unfold storedH L2.putAd;rw[(r.val k).isSome_eq,Option.isSome_map]
 by_cases q:(atKey xs k).isSome=true
 ·rw[if_pos q,if_pos q,w1z,<- ka];refine w4i fun x _=>?_
  show(putAt k u x).2.1=x.2.1;unfold putAt;split<;>rfl
 ·rw[if_neg q,if_neg q,w1p,ka];rfl
theorem KT.keeps(r:KT sh H kvs xs)(ht:∀b u,TupLike u->H b=some u->H' b=some u):KT sh H' kvs xs:=
 Paired.mapP r fun _ _ z=>⟨z.1,⟨KRep.keeps ht _ z.2.1.1,z.2.1.2⟩,z.2.2⟩
section
variable{h:Heap}
theorem y4n{u:HO}(ok:HOk P w H h)(e:Rd H a u):ObjOk P w H h a u:=e.ok ok
theorem x4h{kvs:List (Key×V)}(ok:HOk P w H h)(e:Rd H a (.dK kvs)):kvs.length<=sizeLine/\(a==sysModules)=false/\∃vs,KV kvs vs/\h.DictOf (mixKind P w) a vs:=
 show ObjOk P w H h a (.dK kvs)from y4n ok e
theorem z3g{kvs:List (Key×V)}(ok:HOk P w H h)(e:H a=some (.dK kvs)):kvs.length<=sizeLine/\(a==sysModules)=false/\∃vs,KV kvs vs/\h.DictOf (mixKind P w) a vs:=x4h ok (.inl e)
theorem IsTup.seq{h:Heap}{its:List Value}(p:IsTup h a its.toArray):∃o n,h.get? a=some o/\o.cls=.type "tuple" /\ o.data=.seq its.toArray n:=by
 obtain⟨o,h1,h2,n,h3⟩:=p;exact⟨o,n,h1,h2,h3⟩
mutual
theorem KRep.is(ok:HOk P w H h):∀(k:Kx){x:V}{v:Value},KRep H k x->RelV x v->KIs h k v
 |.non,x,v,e,r=>by cases(show x=.non from e);exact r
 |.bl b,x,v,e,r=>by cases(show x=.bl b from e);exact r
 |.int b,x,v,e,r=>by cases(show x=.int b from e);exact r
 |.str b,x,v,e,r=>by cases(show x=.str b from e);exact r
 |.tup ks,x,v,e,r=>by
  obtain⟨a,xs,rfl,q,rs⟩:=e;cases(show v=Value.ref a from r);obtain⟨_,its,rv,p,_⟩:=(show ObjOk P w H h a (.tup xs)from Rd.ok q ok);obtain⟨o,n,h1,h2,h3⟩:=IsTup.seq p;exact⟨a,o,its.toArray,n,rfl,h1,h2,h3,by simpa using KReps.are ok ks rs rv⟩
theorem KReps.are(ok:HOk P w H h):∀(ks:List Kx){xs:List V}{vs:List Value},KReps H ks xs->Vals xs vs->KAre h ks vs
 |[],xs,vs,e,r=>by
  cases(show xs=[]from e);cases r;rfl
 |k::ks,xs,vs,e,r=>by
  obtain⟨x,r0,rfl,h1,h2⟩:=e;cases r with
  |cons q t=>exact⟨_,_,rfl,KRep.is ok k h1 q,KReps.are ok ks h2 t⟩
end
theorem x5l{k:Kx}(ok:HOk P w H h)(e:KRep H k (.ref a)/\Conf k sh/\k.depth<=7):(treeKind P w sh).is h k a:=⟨KRep.is ok k e.1 rfl,e.2⟩
theorem x8w(ok:HOk P w H h)(e:Rd H a (.dT sh kvs kas)):kvs.length<=sizeLine/\(a==sysModules)=false /\
  ∃xs,KT sh H kvs xs/\xs.map (·.2.1)=kas/\h.DictOfH (treeKind P w sh) a xs:=by
 obtain⟨z,y,xs,r,ka,o,es,ep,h1,h2,h3,h4,h5⟩:=(show ObjOk P w H h a (.dT sh kvs kas)from y4n ok e);refine⟨z,y,xs,r,ka,o,es,ep,h1,h2,h3,h4,fun x hx=>?_,h5⟩
 have all:∀{l:List (Kx×V)}{m:List (Kx×Addr×Value)},KT sh H l m->∀x∈m,(treeKind P w sh).is h x.1 x.2.1:=by
  intro l m q
  induction q with
  |nil=>intro x hx;exact nomatch hx
  | @cons p q ps qs hq t ih=>
   intro x hx;rcases w0h.mp hx with e|hx
   ·subst e;exact x5l ok (by rw[<- hq.1];exact hq.2.1)
   ·exact ih x hx
 exact all r x hx
theorem z3h(ok:HOk P w H h)(e:H a=some (.dT sh kvs kas)):kvs.length<=sizeLine/\(a==sysModules)=false /\
  ∃xs,KT sh H kvs xs/\xs.map (·.2.1)=kas/\h.DictOfH (treeKind P w sh) a xs:=x8w ok (.inl e)
end
def DGet(H:Hp)(a:Addr)(y:V)(r:Option V):Prop:=
 (∃kvs k,Rd H a (.dK kvs)/\y=kV k/\r=valV kvs k)\/∃sh kvs kas k b,Rd H a (.dT sh kvs kas)/\y=.ref b/\(KRep H k (.ref b)/\Conf k sh/\k.depth<=7)/\r=valV kvs k
def DPut(H:Hp)(a:Addr)(y v:V)(H':Hp):Prop:=
 (∃kvs k,H a=some (.dK kvs)/\y=kV k/\kvs.length<sizeLine/\H'=upd H a (.dK (putK kvs k v))) \/
 ∃sh kvs kas k b,H a=some (.dT sh kvs kas)/\y=.ref b/\(KRep H k (.ref b)/\Conf k sh/\k.depth<=7)/\kvs.length<sizeLine/\H'=upd H a (.dT sh (putK kvs k v) (putAd kvs kas k b))
theorem DPut.k{kvs:List (Key×V)}{k:Key}{v:V}(e:H a=some (.dK kvs))(hl:kvs.length<sizeLine):DPut H a (kV k) v (upd H a (.dK (putK kvs k v))):=.inl ⟨kvs,k,e,rfl,hl,rfl⟩
section
variable{v:V}{r:Value}{o:Option V}
theorem Inv.big(I:Inv X pins σ H s):sysModules<s.heap.objs.size:=by
 have h:mainGlobals<s.heap.objs.size:=(I.mod.glob.keeps I.bk).lt;exact Nat.lt_trans (by decide) h
theorem x5m(hu:A.units+20<cLine):(treeKind P w sh).room A.in1:=by
 show A.in1.units+8<cLine;rw[Around.in1_units];omega
theorem y1b{Q:Value->Shared->Prop}(hu:A.units+20<cLine)(I:Inv X pins σ H s)(g:DGet H a y (some v))(ry:RelV y u)(h:∀w' s',Inv X pins σ H s'->RelV v w'->Q w' s'):
  wpAny (model X.prog X.w) A (getItem (.ref a) u) Q E s:=by
 rcases g with⟨kvs,k,e,ey,l⟩|⟨sh,kvs,kas,k,b,e,ey,eb,l⟩
 ·subst ey;obtain⟨z,hd,vs,rel,dd⟩:=x4h I.hok e;obtain⟨w',hw,rw'⟩:=RelO.some_of (v:=v) (o:=valueAt vs k) (by rw[l];exact rel.val k);exact wpAny_getItem_of (y4m ry) dd.mapOf hw (h w' _ (I.tok _) rw')
 ·subst ey;cases(show u=Value.ref b from ry);obtain⟨z,hd,xs,rel,_,dd⟩:=x8w I.hok e;obtain⟨w',hw,rw'⟩:=RelO.some_of (v:=v) (o:=(atKey xs k).map (·.2)) (by rw[l];exact rel.val k);obtain⟨p,hp,hp2⟩:=w0n.mp hw;refine wpAny_getItem_heap (x5m hu) (x5l I.hok eb) dd hp ?_;rw[hp2];exact h w' _ (I.tok _) rw'
theorem x77{h':Heap}{t':Nat}{ob:HO}(I:Inv X pins σ H s)(mu:Mut (H a))(hs:Heap.SameBut a s.heap h')(he:∃q,h'.get? a=some q)(new:ObjOk X.prog X.w (upd H a ob) h' a ob):
  Inv X pins σ (upd H a ob) {s with heap:=h',toks:=t'}:=
 I.write (x:=a) (e:=a) mu (.inl rfl) (fun b q hb z=>(hs.2 b hb).trans z) he new
theorem z02{h':Heap}{kvs:List (Key×V)}{vs:List (Key×Value)}(z:kvs.length<=sizeLine)(hd:(a==sysModules)=false)(rel:KV kvs vs)(dd:h'.DictOf (mixKind P w) a vs):
  ObjOk P w H' h' a (.dK kvs):=⟨z,hd,vs,rel,dd⟩
theorem y1c{Q:Unit->Shared->Prop}(hu:A.units+20<cLine)(I:Inv X pins σ H s)(g:DPut H a y v H')(ry:RelV y u)(rv:RelV v r)(h:∀s',Inv X pins σ H' s'->Q () s'):
  wpAny (model X.prog X.w) A (setItem (.ref a) u r) Q E s:=by
 rcases g with⟨kvs,k,e,ey,l,eH⟩|⟨sh,kvs,kas,k,b,e,ey,eb,l,eH⟩
 ·subst ey eH;obtain⟨z,hd,vs,rel,dd⟩:=z3g I.hok e;have hz:vs.length<=sizeLine:=by rw[<- rel.length];exact z
  have hl:(putK kvs k v).length<=sizeLine:=by have:=q9v kvs k v;omega
  refine wpAny_setItem_pairs (hsz:=hz) (y4m ry) dd fun h' dd' hs=>h _ ?_
  have he:∃q,h'.get? a=some q:=let ⟨q,_,_,hq,_⟩:=dd';⟨q,hq⟩;exact x77 I (by rw[e];exact True.intro) hs he (z02 hl hd (rel.put k rv) dd')
 ·subst ey eH;cases(show u=Value.ref b from ry);obtain⟨z,hd,xs,rel,ka,dd⟩:=z3h I.hok e;have hz:xs.length<=sizeLine:=by rw[<- Paired.length rel];exact z
  have hl:(putK kvs k v).length<=sizeLine:=by have:=q9v kvs k v;omega
  refine wpAny_setItem_heap (hsz:=hz) (x5m hu) (x5l I.hok eb) dd fun h' dd' hs=>h _ ?_
  obtain⟨q,es,ep,hq,h2,h3,h4,_,h5⟩:=dd';refine x77 I (by rw[e];exact True.intro) hs ⟨q,hq⟩ ⟨hl,hd,_,(rel.put k eb rv).keeps fun c u ys ec=>?_,rel.putAd ka k,q,es,ep,hq,h2,h3,h4,h5⟩
  rw[q0f (q09 ec e (fun z=>by subst z;exact ys))]
  exact ec
end
def NoSl(i:Expr):Prop:=∀ov iv,subscripted i false ov iv=operate [ov,iv] (getItem ov iv)
theorem y61{prog:Program}{env:Env}{value slice:Expr}{T id:String}{Q:Value->Shared->Prop}
  (hl:typeLookup (.type T) "__getitem__"=pure (some (.builtin id)))(hs:NoSl slice)
  (h:wpAny (model prog w) A (eval value env) (fun o s₁=>wpAny (model prog w) A (eval slice env) (fun i s₂=>s₂.TypeIs o T/\wpAny (model prog w) A (getItem o i) Q E s₂) E s₁) E s):
  wpAny (model prog w) A (eval (.Subscript value slice pos) env) Q E s:=by
 refine Subscript_ (wpAny_mono h (fun o s₁ h₁=>wpAny_mono h₁ (fun i s₂ h₂=>?_) fun _ _ x=>x) fun _ _ x=>x)
 obtain⟨hT,h₂⟩:=h₂;unfold subscriptTail;refine wpAny_bind ?_;rw[getitemInPython_of_ne hT.not_modules];refine wpAny_bind (wpAny_specialOf hT hl ?_)
 have fin:wpAny (model prog w) A (subscripted slice false o i) (fun r s₃=>wpAny (model prog w) A (letTemporaryGo value o r >>= fun _=>pure r) Q E s₃) E s₂:=by
  rw[hs o i];exact wpAny_operating (wpAny_mono h₂ (fun r s₃ h₃=>wpAny_bind (wpAny_letTemporaryGo (wpAny_pure h₃))) fun _ _ x=>x)
 first
  |exact wpAny_pure (wpAny_bind fin)
  |exact wpAny_bind (wpAny_pure (wpAny_bind fin))
  |exact wpAny_bind fin
theorem x6u{o:Option V}(I:Inv X pins σ H s)(g:DGet H a y o):s.TypeIs (.ref a) "dict":=by
 rcases g with⟨kvs,k,e,_,_⟩|⟨sh,kvs,kas,k,b,e,_,_,_⟩
 ·obtain⟨_,_,vs,_,dd⟩:=x4h I.hok e;exact dd.typeIs
 ·obtain⟨_,_,xs,_,_,dd⟩:=x8w I.hok e;exact dd.typeIs
def tDGet(td ty:TE):TE:=fun σ H Q=>td σ H fun x H1=>ty σ H1 fun y H2=>∃a v,x=.ref a/\DGet H2 a y (some v)/\Q v H2
def sDPut(td ty tv:TE):TS:=fun D σ H=>tv σ H fun v H1=>td σ H1 fun x H2=>ty σ H2 fun y H3=>∃a H4,x=.ref a/\DPut H3 a y v H4/\D.nx σ H4
section
variable{o i e value:Expr}{pos' tpos:Pos}{td ty tv:TE}
theorem y62(hu:X.A.units+20<cLine)(ho:PE X o td)(hi:PE X i ty)(hs:NoSl i):PE X (.Subscript o i pos) (tDGet td ty):=by
 intro pins s σ H Q I h;refine y61 PySem.F.slot_dict_getitem.lookup hs (thn (ho pins s σ H _ I h) fun u s1 ⟨x,H1,I1,rx,q1⟩=>thn (hi pins s1 σ H1 _ I1 q1) fun iv s2 ⟨y,H2,I2,ry,a,v,ex,g,q2⟩=>?_)
 subst ex;obtain rfl:u=Value.ref a:=rx;exact⟨x6u I2 g,y1b hu I2 g ry fun w' s3 I3 rw'=>⟨v,H2,I3,rw',q2⟩⟩
theorem y63(hu:X.A.units+20<cLine)(ho:PE X o td)(hi:PE X i ty)(hv:PE X value tv)(hs:swapsWith value (some (.Subscript o i pos')) pos.line X.env=pure false):
  PS X (.Assign [.Subscript o i pos'] value pos) (sDPut td ty tv):=by
 intro pins s σ H D I h;refine wpAny_Assign_Subscript (thn (hv pins s σ H _ I h) fun r s1 ⟨v,H1,I1,rv,q1⟩=>thn (ho pins s1 σ H1 _ I1 q1) fun u s2 ⟨x,H2,I2,rx,q2⟩=>thn (hi pins s2 σ H2 _ I2 q2) fun iv s3 ⟨y,H3,I3,ry,a,H4,ex,g,q3⟩=>?_) hs
 subst ex;obtain rfl:u=Value.ref a:=rx;exact y1c hu I3 g ry rv fun s4 I4=>⟨σ,H4,I4,q3⟩
end
theorem y3o(h:Heap)(hb:sysModules<h.objs.size):ObjOk P w H (h.push {cls:=.type "dict", data:=.dict #[]}) h.objs.size (.dK []):=
 ⟨w1i _,beq_eq_false_iff_ne.mpr (Ne.symm (w0t hb)),[],.nil,Heap.DictOf.new h⟩
def tDNewK:TE:=fun _ H Q=>∀p,H p=none->Q (.ref p) (upd H p (.dK []))
theorem y3p:PE X (.Dict [] [] pos) tDNewK:=fun pins s σ H Q I h=>
 wpAny_Dict_empty ⟨.ref s.heap.objs.size,_,I.laid (a:=s.heap.objs.size) (o:=.dK []) (t':=s.toks) (fun _ _ q=>Heap.get?_push_of_some _ q) (w0e _) (y3o s.heap I.big),rfl,h _ (I.hok.fresh (w0e _))⟩
theorem z3i{k:Key}(h:(mixKind P w).is k u=true):RelV (kV k) u:=by
 rcases q15 h with⟨i,t,rfl,rfl⟩|⟨x,t,rfl,rfl⟩
 ·exact⟨t,rfl⟩
 ·exact⟨t,rfl⟩
end L2
namespace D
open PySem L2 PySem.Spec PyProof.Rows
open PyProof.Rows (envOfC)
end D
namespace L2
open PySem PySem.Spec PyProof.Rows
end L2
namespace D
open PySem L2 PySem.Spec PyProof.Rows
end D
namespace L2
open PySem PySem.Spec PyProof.Rows
variable{A:Around}{X:Cx}{s:Shared}{E:Value->Shared->Prop}
def RawAt(h:Heap)(d:Addr)(es:Array DictEntry)(ep:Nat):Prop:=∃o,h.get? d=some o/\o.ExactDict/\o.data=.dict es ep
section
variable{prog:Program}{w:World}{d it:Addr}{es:Array DictEntry}{ep i:Nat}
theorem RawAt.typeIs(h:RawAt s.heap d es ep):s.TypeIs (.ref d) "dict":=let ⟨o,ho,hc,_⟩:=h;⟨o,ho,hc.1⟩
theorem y3q{Q:Value->Shared->Prop}(hd:(d==sysModules)=false)(hm:RawAt s.heap d es ep)
  (hQ:Q (.ref s.heap.objs.size) {s with heap:=s.heap.push {cls:=.type "dict_keyiterator", data:=.fields #[.ref d,.int 0 0,.int es.size 0,.int ep 0]}}):wpAny (model prog w) A (pyIter (.ref d)) Q E s:=by
 have hT:=hm.typeIs;obtain⟨o,ho,_,hdat⟩:=hm;refine wpAny_pyIter_slot hT F.slot_dict_iter (wpAny_call_entry F.slot_dict_iter hT F.entry_dict_iter ?_ (F.args_dict_iter_1 _));unfold Builtin.«dict.__iter__»;refine wpAny_bind ?_;unfold Builtin.Dict.dictSlotNone;refine wpAny_bind (wpAny_notOrdered_dict hT ?_);show wpAny _ _ (pure (Value.ref d)) _ _ s;refine wpAny_pure ?_;show wpAny _ _ (Builtin.Dict.showsAll d >>= _) _ _ s;unfold Builtin.Dict.showsAll;rw[if_neg (by rw[hd];exact w0q)];refine wpAny_bind (wpAny_pure (wpAny_bind (wpAny_dictEntries ho hdat (wpAny_bind (wpAny_dictEpoch ho hdat ?_)))));refine wpAny_bind (wpAny_newObj_type (wpAny_pure ⟨_,rfl, "dict_keyiterator", _,⟨_,Heap.get?_push_size _ rfl,rfl⟩,F.slot_dict_keyiterator_next.lookup,?_⟩))
 simpa [rawInt]using hQ
theorem y3r{Q:Option Value->Shared->Prop}(hit:s.heap.IsKeyIter it d i es.size ep)(hm:RawAt s.heap d es ep)(hx:i<es.size)
  (hQ:∀h',h'.IsKeyIter it d (i+1) es.size ep->Heap.SameBut it s.heap h'->Q (some es[i].key) {s with heap:=h'}):wpAny (model prog w) A (pyNext (.ref it)) Q E s:=by
 obtain⟨o,ho,hc,hd⟩:=id hit;obtain⟨od,hod,_,hdd⟩:=hm;unfold pyNext
 refine wpAny_bind (wpAny_attempt (wpAny_callSpecial?_slot (name:=Str.ofString "__next__") hit.typeIs F.slot_dict_keyiterator_next
  (wpAny_call_entry F.slot_dict_keyiterator_next hit.typeIs F.entry_dict_keyiterator_next ?_ (F.args_dict_keyiterator_next_1 _))))
 refine wpAny_bind (wpAny_pure (wpAny_bind (wpAny_bind ?_)))
 first|refine wpAny_bind (wpAny_typeNameOfWhole_keyiter hit.typeIs (wpAny_pure ?_))|refine wpAny_bind (wpAny_typeNameOf_keyiter hit.typeIs (wpAny_pure ?_))
 refine wpAny_bind (wpAny_fieldsOf ho hd ?_);have hown:Builtin.Dict_items.ownsTuple "dict_keyiterator"=false:=by decide
 simp only[hown,w1x,if_false];show wpAny _ _ (if(Value.ref d==Value.none)=true then _ else _) _ _ s;rw[if_neg (show ¬((Value.ref d==Value.none)=true)from w0q)];refine wpAny_bind (wpAny_pure (wpAny_bind (wpAny_dictEntries hod hdd ?_)));rw[if_neg (by simp)];refine wpAny_bind (wpAny_pure (wpAny_bind (wpAny_dictEpoch hod hdd ?_)));rw[if_neg (by simp)];refine wpAny_pure ?_;simp only[show ¬((i:Int)<0)from by omega,if_false,w1k,w2b hx];refine wpAny_bind ?_
 first|refine wpAny_bind (wpAny_typeNameOfWhole_keyiter hit.typeIs (wpAny_pure ?_))|refine wpAny_bind (wpAny_typeNameOf_keyiter hit.typeIs (wpAny_pure ?_))
 refine wpAny_bind (wpAny_isOneOf_keyiter hit.typeIs ?_);show wpAny _ _ (setField (.ref it) 1 (rawInt ((i:Int)+1)) >>= _) _ _ s;refine wpAny_bind (wpAny_setField ho hd (by simp) ?_)
 have hit':(s.heap.update it (Obj.mapFields (·.setIfInBounds 1 (rawInt ((i:Int)+1))))).IsKeyIter it d (i+1) es.size ep:=
  ⟨_,Heap.get?_update_self _ ho (Obj.isFreed_of_fields (Obj.data_mapFields hd _)),(Obj.cls_mapFields ..).trans hc,by rw[Obj.data_mapFields hd];simp[rawInt]⟩
 refine wpAny_bind (wpAny_holding ?_);refine wpAny_bind (wpAny_isOneOf_keyiter (s:={s with heap:=s.heap.update it (Obj.mapFields (·.setIfInBounds 1 (rawInt ((i:Int)+1))))}) hit'.typeIs ?_);show wpAny _ _ (pure es[i].key) _ _ _;exact wpAny_pure (wpAny_pure ⟨_,rfl,wpAny_pure (hQ _ hit' (Heap.SameBut.update ..))⟩)
theorem y64{Q:Option Value->Shared->Prop}(hh:A.handled=none)(hit:s.heap.IsKeyIter it d i es.size ep)(hm:RawAt s.heap d es ep)(hx:es.size<=i)
  (hQ:∀h',Heap.ExtBut it s.heap h'->Q none {s with heap:=h'}):wpAny (model prog w) A (pyNext (.ref it)) Q E s:=by
 obtain⟨o,ho,hc,hd⟩:=id hit;obtain⟨od,hod,_,hdd⟩:=hm;unfold pyNext
 refine wpAny_bind (wpAny_attempt (wpAny_callSpecial?_slot (name:=Str.ofString "__next__") hit.typeIs F.slot_dict_keyiterator_next
  (wpAny_call_entry F.slot_dict_keyiterator_next hit.typeIs F.entry_dict_keyiterator_next ?_ (F.args_dict_keyiterator_next_1 _))))
 refine wpAny_bind (wpAny_pure (wpAny_bind (wpAny_bind ?_)))
 first|refine wpAny_bind (wpAny_typeNameOfWhole_keyiter hit.typeIs (wpAny_pure ?_))|refine wpAny_bind (wpAny_typeNameOf_keyiter hit.typeIs (wpAny_pure ?_))
 refine wpAny_bind (wpAny_fieldsOf ho hd ?_);have hown:Builtin.Dict_items.ownsTuple "dict_keyiterator"=false:=by decide
 simp only[hown,w1x,if_false];show wpAny _ _ (if(Value.ref d==Value.none)=true then _ else _) _ _ s;rw[if_neg (show ¬((Value.ref d==Value.none)=true)from w0q)];refine wpAny_bind (wpAny_pure (wpAny_bind (wpAny_dictEntries hod hdd ?_)));rw[if_neg (by simp)];refine wpAny_bind (wpAny_pure (wpAny_bind (wpAny_dictEpoch hod hdd ?_)));rw[if_neg (by simp)];refine wpAny_pure ?_;simp only[show ¬((i:Int)<0)from by omega,if_false,w1k,w3y hx];refine wpAny_bind ?_
 first|refine wpAny_bind (wpAny_typeNameOfWhole_keyiter hit.typeIs (wpAny_pure ?_))|refine wpAny_bind (wpAny_typeNameOf_keyiter hit.typeIs (wpAny_pure ?_))
 show wpAny _ _ (setField (.ref it) 0 .none >>= _) _ _ s;refine wpAny_bind (wpAny_setField ho hd (by simp) ?_);show wpAny _ _ (newExc (.type "StopIteration") [] >>= _) _ _ _;refine wpAny_bind ?_;simp only[newExc,newTuple];refine wpAny_bind (wpAny_newObj_type ?_ (by size_fits));refine wpAny_bind (m:=firstArgMember _ _) (wpAny_of_eq (a:=Value.none) (by first|rfl|(simp only[firstArgMember];rfl)) ?_);refine wpAny_newObj_type ?_ (by size_fits);simp only[raiseNew];refine wpAny_bind (wpAny_handled ?_);rw[show A.in1.handled=none from hh];refine wpAny_bind (wpAny_pure (wpAny_throw ?_));refine wpAny_bind (wpAny_isInstance (T:="StopIteration") (b:=true) ⟨_,Heap.get?_push_size _ rfl,rfl⟩ isSubtype_stop ?_);exact wpAny_pure (hQ _ (((Heap.SameBut.update ..).extBut.push _).push _))
end
section
variable{prog:Program}{w:World}{d:Addr}{es:Array DictEntry}{ep:Nat}
theorem RawAt.keeps{h h':Heap}(x:RawAt h d es ep)(k:∀o,h.get? d=some o->h'.get? d=some o):RawAt h' d es ep:=let ⟨o,ho,r⟩:=x;⟨o,k o ho,r⟩
theorem y1d(hh:A.handled=none)(I:Addr)(hne:d≠I):Walks prog w A I [I,d] [I] es.size (fun i v=>∃e,es[i]?=some e/\v=e.key) (fun i h=>h.IsKeyIter I d i es.size ep/\RawAt h d es ep) where
 sub:=fun b hb=>by simp at hb;simp[hb]
 frame:=fun i h h' st hk=>⟨let ⟨o,ho,r⟩:=st.1;⟨o,hk I (by simp) o ho,r⟩,st.2.keeps fun o e=>hk d (by simp) o e⟩
 item:=fun i s Q E hi st hQ=>y3r st.1 st.2 hi fun h' st' sb=>hQ _ h' s.toks ⟨es[i],w2b hi,rfl⟩ ⟨st',st.2.keeps fun o e=>(sb.2 d hne).trans e⟩ fun b o hb e=>(sb.2 b (fun z=>hb (by simp[z]))).trans e
 done:=fun s Q E st hQ=>y64 hh st.1 st.2 (w0e _) fun h' eb=>hQ h' s.toks fun b o hb e=>eb b o (fun z=>hb (by simp[z])) e
 self:=fun i s Q E st hQ=>wpAny_pyIter_keyiter st.1 hQ
theorem y65(lo:(d==sysModules)=false):PySem.W.KdlSrc prog w "dict" d d es.size (fun i v=>∃e,es[i]?=some e/\v=e.key) (fun h=>RawAt h d es ep) where
 type:=fun s hm=>hm.typeIs
 there:=fun h hm=>let ⟨o,ho,_⟩:=hm;⟨Heap.lt_size ho,Heap.lt_size ho⟩
 keep:=fun h h' hm hk=>hm.keeps fun o e=>hk d (.inl rfl) o e
 notList:=by decide
 notTuple:=by decide
 hint:=fun A E s Q hm hq=>PySem.W.kdl_hint_dict hm.typeIs hq
 iter:=fun A s hh hm=>⟨_,_,(fun E Q hq=>y3q lo hm hq),y1d hh _ (let ⟨o,ho,_⟩:=hm;w0t (Heap.lt_size ho)),⟨⟨_,Heap.get?_push_size _ rfl,rfl,rfl⟩,hm.keeps fun o e=>Heap.get?_push_of_some _ e⟩⟩
end
def rListK:List V->Hp->VK->Prop:=fun xs H Q=>∃a sh kvs kas,xs=[.ref a]/\Rd H a (.dT sh kvs kas)/\∀l,H l=none->Q (.ref l) (upd H l (.lst (kas.map V.ref)))
theorem x8x(hc:X.calm=true):CallR X (.type "list") rListK:=by
 intro pins s σ H xs us Q I r h;obtain⟨a,sh,kvs,kas,rfl,hq,q⟩:=h;obtain⟨u,rfl,rx⟩:=vals1 r;cases rx;obtain⟨z,lo,ys,rel,hk,o,es,ep,h1,h2,h3,h4,h5⟩:=(show ObjOk X.prog X.w H s.heap a (.dT sh kvs kas)from hq.ok I.hok)
 have hsz:es.size=kas.length:=by
  have e1:=congrArg List.length h4;have e2:=congrArg List.length hk;simp at e1 e2;omega
 have hkl:kas.length<=sizeLine:=by
  have e2:=congrArg List.length hk;have e3:=rel.length;simp at e2;omega
 have hkey:∀(i:Nat)(e:DictEntry),es[i]?=some e->(kas[i]?).map Value.ref=some e.key:=fun i e he=>by
  have e1:es.toList[i]?=some e:=by rw[w3a];exact he
  rw[h4,w0v]at e1;obtain⟨y,hy,rfl⟩:=w0n.mp e1;rw[<- hk,w0v,hy];rfl
 refine PySem.W.kdl_call (y65 (es:=es) (ep:=ep) lo) (I.ok.hd hc) ⟨o,h1,h2,h3⟩ (by rw[hsz];exact hkl) fun h' tk acc' c' kp e hi=>?_
 obtain⟨hi1,hi2⟩:=hi
 have ev:acc'.toList=kas.map Value.ref:=by
  apply w2v;intro i;rw[w3a,w0v]
  by_cases hlt:i<acc'.size
  ·obtain⟨e',he',hv⟩:=hi2 i acc'[i] (w2b hlt);rw[w2b hlt,hv,hkey i e' he']
  ·rw[w3y (w4n.mp hlt),w1o (by omega)];rfl
 have rv:∀l:List Addr,Vals (l.map V.ref) (l.map Value.ref):=fun l=>by
  induction l with
  |nil=>exact .nil
  |cons b l ih=>exact .cons rfl ih
 refine⟨.ref s.heap.objs.size,_,I.laid (t':=tk) kp (w0e _) (show ObjOk X.prog X.w _ h' _ (.lst (kas.map V.ref))from⟨by rw[w0a];exact hkl,kas.map Value.ref,c',rv kas,by rw[<- ev];exact e⟩),rfl,q _ (I.hok.fresh (w0e _))⟩
def rListI:List V->Hp->VK->Prop:=fun xs H Q=>∃a kvs,xs=[.ref a]/\Rd H a (.dK kvs)/\∀l,H l=none->Q (.ref l) (upd H l (.lst (kvs.map fun p=>kV p.1)))
theorem x6v{xs:List V}{us:List Value}(hl:us.length=xs.length)(h:∀(i:Nat)(x:V)(u:Value),xs[i]?=some x->us[i]?=some u->RelV x u):Vals xs us:=by
 induction xs generalizing us with
 |nil=>
  cases us with
  |nil=>exact .nil
  |cons _ _=>simp at hl
 |cons x xs ih=>
  cases us with
  |nil=>simp at hl
  |cons u us=>exact .cons (h 0 x u rfl rfl) (ih (by simpa using hl) fun i y v h1 h2=>h (i+1) y v (by simpa using h1) (by simpa using h2))
theorem x8y(hc:X.calm=true):CallR X (.type "list") rListI:=by
 intro pins s σ H xs us Q I r h;obtain⟨a,kvs,rfl,hq,q⟩:=h;obtain⟨u,rfl,rx⟩:=vals1 r;cases rx;obtain⟨z,lo,vs,rel,dd⟩:=x4h I.hok hq;obtain⟨ep,da⟩:=dd.dictAt;have hl:=rel.length;refine PySem.W.kdl_call (PySem.W.kdl_dict (knd:=mixKind X.prog X.w) (kvs:=vs) (ep:=ep) lo) (I.ok.hd hc) da (by rw[<- hl];exact z) fun h' tk acc' c' kp e hi=>?_
 obtain⟨hi1,hi2⟩:=hi
 have rv:Vals (kvs.map fun p=>kV p.1) acc'.toList:=by
  refine x6v (by rw[w0a,hl];simpa using hi1) fun i x u h1 h2=>?_
  rw[w3a]at h2;obtain⟨k,y,e1,e2⟩:=hi2 i u h2;rw[w0v]at h1;obtain⟨p,hp,rfl⟩:=w0n.mp h1;have ek:=congrArg (fun l=>l[i]?) rel.keys
  simp only[w0v,hp,e1,Option.map_some,Option.some.injEq]at ek;rw[ek];exact z3i e2
 refine⟨.ref s.heap.objs.size,_,I.laid (t':=tk) kp (w0e _) (show ObjOk X.prog X.w _ h' _ (.lst (kvs.map fun p=>kV p.1))from⟨by rw[w0a];exact z,acc'.toList,c',rv,e⟩),rfl,q _ (I.hok.fresh (w0e _))⟩
end L2
namespace D
open PySem L2 PySem.Spec PyProof.Rows
open Classical
variable{a:Addr}{fz:Bool}{X:Cx}{G H:Hp}{n:Int}{σ:L2.St}{EE:L2.St->XK}{kvs:List (Kx×V)}{ks:List Kx}{e:List S}{ws:List W}{i:Nat}{pos:Pos}{K:PySem.W.Frag}{sh:Sh}{x:Str}{w:W}{Z:Zt}
mutual
noncomputable def kxW:W->Option Kx
 |.non=>some .non
 |.bl b=>some (.bl b)
 |.int i=>some (.int i)
 |.str x=>some (.str x)
 |.tup ws=>(kxWs ws).map .tup
 |_=>none
noncomputable def kxWs:List W->Option (List Kx)
 |[]=>some []
 |w::ws=>match kxW w,kxWs ws with
  |some k,some ks=>some (k::ks)
  |_,_=>none
end
def NoTup(K:PySem.W.Frag):Prop:=∀a o,K.lookup a=some o->o.cls≠.type "tuple"
noncomputable def keyT:W->Option Kx
 |.tup ws=>(kxWs ws).map .tup
 |_=>none
def fits(k:Kx)(sh:Sh):Prop:=Conf k sh/\k.depth<=7
mutual
noncomputable def wK:Kx->W
 |.non=>.non
 |.bl b=>.bl b
 |.int i=>.int i
 |.str x=>.str x
 |.tup ks=>.tup (wKs ks)
noncomputable def wKs:List Kx->List W
 |[]=>[]
 |k::ks=>wK k::wKs ks
end
mutual
theorem x5n{K:PySem.W.Frag}{G:Hp}:∀(k:Kx){v:V},KRep G k v->Rep K G (wK k) v
 |.non,_,h=>h
 |.bl _,_,h=>h
 |.int _,_,h=>h
 |.str _,_,h=>h
 |.tup ks,_,h=>by
  obtain⟨a,xs,rfl,q,r⟩:=h;exact⟨a,xs,rfl,.inl q,x1c ks r⟩
theorem x1c{K:PySem.W.Frag}{G:Hp}:∀(ks:List Kx){vs:List V},KReps G ks vs->Reps K G (wKs ks) vs
 |[],_,h=>h
 |k::ks,_,⟨v,r,e,h1,h2⟩=>⟨v,r,e,x5n k h1,x1c ks h2⟩
end
theorem x3g:∀{ks:List Kx}{bs:List Addr},KeysG G ks bs->Reps K G (ks.map wK) (bs.map V.ref)
 |[],[],_=>rfl
 |k::ks,b::bs,h=>⟨.ref b,bs.map V.ref,rfl,x5n k h.1,x3g h.2⟩
 |[],_::_,h=>h.elim
 |_::_,[],h=>h.elim
noncomputable def lkW:List Kx->List W->Kx->Option W
 |k::ks,w::ws,x=>if k=x then some w else lkW ks ws x
 |_,_,_=>none
theorem DAt.rd{kas:List Addr}(s:Same G H)(h:DAt fz G a sh kvs kas):Rd H a (dwO sh kvs kas):=by
 cases fz with
 |true=>obtain⟨o,h⟩:=h;exact .inr ⟨o,s _ _ h⟩
 |false=>exact .inl (s _ _ h)
noncomputable def keysV(sh:Sh)(kvs:List (Kx×V))(kas:List Addr):List V:=if sh.isI=true then kvs.map (fun p=>kV (kxK p.1))else kas.map V.ref
def rListW:List V->Hp->VK->Prop:=fun xs H Q=>∃a sh kvs kas,xs=[.ref a]/\Rd H a (dwO sh kvs kas)/\∀l,H l=none->Q (.ref l) (upd H l (.lst (keysV sh kvs kas)))
theorem x8z(hc:X.calm=true):CallR X (.type "list") rListW:=by
 intro pins s σ H xs us Q I r h;obtain⟨a,sh,kvs,kas,e1,e2,q⟩:=h;cases hI:sh.isI with
 |false=>
  rw[z1t hI]at e2;exact x8x hc pins s σ H xs us Q I r ⟨a,sh,kvs,kas,e1,e2,fun l hl=>by have:=q l hl;rwa [show keysV sh kvs kas=kas.map V.ref from if_neg (by rw[hI];exact w0q)]at this⟩
 |true=>
  rw[show dwO sh kvs kas=.dK (kvs.map fun p=>(kxK p.1,p.2))from if_pos hI]at e2
  exact x8y hc pins s σ H xs us Q I r ⟨a,_,e1,e2,fun l hl=>by have:=q l hl;rw[show keysV sh kvs kas=kvs.map (fun p=>kV (kxK p.1))from if_pos hI]at this;rw[w1z];exact this⟩
theorem x80{kas:List Addr}(h:kvs.map (·.1)=ks)(g:KeysS sh G ks kas):Reps K G (ks.map wK) (keysV sh kvs kas):=by
 cases hI:sh.isI with
 |false=>
  rw[show keysV sh kvs kas=kas.map V.ref from if_neg (by rw[hI];exact w0q)];exact x3g (g.g hI)
 |true=>
  rw[show keysV sh kvs kas=kvs.map (fun p=>kV (kxK p.1))from if_pos hI]
  unfold KeysS at g;rw[if_pos hI]at g;subst h
  clear hI
  induction kvs with
  |nil=>exact rfl
  |cons p l ih=>
   obtain⟨i,hi⟩:=g p.1 (by simp);refine⟨_,_,rfl,?_,ih fun k hk=>g k (by simp at hk |-;exact .inr hk)⟩
   show Rep K G (wK p.1) (kV (kxK p.1));rw[hi];exact rfl
section
variable{a b e k o:Expr}{es:List Expr}{da db d dk:Den W}{dA:Den (List W)}{p tpos:Pos}{body:List Stmt}{s1:List S->SR}
noncomputable def isDw:S->Bool
 |.dw _ _ _=>true
 |.dic _=>true
 |_=>false
theorem Rel.dw{e:List S}(r:Rel K Z G σ H e)(h:e[i]?=some (.dw sh ks ws)):∃a kvs kas,σ[i]?=some (some (.ref a))/\H a=some (dwO sh kvs kas)/\G a=none/\Z.H a=none/\kvs.map (·.1)=ks/\KeysS sh G ks kas/\Reps K G ws (kvs.map (·.2)):=by
 obtain⟨a,kvs,kas,h1,h2,h3,h4,h5,h6,h7⟩:=r.slot i _ h;refine⟨a,kvs,kas,?_,h2,h3,h4,h5,h6,h7⟩;cases q:σ[i]? with
 |none=>rw[q]at h1;cases h1
 |some z=>rw[q]at h1;rw[show z=some (V.ref a)from h1]
theorem Rel.setS{e:List S}(r:Rel K Z G σ H e){s:S}{v:V}(hs:∀b ws,s≠.own b ws)(q:SlotOk K Z G H s (some v)):Rel K Z G (σ.set i (some v)) H (e.set i s):=by
 refine⟨r.sub,fun j t z=>?_,by simpa using r.len,fun j k b1 b2 w1 w2 c z1 z2 z3 z4=>?_,r.ent,r.ion,r.gen⟩
 ·by_cases hj:j=i
  ·subst hj
   have hi:j<e.length:=by
    have:=(w0c.mp z).1;simpa using this
   rw[w0p hi]at z;cases z;rw[w0p (by rw[<- r.len];exact hi)];exact q
  ·rw[w0k (fun z=>hj z.symm)]at z |-
   exact r.slot j t z
 ·have old:∀(k:Nat)(bb:Option Nat)(ww:List W),(e.set i s)[k]?=some (.own bb ww)->k≠i/\e[k]?=some (.own bb ww):=fun k bb ww z=>by
   by_cases hk:k=i
   ·subst hk
    have hi:k<e.length:=by
     have:=(w0c.mp z).1;simpa using this
    rw[w0p hi]at z;cases z;exact absurd rfl (hs _ _)
   ·rw[w0k (fun z=>hk z.symm)]at z;exact⟨hk,z⟩
  obtain⟨n1,q1⟩:=old _ _ _ z1;obtain⟨n2,q2⟩:=old _ _ _ z2;rw[w0k (fun z=>n1 z.symm)]at z3
  rw[w0k (fun z=>n2 z.symm)]at z4
  exact r.dis _ _ _ _ _ _ _ q1 q2 z3 z4
theorem Rel.mutDw{e:List S}(r:Rel K Z G σ H e){sh:Sh}{ks':List Kx}{ws':List W}{a:Addr}{kvs':List (Kx×V)}{kas':List Addr}(h:e[i]?=some (.dw sh ks ws))(ha:σ[i]?=some (some (.ref a)))(ho:∀s∈e.set i .no,isDw s=false)
  (h5:kvs'.map (·.1)=ks')(h6:KeysS sh G ks' kas')(h7:Reps K G ws' (kvs'.map (·.2))):Rel K Z G σ (upd H a (dwO sh kvs' kas')) (e.set i (.dw sh ks' ws')):=by
 obtain⟨a',kvs,kas,h1,h2,h3,h4,_⟩:=r.dw h;rw[ha]at h1;cases h1;have hi:i<e.length:=(w0c.mp h).1;refine⟨fun c o z=>?_,fun j s z=>?_,by simpa using r.len,fun j k b1 b2 w1 w2 c z1 z2 z3 z4=>?_,fun c o z n=>?_,fun c z=>?_,r.gen⟩
 ·rw[q0f (q0s z h3)];exact r.sub c o z
 ·by_cases hj:j=i
  ·subst hj;rw[w0p hi]at z;cases z;exact⟨a,kvs',kas',by rw[ha];rfl,q0m,h3,h4,h5,h6,h7⟩
  ·rw[w0k (fun z=>hj z.symm)]at z
   have y:=r.slot j s z;cases s with
   |no=>trivial
   |fr w=>exact y
   |own b2 w2=>
    obtain⟨c,ys,y1,y2,y3,y4,y5⟩:=y;refine⟨c,ys,y1,?_,y3,y4,y5⟩;rw[q0f (q09 y2 h2 (fun z=>q5t rfl z.symm))];exact y2
   |dic _=>
    have:=ho _ (w1f (i:=j) (by rw[w0k (fun z=>hj z.symm)];exact z))
    cases this
   |thr us w2 vs=>
    obtain⟨t,l,o,xs2,ys,zs,y1,y2,y3,y4,y5,y6⟩:=y;refine⟨t,l,o,xs2,ys,zs,y1,y2,?_,y4,y5,y6⟩;rw[q0f (q09 y3 h2 (fun z=>q5t rfl z.symm))];exact y3
   |nest wss=>exact NestOk.move y (.refl _) fun l o ys k1 k2 k3=>⟨by rw[q0f (q09 k1 h2 (fun z=>q5t rfl z.symm))];exact k1,k2,k3⟩
   |x k=>exact XOk.move y (.refl _) fun l o ys k1 k2 k3=>⟨by rw[q0f (q09 k1 h2 (fun z=>q5t rfl z.symm))];exact k1,k2,k3⟩
   |dw _ _ _=>
    have:=ho _ (w1f (i:=j) (by rw[w0k (fun z=>hj z.symm)];exact z))
    cases this
 ·have old:∀(k:Nat)(bb:Option Nat)(ww:List W),(e.set i (S.dw sh ks' ws'))[k]?=some (.own bb ww)->e[k]?=some (.own bb ww):=fun k bb ww z=>by
   by_cases hk:k=i
   ·subst hk;rw[w0p hi]at z;cases z
   ·rw[w0k (fun z=>hk z.symm)]at z;exact z
  exact r.dis _ _ _ _ _ _ _ (old _ _ _ z1) (old _ _ _ z2) z3 z4
 ·rw[q0f (q0s z h4)];exact r.ent c o z n
 ·by_cases hc:c=a
  ·subst hc;rw[q0m];exact fun z=>nomatch z
  ·rw[q0f hc];exact r.ion c z
noncomputable def dSetW(i:Nat)(sh:Sh):List S->SR:=fun e=>.nx (e.set i (.dw sh [] []))
noncomputable def putWC(i:Nat)(w kw:W)(e:List S):Option S->SR
 |some (.dw sh ks ws)=>match keyT kw with
  |some x=>if ks.length<16777216/\(e.set i .no).all (fun s=>!isDw s)=true/\fits x sh/\lkW ks ws x=none then .nx (e.set i (.dw sh (ks++[x]) (ws++[w])))else .no
  |none=>.no
 |_=>.no
theorem y3s(i:Nat){pos' dpos:Pos}(hN:X.N.Nodup)(hi:X.N[i]?=some x:=by rfl)(hx:Loc X.env.scope x:=by walk_at "3")(hs:swapsWith (.Dict [] [] dpos) (some (.Name x pos')) pos.line X.env=pure false:=by rfl)(hf:X.fn x=true\/X.env.scope.names.lookup x=some .local:=by walk_at "2"):
  DS Z X EE (.Assign [.Name x pos'] (.Dict [] [] dpos) pos) (dSetW i .int):=by
 refine PS.mono (x4c i hN y3p hi hx hs hf) ?_;rintro D σ H ⟨G,e,rel,h⟩;intro q hq;have g:=Grow.hid rel.sub hq (.dK []);exact h G _ _ ((rel.grow g).setS (s:=.dw .int [] []) (fun _ _ z=>nomatch z) ⟨q,[],[],rfl,q0m,rel.sub.free hq,q6l rel hq,rfl,(fun k hk=>nomatch hk),rfl⟩) (.refl _)
noncomputable def putIC(i:Nat)(w kw:W)(e:List S):Option S->SR
 |some (.dw .int ks ws)=>match kw with
  |.int n=>if ks.length<16777216/\(e.set i .no).all (fun s=>!isDw s)=true/\Kx.int n∉ks then .nx (e.set i (.dw .int (ks++[.int n]) (ws++[w])))else .no
  |_=>.no
 |_=>.no
noncomputable def putI0(i:Nat)(dk:Den W)(w:W)(e1:List S):Option S->SR
 |some (.dw .int _ _)=>(dk e1).stm fun kw e2=>putIC i w kw e2 e2[i]?
 |_=>.no
noncomputable def dPutI(i:Nat)(d dk:Den W):List S->SR:=fun e=>(d e).stm fun w e1=>putI0 i dk w e1 e1[i]?
theorem y3t(hk:∀k∈kvs.map (·.1),∃i,k=Kx.int i)(h:Kx.int n∉kvs.map (·.1)):valV (kvs.map fun p=>(kxK p.1,p.2)) (.inl n:Key)=none:=by
 induction kvs with
 |nil=>rfl
 |cons p l ih=>
  obtain⟨i,hi⟩:=hk p.1 (by simp)
  have hne:(kxK p.1:Key)≠.inl n:=fun z=>by
   rw[hi]at z;injection z with z
   exact h (by rw[<- z,<- hi];simp)
  rw[w0l,q6o hne];exact ih (fun k hk'=>hk k (by simp at hk' |-;exact .inr hk')) fun z=>h (by simp at z |-;exact .inr z)
theorem y66(i:Nat)(hu:X.A.units+150<cLine)(he:DE Z X EE e d)(hk:DE Z X EE k dk)(hN:X.N[i]?=some x:=by rfl)(hv:Vis X.env.scope x:=by walk_at "1")(hd:(x==("__debug__":Str))=false:=by decide)(hcd:(x==("__classdict__":Str))=false:=by decide)
  (hs:swapsWith e (some (.Subscript (.Name x p) k tpos)) pos.line X.env=pure false:=by rfl):DS Z X EE (.Assign [.Subscript (.Name x p) k tpos] e pos) (dPutI i d dk):=by
 refine PS.mono (y63 (by omega) (pv i hN hv hd hcd) hk he hs) ?_;rintro D σ H ⟨G,e,rel,h⟩;refine⟨G,e,rel,(q2d h).imp (fun w e1 h G1 v1 H1 r1 s1 p1=>?_) fun _ _ h=>h⟩
 unfold putI0 at h;split at h
 ·rename_i ks0 ws0 he0;obtain⟨a,kvs0,kas0,q1,q2,_⟩:=r1.dw he0;refine⟨.ref a,q1,G1,e1,r1,(q2d (σ:=σ) h).imp (fun kw e2 h G2 v2 H2 r2 s2 p2=>?_) fun _ _ h G' H' r s=>h G' H' r (s1.trans s)⟩
  unfold putIC at h;split at h
  ·rename_i ks ws he2;obtain⟨a',kvs,kas,g1,g2,g3,g4,g5,g6,g7⟩:=r2.dw he2;rw[q1]at g1;cases g1;split at h
   ·rename_i n;split at h
    ·rename_i hc;cases(show v2=V.int n from p2);subst g5;have g2:H2 a=some (.dK (kvs.map fun p=>(kxK p.1,p.2))):=g2
     have hnew:=y3t g6 hc.2.2;refine⟨a,_,rfl,DPut.k (k:=.inl n) g2 (by rw[w0a,sizeLine_eq];have:=hc.1;rw[w0a]at this;exact this),?_⟩;rw[y3n v1 hnew,show(kvs.map fun p=>(kxK p.1,p.2))++[((.inl n:Key),v1)]=(kvs++[(Kx.int n,v1)]).map fun p=>(kxK p.1,p.2) by rw[w1p];rfl]
     refine h G2 σ (upd H2 a (dwO .int (kvs++[(Kx.int n,v1)]) kas)) (r2.mutDw (sh:=.int) (kvs':=kvs++[(Kx.int n,v1)]) (kas':=kas) (ks':=kvs.map (·.1)++[Kx.int n]) (ws':=ws++[w]) he2 q1 (fun s hs=>?_) (by rw[w1p];rfl) (fun k hk=>?_) ?_) (s1.trans s2)
     ·have:=w1b.mp hc.2.1 s hs;simpa using this
     ·rcases w1j.mp hk with hk|hk
      ·exact g6 k hk
      ·exact⟨n,w0u.mp hk⟩
     ·rw[w1p];exact g7.append (.one (Rep.mono s2 w p1))
    ·exact h.elim
   ·exact h.elim
  ·exact h.elim
 ·exact h.elim
noncomputable def ixI(d w:W):Option W:=match d,w with
 |.dw _ .int ks ws,.int n=>lkW ks ws (.int n)
 |_,_=>none
theorem x78:∀{kvs:List (Kx×V)}{ws:List W}{w:W},(∀k∈kvs.map (·.1),∃i,k=Kx.int i)->Reps K G ws (kvs.map (·.2))->lkW (kvs.map (·.1)) ws (.int n)=some w->∃v,valV (kvs.map fun p=>(kxK p.1,p.2)) (.inl n:Key)=some v/\Rep K G w v
 |[],_,_,_,_,e=>by unfold lkW at e;simp at e
 |p::l,[],_,_,h,_=>nomatch (show(p::l).map (·.2)=[]from h)
 |p::l,w0::ws,w,hk,⟨y,r,e0,h1,h2⟩,e=>by
  injection e0 with e0 e0'
  subst e0;subst e0';obtain⟨i,hi⟩:=hk p.1 (by simp);have e:(if p.1=Kx.int n then some w0 else lkW (l.map (·.1)) ws (.int n))=some w:=e
  by_cases hp:p.1=Kx.int n
  ·rw[if_pos hp]at e;cases e;refine⟨p.2,?_,h1⟩;rw[w0l,hp];exact q7x rfl
  ·rw[if_neg hp]at e;obtain⟨v,h3,h4⟩:=x78 (fun k hk'=>hk k (by simp at hk' |-;exact .inr hk')) h2 e
   refine⟨v,?_,h4⟩;rw[w0l,q6o]
   ·exact h3
   ·intro z;rw[hi]at z hp;injection z with z
    exact hp (by rw[z])
theorem z03:Op2 K (fun x y H Q=>∃a v,x=.ref a/\DGet H a y (some v)/\Q v H) ixI:=by
 intro G H x y wx wy w Q s px py hf h;unfold ixI at hf;split at hf
 ·rename_i fz ks ws n;cases(show y=V.int n from py);obtain⟨a,kvs,kas,rfl,h1,rfl,h3,h4⟩:=px;obtain⟨v,e1,e2⟩:=x78 h3 h4 hf;have rd:Rd H a (.dK (kvs.map fun p=>(kxK p.1,p.2))):=h1.rd s
  exact⟨a,v,rfl,.inl ⟨_,.inl n,rd,rfl,e1.symm⟩,h G v H (.refl s) e2⟩
 ·cases hf
theorem y1e(hu:X.A.units+150<cLine)(ha:DE Z X EE a da)(hb:DE Z X EE b db)(hs:NoSl b:=by intro _ _;rfl):DE Z X EE (.Subscript a b pos) (dOp ixI da db):=
 PE.mono (y62 (by omega) ha hb hs) (q7f z03)
noncomputable def setDI(i:Nat)(e:List S):FR->SR
 |.ok (.dw sh ks ws)=>.nx (e.set i (.fr (.dw false sh ks ws)))
 |_=>.no
noncomputable def dSetDI(i:Nat)(F:List W->FR)(dA:Den (List W)):List S->SR:=fun e=>(dA e).stm fun ws e1=>setDI i e1 (F ws)
theorem y3u(i:Nat){f:Str}{k:Nat}{ps:List Str}{F:List W->FR}{np cpos:Pos}(hN:X.N.Nodup)(C:Cal X.prog X.w X.K X.mg X.base k f ps (spF X.K F))(hr:Room k X.A)(hx:PassX (CX1 X.prog X.w) X EE)(ha:DA Z X EE (e::es) dA)(hg:Gl X f:=by rfl)
  (hdb:(f==("__debug__":Str))=false:=by decide)(he:starEach (e::es) X.env=(false,eval e X.env)::starEach es X.env:=by rfl)(hpl:(backTo cpos (starEach es X.env)).any (·.1)=false:=by rfl)
  (hi:X.N[i]?=some x:=by rfl)(hl:Loc X.env.scope x:=by walk_at "3")(hs:swapsWith (.Call (.Name f np) (e::es) [] cpos) (some (.Name x p)) pos.line X.env=pure false:=by rfl)(hf:X.fn x=true\/X.env.scope.names.lookup x=some .local:=by walk_at "2"):
  DS Z X EE (.Assign [.Name x p] (.Call (.Name f np) (e::es) [] cpos) pos) (dSetDI i F dA):=by
 refine PS.mono (x4c i hN (x90 C hr hx ha hg hdb he hpl) hi hl hs hf) ?_;rintro D σ H ⟨G,e,rel,h⟩;refine⟨G,e,rel,(q2d h).imp (fun ws e1 h G1 vs H1 r1 s1 p1=>?_) fun _ _ h=>h⟩
 refine⟨G1,ws,r1.sub,by rw[w2q];exact p1,?_⟩;cases q:F ws with
 |ok s=>
  rw[q]at h;intro G' H' v g sl;cases s with
  |dw sh ks ws'=>
   obtain⟨a,kvs,kas,h1,h2,h3,h4,h5,h6,h7⟩:=sl;cases h1;have hn:H1 a=none:=h4;have sg:Same G' (upd G' a (dwO sh kvs kas)):=q34 h3 _
   have g2:Grow G1 H1 (upd G' a (dwO sh kvs kas)) H':=
    ⟨g.hh,g.gg.trans sg,fun c u z=>by
     by_cases hc:c=a
     ·subst hc;rw[q0m]at z;cases z;exact h2
     ·rw[q0f hc]at z;exact g.sub _ _ z,fun c z=>by rw[q0f (fun y=>z (by rw[y];exact hn))];exact g.new c z⟩
   exact h _ _ _ ((r1.grow g2).set (w:=.dw false sh ks ws') (v:=.ref a) ⟨a,kvs,kas,rfl,q0m,h5,h6.mono sg,Reps.mono sg ws' h7⟩) (s1.trans g2.gg)
  |_=>exact h.elim
 |ex c=>rw[q]at h;exact h.elim
 |no=>rw[q]at h;exact h.elim
theorem y67{e:List S}:dPutI i d dk e=(d e).stm fun w e1=>putI0 i dk w e1 e1[i]?:=rfl
theorem y68{e:List S}:putI0 i dk w e (some (.dw .int ks ws))=(dk e).stm fun kw e2=>putIC i w kw e2 e2[i]?:=rfl
theorem y69{e:List S}(h1:ks.length<16777216)(h2:(e.set i .no).all (fun s=>!isDw s)=true)(h3:Kx.int n∉ks):putIC i w (.int n) e (some (.dw .int ks ws))=.nx (e.set i (.dw .int (ks++[.int n]) (ws++[w]))):=if_pos ⟨h1,h2,h3⟩
theorem z3j:ixI (.dw fz .int ks ws) (.int n)=lkW ks ws (.int n):=rfl
theorem y3v{F:List W->FR}{e:List S}:dSetDI i F dA e=(dA e).stm fun ws e1=>setDI i e1 (F ws):=rfl
theorem y3w{e:List S}:setDI i e (.ok (.dw sh ks ws))=.nx (e.set i (.fr (.dw false sh ks ws))):=rfl
noncomputable def retW(e:List S):Option S->SR
 |some (.dw sh ks ws)=>.rt (.dw sh ks ws) e
 |_=>.no
noncomputable def dRetW(i:Nat):List S->SR:=fun e=>retW e e[i]?
theorem y7a(i:Nat)(hN:X.N[i]?=some x:=by rfl)(hv:Vis X.env.scope x:=by walk_at "1")(hd:(x==("__debug__":Str))=false:=by decide)(hcd:(x==("__classdict__":Str))=false:=by decide):
  DS Z X EE (.Return (some (.Name x p)) pos) (dRetW i):=by
 refine PS.mono (x4l (pv i hN hv hd hcd)) ?_;rintro D σ H ⟨G,e,rel,h⟩;unfold dRetW retW at h;split at h
 ·rename_i sh ks ws hw;obtain⟨a,kvs,kas,h1,h2,h3,h4,h5,h6,h7⟩:=rel.dw hw;exact⟨.ref a,h1,h G σ (.ref a) H rel (.refl _) ⟨a,kvs,kas,rfl,h2,h3,h4,h5,h6,h7⟩⟩
 ·exact h.elim
end
section
variable{kw dflt:W}{x:Kx}
theorem y7b:dSetW i sh e=.nx (e.set i (.dw sh [] [])):=rfl
theorem y7c:dRetW i e=retW e e[i]?:=rfl
theorem z04:retW e (some (.dw sh ks ws))=.rt (.dw sh ks ws) e:=rfl
end
noncomputable def tupAt(K:PySem.W.Frag)(a:Addr):Bool:=match K.lookup a with
 |some o=>(match o.cls with
  |.type n=>n=="tuple"
  |_=>false)
 |none=>false
noncomputable def dropT(K:PySem.W.Frag):PySem.W.Frag:=K.filter fun p=>!tupAt K p.1
theorem q5r{q:Addr->Bool}:∀{K:PySem.W.Frag}{o:Obj},(K.filter fun p=>q p.1).lookup a=some o->K.lookup a=some o/\q a=true
 |[],_,h=>by cases h
 |(b,u)::K,o,h=>by
  by_cases hq:q b=true
  ·rw[w2t (p:=fun p:Addr×Obj=>q p.1) (a:=(b,u)) hq]at h
   by_cases e:a=b
   ·subst e;rw[show List.lookup a ((a,u)::(K.filter fun p=>q p.1))=some u by simp[List.lookup]]at h
    refine⟨?_,hq⟩;rw[<- h];simp[List.lookup]
   ·rw[show List.lookup a ((b,u)::(K.filter fun p=>q p.1))=List.lookup a (K.filter fun p=>q p.1) by simp only[List.lookup];rw[beq_eq_false_iff_ne.mpr e]]at h
    obtain⟨h1,h2⟩:=q5r h;refine⟨?_,h2⟩;rw[<- h1];simp only[List.lookup];rw[beq_eq_false_iff_ne.mpr e]
  ·rw[w3s (p:=fun p:Addr×Obj=>q p.1) (a:=(b,u)) hq]at h
   obtain⟨h1,h2⟩:=q5r h;have e:a≠b:=fun z=>hq (by rw[<- z];exact h2)
   refine⟨?_,h2⟩;rw[<- h1];simp only[List.lookup];rw[beq_eq_false_iff_ne.mpr e]
theorem y3x{h:Heap}(X:K.In h):(dropT K).In h:=fun a o e=>X a o (q5r (q:=fun a=>!tupAt K a) e).1
theorem y3y:NoTup (dropT K):=fun a o e z=>by
 obtain⟨h1,h2⟩:=q5r (q:=fun a=>!tupAt K a) e
 unfold tupAt at h2;rw[h1]at h2;simp[z]at h2
theorem q0i{o:Obj}(h:K.lookup a=some o)(t:tupAt K a=false):(dropT K).lookup a=some o:=by
 have gen:∀(l:PySem.W.Frag)(q:Addr->Bool),q a=true->l.lookup a=some o->(l.filter fun p=>q p.1).lookup a=some o:=by
  intro l q hq
  induction l with
  |nil=>intro h;cases h
  |cons p l ih=>
   obtain⟨b,u⟩:=p;intro h
   by_cases e:a=b
   ·subst e;rw[w2t (p:=fun p:Addr×Obj=>q p.1) (a:=(a,u)) hq]
    rw[show List.lookup a ((a,u)::l)=some u by simp[List.lookup]]at h;rw[<- h];simp[List.lookup]
   ·rw[show List.lookup a ((b,u)::l)=List.lookup a l by simp only[List.lookup];rw[beq_eq_false_iff_ne.mpr e]]at h
    by_cases hb:q b=true
    ·rw[w2t (p:=fun p:Addr×Obj=>q p.1) (a:=(b,u)) hb,<- ih h]
     simp only[List.lookup];rw[beq_eq_false_iff_ne.mpr e]
    ·rw[w3s (p:=fun p:Addr×Obj=>q p.1) (a:=(b,u)) hb]
     exact ih h
 exact gen K (fun a=>!tupAt K a) (by rw[t];rfl) h
theorem q0g{r:Option Value}(h:PySem.W.nsIn K a x=some r)(t:tupAt K a=false):PySem.W.nsIn (dropT K) a x=some r:=by
 unfold PySem.W.nsIn at h |-
 cases q:K.lookup a with
 |none=>rw[q]at h;cases h
 |some o=>rw[q0i q t];rw[q]at h;exact h
noncomputable def tupAtV(K:PySem.W.Frag):Value->Bool
 |.ref a=>tupAt K a
 |_=>false
theorem q0j{cd:Value}(h:PySem.W.codeIn K cd x=true)(t:tupAtV K cd=false):PySem.W.codeIn (dropT K) cd x=true:=by
 cases cd with
 |ref a=>
  unfold PySem.W.codeIn at h |-
  dsimp only at h |-
  cases q:K.lookup a with
  |none=>rw[q]at h;cases h
  |some o=>rw[q0i q t];rw[q]at h;exact h
 |_=>cases h
noncomputable def funAt(K:PySem.W.Frag)(a:Addr):Bool:=!tupAt K a&&(match K.lookup a with
 |some ⟨_,_,.func _,_⟩=>true
 |_=>false)
theorem q0k(t:funAt K a=true):keepIn (dropT K) (.ref a)=true:=by
 unfold funAt at t
 rw[w0r]at t;obtain⟨t1,t2⟩:=t;have t1:tupAt K a=false:=by simpa using t1
 unfold keepIn;dsimp only;split at t2
 ·rename_i q;rw[q0i q t1]
 ·cases t2
noncomputable def lk{κ:Type} [DecidableEq κ](kvs:List (κ×Sv))(x:κ):Option Sv:=(kvs.find? fun p=>decide (p.1=x)).map (·.2)
end D
namespace L2
open PySem PySem.Spec PyProof.Rows
end L2
namespace D
open PySem L2
variable{X:Cx}{dA:Den (List W)}{e:Expr}{EE:L2.St->XK}{es:List Expr}{ps:List Str}{p pos:Pos}{K:PySem.W.Frag}{x:Str}{Z:Zt}
noncomputable def exprFR:R W->FR
 |.ok w _=>.ok (.fr w)
 |.ex c _=>.ex c
 |.no=>.no
structure LamOk(P:Program)(w:World)(K:PySem.W.Frag)(mg:Str->Option Value)(base:Heap)(n:Nat)(l:Lm)(ps:List Str)(F:List W->FR):Prop where
 sc:LamScope ps l.nf l.scope
 bind:∀(cl:List (Str×Addr))(pm:Value)(c':Addr)(ctv:Value)(us:List Value),us.length=ps.length->bindArgs (PySem.W.kla_fn "<lambda>" l.qual l.params l.body l.scope cl pm (.ref c') ctv) ⟨us,[]⟩=pure (ps.zip us)
 len:∀ws,F ws≠.no->ws.length=ps.length+l.nf.length
 body:∀ws,F ws≠.no->∀(Z:Zt)(f:Addr)(cd:Value)(cl:List (Str×Addr))(A:Around)(outer:List Env)(s:Shared)(H:Hp),Room n (A.deeper (lamEnv l.qual l.scope f cd cl s)) ->
  ∃d,DE Z (cxLam P w K mg base (ps++l.nf) l.qual l.scope f cd cl A outer s H) (fun _=>E0) l.body d/\exprFR (d (ws.map .fr))=F ws
section
variable{tabs:List (Addr×Str)}{a:Addr}{o:Obj}
theorem x6w(h:noMark K=true):noMark (dropT K)=true:=w1b.mpr fun p hp=>w1b.mp h p (w1d.mp hp).1
end
end D
namespace L2
open PySem PySem.Spec PyProof.Rows
end L2
namespace D
open PySem L2
end D
namespace L2
open PySem PySem.Spec PyProof.Rows
section
open HT
variable{prog:Program}{w:World}{A:Around}{E:Value->Shared->Prop}{s:Shared}
theorem q8p{t sl:Addr}{items:Array Value}{vl vu:Value}{lo hi:Option Int}{Q:Value->Shared->Prop}(ht:IsTup s.heap t items)(hs:s.heap.IsSliceOf sl vl vu .none)(pl:IsPart vl lo)(pu:IsPart vu hi)
  (hw:sIx items.size 0 lo=0/\sIx items.size items.size hi=items.size)(h:Q (.ref t) s):wpAny (model prog w) A (getItem (.ref t) (.ref sl)) Q E s:=by
 obtain⟨os,hos,hcs,hds⟩:=id hs;have hTs:s.TypeIs (.ref sl) "slice":=⟨os,hos,hcs⟩;unfold getItem;try with_reducible refine wpAny_holding ?_
 first|refine wpAny_bind (wpAny_pure ?_)|skip
 refine wpAny_bind (wpAny_sequenceKey ht.typeIs (by decide) ?_)
 refine wpAny_bind (wpAny_callSpecial?_slot (name:=Str.ofString "__getitem__") ht.typeIs PyProof.Rows.slot_tuple_getitem
  (wpAny_call_entry PyProof.Rows.slot_tuple_getitem ht.typeIs entry_tuple_getitem ?_ (args_tuple_getitem _ _)))
 show wpAny _ _ (Builtin.Tuple.tupleItemsOf (.ref t) >>= _) _ _ s;refine wpAny_bind (tupleItemsOf_ ht ?_);refine wpAny_bind (wpAny_typeOf hTs ?_);rw[if_pos (by decide)];refine wpAny_bind (q6g hs pl pu ?_);show wpAny _ _ (if(((sIx items.size 0 lo:Nat):Int)==0&&(1:Int)==1&&(sIx items.size items.size hi-sIx items.size 0 lo)==items.size)=true then _ else _) _ _ s;rw[if_pos (by rw[hw.1,hw.2];simp)];refine wpAny_bind (wpAny_bind (wpAny_typeOf ht.typeIs (wpAny_pure ?_)));rw[if_pos (by decide)];exact wpAny_bind (wpAny_rule (wpAny_pure ⟨_,rfl,wpAny_pure h⟩))
end
theorem y7d{X:Cx}:SlR X (fun x lo hi H Q=>∃a xs,x=.ref a/\SqT X.K H a xs/\(HT.sIx xs.length 0 lo=0/\HT.sIx xs.length xs.length hi=xs.length)/\Q x H):=by
 intro pins s σ H x v vl vu lo hi sl Q I rx hs pl pu h;obtain⟨a,xs,rfl,hx,hw,q⟩:=h;cases rx;obtain⟨its,r,ht,hz⟩:=I.tuple hx;have hlen:its.toArray.size=xs.length:=by rw[w0d];exact r.length.symm
 refine⟨"tuple", _,PyProof.Rows.slot_tuple_getitem.lookup,ht.typeIs,?_⟩;exact q8p ht hs pl pu (by rw[hlen];exact hw) ⟨.ref a,H,I,rfl,q⟩
def rSlS:V->Option Int->Option Int->Hp->VK->Prop:=fun x lo hi H Q=>∃z,x=.str z/\z.length<=sizeLine/\Q (.str (Txt.slice z lo hi)) H
theorem x79{v:Value}{o:Option Int}(p:IsPart v o):∃q:Option (Int×Tok),v=partValue q/\q.map (·.1)=o:=by
 cases p with
 |none=>exact⟨none,rfl,rfl⟩
 |int i t=>exact⟨some (i,t),rfl,rfl⟩
theorem z05{X:Cx}:SlR X rSlS:=by
 intro pins s σ H x v vl vu lo hi sl Q I rx hs pl pu h;obtain⟨z,rfl,hz,q⟩:=h;obtain⟨t,rfl⟩:=rx;obtain⟨ql,rfl,e1⟩:=x79 pl;obtain⟨qu,rfl,e2⟩:=x79 pu;refine⟨"str", _,F.slot_str_getitem.lookup,typeIs_str _ _ _,?_⟩;refine wpAny_getItem_str_slice (l:=ql) (u:=qu) (st:=none) hs rfl ?_
 have e3:sliceMade z t ql qu none=if((1:Int)==1&&(Builtin.Str.strSliceIndices lo hi 1 z.length).length==z.length)=true then .val (.str z t)else .str ⟨((Builtin.Str.strSliceIndices lo hi 1 z.length).filterMap (z.cps[·]?)).toArray⟩:=by
  unfold sliceMade slicePicked;rw[e1,e2];rfl
 rw[e3];have hq:Q (.str (Txt.slice z lo hi)) H:=q;have hl:=Txt.slice_le z lo hi;unfold Txt.slice at hq hl;split
 ·rename_i c;rw[if_pos c]at hq;exact⟨.str z,H,I,⟨t,rfl⟩,hq⟩
 ·rename_i c;rw[if_neg c]at hq hl;exact⟨w0g hl hz,.str _,H,I.tok _,⟨_,rfl⟩,hq⟩
end L2
namespace D
open PySem L2
noncomputable def slX:W->Option Int->Option Int->Option W
 |.str z,lo,hi=>if z.length<=16777216 then some (.str (Txt.slice z lo hi))else none
 |.tup ws,lo,hi=>if ¬(HT.sIx ws.length 0 lo=0/\HT.sIx ws.length ws.length hi=ws.length)then some (.tup (cutW ws lo hi))else some (.tup ws)
 |w,lo,hi=>slW w lo hi
noncomputable def dSlX(d:Den W)(dl dh:Den (Option Int)):Den W:=fun e=>(d e).bind fun w e1=>(dl e1).bind fun lo e2=>(dh e2).bind fun hi e3=>ofOpt (slX w lo hi) e3
section
variable{X:Cx}{Z:Zt}{EE:L2.St->XK}{e a b:Expr}{da db:Den W}{pos:Pos}
theorem q35{lo hi:Option Expr}{dl dh:Den (Option Int)}{p2:Pos}(he:DE Z X EE e da)(hl:DO Z X EE lo dl)(hh:DO Z X EE hi dh):DE Z X EE (.Subscript e (.Slice lo hi none p2) pos) (dSlX da dl dh):=by
 refine PE.mono (x4q (((sl_list.or x9t).or y7d).or z05) he hl hh) ?_;rintro σ H Q ⟨G,e,rel,h⟩;simp only[dSlX,R.holds_bind,q3c]at h;refine⟨G,e,rel,h.imp (fun w e1 h G1 v1 H1 r1 s1 p1=>?_) fun _ _ h=>h⟩
 refine⟨G1,e1,r1,h.imp (fun lo e2 h G2 H2 r2 s2=>?_) fun _ _ h=>XH.trans s1 h⟩
 refine⟨G2,e2,r2,h.imp (fun hi e3 h G3 H3 r3 s3=>?_) fun _ _ h=>XH.trans (s1.trans s2) h⟩
 obtain⟨y,hf,h⟩:=h;have p3:=Rep.mono (s2.trans s3) w p1;have s03:=(s1.trans s2).trans s3;cases w with
 |str z=>
  simp only[slX]at hf;split at hf
  ·rename_i hz;cases hf;cases p3;exact .inr ⟨z,rfl,by rw[sizeLine_eq];exact hz,h _ _ _ r3 s03 rfl⟩
  ·cases hf
 |lst ws=>
  cases hf;obtain⟨a,xs,rfl,q,r⟩:=p3;refine .inl (.inl (.inl ⟨a,xs,rfl,r3.sub.seq q,fun p hp=>?_⟩))
  have g:=Grow.laid r3.sub hp (.lst (cutV xs lo hi));exact h _ _ _ (r3.grow g) (s03.trans g.gg) ⟨p,_,rfl,SqL.of q0m,Reps.mono g.gg _ (r.cut lo hi)⟩
 |tup ws=>
  simp only[slX]at hf;obtain⟨a,xs,rfl,q,r⟩:=p3;split at hf
  ·rename_i hw;cases hf;refine .inl (.inl (.inr ⟨a,xs,rfl,r3.sub.tup q,by rw[r.length];exact hw,fun p hp=>?_⟩))
   have g:=Grow.laid r3.sub hp (.tup (cutV xs lo hi));exact h _ _ _ (r3.grow g) (s03.trans g.gg) ⟨p,_,rfl,SqT.of q0m,Reps.mono g.gg _ (r.cut lo hi)⟩
  ·rename_i hw;cases hf;exact .inl (.inr ⟨a,xs,rfl,r3.sub.tup q,by rw[r.length];exact Decidable.not_not.mp hw,h _ _ _ r3 s03 ⟨a,xs,rfl,q,r⟩⟩)
 |_=>cases hf
end
section
variable{e:List S}{ws:List W}{lo hi:Option Int}{d da db:Den W}{dA:Den (List W)}{js:List Nat}{c:Den Bool}{kvs:List (Key×Sv)}{w kw:W}
theorem z06{dl dh:Den (Option Int)}:dSlX d dl dh e=(d e).bind fun w e1=>(dl e1).bind fun lo e2=>(dh e2).bind fun hi e3=>ofOpt (slX w lo hi) e3:=rfl
theorem z3k:slX (.lst ws) lo hi=some (.lst (cutW ws lo hi)):=rfl
theorem z3l(h:¬(HT.sIx ws.length 0 lo=0/\HT.sIx ws.length ws.length hi=ws.length)):slX (.tup ws) lo hi=some (.tup (cutW ws lo hi)):=if_pos h
theorem z3m(h:HT.sIx ws.length 0 lo=0/\HT.sIx ws.length ws.length hi=ws.length):slX (.tup ws) lo hi=some (.tup ws):=if_neg (not_not_intro h)
end
end D
namespace L2
open PySem PySem.Spec PyProof.Rows
namespace RevT
end RevT
open PySem PySem.Spec PyProof.Rows
end L2
namespace D
open PySem L2
end D
namespace L2
open PySem PySem.Spec PyProof.Rows
end L2
namespace D
open PySem L2 PySem.Spec PyProof.Rows
open PyProof.Rows (envOfC)
open PySem L2
section
variable{X:Cx}{Z:Zt}{EE:L2.St->XK}{o e:Expr}{d:Den W}{dA:Den (List W)}
noncomputable def listWK(e:List S):W->R (List W)
 |.dw _ _ ks _=>.ok (ks.map wK) e
 |_=>.no
noncomputable def dListW(d:Den W):Den (List W):=fun e=>(d e).bind fun w e1=>listWK e1 w
theorem x5o{lp lpos:Pos}(hc:X.calm=true)(hm:X.mg "list"=none)(he:DE Z X EE e d)(hg2:Gl X "list":=by rfl)(he2:starEach [e] X.env=(false,eval e X.env)::starEach [] X.env:=by rfl)(hpl2:(backTo lpos (starEach [] X.env)).any (·.1)=false:=by rfl):
  DF Z X EE (.Call (.Name "list" lp) [e] [] lpos) (dListW d):=by
 refine PE.mono (q8u (x8z hc) hg2 hm PyProof.Rows.Boot.«list» (q9o he x4n he2) (by decide) (by decide) he2 hpl2) ?_;rintro σ H Q ⟨G,e,rel,h⟩;simp only[dListW,R.holds_bind]at h;refine⟨G,e,rel,h.imp (fun w e1 h G1 v1 H1 r1 s1 p1=>?_) fun _ _ h=>h⟩
 cases w with
 |dw fz sh ks ws=>
  obtain⟨a,kvs,kas,rfl,h2,h5,h6,h7⟩:=p1;exact⟨a,sh,kvs,kas,rfl,h2.rd r1.sub,q7t r1 s1 (x80 h5 h6) h⟩
 |_=>exact h.elim
theorem y3z{e:List S}:dListW d e=(d e).bind fun w e1=>listWK e1 w:=rfl
theorem y1f{e:List S}{fz:Bool}{sh:Sh}{ks:List Kx}{vs:List W}:listWK e (.dw fz sh ks vs)=.ok (ks.map wK) e:=rfl
end
end D
namespace M10
noncomputable def numG(a:Int)(row:List Bool):Int:=row.foldl (fun acc b=>2*acc+(if b=true then 1 else 0)) a
noncomputable def num(row:List Bool):Int:=numG 0 row
noncomputable def b2(b:Bool):Int:=if b=true then 1 else 0
theorem y1g(a:Int)(row:List Bool)(b:Bool):numG a (row++[b])=2*numG a row+b2 b:=by
 unfold numG;rw[List.foldl_append];rfl
theorem x8a:num []=0:=rfl
theorem x0k(row:List Bool)(b:Bool):num (row++[b])=2*num row+b2 b:=y1g 0 row b
theorem x5p(b:Bool):b2 b=0\/b2 b=1:=by cases b<;>simp[b2]
theorem x5q{P:List Bool->Prop}(h0:P [])(h1:∀l b,P l->P (l++[b])):∀l,P l:=by
 intro l
 have:∀r:List Bool,P r.reverse:=by
  intro r
  induction r with
  |nil=>simpa using h0
  |cons b r ih=>rw[w1u];exact h1 _ _ ih
 have:=this l.reverse
 rwa [List.reverse_reverse]at this
theorem x1d(row:List Bool):0<=num row/\num row<2^row.length:=by
 induction row using x5q with
 |h0=>simp[x8a]
 |h1 l b ih=>
  rw[x0k,w0i,w2z,w4d];rcases x5p b with h|h<;>omega
noncomputable def bits:Nat->Int->List Bool
 |0,_=>[]
 |m+1,n=>decide (n%2=1)::bits m (n / 2)
noncomputable def rest:Nat->Int->Int
 |0,n=>n
 |m+1,n=>rest m (n / 2)
theorem q7y:∀m n,(bits m n).length=m
 |0,_=>rfl
 |m+1,n=>by rw[bits,w0o,q7y m]
theorem x3h:∀m n,bits (m+1) n=bits m n++[decide (rest m n%2=1)]
 |0,n=>rfl
 |m+1,n=>by rw[bits,x3h m (n / 2),bits,rest];rfl
theorem x3i:∀m n,rest (m+1) n=rest m n / 2
 |0,n=>rfl
 |m+1,n=>by rw[rest,x3i m (n / 2)];rfl
theorem x5r(m:Nat):∀n:Int,n=num (bits m n).reverse+2^m*rest m n:=by
 induction m with
 |zero=>intro n;simp[bits,rest,x8a]
 |succ m ih=>
  intro n;rw[bits,rest,w1u,x0k,w4d];have h:=ih (n / 2)
  have hb:b2 (decide (n%2=1))=n%2:=by
   unfold b2
   by_cases h1:n%2=1
   ·simp[h1]
   ·simp[h1];omega
  rw[hb]
  have e:(2:Int)^m*2*rest m (n / 2)=2*(2^m*rest m (n / 2)):=by
   rw[Int.mul_comm (2^m) 2,Int.mul_assoc]
  rw[e];generalize (2:Int)^m*rest m (n / 2)=z at *;generalize num (bits m (n / 2)).reverse=y at *;omega
theorem y30(m:Nat):(0:Int)<2^m:=by
 induction m with
 |zero=>decide
 |succ m ih=>rw[w4d];omega
theorem x3j{m:Nat}{n:Int}(h0:0<=n)(h1:n<2^m):rest m n=0:=by
 have h:=x5r m n;have hb:=x1d (bits m n).reverse;rw[w3h,q7y]at hb;have hp:=y30 m
 by_cases hr:rest m n=0
 ·exact hr
 ·exfalso;rcases Int.lt_or_gt_of_ne hr with h2|h2
  ·have:2^m*rest m n<=2^m*(-1):=w3d (by omega) (by omega);omega
  ·have:2^m*1<=2^m*rest m n:=w3d (by omega) (by omega);omega
theorem y31{m:Nat}{n:Int}(h0:0<=n)(h1:n<2^m):num (bits m n).reverse=n:=by
 have h:=x5r m n;rw[x3j h0 h1,Int.mul_zero]at h;omega
theorem y32(row:List Bool):(bits row.length (num row)).reverse=row:=by
 induction row using x5q with
 |h0=>rfl
 |h1 l b ih=>
  rw[w0i,w2z,x0k,bits,w1u];have hb:=x5p b;have e1:(2*num l+b2 b) / 2=num l:=by rcases hb with h|h<;>omega
  have e2:decide ((2*num l+b2 b)%2=1)=b:=by
   cases b
   ·have:b2 false=0:=rfl;rw[this];simp
   ·have:b2 true=1:=rfl;rw[this,decide_eq_true_eq];omega
  rw[e1,e2,ih]
noncomputable def part(row:List Bool)(i:Nat):Int:=num (row.take i)*2^(row.length-i)
end M10
namespace Q
open PySem L2 D
variable{f:Addr}{A:Around}{H:Hp}{cnt:Int}{c w:List (Option Bool)}{ns:List Int}{L l:List Nat}{T:List Nat->W->Bool}{ws xs:List W}{m n:Nat}{K:PySem.W.Frag}{s:Shared}{mg:Str->Option Value}{α:Type}{cdv:Value}{t:W}{E:XK}{Z:Zt}
seal DE DF DT DW DA DS DSs DTs DO DFm PE PT PW PA PS PSs PG PGs PI PF PTs PC OpR UnR IxR CallR TruR MtR MtM SlR PO
theorem us1{P:List α->Prop}(h:∀x0,P [x0]):∀us:List α,us.length=1->P us
 |[x0],_=>h x0
theorem us2{P:List α->Prop}(h:∀x0 x1,P [x0,x1]):∀us:List α,us.length=2->P us
 |[x0,x1],_=>h x0 x1
theorem us3{P:List α->Prop}(h:∀x0 x1 x2,P [x0,x1,x2]):∀us:List α,us.length=3->P us
 |[x0,x1,x2],_=>h x0 x1 x2
theorem us4{P:List α->Prop}(h:∀x0 x1 x2 x3,P [x0,x1,x2,x3]):∀us:List α,us.length=4->P us
 |[x0,x1,x2,x3],_=>h x0 x1 x2 x3
theorem us5{P:List α->Prop}(h:∀x0 x1 x2 x3 x4,P [x0,x1,x2,x3,x4]):∀us:List α,us.length=5->P us
 |[x0,x1,x2,x3,x4],_=>h x0 x1 x2 x3 x4
noncomputable def top(i:Nat):Stmt:=PySem.Challenge.pw_circuits_k24_shows_cover.main.body.getD i (.Pass ⟨0,0,0,0⟩)
structure Blt(mg:Str->Option Value):Prop where
 b_all:mg "all"=none
 b_any:mg "any"=none
 b_bool:mg "bool"=none
 b_enumerate:mg "enumerate"=none
 b_int:mg "int"=none
 b_isinstance:mg "isinstance"=none
 b_len:mg "len"=none
 b_list:mg "list"=none
 b_range:mg "range"=none
 b_reversed:mg "reversed"=none
 b_sorted:mg "sorted"=none
 b_tuple:mg "tuple"=none
 b_zip:mg "zip"=none
structure Adr where
 CircuitError:Addr
 NoRow:Addr
 NoTable:Addr
 MOST_PLACES_tables:Value
 MOST_PLACES_covers:Value
variable{a:Adr}
structure Exs(K:PySem.W.Frag)(mg:Str->Option Value)(a:Adr):Prop where
 z:True
 m_CircuitError:mg "CircuitError"=some (.ref a.CircuitError)
 m_NoRow:mg "NoRow"=some (.ref a.NoRow)
 m_NoTable:mg "NoTable"=some (.ref a.NoTable)
 m_MOST_PLACES_tables:mg "MOST_PLACES_tables"=some a.MOST_PLACES_tables
 m_MOST_PLACES_covers:mg "MOST_PLACES_covers"=some a.MOST_PLACES_covers
 g_MOST_PLACES_tables:conIn K (.int 10) a.MOST_PLACES_tables=true
 g_MOST_PLACES_covers:conIn K (.int 4) a.MOST_PLACES_covers=true
 e_NoRow:excIn K a.NoRow a.CircuitError=true
 e_NoTable:excIn K a.NoTable a.CircuitError=true
 c_NoRow:excClsIn K a.NoRow=true
 x_NoRow_CircuitError:exmOne K (.ref a.NoRow) (.ref a.CircuitError)=some true
 k_NoRow_NoTable:kitOne K (.ref a.NoRow) (.ref a.NoTable)=some false
 c_NoTable:excClsIn K a.NoTable=true
 x_NoTable_CircuitError:exmOne K (.ref a.NoTable) (.ref a.CircuitError)=some true
 k_NoTable_NoTable:kitOne K (.ref a.NoTable) (.ref a.NoTable)=some true
 t_NoneType_int:kitOne K (.type "NoneType") (.type "int")=some false
 t_bool_int:kitOne K (.type "bool") (.type "int")=some true
 t_int_int:kitOne K (.type "int") (.type "int")=some true
 t_str_int:kitOne K (.type "str") (.type "int")=some false
 t_tuple_int:kitOne K (.type "tuple") (.type "int")=some false
 t_list_int:kitOne K (.type "list") (.type "int")=some false
 t_NoneType_bool:kitOne K (.type "NoneType") (.type "bool")=some false
 t_bool_bool:kitOne K (.type "bool") (.type "bool")=some true
 t_int_bool:kitOne K (.type "int") (.type "bool")=some false
 t_str_bool:kitOne K (.type "str") (.type "bool")=some false
 t_tuple_bool:kitOne K (.type "tuple") (.type "bool")=some false
 t_list_bool:kitOne K (.type "list") (.type "bool")=some false
 t_NoneType_tuple:kitOne K (.type "NoneType") (.type "tuple")=some false
 t_bool_tuple:kitOne K (.type "bool") (.type "tuple")=some false
 t_int_tuple:kitOne K (.type "int") (.type "tuple")=some false
 t_str_tuple:kitOne K (.type "str") (.type "tuple")=some false
 t_tuple_tuple:kitOne K (.type "tuple") (.type "tuple")=some true
 t_list_tuple:kitOne K (.type "list") (.type "tuple")=some false
 nt:NoTup K
noncomputable abbrev q36:Nat:=0
noncomputable abbrev q2w:Nat:=1
noncomputable abbrev q3t:Nat:=2
noncomputable abbrev q37:Nat:=3
noncomputable abbrev q27:Nat:=4
noncomputable abbrev q3d:Nat:=5
noncomputable abbrev q1j:Nat:=6
noncomputable abbrev q5x:Nat:=7
noncomputable abbrev q2t:Nat:=8
noncomputable abbrev q3e:Nat:=9
noncomputable abbrev q3u:Nat:=10
noncomputable abbrev q2u:Nat:=11
noncomputable abbrev q2h:Nat:=12
noncomputable abbrev q3f:Nat:=13
noncomputable abbrev q28:Nat:=14
noncomputable abbrev q04:Nat:=15
noncomputable abbrev q20:Nat:=16
noncomputable abbrev q1v:Nat:=17
noncomputable abbrev q38:Nat:=18
noncomputable abbrev q05:Nat:=19
noncomputable abbrev q2x:Nat:=20
noncomputable abbrev q16:Nat:=21
noncomputable abbrev q39:Nat:=22
noncomputable abbrev q1o:Nat:=23
noncomputable abbrev q0q:Nat:=24
noncomputable abbrev q0y:Nat:=25
noncomputable abbrev q2y:Nat:=26
noncomputable abbrev q14:Nat:=27
noncomputable abbrev q1s:Nat:=28
noncomputable abbrev q11:Nat:=29
noncomputable abbrev q1w:Nat:=30
noncomputable abbrev q17:Nat:=31
noncomputable abbrev q01:Nat:=32
noncomputable abbrev q1e:Nat:=33
noncomputable abbrev q1p:Nat:=34
noncomputable abbrev q1t:Nat:=35
noncomputable abbrev q1q:Nat:=36
noncomputable abbrev q6e:Nat:=37
noncomputable abbrev q3g:Stmt:=top 5
theorem sc_row_of:FnScope ["number", "many", "truths", "rest", "step"] ["number", "many"] (defScope q3g):=⟨rfl,rfl,rfl,by decide +kernel,rfl,by decide +kernel,by decide +kernel⟩
noncomputable abbrev q18:Stmt:=top 6
theorem sc_rows_many:FnScope ["many", "count", "place"] ["many"] (defScope q18):=⟨rfl,rfl,rfl,by decide +kernel,rfl,by decide +kernel,by decide +kernel⟩
noncomputable abbrev q2f:Stmt:=top 7
theorem x6x:FnScope ["many"] ["many"] (defScope q2f):=⟨rfl,rfl,rfl,by decide +kernel,rfl,by decide +kernel,by decide +kernel⟩
noncomputable abbrev q2n:Stmt:=top 9
theorem x81:FnScope ["cube", "row"] ["cube", "row"] (defScope q2n):=⟨rfl,rfl,rfl,by decide +kernel,rfl,by decide +kernel,by decide +kernel⟩
noncomputable abbrev q2o:Stmt:=top 10
theorem x82:FnScope ["cube"] ["cube"] (defScope q2o):=⟨rfl,rfl,rfl,by decide +kernel,rfl,by decide +kernel,by decide +kernel⟩
noncomputable abbrev q19:Stmt:=top 13
theorem sc_places_of:FnScope ["table", "many"] ["table"] (defScope q19):=⟨rfl,rfl,rfl,by decide +kernel,rfl,by decide +kernel,by decide +kernel⟩
noncomputable abbrev q1k:Stmt:=top 16
theorem sc_wish_places:FnScope ["wish", "many"] ["wish"] (defScope q1k):=⟨rfl,rfl,rfl,by decide +kernel,rfl,by decide +kernel,by decide +kernel⟩
noncomputable abbrev q4a:Stmt:=top 17
theorem y7e:FnScope ["cube", "wish"] ["cube", "wish"] (defScope q4a):=⟨rfl,rfl,rfl,by decide +kernel,rfl,by decide +kernel,by decide +kernel⟩
noncomputable abbrev q21:Stmt:=top 18
theorem y1h:FnScope ["wish"] ["wish"] (defScope q21):=⟨rfl,rfl,rfl,by decide +kernel,rfl,by decide +kernel,by decide +kernel⟩
noncomputable abbrev q2a:Stmt:=top 19
theorem sc_all_cubes:FnScope ["many", "cubes", "place", "longer", "cube"] ["many"] (defScope q2a):=⟨rfl,rfl,rfl,by decide +kernel,rfl,by decide +kernel,by decide +kernel⟩
noncomputable abbrev q12:Stmt:=top 20
theorem x6y:FnScope ["cube", "wish"] ["cube", "wish"] (defScope q12):=⟨rfl,rfl,rfl,by decide +kernel,rfl,by decide +kernel,by decide +kernel⟩
noncomputable abbrev q1b:Stmt:=top 21
theorem x2c:FnScope ["cube"] ["cube"] (defScope q1b):=⟨rfl,rfl,rfl,by decide +kernel,rfl,by decide +kernel,by decide +kernel⟩
noncomputable abbrev q1c:Stmt:=top 22
theorem x2d:FnScope ["wish"] ["wish"] (defScope q1c):=⟨rfl,rfl,rfl,by decide +kernel,rfl,by decide +kernel,by decide +kernel⟩
noncomputable abbrev q1x:Stmt:=top 23
theorem x5s:FnScope ["numbers", "taken"] ["numbers", "taken"] (defScope q1x):=⟨rfl,rfl,rfl,by decide +kernel,rfl,by decide +kernel,by decide +kernel⟩
noncomputable abbrev q2j:Stmt:=top 25
theorem x6z:FnScope ["thing"] ["thing"] (defScope q2j):=⟨rfl,rfl,rfl,by decide +kernel,rfl,by decide +kernel,by decide +kernel⟩
noncomputable abbrev q1l:Stmt:=top 26
theorem x2e:FnScope ["thing", "length"] ["thing", "length"] (defScope q1l):=⟨rfl,rfl,rfl,by decide +kernel,rfl,by decide +kernel,by decide +kernel⟩
noncomputable abbrev q1y:Stmt:=top 27
theorem x30:FnScope ["thing", "truth"] ["thing", "truth"] (defScope q1y):=⟨rfl,rfl,rfl,by decide +kernel,rfl,by decide +kernel,by decide +kernel⟩
noncomputable abbrev q1i:Stmt:=top 29
theorem x31:FnScope ["wish"] ["wish"] (defScope q1i):=⟨rfl,rfl,rfl,by decide +kernel,rfl,by decide +kernel,by decide +kernel⟩
noncomputable abbrev q22:Stmt:=top 30
theorem y1i:FnScope ["reaches", "number"] ["reaches", "number"] (defScope q22):=⟨rfl,rfl,rfl,by decide +kernel,rfl,by decide +kernel,by decide +kernel⟩
noncomputable abbrev q1m:Stmt:=top 31
theorem sc_shows_cover:FnScope ["wish", "count", "tree", "reaches"] ["wish", "count", "tree"] (defScope q1m):=⟨rfl,rfl,rfl,by decide +kernel,rfl,by decide +kernel,by decide +kernel⟩
noncomputable abbrev q2p:Stmt:=top 32
theorem sc_is_tree:FnScope ["thing", "reaches", "left", "count", "number", "branches", "wanted"] ["thing", "reaches", "left", "count"] (defScope q2p):=⟨rfl,rfl,rfl,by decide +kernel,rfl,by decide +kernel,by decide +kernel⟩
noncomputable abbrev q2b:Stmt:=top 33
theorem x5t:FnScope ["thing", "reach", "reaches", "left", "count"] ["thing", "reach", "reaches", "left", "count"] (defScope q2b):=⟨rfl,rfl,rfl,by decide +kernel,rfl,by decide +kernel,by decide +kernel⟩
noncomputable abbrev q2q:Stmt:=top 34
theorem x83:FnScope ["thing", "cube"] ["thing", "cube"] (defScope q2q):=⟨rfl,rfl,rfl,by decide +kernel,rfl,by decide +kernel,by decide +kernel⟩
noncomputable abbrev q1f:Stmt:=top 36
theorem x1e:FnScope ["_law_script", "_law_k"] ["_law_script", "_law_k"] (defScope q1f):=⟨rfl,rfl,rfl,by decide +kernel,rfl,by decide +kernel,by decide +kernel⟩
noncomputable abbrev q2k:Stmt:=top 37
theorem sc__law_way:FnScope ["_law_script", "_law_k", "_law_many", "_law_mark_here"] ["_law_script", "_law_k", "_law_many"] (defScope q2k):=⟨rfl,rfl,rfl,by decide +kernel,rfl,by decide +kernel,by decide +kernel⟩
noncomputable abbrev q2c:Stmt:=top 38
theorem sc__law_mark:FnScope ["_law_script", "_law_k", "_law_mark_here"] ["_law_script", "_law_k"] (defScope q2c):=⟨rfl,rfl,rfl,by decide +kernel,rfl,by decide +kernel,by decide +kernel⟩
noncomputable abbrev q1g:Stmt:=top 39
theorem sc__law_rows:FnScope ["_law_cube", "_law_found", "_law_wished"] ["_law_cube"] (defScope q1g):=⟨rfl,rfl,rfl,by decide +kernel,rfl,by decide +kernel,by decide +kernel⟩
noncomputable abbrev q06:Stmt:=top 40
theorem sc__law_wish_by:FnScope ["_law_script", "_law_many", "_law_menus", "_law_menu", "_law_some"] ["_law_script", "_law_many"] (defScope q06):=⟨rfl,rfl,rfl,by decide +kernel,rfl,by decide +kernel,by decide +kernel⟩
noncomputable abbrev q02:Stmt:=top 41
theorem sc__law_odd_wish:FnScope ["_law_script", "_law_size"] ["_law_script"] (defScope q02):=⟨rfl,rfl,rfl,by decide +kernel,rfl,by decide +kernel,by decide +kernel⟩
noncomputable abbrev q1d:Stmt:=top 42
theorem sc__law_having:FnScope ["_law_wish", "_law_listed", "_law_having_here", "_law_number"] ["_law_wish", "_law_listed"] (defScope q1d):=⟨rfl,rfl,rfl,by decide +kernel,rfl,by decide +kernel,by decide +kernel⟩
noncomputable abbrev q1z:Stmt:=top 43
theorem sc__law_left:FnScope ["_law_left_here", "_law_cube", "_law_inside"] ["_law_left_here", "_law_cube"] (defScope q1z):=⟨rfl,rfl,rfl,by decide +kernel,rfl,by decide +kernel,by decide +kernel⟩
noncomputable abbrev q10:Stmt:=top 44
theorem sc__law_made:FnScope ["_law_having_here", "_law_left_here", "_law_count", "_law_mark_here", "_law_number", "_law_some"] ["_law_having_here", "_law_left_here", "_law_count", "_law_mark_here"] (defScope q10):=⟨rfl,rfl,rfl,by decide +kernel,rfl,by decide +kernel,by decide +kernel⟩
noncomputable abbrev q07:Stmt:=top 45
theorem sc__law_changed:FnScope ["_law_tree", "_law_mark_here", "_law_number", "_law_some", "_law_at", "_law_inner", "_law_way_here", "_law_one", "_law_choices"] ["_law_tree", "_law_mark_here"] (defScope q07):=⟨rfl,rfl,rfl,by decide +kernel,rfl,by decide +kernel,by decide +kernel⟩
noncomputable abbrev q08:Stmt:=top 46
theorem x1f:FnScope ["_law_thing"] ["_law_thing"] (defScope q08):=⟨rfl,rfl,rfl,by decide +kernel,rfl,by decide +kernel,by decide +kernel⟩
noncomputable abbrev q2l:Stmt:=top 47
theorem sc__law_due:FnScope ["_law_having_here", "_law_left_here", "_law_count", "_law_tree", "_law_listed", "_law_k", "_law_branch"] ["_law_having_here", "_law_left_here", "_law_count", "_law_tree"] (defScope q2l):=⟨rfl,rfl,rfl,by decide +kernel,rfl,by decide +kernel,by decide +kernel⟩
noncomputable abbrev q03:Stmt:=top 48
theorem sc__law_odd_rows:FnScope ["_law_many", "_law_wish", "_law_k"] ["_law_many"] (defScope q03):=⟨rfl,rfl,rfl,by decide +kernel,rfl,by decide +kernel,by decide +kernel⟩
noncomputable abbrev q1h:Stmt:=top 49
theorem sc__law_refused:FnScope ["_law_wish", "_law_count", "e"] ["_law_wish", "_law_count"] (defScope q1h):=⟨rfl,rfl,rfl,by decide +kernel,rfl,by decide +kernel,by decide +kernel⟩
noncomputable abbrev q4j:Stmt:=top 50
theorem sc_law:FnScope ["_law_script", "_law_many", "_law_wish", "_law_count", "_law_turn", "_law_having_here", "_law_tree", "_law_due_here", "_law_found"] ["_law_script"] (defScope q4j):=⟨rfl,rfl,rfl,by decide +kernel,rfl,by decide +kernel,by decide +kernel⟩
noncomputable def q7z(K:PySem.W.Frag)(a:Adr)(r:Nat->List W->FR):List S->SR:=
 (dSeq (dApp 2 (dCons (dOp eq2 (dOp modW (dVar 3) (dC (.int 2))) (dC (.int 1))) dNil))
  (dSet 3 (dOp fdivW (dVar 3) (dC (.int 2)))))
noncomputable def q6p(K:PySem.W.Frag)(a:Adr)(r:Nat->List W->FR):List S->SR:=
 (dSeq (dSetO 2 (dLst dNil))
  (dSeq (dSet 3 (dVar 0))
  (dSeq (dForR 4 rng1 (dCons (dVar 1) dNil)
  (q7z K a r))
  (dSeq (dIfS (dTest (dOp ne2 (dVar 3) (dC (.int 0))))
  (dRaise a.NoRow (dCons (dC (.str "no row of so many places has that number")) dNil))
  dNx)
  (dRet (dUn tuprevW (dVar 2)))))))
noncomputable def q53(K:PySem.W.Frag)(a:Adr)(r:Nat->List W->FR):List S->SR:=
 (dSet 1 (dOp mulW (dC (.int 2)) (dVar 1)))
noncomputable def q4q(K:PySem.W.Frag)(a:Adr)(r:Nat->List W->FR):List S->SR:=
 (dSeq (dSet 1 (dC (.int 1)))
  (dSeq (dForR 2 rng1 (dCons (dVar 0) dNil)
  (q53 K a r))
  (dRet (dVar 1))))
noncomputable def q89(K:PySem.W.Frag)(a:Adr)(r:Nat->List W->FR):Den W:=
 (dCall (r q36) (dCons (dVar 0) (dCons (dVar 1) dNil)))
noncomputable def q48(K:PySem.W.Frag)(a:Adr)(r:Nat->List W->FR):List S->SR:=
 (dRetF (dCompR rng1 [0] (dCons (dCall (r q2w) (dCons (dVar 0) dNil)) dNil) dYes (q89 K a r)))
noncomputable def q69(K:PySem.W.Frag)(a:Adr)(r:Nat->List W->FR):Den W:=
 (dOrV (dOp isW (dVar 0) (dC .non)) (dOp eq2 (dVar 0) (dVar 1)))
noncomputable def q5y(K:PySem.W.Frag)(a:Adr)(r:Nat->List W->FR):List S->SR:=
 (dSeq (dIfS (dTest (dOp ne2 (dFn len1 (dCons (dVar 0) dNil)) (dFn len1 (dCons (dVar 1) dNil))))
  (dRet (dC (.bl false)))
  dNx)
  (dRet (dFn all1 (dCons (dFz (dCompP [] (srcZ (dCons (dVar 0) (dCons (dVar 1) dNil))) dYes (q69 K a r))) dNil))))
noncomputable def q9w(K:PySem.W.Frag)(a:Adr)(r:Nat->List W->FR):Den W:=
 (dVar 0)
noncomputable def q9x(K:PySem.W.Frag)(a:Adr)(r:Nat->List W->FR):Den Bool:=
 (dTru (dCall (r q37) (dCons (dVar 2) (dCons (dVar 1) dNil))))
noncomputable def q5z(K:PySem.W.Frag)(a:Adr)(r:Nat->List W->FR):List S->SR:=
 (dRetF (dCompP [0] (srcE (dCons (dCall (r q3t) (dCons (dFn len1 (dCons (dVar 0) dNil)) dNil)) dNil)) (q9x K a r) (q9w K a r)))
noncomputable def q54(K:PySem.W.Frag)(a:Adr)(r:Nat->List W->FR):List S->SR:=
 (dIfS (dTest (dOp eq2 (dFn len1 (dCons (dVar 0) dNil)) (dCall (r q2w) (dCons (dVar 1) dNil))))
  (dRet (dVar 1))
  dNx)
noncomputable def q4r(K:PySem.W.Frag)(a:Adr)(r:Nat->List W->FR):List S->SR:=
 (dSeq (dForR 1 rng1 (dCons (dOp addX (dC (.int 10)) (dC (.int 1))) dNil)
  (q54 K a r))
  (dRaise a.NoTable (dCons (dC (.str "no table has that length")) dNil)))
noncomputable def q24(K:PySem.W.Frag)(a:Adr)(r:Nat->List W->FR):List S->SR:=
 (dSeq (dSet 1 (dCall (r q3d) (dCons (dVar 0) dNil)))
  (dSeq (dIfS (dTest (dOp gtW (dVar 1) (dC (.int 4))))
  (dRaise a.NoTable (dCons (dC (.str "no wish has that length")) dNil))
  dNx)
  (dRet (dVar 1))))
noncomputable def x5u(K:PySem.W.Frag)(a:Adr)(r:Nat->List W->FR):Den W:=
 (dOp nisW (dOp ixW (dVar 1) (dVar 0)) (dC (.bl false)))
noncomputable def q9a(K:PySem.W.Frag)(a:Adr)(r:Nat->List W->FR):List S->SR:=
 (dSeq (dIfS (dTest (dOp ne2 (dCall (r q1j) (dCons (dVar 1) dNil)) (dFn len1 (dCons (dVar 0) dNil))))
  (dRet (dC (.bl false)))
  dNx)
  (dRet (dFn all1 (dCons (dFz (dComp [1] (dCall (r q27) (dCons (dVar 0) dNil)) dYes (x5u K a r))) dNil))))
noncomputable def x1g(K:PySem.W.Frag)(a:Adr)(r:Nat->List W->FR):Den W:=
 (dVar 0)
noncomputable def x1h(K:PySem.W.Frag)(a:Adr)(r:Nat->List W->FR):Den Bool:=
 (dTru (dCall (r q3u) (dCons (dVar 0) (dCons (dVar 1) dNil))))
noncomputable def q5m(K:PySem.W.Frag)(a:Adr)(r:Nat->List W->FR):List S->SR:=
 (dRetF (dComp [0] (dCall (r q3e) (dCons (dCall (r q1j) (dCons (dVar 0) dNil)) dNil)) (x1h K a r) (x1g K a r)))
noncomputable def q4y(K:PySem.W.Frag)(a:Adr)(r:Nat->List W->FR):List S->SR:=
 (dExt 3 (dCons (dFz (dLst (dCons (dOp addX (dVar 4) (dTup (dCons (dC .non) dNil))) (dCons (dOp addX (dVar 4) (dTup (dCons (dC (.bl false)) dNil))) (dCons (dOp addX (dVar 4) (dTup (dCons (dC (.bl true)) dNil))) dNil))))) dNil))
noncomputable def q55(K:PySem.W.Frag)(a:Adr)(r:Nat->List W->FR):List S->SR:=
 (dSeq (dSetO 3 (dLst dNil))
  (dSeq (dFor 4 (dVar 1)
  (q4y K a r))
  (dSet 1 (dVar 3))))
noncomputable def q4s(K:PySem.W.Frag)(a:Adr)(r:Nat->List W->FR):List S->SR:=
 (dSeq (dSet 1 (dFz (dLst (dCons (dTup dNil) dNil))))
  (dSeq (dForR 2 rng1 (dCons (dVar 0) dNil)
  (q55 K a r))
  (dRet (dVar 1))))
noncomputable def q9b(K:PySem.W.Frag)(a:Adr)(r:Nat->List W->FR):Den W:=
 (dCall (r q5x) (dCons (dVar 0) (dCons (dVar 1) dNil)))
noncomputable def q9c(K:PySem.W.Frag)(a:Adr)(r:Nat->List W->FR):Den W:=
 (dOp isW (dOp ixW (dVar 1) (dVar 0)) (dC (.bl true)))
noncomputable def q49(K:PySem.W.Frag)(a:Adr)(r:Nat->List W->FR):List S->SR:=
 (dSeq (dIfS (dNot (dTru (dCall (r q5x) (dCons (dVar 0) (dCons (dVar 1) dNil)))))
  (dRet (dC (.bl false)))
  dNx)
  (dSeq (dIfS (dNot (dTru (dFn any1 (dCons (dFz (dComp [1] (dCall (r q27) (dCons (dVar 0) dNil)) dYes (q9c K a r))) dNil))))
  (dRet (dC (.bl false)))
  dNx)
  (dRet (dNotV (dFn any1 (dCons (dFz (dComp [1] (dCall (r q2u) (dCons (dVar 0) dNil)) dYes (q9b K a r))) dNil))))))
noncomputable def q6y(K:PySem.W.Frag)(a:Adr)(r:Nat->List W->FR):Den W:=
 (dOp addX (dOp addX (dSl (dVar 1) dNoPart (dPart (dVar 0))) (dTup (dCons (dC .non) dNil))) (dSl (dVar 1) (dPart (dOp addX (dVar 0) (dC (.int 1)))) dNoPart))
noncomputable def q6z(K:PySem.W.Frag)(a:Adr)(r:Nat->List W->FR):Den Bool:=
 (dTest (dOp nisW (dOp ixW (dVar 1) (dVar 0)) (dC .non)))
noncomputable def q3w(K:PySem.W.Frag)(a:Adr)(r:Nat->List W->FR):List S->SR:=
 (dRetF (dCompR rng1 [0] (dCons (dFn len1 (dCons (dVar 0) dNil)) dNil) (q6z K a r) (q6y K a r)))
noncomputable def q60(K:PySem.W.Frag)(a:Adr)(r:Nat->List W->FR):Den W:=
 (dVar 0)
noncomputable def q61(K:PySem.W.Frag)(a:Adr)(r:Nat->List W->FR):Den Bool:=
 (dTest (dOp isW (dVar 1) (dC (.bl true))))
noncomputable def q3x(K:PySem.W.Frag)(a:Adr)(r:Nat->List W->FR):List S->SR:=
 (dSeq (dDrop (dCall (r q1j) (dCons (dVar 0) dNil)))
  (dRetF (dCompP [] (srcE (dCons (dVar 0) dNil)) (q61 K a r) (q60 K a r))))
noncomputable def q71(K:PySem.W.Frag)(a:Adr)(r:Nat->List W->FR):Den W:=
 (dVar 0)
noncomputable def q72(K:PySem.W.Frag)(a:Adr)(r:Nat->List W->FR):Den Bool:=
 (dTest (dOp ninW (dVar 0) (dVar 1)))
noncomputable def q4t(K:PySem.W.Frag)(a:Adr)(r:Nat->List W->FR):List S->SR:=
 (dRetF (dComp [1] (dVar 0) (q72 K a r) (q71 K a r)))
noncomputable def q5a(K:PySem.W.Frag)(a:Adr)(r:Nat->List W->FR):List S->SR:=
 (dRet (dAndV (dIsi K (.type "int") (dVar 0)) (dNotV (dIsi K (.type "bool") (dVar 0)))))
noncomputable def q3y(K:PySem.W.Frag)(a:Adr)(r:Nat->List W->FR):List S->SR:=
 (dRet (dAndV (dIsi K (.type "tuple") (dVar 0)) (dOp eq2 (dFn len1 (dCons (dVar 0) dNil)) (dVar 1))))
noncomputable def q4b(K:PySem.W.Frag)(a:Adr)(r:Nat->List W->FR):List S->SR:=
 (dRet (dAndV (dOp eq2 (dVar 0) (dVar 1)) (dOp eq2 (dIsi K (.type "bool") (dVar 0)) (dIsi K (.type "bool") (dVar 1)))))
noncomputable def q7h(K:PySem.W.Frag)(a:Adr)(r:Nat->List W->FR):Den W:=
 (dTup (dCons (dVar 0) (dCons (dCall (r q27) (dCons (dVar 0) dNil)) dNil)))
noncomputable def q3k(K:PySem.W.Frag)(a:Adr)(r:Nat->List W->FR):List S->SR:=
 (dRetF (dComp [] (dCall (r q2t) (dCons (dVar 0) dNil)) dYes (q7h K a r)))
noncomputable def x1i(K:PySem.W.Frag)(a:Adr)(r:Nat->List W->FR):Den W:=
 (dVar 0)
noncomputable def x1j(K:PySem.W.Frag)(a:Adr)(r:Nat->List W->FR):Den Bool:=
 (dTest (dOp inW (dVar 1) (dOp ixW (dVar 0) (dC (.int 1)))))
noncomputable def q6q(K:PySem.W.Frag)(a:Adr)(r:Nat->List W->FR):List S->SR:=
 (dRetF (dComp [1] (dVar 0) (x1j K a r) (x1i K a r)))
noncomputable def q25(K:PySem.W.Frag)(a:Adr)(r:Nat->List W->FR):List S->SR:=
 (dSeq (dSet 3 (dCall (r q1v) (dCons (dVar 0) dNil)))
  (dSeq (dIfS (dTest (dOp ltW (dVar 1) (dC (.int 0))))
  (dRet (dOp isW (dVar 2) (dC .non)))
  dNx)
  (dRet (dCall (r q2x) (dCons (dVar 2) (dCons (dVar 3) (dCons (dCall (r q2h) (dCons (dVar 0) dNil)) (dCons (dVar 1) dNil))))))))
noncomputable def q7a(K:PySem.W.Frag)(a:Adr)(r:Nat->List W->FR):Den W:=
 (dCall (r q16) (dCons (dVar 0) (dCons (dVar 1) (dCons (dVar 2) (dCons (dVar 3) (dCons (dVar 4) dNil))))))
noncomputable def q3r(K:PySem.W.Frag)(a:Adr)(r:Nat->List W->FR):List S->SR:=
 (dSeq (dIfS (dNot (dTru (dCall (r q04) (dCons (dVar 0) (dCons (dC (.int 2)) dNil)))))
  (dRet (dC (.bl false)))
  dNx)
  (dSeq (dSet 4 (dOp ixW (dVar 0) (dC (.int 0))))
  (dSeq (dSet 5 (dOp ixW (dVar 0) (dC (.int 1))))
  (dSeq (dIfS (dOr (dNot (dTru (dCall (r q28) (dCons (dVar 4) dNil)))) (dOr (dTest (dOp ninW (dVar 4) (dVar 2))) (dNot (dTru (dIsi K (.type "tuple") (dVar 5))))))
  (dRet (dC (.bl false)))
  dNx)
  (dSeq (dIfS (dTest (dOp eq2 (dVar 3) (dC (.int 0))))
  (dRet (dOp eq2 (dFn len1 (dCons (dVar 5) dNil)) (dC (.int 0))))
  dNx)
  (dSeq (dSet 6 (dCall (r q38) (dCons (dVar 1) (dCons (dVar 4) dNil))))
  (dSeq (dIfS (dTest (dOp ne2 (dFn len1 (dCons (dVar 5) dNil)) (dFn len1 (dCons (dVar 6) dNil))))
  (dRet (dC (.bl false)))
  dNx)
  (dRet (dFn all1 (dCons (dFz (dCompP [1,2,3] (srcZ (dCons (dVar 5) (dCons (dVar 6) dNil))) dYes (q7a K a r))) dNil))))))))))
noncomputable def q32(K:PySem.W.Frag)(a:Adr)(r:Nat->List W->FR):List S->SR:=
 (dSeq (dIfS (dOr (dNot (dTru (dCall (r q04) (dCons (dVar 0) (dCons (dC (.int 2)) dNil))))) (dNot (dTru (dCall (r q39) (dCons (dOp ixW (dVar 0) (dC (.int 0))) (dCons (dOp ixW (dVar 1) (dC (.int 0))) dNil))))))
  (dRet (dC (.bl false)))
  dNx)
  (dRet (dCall (r q2x) (dCons (dOp ixW (dVar 0) (dC (.int 1))) (dCons (dVar 2) (dCons (dCall (r q3f) (dCons (dVar 3) (dCons (dOp ixW (dVar 1) (dC (.int 1))) dNil))) (dCons (dOp subW (dVar 4) (dC (.int 1))) dNil)))))))
noncomputable def q7b(K:PySem.W.Frag)(a:Adr)(r:Nat->List W->FR):Den W:=
 (dCall (r q20) (dCons (dVar 0) (dCons (dVar 1) dNil)))
noncomputable def q50(K:PySem.W.Frag)(a:Adr)(r:Nat->List W->FR):List S->SR:=
 (dSeq (dIfS (dNot (dTru (dCall (r q04) (dCons (dVar 0) (dCons (dFn len1 (dCons (dVar 1) dNil)) dNil)))))
  (dRet (dC (.bl false)))
  dNx)
  (dRet (dFn all1 (dCons (dFz (dCompP [] (srcZ (dCons (dVar 0) (dCons (dVar 1) dNil))) dYes (q7b K a r))) dNil))))
noncomputable def q3l(K:PySem.W.Frag)(a:Adr)(r:Nat->List W->FR):List S->SR:=
 (dSeq (dIfS (dTest (dOp ltW (dVar 1) (dFn len1 (dCons (dVar 0) dNil))))
  (dRet (dOp ixW (dVar 0) (dVar 1)))
  dNx)
  (dRet (dC (.int 0))))
noncomputable def q5b(K:PySem.W.Frag)(a:Adr)(r:Nat->List W->FR):List S->SR:=
 (dSeq (dSet 3 (dOp modW (dOp addX (dOp addX (dOp mulW (dCall (r q1o) (dCons (dVar 0) (dCons (dVar 1) dNil))) (dC (.int 48271))) (dOp mulW (dC (.int 7919)) (dFn len1 (dCons (dVar 0) dNil)))) (dOp mulW (dC (.int 104729)) (dVar 1))) (dC (.int 2147483647))))
  (dRet (dOp modW (dOp modW (dOp mulW (dVar 3) (dVar 3)) (dC (.int 2147483647))) (dVar 2))))
noncomputable def q4u(K:PySem.W.Frag)(a:Adr)(r:Nat->List W->FR):List S->SR:=
 (dSeq (dSet 2 (dOp addX (dOp addX (dOp mulW (dCall (r q1o) (dCons (dVar 0) (dCons (dOp addX (dC (.int 4)) (dVar 1)) dNil))) (dC (.int 40692))) (dOp mulW (dOp mulW (dCall (r q1o) (dCons (dVar 0) (dCons (dC (.int 3)) dNil))) (dC (.int 48271))) (dOp addX (dVar 1) (dC (.int 1))))) (dOp mulW (dC (.int 7919)) (dVar 1))))
  (dRet (dOp modW (dOp mulB (dVar 2) (dVar 2)) (dC (.int 2147483399)))))
noncomputable def q73(K:PySem.W.Frag)(a:Adr)(r:Nat->List W->FR):Den W:=
 (dOp mulW (dC (.int 2)) (dVar 0))
noncomputable def q74(K:PySem.W.Frag)(a:Adr)(r:Nat->List W->FR):Den W:=
 (dOp addX (dOp mulW (dC (.int 2)) (dVar 0)) (dC (.int 1)))
noncomputable def q75(K:PySem.W.Frag)(a:Adr)(r:Nat->List W->FR):Den W:=
 (dOp addX (dOp mulW (dC (.int 2)) (dVar 0)) (dFn int1 (dCons (dVar 1) dNil)))
noncomputable def q26(K:PySem.W.Frag)(a:Adr)(r:Nat->List W->FR):List S->SR:=
 (dIfS (dTest (dOp isW (dVar 2) (dC .non)))
  (dSet 1 (dOp addX (dFz (dComp [] (dVar 1) dYes (q73 K a r))) (dFz (dComp [] (dVar 1) dYes (q74 K a r)))))
  (dSet 1 (dFz (dComp [2] (dVar 1) dYes (q75 K a r)))))
noncomputable def q4v(K:PySem.W.Frag)(a:Adr)(r:Nat->List W->FR):List S->SR:=
 (dSeq (dSet 1 (dFz (dLst (dCons (dC (.int 0)) dNil))))
  (dSeq (dFor 2 (dVar 0)
  (q26 K a r))
  (dRet (dFn sorted1 (dCons (dVar 1) dNil)))))
noncomputable def q23(K:PySem.W.Frag)(a:Adr)(r:Nat->List W->FR):Den W:=
 (dOp ixW (dVar 2) (dOp modW (dCall (r q0y) (dCons (dVar 1) (dCons (dVar 0) dNil))) (dFn len1 (dCons (dVar 2) dNil))))
noncomputable def q3m(K:PySem.W.Frag)(a:Adr)(r:Nat->List W->FR):List S->SR:=
 (dSeq (dSet 2 (dFz (dLst (dCons (dFz (dLst (dCons (dC (.bl false)) (dCons (dC (.bl true)) (dCons (dC .non) dNil))))) (dCons (dFz (dLst (dCons (dC (.bl false)) (dCons (dC (.bl true)) (dCons (dC (.bl true)) dNil))))) (dCons (dFz (dLst (dCons (dC (.bl false)) (dCons (dC (.bl false)) (dCons (dC (.bl true)) (dCons (dC .non) dNil)))))) (dCons (dFz (dLst (dCons (dC (.bl true)) (dCons (dC (.bl true)) (dCons (dC .non) (dCons (dC (.bl false)) (dCons (dC (.bl true)) dNil))))))) dNil)))))))
  (dSeq (dSet 2 (dOp addX (dVar 2) (dFz (dLst (dCons (dFz (dLst (dCons (dC (.bl false)) (dCons (dC (.bl true)) dNil)))) (dCons (dFz (dLst (dCons (dC (.bl false)) (dCons (dC (.bl true)) dNil)))) (dCons (dFz (dLst (dCons (dC (.bl false)) (dCons (dC .non) (dCons (dC (.bl true)) dNil))))) (dCons (dFz (dLst (dCons (dC (.bl true)) (dCons (dC (.bl false)) (dCons (dC (.bl false)) (dCons (dC (.bl false)) dNil)))))) dNil))))))))
  (dSeq (dSet 3 (dOp ixW (dVar 2) (dCall (r q0q) (dCons (dVar 0) (dCons (dC (.int 1)) (dCons (dC (.int 8)) dNil))))))
  (dSeq (dSet 4 (dCall (r q0q) (dCons (dVar 0) (dCons (dC (.int 2)) (dCons (dC (.int 20)) dNil)))))
  (dSeq (dIfS (dTest (dOp ltW (dVar 4) (dC (.int 3))))
  (dSet 3 (dOp ixW (dFz (dLst (dCons (dFz (dLst (dCons (dC (.bl true)) dNil))) (dCons (dFz (dLst (dCons (dC (.bl false)) dNil))) (dCons (dFz (dLst (dCons (dC .non) dNil))) dNil))))) (dVar 4)))
  dNx)
  (dRetF (dCompR rng1 [0,3] (dCons (dOp ixW (dFz (dLst (dCons (dC (.int 1)) (dCons (dC (.int 2)) (dCons (dC (.int 4)) (dCons (dC (.int 8)) (dCons (dC (.int 16)) dNil))))))) (dVar 1)) dNil) dYes (q23 K a r))))))))
noncomputable def q4n(K:PySem.W.Frag)(a:Adr)(r:Nat->List W->FR):Den W:=
 (dOp ixW (dFz (dLst (dCons (dC (.bl true)) (dCons (dC (.bl false)) (dCons (dC .non) dNil))))) (dOp modW (dCall (r q0y) (dCons (dVar 1) (dCons (dVar 0) dNil))) (dC (.int 3))))
noncomputable def q29(K:PySem.W.Frag)(a:Adr)(r:Nat->List W->FR):List S->SR:=
 (dSeq (dSet 1 (dOp ixW (dFz (dLst (dCons (dC (.int 0)) (dCons (dC (.int 3)) (dCons (dC (.int 5)) (dCons (dC (.int 6)) (dCons (dC (.int 7)) (dCons (dC (.int 9)) (dCons (dC (.int 12)) (dCons (dC (.int 15)) (dCons (dC (.int 17)) (dCons (dC (.int 24)) (dCons (dC (.int 31)) (dCons (dC (.int 32)) (dCons (dC (.int 64)) dNil))))))))))))))) (dCall (r q0q) (dCons (dVar 0) (dCons (dC (.int 2)) (dCons (dC (.int 13)) dNil))))))
  (dRetF (dCompR rng1 [0] (dCons (dVar 1) dNil) dYes (q4n K a r))))
noncomputable def q5c(K:PySem.W.Frag)(a:Adr)(r:Nat->List W->FR):Den W:=
 (dVar 0)
noncomputable def q5d(K:PySem.W.Frag)(a:Adr)(r:Nat->List W->FR):Den Bool:=
 (dTest (dOp inW (dVar 1) (dCall (r q2y) (dCons (dVar 0) dNil))))
noncomputable def q5e(K:PySem.W.Frag)(a:Adr)(r:Nat->List W->FR):List S->SR:=
 (dIfS (dTest (dOp isW (dOp ixW (dVar 0) (dVar 3)) (dC (.bl true))))
  (dPutI 2 (dFz (dComp [3] (dVar 1) (q5d K a r) (q5c K a r))) (dVar 3))
  dNx)
noncomputable def q3z(K:PySem.W.Frag)(a:Adr)(r:Nat->List W->FR):List S->SR:=
 (dSeq (dSetW 2 .int)
  (dSeq (dForR 3 rng1 (dCons (dFn len1 (dCons (dVar 0) dNil)) dNil)
  (q5e K a r))
  (dRetW 2)))
noncomputable def q76(K:PySem.W.Frag)(a:Adr)(r:Nat->List W->FR):Den W:=
 (dVar 0)
noncomputable def q77(K:PySem.W.Frag)(a:Adr)(r:Nat->List W->FR):Den Bool:=
 (dTest (dOp ninW (dVar 0) (dVar 1)))
noncomputable def q4w(K:PySem.W.Frag)(a:Adr)(r:Nat->List W->FR):List S->SR:=
 (dSeq (dSet 2 (dCall (r q2y) (dCons (dVar 1) dNil)))
  (dRetF (dComp [2] (dVar 0) (q77 K a r) (q76 K a r))))
noncomputable def q78(K:PySem.W.Frag)(a:Adr)(r:Nat->List W->FR):Den W:=
 (dTup (dCons (dVar 0) (dCons (dCall (r q17) (dCons (dVar 1) (dCons (dCall (r q1w) (dCons (dVar 2) (dCons (dVar 0) dNil))) (dCons (dOp subW (dVar 3) (dC (.int 1))) (dCons (dOp addX (dOp fdivW (dVar 4) (dC (.int 7))) (dC (.int 3))) dNil))))) dNil)))
noncomputable def q33(K:PySem.W.Frag)(a:Adr)(r:Nat->List W->FR):List S->SR:=
 (dSeq (dIfS (dTest (dOp eq2 (dVar 1) (dFz (dLst dNil))))
  (dRet (dC .non))
  dNx)
  (dSeq (dSet 4 (dOp ixW (dVar 1) (dOp mulW (dOp modW (dVar 3) (dFn len1 (dCons (dVar 1) dNil))) (dOp fdivW (dOp modW (dOp fdivW (dVar 3) (dC (.int 16))) (dC (.int 3))) (dC (.int 2))))))
  (dSeq (dIfS (dTest (dOp eq2 (dVar 2) (dC (.int 0))))
  (dRet (dTup (dCons (dVar 4) (dCons (dTup dNil) dNil))))
  dNx)
  (dSeq (dSet 5 (dFz (dComp [0,1,2,3] (dOp ixI (dVar 0) (dVar 4)) dYes (q78 K a r))))
  (dRet (dTup (dCons (dVar 4) (dCons (dFn tup1 (dCons (dVar 5) dNil)) dNil))))))))
noncomputable def q40(K:PySem.W.Frag)(a:Adr)(r:Nat->List W->FR):Den W:=
 (dIf (dTest (dOp isW (dVar 0) (dC .non))) (dC .non) (dFn int1 (dCons (dVar 0) dNil)))
noncomputable def q2z(K:PySem.W.Frag)(a:Adr)(r:Nat->List W->FR):List S->SR:=
 (dSeq (dIfS (dOr (dNot (dTru (dIsi K (.type "tuple") (dVar 0)))) (dOr (dTest (dOp ne2 (dFn len1 (dCons (dVar 0) dNil)) (dC (.int 2)))) (dNot (dTru (dIsi K (.type "tuple") (dOp ixW (dVar 0) (dC (.int 1))))))))
  (dRet (dOp ixW (dFz (dLst (dCons (dTup (dCons (dC (.int 0)) (dCons (dTup dNil) dNil))) (dCons (dC (.bl true)) (dCons (dTup dNil) dNil))))) (dOp modW (dVar 1) (dC (.int 3)))))
  dNx)
  (dSeq (dSet 2 (dOp ixW (dVar 0) (dC (.int 0))))
  (dSeq (dSet 3 (dOp ixW (dVar 0) (dC (.int 1))))
  (dSeq (dIfS (dAnd (dTest (dOp ne2 (dVar 3) (dTup dNil))) (dTest (dOp eq2 (dOp modW (dVar 1) (dC (.int 3))) (dC (.int 1)))))
  (dSeq (dSet 4 (dOp modW (dOp fdivW (dVar 1) (dC (.int 3))) (dFn len1 (dCons (dVar 3) dNil))))
  (dSeq (dSet 5 (dTup (dCons (dOp ixW (dOp ixW (dVar 3) (dVar 4)) (dC (.int 0))) (dCons (dCall (r q01) (dCons (dOp ixW (dOp ixW (dVar 3) (dVar 4)) (dC (.int 1))) (dCons (dOp fdivW (dOp fdivW (dVar 1) (dC (.int 3))) (dFn len1 (dCons (dVar 3) dNil))) dNil))) dNil))))
  (dRet (dTup (dCons (dVar 2) (dCons (dOp addX (dOp addX (dSlX (dVar 3) dNoPart (dPart (dVar 4))) (dTup (dCons (dVar 5) dNil))) (dSlX (dVar 3) (dPart (dOp addX (dVar 4) (dC (.int 1)))) dNoPart)) dNil))))))
  dNx)
  (dSeq (dSet 6 (dOp ixW (dOp addX (dOp addX (dOp addX (dFz (dLst (dCons (dC (.int 0)) (dCons (dC (.int 1)) (dCons (dC (.int 2)) (dCons (dC (.int 3)) (dCons (dC (.int 4)) (dCons (dC (.int 5)) (dCons (dC (.int 6)) (dCons (dC (.int 7)) (dCons (dC (.int 8)) (dCons (dC (.int 9)) (dCons (dC (.int 10)) (dCons (dC (.int 11)) dNil)))))))))))))) (dOp repW (dFz (dLst (dCons (dC (.int 1)) dNil))) (dC (.int 6)))) (dOp repW (dFz (dLst (dCons (dC (.int 7)) dNil))) (dC (.int 8)))) (dOp repW (dFz (dLst (dCons (dC (.int 4)) dNil))) (dC (.int 6)))) (dOp modW (dOp fdivW (dVar 1) (dC (.int 3))) (dC (.int 32)))))
  (dSeq (dIfS (dAnd (dTest (dOp gtW (dVar 6) (dC (.int 6)))) (dAnd (dTest (dOp ltW (dVar 6) (dC (.int 10)))) (dTest (dOp ne2 (dVar 3) (dTup dNil)))))
  (dSeq (dSet 4 (dOp modW (dOp fdivW (dVar 1) (dC (.int 96))) (dFn len1 (dCons (dVar 3) dNil))))
  (dSeq (dSet 7 (dOp ixW (dVar 3) (dVar 4)))
  (dSeq (dSet 5 (dTup (dCons (dFn tup1 (dCons (dFz (dComp [] (dOp ixW (dVar 7) (dC (.int 0))) dYes (q40 K a r))) dNil)) (dCons (dOp ixW (dVar 7) (dC (.int 1))) dNil))))
  (dSeq (dIfS (dTest (dOp eq2 (dVar 6) (dC (.int 8))))
  (dRet (dTup (dCons (dVar 2) (dCons (dOp addX (dSlX (dVar 3) (dPart (dOp addX (dVar 4) (dC (.int 1)))) dNoPart) (dSlX (dVar 3) dNoPart (dPart (dOp addX (dVar 4) (dC (.int 1)))))) dNil))))
  dNx)
  (dSeq (dIfS (dTest (dOp eq2 (dVar 6) (dC (.int 9))))
  (dSet 5 (dOp addX (dVar 7) (dTup (dCons (dC .non) dNil))))
  dNx)
  (dRet (dTup (dCons (dVar 2) (dCons (dOp addX (dOp addX (dSlX (dVar 3) dNoPart (dPart (dVar 4))) (dTup (dCons (dVar 5) dNil))) (dSlX (dVar 3) (dPart (dOp addX (dVar 4) (dC (.int 1)))) dNoPart)) dNil)))))))))
  dNx)
  (dSeq (dSet 8 (dFz (dLst (dCons (dTup (dCons (dOp addX (dVar 2) (dC (.int 1))) (dCons (dVar 3) dNil))) (dCons (dTup (dCons (dOp gtW (dVar 2) (dC (.int 0))) (dCons (dVar 3) dNil))) (dCons (dTup (dCons (dVar 2) (dCons (dTup dNil) dNil))) (dCons (dTup (dCons (dVar 2) (dCons (dSlX (dVar 3) dNoPart (dPart (dUn negW (dC (.int 1))))) dNil))) (dCons (dTup (dCons (dVar 2) (dCons (dOp addX (dVar 3) (dTup (dCons (dTup dNil) dNil))) dNil))) dNil))))))))
  (dSeq (dSet 8 (dOp addX (dVar 8) (dFz (dLst (dCons (dC .non) (dCons (dTup (dCons (dVar 2) (dCons (dFz (dList (dCons (dVar 3) dNil))) dNil))) (dCons (dTup (dCons (dVar 2) dNil)) (dCons (dTup (dCons (dOp subW (dVar 2) (dC (.int 1))) (dCons (dVar 3) dNil))) (dCons (dTup (dCons (dVar 2) (dCons (dVar 3) (dCons (dC (.int 0)) dNil)))) dNil)))))))))
  (dRet (dOp ixW (dOp addX (dVar 8) (dFz (dLst (dCons (dTup (dCons (dVar 2) (dCons (dVar 3) (dCons (dC .non) dNil)))) (dCons (dTup (dCons (dVar 3) (dCons (dVar 2) dNil))) dNil))))) (dVar 6)))))))))))
noncomputable def q41(K:PySem.W.Frag)(a:Adr)(r:Nat->List W->FR):Den W:=
 (dVar 0)
noncomputable def q42(K:PySem.W.Frag)(a:Adr)(r:Nat->List W->FR):Den Bool:=
 (dAnd (dTest (dOp nisW (dVar 0) (dC .non))) (dNot (dTru (dIsi K (.type "bool") (dVar 0)))))
noncomputable def q3n(K:PySem.W.Frag)(a:Adr)(r:Nat->List W->FR):List S->SR:=
 (dSeq (dIfS (dNot (dTru (dIsi K (.type "tuple") (dVar 0))))
  (dRet (dC (.bl false)))
  dNx)
  (dRet (dOp eq2 (dFz (dComp [] (dVar 0) (q42 K a r) (q41 K a r))) (dFz (dLst dNil)))))
noncomputable def q3o(K:PySem.W.Frag)(a:Adr)(r:Nat->List W->FR):List S->SR:=
 (dSeq (dSet 6 (dOp ixW (dOp ixW (dVar 3) (dC (.int 1))) (dVar 5)))
  (dSeq (dIfS (dOr (dNot (dTru (dIsi K (.type "tuple") (dVar 6)))) (dOr (dTest (dOp ne2 (dFn len1 (dCons (dVar 6) dNil)) (dC (.int 2)))) (dOr (dNot (dTru (dCall (r q1e) (dCons (dOp ixW (dVar 6) (dC (.int 0))) dNil)))) (dTest (dOp ne2 (dOp ixW (dVar 6) (dC (.int 0))) (dOp ixW (dVar 4) (dVar 5)))))))
  (dRet (dC (.bl false)))
  dNx)
  (dIfS (dNot (dTru (dCall (r q1p) (dCons (dVar 0) (dCons (dCall (r q1w) (dCons (dVar 1) (dCons (dOp ixW (dVar 4) (dVar 5)) dNil))) (dCons (dOp subW (dVar 2) (dC (.int 1))) (dCons (dOp ixW (dVar 6) (dC (.int 1))) dNil)))))))
  (dRet (dC (.bl false)))
  dNx)))
noncomputable def q3a(K:PySem.W.Frag)(a:Adr)(r:Nat->List W->FR):List S->SR:=
 (dSeq (dIfS (dOr (dNot (dTru (dIsi K (.type "tuple") (dVar 3)))) (dTest (dOp ne2 (dFn len1 (dCons (dVar 3) dNil)) (dC (.int 2)))))
  (dRet (dC (.bl false)))
  dNx)
  (dSeq (dIfS (dOr (dNot (dTru (dIsi K (.type "int") (dOp ixW (dVar 3) (dC (.int 0)))))) (dOr (dTru (dIsi K (.type "bool") (dOp ixW (dVar 3) (dC (.int 0))))) (dTest (dOp ninW (dOp ixW (dVar 3) (dC (.int 0))) (dVar 1)))))
  (dRet (dC (.bl false)))
  dNx)
  (dSeq (dIfS (dOr (dNot (dTru (dIsi K (.type "tuple") (dOp ixW (dVar 3) (dC (.int 1)))))) (dTest (dOp eq2 (dVar 2) (dC (.int 0)))))
  (dRet (dOp eq2 (dOp ixW (dVar 3) (dC (.int 1))) (dTup dNil)))
  dNx)
  (dSeq (dSet 4 (dOp ixI (dVar 0) (dOp ixW (dVar 3) (dC (.int 0)))))
  (dSeq (dIfS (dTest (dOp ne2 (dFn len1 (dCons (dOp ixW (dVar 3) (dC (.int 1))) dNil)) (dFn len1 (dCons (dVar 4) dNil))))
  (dRet (dC (.bl false)))
  dNx)
  (dSeq (dForR 5 rng1 (dCons (dFn len1 (dCons (dVar 4) dNil)) dNil)
  (q3o K a r))
  (dRet (dC (.bl true)))))))))
noncomputable def q4o(K:PySem.W.Frag)(a:Adr)(r:Nat->List W->FR):Den W:=
 (dNotV (dVar 0))
noncomputable def q4p(K:PySem.W.Frag)(a:Adr)(r:Nat->List W->FR):List S->SR:=
 (dSet 1 (dOp addX (dVar 1) (dFz (dComp [] (dVar 1) dYes (q4o K a r)))))
noncomputable def q3b(K:PySem.W.Frag)(a:Adr)(r:Nat->List W->FR):List S->SR:=
 (dSeq (dSet 1 (dFz (dLst (dCons (dC (.bl false)) dNil))))
  (dSeq (dForR 2 rng1 (dCons (dVar 0) dNil)
  (q4p K a r))
  (dRet (dVar 1))))
noncomputable def q3p(K:PySem.W.Frag)(a:Adr)(r:Nat->List W->FR):List S->SR:=
 (dSeq (dTry K a.CircuitError 2 3
  (dDrop (dCall (r q05) (dCons (dVar 0) (dCons (dVar 1) (dCons (dC .non) dNil)))))
  (dRet (dIsi K (.ref a.NoTable) (dVar 2))))
  (dRet (dC (.bl false))))
noncomputable def q9r(K:PySem.W.Frag)(a:Adr)(r:Nat->List W->FR):Den W:=
 (dOp ninW (dVar 0) (dTup (dCons (dVar 1) (dCons (dOp subW (dC (.int 7)) (dVar 1)) dNil))))
noncomputable def x1k(K:PySem.W.Frag)(a:Adr)(r:Nat->List W->FR):List S->SR:=
 (dSeq (dIfS (dTest (dOp eq2 (dOp fdivW (dCall (r q0q) (dCons (dVar 0) (dCons (dC (.int 0)) (dCons (dC (.int 80)) dNil)))) (dC (.int 10))) (dC (.int 1))))
  (dRet (dCall (r q1q) (dCons (dCall (r q1s) (dCons (dVar 0) dNil)) (dCons (dOp subW (dCall (r q0q) (dCons (dVar 0) (dCons (dC (.int 3)) (dCons (dC (.int 4)) dNil)))) (dC (.int 1))) dNil))))
  dNx)
  (dSeq (dSet 1 (dOp ixW (dFz (dLst (dCons (dC (.int 0)) (dCons (dC (.int 1)) (dCons (dC (.int 2)) (dCons (dC (.int 3)) (dCons (dC (.int 1)) (dCons (dC (.int 2)) (dCons (dC (.int 3)) (dCons (dC (.int 2)) (dCons (dC (.int 3)) (dCons (dC (.int 4)) dNil)))))))))))) (dCall (r q0q) (dCons (dVar 0) (dCons (dC (.int 0)) (dCons (dC (.int 10)) dNil))))))
  (dSeq (dSet 2 (dCall (r q14) (dCons (dVar 0) (dCons (dVar 1) dNil))))
  (dSeq (dSet 3 (dOp subW (dCall (r q0q) (dCons (dVar 0) (dCons (dC (.int 3)) (dCons (dC (.int 5)) dNil)))) (dC (.int 1))))
  (dSeq (dIfS (dTest (dOp eq2 (dCall (r q0q) (dCons (dVar 0) (dCons (dC (.int 1)) (dCons (dC (.int 7)) dNil)))) (dC (.int 3))))
  (dSeq (dSet 2 (dCall (r q1t) (dCons (dOp addX (dC (.int 3)) (dCall (r q0q) (dCons (dVar 0) (dCons (dC (.int 0)) (dCons (dC (.int 2)) dNil))))) dNil)))
  (dSet 3 (dOp subW (dCall (r q0q) (dCons (dVar 0) (dCons (dC (.int 3)) (dCons (dC (.int 10)) dNil)))) (dC (.int 1)))))
  dNx)
  (dSeq (dIfS (dTest (dOp gtW (dCall (r q0q) (dCons (dVar 0) (dCons (dC (.int 1)) (dCons (dC (.int 7)) dNil)))) (dC (.int 4))))
  (dSeq (dSet 4 (dOp modW (dCall (r q0y) (dCons (dVar 0) (dCons (dC (.int 23)) dNil))) (dC (.int 8))))
  (dSeq (dSet 2 (dFz (dCompR rng1 [4] (dCons (dC (.int 8)) dNil) dYes (q9r K a r))))
  (dSet 3 (dOp addX (dC (.int 1)) (dCall (r q0q) (dCons (dVar 0) (dCons (dC (.int 3)) (dCons (dC (.int 3)) dNil))))))))
  dNx)
  (dSeq (dSetDI 5 (r q11) (dCons (dVar 2) (dCons (dCall (r q2t) (dCons (dVar 2) dNil)) dNil)))
  (dSeq (dSet 6 (dC .non))
  (dSeq (dIfS (dTest (dOp gtW (dVar 3) (dUn negW (dC (.int 1)))))
  (dSet 6 (dCall (r q17) (dCons (dVar 5) (dCons (dFz (dListW (dVar 5))) (dCons (dVar 3) (dCons (dCall (r q0y) (dCons (dVar 0) (dCons (dC (.int 20)) dNil))) dNil))))))
  dNx)
  (dSeq (dIfS (dTest (dOp gtW (dOp modW (dCall (r q0y) (dCons (dVar 0) (dCons (dC (.int 22)) dNil))) (dC (.int 3))) (dC (.int 0))))
  (dSet 6 (dCall (r q01) (dCons (dVar 6) (dCons (dCall (r q0y) (dCons (dVar 0) (dCons (dC (.int 21)) dNil))) dNil))))
  dNx)
  (dSeq (dSet 7 (dOp isW (dVar 6) (dC .non)))
  (dSeq (dIfS (dTest (dOp gtW (dVar 3) (dUn negW (dC (.int 1)))))
  (dSet 7 (dCall (r q1p) (dCons (dVar 5) (dCons (dFz (dListW (dVar 5))) (dCons (dVar 3) (dCons (dVar 6) dNil))))))
  dNx)
  (dSeq (dSet 8 (dCall (r q05) (dCons (dFz (dList (dCons (dVar 2) dNil))) (dCons (dVar 3) (dCons (dVar 6) dNil)))))
  (dRet (dAndV (dIsi K (.type "bool") (dVar 8)) (dOp eq2 (dVar 8) (dVar 7)))))))))))))))))
noncomputable def body(K:PySem.W.Frag)(a:Adr)(r:Nat->List W->FR)(ws:List W):Nat->FR
 |0=>if ws.length=2 then(q6p K a r (init 5 ws)).fn else .no
 |1=>if ws.length=1 then(q4q K a r (init 3 ws)).fn else .no
 |2=>if ws.length=1 then(q48 K a r (init 1 ws)).fn else .no
 |3=>if ws.length=2 then(q5y K a r (init 2 ws)).fn else .no
 |4=>if ws.length=1 then(q5z K a r (init 1 ws)).fn else .no
 |5=>if ws.length=1 then(q4r K a r (init 2 ws)).fn else .no
 |6=>if ws.length=1 then(q24 K a r (init 2 ws)).fn else .no
 |7=>if ws.length=2 then(q9a K a r (init 2 ws)).fn else .no
 |8=>if ws.length=1 then(q5m K a r (init 1 ws)).fn else .no
 |9=>if ws.length=1 then(q4s K a r (init 5 ws)).fn else .no
 |10=>if ws.length=2 then(q49 K a r (init 2 ws)).fn else .no
 |11=>if ws.length=1 then(q3w K a r (init 1 ws)).fn else .no
 |12=>if ws.length=1 then(q3x K a r (init 1 ws)).fn else .no
 |13=>if ws.length=2 then(q4t K a r (init 2 ws)).fn else .no
 |14=>if ws.length=1 then(q5a K a r (init 1 ws)).fn else .no
 |15=>if ws.length=2 then(q3y K a r (init 2 ws)).fn else .no
 |16=>if ws.length=2 then(q4b K a r (init 2 ws)).fn else .no
 |17=>if ws.length=1 then(q3k K a r (init 1 ws)).fn else .no
 |18=>if ws.length=2 then(q6q K a r (init 2 ws)).fn else .no
 |19=>if ws.length=3 then(q25 K a r (init 4 ws)).fn else .no
 |20=>if ws.length=4 then(q3r K a r (init 7 ws)).fn else .no
 |21=>if ws.length=5 then(q32 K a r (init 5 ws)).fn else .no
 |22=>if ws.length=2 then(q50 K a r (init 2 ws)).fn else .no
 |23=>if ws.length=2 then(q3l K a r (init 2 ws)).fn else .no
 |24=>if ws.length=3 then(q5b K a r (init 4 ws)).fn else .no
 |25=>if ws.length=2 then(q4u K a r (init 3 ws)).fn else .no
 |26=>if ws.length=1 then(q4v K a r (init 3 ws)).fn else .no
 |27=>if ws.length=2 then(q3m K a r (init 5 ws)).fn else .no
 |28=>if ws.length=1 then(q29 K a r (init 2 ws)).fn else .no
 |29=>if ws.length=2 then(q3z K a r (init 4 ws)).fn else .no
 |30=>if ws.length=2 then(q4w K a r (init 3 ws)).fn else .no
 |31=>if ws.length=4 then(q33 K a r (init 6 ws)).fn else .no
 |32=>if ws.length=2 then(q2z K a r (init 9 ws)).fn else .no
 |33=>if ws.length=1 then(q3n K a r (init 1 ws)).fn else .no
 |34=>if ws.length=4 then(q3a K a r (init 7 ws)).fn else .no
 |35=>if ws.length=1 then(q3b K a r (init 3 ws)).fn else .no
 |36=>if ws.length=2 then(q3p K a r (init 3 ws)).fn else .no
 |37=>if ws.length=1 then(x1k K a r (init 9 ws)).fn else .no
 |_=>.no
noncomputable def run(K:PySem.W.Frag)(a:Adr):Nat->Nat->List W->FR
 |0,_,_=>.no
 |n+1,i,ws=>body K a (run K a n) ws i
theorem x1l:run K a (n+1) q36 ws=if ws.length=2 then(q6p K a (run K a n) (init 5 ws)).fn else .no:=rfl
theorem q79:run K a (n+1) q2w ws=if ws.length=1 then(q4q K a (run K a n) (init 3 ws)).fn else .no:=rfl
theorem q9d:run K a (n+1) q3t ws=if ws.length=1 then(q48 K a (run K a n) (init 1 ws)).fn else .no:=rfl
theorem q9y:run K a (n+1) q37 ws=if ws.length=2 then(q5y K a (run K a n) (init 2 ws)).fn else .no:=rfl
theorem q9z:run K a (n+1) q27 ws=if ws.length=1 then(q5z K a (run K a n) (init 1 ws)).fn else .no:=rfl
theorem q8a:run K a (n+1) q3d ws=if ws.length=1 then(q4r K a (run K a n) (init 2 ws)).fn else .no:=rfl
theorem q5f:run K a (n+1) q1j ws=if ws.length=1 then(q24 K a (run K a n) (init 2 ws)).fn else .no:=rfl
theorem x5v:run K a (n+1) q5x ws=if ws.length=2 then(q9a K a (run K a n) (init 2 ws)).fn else .no:=rfl
theorem q70:run K a (n+1) q2t ws=if ws.length=1 then(q5m K a (run K a n) (init 1 ws)).fn else .no:=rfl
theorem q8b:run K a (n+1) q3e ws=if ws.length=1 then(q4s K a (run K a n) (init 5 ws)).fn else .no:=rfl
theorem q9e:run K a (n+1) q3u ws=if ws.length=2 then(q49 K a (run K a n) (init 2 ws)).fn else .no:=rfl
theorem q62:run K a (n+1) q2u ws=if ws.length=1 then(q3w K a (run K a n) (init 1 ws)).fn else .no:=rfl
theorem q63:run K a (n+1) q2h ws=if ws.length=1 then(q3x K a (run K a n) (init 1 ws)).fn else .no:=rfl
theorem q8c:run K a (n+1) q3f ws=if ws.length=2 then(q4t K a (run K a n) (init 2 ws)).fn else .no:=rfl
theorem q9f:run K a (n+1) q28 ws=if ws.length=1 then(q5a K a (run K a n) (init 1 ws)).fn else .no:=rfl
theorem q64:run K a (n+1) q04 ws=if ws.length=2 then(q3y K a (run K a n) (init 2 ws)).fn else .no:=rfl
theorem q7i:run K a (n+1) q20 ws=if ws.length=2 then(q4b K a (run K a n) (init 2 ws)).fn else .no:=rfl
theorem q5n:run K a (n+1) q1v ws=if ws.length=1 then(q3k K a (run K a n) (init 1 ws)).fn else .no:=rfl
theorem x1m:run K a (n+1) q38 ws=if ws.length=2 then(q6q K a (run K a n) (init 2 ws)).fn else .no:=rfl
theorem q5g:run K a (n+1) q05 ws=if ws.length=3 then(q25 K a (run K a n) (init 4 ws)).fn else .no:=rfl
theorem q7c:run K a (n+1) q2x ws=if ws.length=4 then(q3r K a (run K a n) (init 7 ws)).fn else .no:=rfl
theorem q56:run K a (n+1) q16 ws=if ws.length=5 then(q32 K a (run K a n) (init 5 ws)).fn else .no:=rfl
theorem q90:run K a (n+1) q39 ws=if ws.length=2 then(q50 K a (run K a n) (init 2 ws)).fn else .no:=rfl
theorem q6r:run K a (n+1) q1o ws=if ws.length=2 then(q3l K a (run K a n) (init 2 ws)).fn else .no:=rfl
theorem q9g:run K a (n+1) q0q ws=if ws.length=3 then(q5b K a (run K a n) (init 4 ws)).fn else .no:=rfl
theorem q8d:run K a (n+1) q0y ws=if ws.length=2 then(q4u K a (run K a n) (init 3 ws)).fn else .no:=rfl
theorem q8e:run K a (n+1) q2y ws=if ws.length=1 then(q4v K a (run K a n) (init 3 ws)).fn else .no:=rfl
theorem q6s:run K a (n+1) q14 ws=if ws.length=2 then(q3m K a (run K a n) (init 5 ws)).fn else .no:=rfl
theorem q58:run K a (n+1) q1s ws=if ws.length=1 then(q29 K a (run K a n) (init 2 ws)).fn else .no:=rfl
theorem q65:run K a (n+1) q11 ws=if ws.length=2 then(q3z K a (run K a n) (init 4 ws)).fn else .no:=rfl
theorem q8f:run K a (n+1) q1w ws=if ws.length=2 then(q4w K a (run K a n) (init 3 ws)).fn else .no:=rfl
theorem q57:run K a (n+1) q17 ws=if ws.length=4 then(q33 K a (run K a n) (init 6 ws)).fn else .no:=rfl
theorem q3v:run K a (n+1) q01 ws=if ws.length=2 then(q2z K a (run K a n) (init 9 ws)).fn else .no:=rfl
theorem q6t:run K a (n+1) q1e ws=if ws.length=1 then(q3n K a (run K a n) (init 1 ws)).fn else .no:=rfl
theorem q6u:run K a (n+1) q1p ws=if ws.length=4 then(q3a K a (run K a n) (init 7 ws)).fn else .no:=rfl
theorem q59:run K a (n+1) q1t ws=if ws.length=1 then(q3b K a (run K a n) (init 3 ws)).fn else .no:=rfl
theorem q6v:run K a (n+1) q1q ws=if ws.length=2 then(q3p K a (run K a n) (init 3 ws)).fn else .no:=rfl
theorem x8b:run K a (n+1) q6e ws=if ws.length=1 then(x1k K a (run K a n) (init 9 ws)).fn else .no:=rfl
section
variable{P:Program}{w:World}{base:Heap}
structure Ats(K:PySem.W.Frag)(mg:Str->Option Value):Prop where
 row_of:At K mg "row_of" q3g ["number", "many"]
 rows_many:At K mg "rows_many" q18 ["many"]
 all_rows:At K mg "all_rows" q2f ["many"]
 in_cube:At K mg "in_cube" q2n ["cube", "row"]
 rows_in:At K mg "rows_in" q2o ["cube"]
 places_of:At K mg "places_of" q19 ["table"]
 wish_places:At K mg "wish_places" q1k ["wish"]
 fits:At K mg "fits" q4a ["cube", "wish"]
 primes:At K mg "primes" q21 ["wish"]
 all_cubes:At K mg "all_cubes" q2a ["many"]
 is_prime:At K mg "is_prime" q12 ["cube", "wish"]
 wider_cubes:At K mg "wider_cubes" q1b ["cube"]
 wished_rows:At K mg "wished_rows" q1c ["wish"]
 rows_left:At K mg "rows_left" q1x ["numbers", "taken"]
 is_whole:At K mg "is_whole" q2j ["thing"]
 is_tuple_of:At K mg "is_tuple_of" q1l ["thing", "length"]
 same_truth:At K mg "same_truth" q1y ["thing", "truth"]
 reaches_of:At K mg "reaches_of" q1i ["wish"]
 having:At K mg "having" q22 ["reaches", "number"]
 shows_cover:At K mg "shows_cover" q1m ["wish", "count", "tree"]
 is_tree:At K mg "is_tree" q2p ["thing", "reaches", "left", "count"]
 is_branch:At K mg "is_branch" q2b ["thing", "reach", "reaches", "left", "count"]
 is_cube:At K mg "is_cube" q2q ["thing", "cube"]
 _law_cell_at:At K mg "_law_cell_at" q1f ["_law_script", "_law_k"]
 _law_way:At K mg "_law_way" q2k ["_law_script", "_law_k", "_law_many"]
 _law_mark:At K mg "_law_mark" q2c ["_law_script", "_law_k"]
 _law_rows:At K mg "_law_rows" q1g ["_law_cube"]
 _law_wish_by:At K mg "_law_wish_by" q06 ["_law_script", "_law_many"]
 _law_odd_wish:At K mg "_law_odd_wish" q02 ["_law_script"]
 _law_having:At K mg "_law_having" q1d ["_law_wish", "_law_listed"]
 _law_left:At K mg "_law_left" q1z ["_law_left_here", "_law_cube"]
 _law_made:At K mg "_law_made" q10 ["_law_having_here", "_law_left_here", "_law_count", "_law_mark_here"]
 _law_changed:At K mg "_law_changed" q07 ["_law_tree", "_law_mark_here"]
 _law_is_cube:At K mg "_law_is_cube" q08 ["_law_thing"]
 _law_due:At K mg "_law_due" q2l ["_law_having_here", "_law_left_here", "_law_count", "_law_tree"]
 _law_odd_rows:At K mg "_law_odd_rows" q03 ["_law_many"]
 _law_refused:At K mg "_law_refused" q1h ["_law_wish", "_law_count"]
 law:At K mg "law" q4j ["_law_script"]
structure Cals(P:Program)(w:World)(K:PySem.W.Frag)(mg:Str->Option Value)(base:Heap)(a:Adr)(n:Nat):Prop where
 row_of:Cal P w K mg base n "row_of" ["number", "many"] (spF K (run K a n q36))
 rows_many:Cal P w K mg base n "rows_many" ["many"] (spF K (run K a n q2w))
 all_rows:Cal P w K mg base n "all_rows" ["many"] (spF K (run K a n q3t))
 in_cube:Cal P w K mg base n "in_cube" ["cube", "row"] (spF K (run K a n q37))
 rows_in:Cal P w K mg base n "rows_in" ["cube"] (spF K (run K a n q27))
 places_of:Cal P w K mg base n "places_of" ["table"] (spF K (run K a n q3d))
 wish_places:Cal P w K mg base n "wish_places" ["wish"] (spF K (run K a n q1j))
 fits:Cal P w K mg base n "fits" ["cube", "wish"] (spF K (run K a n q5x))
 primes:Cal P w K mg base n "primes" ["wish"] (spF K (run K a n q2t))
 all_cubes:Cal P w K mg base n "all_cubes" ["many"] (spF K (run K a n q3e))
 is_prime:Cal P w K mg base n "is_prime" ["cube", "wish"] (spF K (run K a n q3u))
 wider_cubes:Cal P w K mg base n "wider_cubes" ["cube"] (spF K (run K a n q2u))
 wished_rows:Cal P w K mg base n "wished_rows" ["wish"] (spF K (run K a n q2h))
 rows_left:Cal P w K mg base n "rows_left" ["numbers", "taken"] (spF K (run K a n q3f))
 is_whole:Cal P w K mg base n "is_whole" ["thing"] (spF K (run K a n q28))
 is_tuple_of:Cal P w K mg base n "is_tuple_of" ["thing", "length"] (spF K (run K a n q04))
 same_truth:Cal P w K mg base n "same_truth" ["thing", "truth"] (spF K (run K a n q20))
 reaches_of:Cal P w K mg base n "reaches_of" ["wish"] (spF K (run K a n q1v))
 having:Cal P w K mg base n "having" ["reaches", "number"] (spF K (run K a n q38))
 shows_cover:Cal P w K mg base n "shows_cover" ["wish", "count", "tree"] (spF K (run K a n q05))
 is_tree:Cal P w K mg base n "is_tree" ["thing", "reaches", "left", "count"] (spF K (run K a n q2x))
 is_branch:Cal P w K mg base n "is_branch" ["thing", "reach", "reaches", "left", "count"] (spF K (run K a n q16))
 is_cube:Cal P w K mg base n "is_cube" ["thing", "cube"] (spF K (run K a n q39))
 _law_cell_at:Cal P w K mg base n "_law_cell_at" ["_law_script", "_law_k"] (spF K (run K a n q1o))
 _law_way:Cal P w K mg base n "_law_way" ["_law_script", "_law_k", "_law_many"] (spF K (run K a n q0q))
 _law_mark:Cal P w K mg base n "_law_mark" ["_law_script", "_law_k"] (spF K (run K a n q0y))
 _law_rows:Cal P w K mg base n "_law_rows" ["_law_cube"] (spF K (run K a n q2y))
 _law_wish_by:Cal P w K mg base n "_law_wish_by" ["_law_script", "_law_many"] (spF K (run K a n q14))
 _law_odd_wish:Cal P w K mg base n "_law_odd_wish" ["_law_script"] (spF K (run K a n q1s))
 _law_having:Cal P w K mg base n "_law_having" ["_law_wish", "_law_listed"] (spF K (run K a n q11))
 _law_left:Cal P w K mg base n "_law_left" ["_law_left_here", "_law_cube"] (spF K (run K a n q1w))
 _law_made:Cal P w K mg base n "_law_made" ["_law_having_here", "_law_left_here", "_law_count", "_law_mark_here"] (spF K (run K a n q17))
 _law_changed:Cal P w K mg base n "_law_changed" ["_law_tree", "_law_mark_here"] (spF K (run K a n q01))
 _law_is_cube:Cal P w K mg base n "_law_is_cube" ["_law_thing"] (spF K (run K a n q1e))
 _law_due:Cal P w K mg base n "_law_due" ["_law_having_here", "_law_left_here", "_law_count", "_law_tree"] (spF K (run K a n q1p))
 _law_odd_rows:Cal P w K mg base n "_law_odd_rows" ["_law_many"] (spF K (run K a n q1t))
 _law_refused:Cal P w K mg base n "_law_refused" ["_law_wish", "_law_count"] (spF K (run K a n q1q))
 law:Cal P w K mg base n "law" ["_law_script"] (spF K (run K a n q6e))
structure CalsH(P:Program)(w:World)(K:PySem.W.Frag)(mg:Str->Option Value)(base:Heap)(a:Adr)(n:Nat):Prop where
 z:True
theorem y33(B:Blt mg)(M:Exs K mg a)(C:Cals P w K mg base a n)(CH:CalsH P w K mg base a n){outer:List Env}(hr:Room n (A.deeper (PyProof.Rows.envOfC "row_of" (defScope q3g) s.heap.objs.size f cdv))):
  DSs Z (cxOf (CX1 P w) P w K mg base ["number", "many", "truths", "rest", "step"] "row_of" (defScope q3g) f cdv A outer s H E) (fun _=>E) (defBody q3g) (q6p K a (run K a n)):=
 (q0d (x94 2 sc_row_of.nd (q0z q0b))
  (q0d (q0o 3 sc_row_of.nd (dv 0))
  (q0d (q5i 4 sc_row_of.nd PassesOwn.leaving rfl B.b_range (q0a (dv 1) q0b)
  (q0d (y80 2 (q0a (q6c (q0p hr) (q2v (dv 3) q0c) q0c) q0b))
  (q0e (q0o 3 sc_row_of.nd (q31 (dv 3) q0c)))))
  (q0d (q00 (q45 (q0p hr) (dv 3) q0c)
  (q0e (x0g rais1 M.e_NoRow M.m_NoRow rfl (q0a x4v q0b)))
  q0t)
  (q0e (q0n (y0p rfl B.b_tuple B.b_reversed (dv 2))))))))
theorem x5w(h:run K a (n+1) q36 ws≠.no):ws.length=2/\(q6p K a (run K a n) (init 5 ws)).fn=run K a (n+1) q36 ws:=by
 rw[x1l]at h |-;split at h
 ·rename_i hl;rw[if_pos hl];exact⟨hl,rfl⟩
 ·exact absurd rfl h
theorem y1j(B:Blt mg)(M:Exs K mg a)(C:Cals P w K mg base a n)(CH:CalsH P w K mg base a n)(A:Ats K mg):Cal P w K mg base (n+1) "row_of" ["number", "many"] (spF K (run K a (n+1) q36)):=
 con A.row_of sc_row_of (fun ws hw=>(x5w hw).1) fun ws hw f cdv A outer s H E Z hr=>⟨_,y33 B M C CH hr,(x5w hw).2⟩
theorem x60(B:Blt mg)(M:Exs K mg a)(C:Cals P w K mg base a n)(CH:CalsH P w K mg base a n){outer:List Env}(hr:Room n (A.deeper (PyProof.Rows.envOfC "rows_many" (defScope q18) s.heap.objs.size f cdv))):
  DSs Z (cxOf (CX1 P w) P w K mg base ["many", "count", "place"] "rows_many" (defScope q18) f cdv A outer s H E) (fun _=>E) (defBody q18) (q4q K a (run K a n)):=
 (q0d (q0o 1 sc_rows_many.nd q0c)
  (q0d (q5i 2 sc_rows_many.nd PassesOwn.leaving rfl B.b_range (q0a (dv 0) q0b)
  (q0e (q0o 1 sc_rows_many.nd (q3j q0c (dv 1)))))
  (q0e (q0n (dv 1)))))
theorem q91(h:run K a (n+1) q2w ws≠.no):ws.length=1/\(q4q K a (run K a n) (init 3 ws)).fn=run K a (n+1) q2w ws:=by
 rw[q79]at h |-;split at h
 ·rename_i hl;rw[if_pos hl];exact⟨hl,rfl⟩
 ·exact absurd rfl h
theorem x5x(B:Blt mg)(M:Exs K mg a)(C:Cals P w K mg base a n)(CH:CalsH P w K mg base a n)(A:Ats K mg):Cal P w K mg base (n+1) "rows_many" ["many"] (spF K (run K a (n+1) q2w)):=
 con A.rows_many sc_rows_many (fun ws hw=>(q91 hw).1) fun ws hw f cdv A outer s H E Z hr=>⟨_,x60 B M C CH hr,(q91 hw).2⟩
theorem x84(B:Blt mg)(M:Exs K mg a)(C:Cals P w K mg base a n)(CH:CalsH P w K mg base a n){outer:List Env}(hr:Room n (A.deeper (PyProof.Rows.envOfC "all_rows" (defScope q2f) s.heap.objs.size f cdv))):
  DSs Z (cxOf (CX1 P w) P w K mg base ["many"] "all_rows" (defScope q2f) f cdv A outer s H E) (fun _=>E) (defBody q2f) (q48 K a (run K a n)):=
 (q0e (q3i (q7u (x:="number") (Nf:=["many"]) (js:=[0]) (sc:=defScope q2f) (N:=["many"]) rfl B.b_range (q0a (q0l C.rows_many hr pass1 (q0a (dv 0) q0b)) q0b) (by decide +kernel)
   (fun _ _ _ _ _ _=>q13)
   (fun _ _ _ _ _ _=>(q0l C.row_of hr passE (q0a (dv 0) (q0a (dv 1) q0b))))
   (fun _ _ _ _ _=>q1n 0 (show(["number", "many"]:List Str).Nodup by decide +kernel)))))
theorem x1n(h:run K a (n+1) q3t ws≠.no):ws.length=1/\(q48 K a (run K a n) (init 1 ws)).fn=run K a (n+1) q3t ws:=by
 rw[q9d]at h |-;split at h
 ·rename_i hl;rw[if_pos hl];exact⟨hl,rfl⟩
 ·exact absurd rfl h
theorem x61(B:Blt mg)(M:Exs K mg a)(C:Cals P w K mg base a n)(CH:CalsH P w K mg base a n)(A:Ats K mg):Cal P w K mg base (n+1) "all_rows" ["many"] (spF K (run K a (n+1) q3t)):=
 con A.all_rows x6x (fun ws hw=>(x1n hw).1) fun ws hw f cdv A outer s H E Z hr=>⟨_,x84 B M C CH hr,(x1n hw).2⟩
theorem y1k(B:Blt mg)(M:Exs K mg a)(C:Cals P w K mg base a n)(CH:CalsH P w K mg base a n){outer:List Env}(hr:Room n (A.deeper (PyProof.Rows.envOfC "in_cube" (defScope q2n) s.heap.objs.size f cdv))):
  DSs Z (cxOf (CX1 P w) P w K mg base ["cube", "row"] "in_cube" (defScope q2n) f cdv A outer s H E) (fun _=>E) (defBody q2n) (q5y K a (run K a n)):=
 (q0d (q00 (q45 (q0p hr) (q1a B.b_len (q0a (dv 0) q0b)) (q1a B.b_len (q0a (dv 1) q0b)))
  (q0e (q0n q0u))
  q0t)
  (q0e (q0n (x1a rfl B.b_all (q0a (q0v (q6n (x:="wanted") (y:="truth") (Nf:=[]) (js:=[]) (sc:=defScope q2n) (N:=["cube", "row"]) rfl (x5i B.b_zip (q0a (dv 0) (q0a (dv 1) q0b))) (by decide +kernel)
   (fun _ _ _ _ _ _=>q13)
   (fun _ _ _ _ _ _=>(z1v (x4d (dv 0) q1r) (q80 (q6c (q0p hr) (dv 0) (dv 1)))))
   (fun _ _ _ _ _=>q86 (show(["wanted", "truth"]:List Str).Nodup by decide +kernel) rfl))) q0b)))))
theorem x3k(h:run K a (n+1) q37 ws≠.no):ws.length=2/\(q5y K a (run K a n) (init 2 ws)).fn=run K a (n+1) q37 ws:=by
 rw[q9y]at h |-;split at h
 ·rename_i hl;rw[if_pos hl];exact⟨hl,rfl⟩
 ·exact absurd rfl h
theorem x85(B:Blt mg)(M:Exs K mg a)(C:Cals P w K mg base a n)(CH:CalsH P w K mg base a n)(A:Ats K mg):Cal P w K mg base (n+1) "in_cube" ["cube", "row"] (spF K (run K a (n+1) q37)):=
 con A.in_cube x81 (fun ws hw=>(x3k hw).1) fun ws hw f cdv A outer s H E Z hr=>⟨_,y1k B M C CH hr,(x3k hw).2⟩
theorem y1l(B:Blt mg)(M:Exs K mg a)(C:Cals P w K mg base a n)(CH:CalsH P w K mg base a n){outer:List Env}(hr:Room n (A.deeper (PyProof.Rows.envOfC "rows_in" (defScope q2o) s.heap.objs.size f cdv))):
  DSs Z (cxOf (CX1 P w) P w K mg base ["cube"] "rows_in" (defScope q2o) f cdv A outer s H E) (fun _=>E) (defBody q2o) (q5z K a (run K a n)):=
 (q0e (q3i (q6n (x:="number") (y:="row") (Nf:=["cube"]) (js:=[0]) (sc:=defScope q2o) (N:=["cube"]) rfl (x73 B.b_enumerate (q0a (q0l C.all_rows hr pass1 (q0a (q1a B.b_len (q0a (dv 0) q0b)) q0b)) q0b)) (by decide +kernel)
   (fun _ _ _ _ _ _=>(q4f (q1u (q0l C.in_cube hr passE (q0a (dv 2) (q0a (dv 1) q0b))))))
   (fun _ _ _ _ _ _=>(dv 0))
   (fun _ _ _ _ _=>q86 (show(["number", "row", "cube"]:List Str).Nodup by decide +kernel) rfl))))
theorem x3l(h:run K a (n+1) q27 ws≠.no):ws.length=1/\(q5z K a (run K a n) (init 1 ws)).fn=run K a (n+1) q27 ws:=by
 rw[q9z]at h |-;split at h
 ·rename_i hl;rw[if_pos hl];exact⟨hl,rfl⟩
 ·exact absurd rfl h
theorem x86(B:Blt mg)(M:Exs K mg a)(C:Cals P w K mg base a n)(CH:CalsH P w K mg base a n)(A:Ats K mg):Cal P w K mg base (n+1) "rows_in" ["cube"] (spF K (run K a (n+1) q27)):=
 con A.rows_in x82 (fun ws hw=>(x3l hw).1) fun ws hw f cdv A outer s H E Z hr=>⟨_,y1l B M C CH hr,(x3l hw).2⟩
theorem x62(B:Blt mg)(M:Exs K mg a)(C:Cals P w K mg base a n)(CH:CalsH P w K mg base a n){outer:List Env}(hr:Room n (A.deeper (PyProof.Rows.envOfC "places_of" (defScope q19) s.heap.objs.size f cdv))):
  DSs Z (cxOf (CX1 P w) P w K mg base ["table", "many"] "places_of" (defScope q19) f cdv A outer s H E) (fun _=>E) (defBody q19) (q4r K a (run K a n)):=
 (q0d (q5i 1 sc_places_of.nd PassesOwn.leaving rfl B.b_range (q0a (q0r (y0s M.m_MOST_PLACES_tables M.g_MOST_PLACES_tables) q0c) q0b)
  (q0e (q00 (q5q (q0p hr) (q1a B.b_len (q0a (dv 0) q0b)) (q0l C.rows_many hr pass1 (q0a (dv 1) q0b)))
  (q0e (q0n (dv 1)))
  q0t)))
  (q0e (x0g rais1 M.e_NoTable M.m_NoTable rfl (q0a x4v q0b))))
theorem q92(h:run K a (n+1) q3d ws≠.no):ws.length=1/\(q4r K a (run K a n) (init 2 ws)).fn=run K a (n+1) q3d ws:=by
 rw[q8a]at h |-;split at h
 ·rename_i hl;rw[if_pos hl];exact⟨hl,rfl⟩
 ·exact absurd rfl h
theorem x5y(B:Blt mg)(M:Exs K mg a)(C:Cals P w K mg base a n)(CH:CalsH P w K mg base a n)(A:Ats K mg):Cal P w K mg base (n+1) "places_of" ["table"] (spF K (run K a (n+1) q3d)):=
 con A.places_of sc_places_of (fun ws hw=>(q92 hw).1) fun ws hw f cdv A outer s H E Z hr=>⟨_,x62 B M C CH hr,(q92 hw).2⟩
theorem x32(B:Blt mg)(M:Exs K mg a)(C:Cals P w K mg base a n)(CH:CalsH P w K mg base a n){outer:List Env}(hr:Room n (A.deeper (PyProof.Rows.envOfC "wish_places" (defScope q1k) s.heap.objs.size f cdv))):
  DSs Z (cxOf (CX1 P w) P w K mg base ["wish", "many"] "wish_places" (defScope q1k) f cdv A outer s H E) (fun _=>E) (defBody q1k) (q24 K a (run K a n)):=
 (q0d (q0o 1 sc_wish_places.nd (q0l C.places_of hr pass1 (q0a (dv 0) q0b)))
  (q0d (q00 (q9q (dv 1) (y0s M.m_MOST_PLACES_covers M.g_MOST_PLACES_covers))
  (q0e (x0g rais1 M.e_NoTable M.m_NoTable rfl (q0a x4v q0b)))
  q0t)
  (q0e (q0n (dv 1)))))
theorem q8g(h:run K a (n+1) q1j ws≠.no):ws.length=1/\(q24 K a (run K a n) (init 2 ws)).fn=run K a (n+1) q1j ws:=by
 rw[q5f]at h |-;split at h
 ·rename_i hl;rw[if_pos hl];exact⟨hl,rfl⟩
 ·exact absurd rfl h
theorem x2f(B:Blt mg)(M:Exs K mg a)(C:Cals P w K mg base a n)(CH:CalsH P w K mg base a n)(A:Ats K mg):Cal P w K mg base (n+1) "wish_places" ["wish"] (spF K (run K a (n+1) q1j)):=
 con A.wish_places sc_wish_places (fun ws hw=>(q8g hw).1) fun ws hw f cdv A outer s H E Z hr=>⟨_,x32 B M C CH hr,(q8g hw).2⟩
theorem z07(B:Blt mg)(M:Exs K mg a)(C:Cals P w K mg base a n)(CH:CalsH P w K mg base a n){outer:List Env}(hr:Room n (A.deeper (PyProof.Rows.envOfC "fits" (defScope q4a) s.heap.objs.size f cdv))):
  DSs Z (cxOf (CX1 P w) P w K mg base ["cube", "wish"] "fits" (defScope q4a) f cdv A outer s H E) (fun _=>E) (defBody q4a) (q9a K a (run K a n)):=
 (q0d (q00 (q45 (q0p hr) (q0l C.wish_places hr pass1 (q0a (dv 1) q0b)) (q1a B.b_len (q0a (dv 0) q0b)))
  (q0e (q0n q0u))
  q0t)
  (q0e (q0n (x1a rfl B.b_all (q0a (q0v (q2s (x:="number") (Nf:=["wish"]) (js:=[1]) (sc:=defScope q4a) (N:=["cube", "wish"]) rfl (q0l C.rows_in hr pass1 (q0a (dv 0) q0b)) (by decide +kernel)
   (fun _ _ _ _ _ _=>q13)
   (fun _ _ _ _ _ _=>(y86 (q0x (dv 1) (dv 0)) q0u))
   (fun _ _ _ _ _=>q1n 0 (show(["number", "wish"]:List Str).Nodup by decide +kernel)))) q0b)))))
theorem y1m(h:run K a (n+1) q5x ws≠.no):ws.length=2/\(q9a K a (run K a n) (init 2 ws)).fn=run K a (n+1) q5x ws:=by
 rw[x5v]at h |-;split at h
 ·rename_i hl;rw[if_pos hl];exact⟨hl,rfl⟩
 ·exact absurd rfl h
theorem y7f(B:Blt mg)(M:Exs K mg a)(C:Cals P w K mg base a n)(CH:CalsH P w K mg base a n)(A:Ats K mg):Cal P w K mg base (n+1) "fits" ["cube", "wish"] (spF K (run K a (n+1) q5x)):=
 con A.fits y7e (fun ws hw=>(y1m hw).1) fun ws hw f cdv A outer s H E Z hr=>⟨_,z07 B M C CH hr,(y1m hw).2⟩
theorem y34(B:Blt mg)(M:Exs K mg a)(C:Cals P w K mg base a n)(CH:CalsH P w K mg base a n){outer:List Env}(hr:Room n (A.deeper (PyProof.Rows.envOfC "primes" (defScope q21) s.heap.objs.size f cdv))):
  DSs Z (cxOf (CX1 P w) P w K mg base ["wish"] "primes" (defScope q21) f cdv A outer s H E) (fun _=>E) (defBody q21) (q5m K a (run K a n)):=
 (q0e (q3i (q2s (x:="cube") (Nf:=["wish"]) (js:=[0]) (sc:=defScope q21) (N:=["wish"]) rfl (q0l C.all_cubes hr pass1 (q0a (q0l C.wish_places hr pass1 (q0a (dv 0) q0b)) q0b)) (by decide +kernel)
   (fun _ _ _ _ _ _=>(q4f (q1u (q0l C.is_prime hr passE (q0a (dv 0) (q0a (dv 1) q0b))))))
   (fun _ _ _ _ _ _=>(dv 0))
   (fun _ _ _ _ _=>q1n 0 (show(["cube", "wish"]:List Str).Nodup by decide +kernel)))))
theorem x5z(h:run K a (n+1) q2t ws≠.no):ws.length=1/\(q5m K a (run K a n) (init 1 ws)).fn=run K a (n+1) q2t ws:=by
 rw[q70]at h |-;split at h
 ·rename_i hl;rw[if_pos hl];exact⟨hl,rfl⟩
 ·exact absurd rfl h
theorem y1n(B:Blt mg)(M:Exs K mg a)(C:Cals P w K mg base a n)(CH:CalsH P w K mg base a n)(A:Ats K mg):Cal P w K mg base (n+1) "primes" ["wish"] (spF K (run K a (n+1) q2t)):=
 con A.primes y1h (fun ws hw=>(x5z hw).1) fun ws hw f cdv A outer s H E Z hr=>⟨_,y34 B M C CH hr,(x5z hw).2⟩
theorem x63(B:Blt mg)(M:Exs K mg a)(C:Cals P w K mg base a n)(CH:CalsH P w K mg base a n){outer:List Env}(hr:Room n (A.deeper (PyProof.Rows.envOfC "all_cubes" (defScope q2a) s.heap.objs.size f cdv))):
  DSs Z (cxOf (CX1 P w) P w K mg base ["many", "cubes", "place", "longer", "cube"] "all_cubes" (defScope q2a) f cdv A outer s H E) (fun _=>E) (defBody q2a) (q4s K a (run K a n)):=
 (q0d (q0o 1 sc_all_cubes.nd (q0v (q0z (q0a (q0w q0b) q0b))))
  (q0d (q5i 2 sc_all_cubes.nd PassesOwn.leaving rfl B.b_range (q0a (dv 0) q0b)
  (q0d (x94 3 sc_all_cubes.nd (q0z q0b))
  (q0d (x95 4 sc_all_cubes.nd PassesOwn.leaving rfl (dv 1)
  (q0e (z0s 3 (q0a (q0v (q0z (q0a (q0r (dv 4) (q0w (q0a q1r q0b))) (q0a (q0r (dv 4) (q0w (q0a q0u q0b))) (q0a (q0r (dv 4) (q0w (q0a q0u q0b))) q0b))))) q0b))))
  (q0e (q0o 1 sc_all_cubes.nd (dv 3))))))
  (q0e (q0n (dv 1)))))
theorem q93(h:run K a (n+1) q3e ws≠.no):ws.length=1/\(q4s K a (run K a n) (init 5 ws)).fn=run K a (n+1) q3e ws:=by
 rw[q8b]at h |-;split at h
 ·rename_i hl;rw[if_pos hl];exact⟨hl,rfl⟩
 ·exact absurd rfl h
theorem x50(B:Blt mg)(M:Exs K mg a)(C:Cals P w K mg base a n)(CH:CalsH P w K mg base a n)(A:Ats K mg):Cal P w K mg base (n+1) "all_cubes" ["many"] (spF K (run K a (n+1) q3e)):=
 con A.all_cubes sc_all_cubes (fun ws hw=>(q93 hw).1) fun ws hw f cdv A outer s H E Z hr=>⟨_,x63 B M C CH hr,(q93 hw).2⟩
theorem x87(B:Blt mg)(M:Exs K mg a)(C:Cals P w K mg base a n)(CH:CalsH P w K mg base a n){outer:List Env}(hr:Room n (A.deeper (PyProof.Rows.envOfC "is_prime" (defScope q12) s.heap.objs.size f cdv))):
  DSs Z (cxOf (CX1 P w) P w K mg base ["cube", "wish"] "is_prime" (defScope q12) f cdv A outer s H E) (fun _=>E) (defBody q12) (q49 K a (run K a n)):=
 (q0d (q00 (q2i (q1u (q0l C.fits hr pass1 (q0a (dv 0) (q0a (dv 1) q0b)))))
  (q0e (q0n q0u))
  q0t)
  (q0d (q00 (q2i (q1u (y09 rfl B.b_any (q0a (q0v (q2s (x:="number") (Nf:=["wish"]) (js:=[1]) (sc:=defScope q12) (N:=["cube", "wish"]) rfl (q0l C.rows_in hr pass1 (q0a (dv 0) q0b)) (by decide +kernel)
   (fun _ _ _ _ _ _=>q13)
   (fun _ _ _ _ _ _=>(x4d (q0x (dv 1) (dv 0)) q0u))
   (fun _ _ _ _ _=>q1n 0 (show(["number", "wish"]:List Str).Nodup by decide +kernel)))) q0b))))
  (q0e (q0n q0u))
  q0t)
  (q0e (q0n (x4w (y09 rfl B.b_any (q0a (q0v (q2s (x:="wider") (Nf:=["wish"]) (js:=[1]) (sc:=defScope q12) (N:=["cube", "wish"]) rfl (q0l C.wider_cubes hr pass1 (q0a (dv 0) q0b)) (by decide +kernel)
   (fun _ _ _ _ _ _=>q13)
   (fun _ _ _ _ _ _=>(q0l C.fits hr passE (q0a (dv 0) (q0a (dv 1) q0b))))
   (fun _ _ _ _ _=>q1n 0 (show(["wider", "wish"]:List Str).Nodup by decide +kernel)))) q0b)))))))
theorem x1o(h:run K a (n+1) q3u ws≠.no):ws.length=2/\(q49 K a (run K a n) (init 2 ws)).fn=run K a (n+1) q3u ws:=by
 rw[q9e]at h |-;split at h
 ·rename_i hl;rw[if_pos hl];exact⟨hl,rfl⟩
 ·exact absurd rfl h
theorem x64(B:Blt mg)(M:Exs K mg a)(C:Cals P w K mg base a n)(CH:CalsH P w K mg base a n)(A:Ats K mg):Cal P w K mg base (n+1) "is_prime" ["cube", "wish"] (spF K (run K a (n+1) q3u)):=
 con A.is_prime x6y (fun ws hw=>(x1o hw).1) fun ws hw f cdv A outer s H E Z hr=>⟨_,x87 B M C CH hr,(x1o hw).2⟩
theorem x33(B:Blt mg)(M:Exs K mg a)(C:Cals P w K mg base a n)(CH:CalsH P w K mg base a n){outer:List Env}(hr:Room n (A.deeper (PyProof.Rows.envOfC "wider_cubes" (defScope q1b) s.heap.objs.size f cdv))):
  DSs Z (cxOf (CX1 P w) P w K mg base ["cube"] "wider_cubes" (defScope q1b) f cdv A outer s H E) (fun _=>E) (defBody q1b) (q3w K a (run K a n)):=
 (q0e (q3i (q7u (x:="place") (Nf:=["cube"]) (js:=[0]) (sc:=defScope q1b) (N:=["cube"]) rfl B.b_range (q0a (q1a B.b_len (q0a (dv 0) q0b)) q0b) (by decide +kernel)
   (fun _ _ _ _ _ _=>(q4f (y0d (q0x (dv 1) (dv 0)) q1r)))
   (fun _ _ _ _ _ _=>(q0r (q0r (x47 (dv 1) q4g (q4h (dv 0))) (q0w (q0a q1r q0b))) (x47 (dv 1) (q4h (q0r (dv 0) q0c)) q4g)))
   (fun _ _ _ _ _=>q1n 0 (show(["place", "cube"]:List Str).Nodup by decide +kernel)))))
theorem q8h(h:run K a (n+1) q2u ws≠.no):ws.length=1/\(q3w K a (run K a n) (init 1 ws)).fn=run K a (n+1) q2u ws:=by
 rw[q62]at h |-;split at h
 ·rename_i hl;rw[if_pos hl];exact⟨hl,rfl⟩
 ·exact absurd rfl h
theorem x2g(B:Blt mg)(M:Exs K mg a)(C:Cals P w K mg base a n)(CH:CalsH P w K mg base a n)(A:Ats K mg):Cal P w K mg base (n+1) "wider_cubes" ["cube"] (spF K (run K a (n+1) q2u)):=
 con A.wider_cubes x2c (fun ws hw=>(q8h hw).1) fun ws hw f cdv A outer s H E Z hr=>⟨_,x33 B M C CH hr,(q8h hw).2⟩
theorem x34(B:Blt mg)(M:Exs K mg a)(C:Cals P w K mg base a n)(CH:CalsH P w K mg base a n){outer:List Env}(hr:Room n (A.deeper (PyProof.Rows.envOfC "wished_rows" (defScope q1c) s.heap.objs.size f cdv))):
  DSs Z (cxOf (CX1 P w) P w K mg base ["wish"] "wished_rows" (defScope q1c) f cdv A outer s H E) (fun _=>E) (defBody q1c) (q3x K a (run K a n)):=
 (q0d (x7u (q0l C.wish_places hr pass1 (q0a (dv 0) q0b)))
  (q0e (q3i (q6n (x:="number") (y:="wanted") (Nf:=[]) (js:=[]) (sc:=defScope q1c) (N:=["wish"]) rfl (x73 B.b_enumerate (q0a (dv 0) q0b)) (by decide +kernel)
   (fun _ _ _ _ _ _=>(q4f (x4f (dv 1) q0u)))
   (fun _ _ _ _ _ _=>(dv 0))
   (fun _ _ _ _ _=>q86 (show(["number", "wanted"]:List Str).Nodup by decide +kernel) rfl)))))
theorem q8i(h:run K a (n+1) q2h ws≠.no):ws.length=1/\(q3x K a (run K a n) (init 1 ws)).fn=run K a (n+1) q2h ws:=by
 rw[q63]at h |-;split at h
 ·rename_i hl;rw[if_pos hl];exact⟨hl,rfl⟩
 ·exact absurd rfl h
theorem x2h(B:Blt mg)(M:Exs K mg a)(C:Cals P w K mg base a n)(CH:CalsH P w K mg base a n)(A:Ats K mg):Cal P w K mg base (n+1) "wished_rows" ["wish"] (spF K (run K a (n+1) q2h)):=
 con A.wished_rows x2d (fun ws hw=>(q8i hw).1) fun ws hw f cdv A outer s H E Z hr=>⟨_,x34 B M C CH hr,(q8i hw).2⟩
theorem x65(B:Blt mg)(M:Exs K mg a)(C:Cals P w K mg base a n)(CH:CalsH P w K mg base a n){outer:List Env}(hr:Room n (A.deeper (PyProof.Rows.envOfC "rows_left" (defScope q1x) s.heap.objs.size f cdv))):
  DSs Z (cxOf (CX1 P w) P w K mg base ["numbers", "taken"] "rows_left" (defScope q1x) f cdv A outer s H E) (fun _=>E) (defBody q1x) (q4t K a (run K a n)):=
 (q0e (q3i (q2s (x:="number") (Nf:=["taken"]) (js:=[1]) (sc:=defScope q1x) (N:=["numbers", "taken"]) rfl (dv 0) (by decide +kernel)
   (fun _ _ _ _ _ _=>(q4f (x09 (q0p hr) (dv 0) (dv 1))))
   (fun _ _ _ _ _ _=>(dv 0))
   (fun _ _ _ _ _=>q1n 0 (show(["number", "taken"]:List Str).Nodup by decide +kernel)))))
theorem q94(h:run K a (n+1) q3f ws≠.no):ws.length=2/\(q4t K a (run K a n) (init 2 ws)).fn=run K a (n+1) q3f ws:=by
 rw[q8c]at h |-;split at h
 ·rename_i hl;rw[if_pos hl];exact⟨hl,rfl⟩
 ·exact absurd rfl h
theorem x51(B:Blt mg)(M:Exs K mg a)(C:Cals P w K mg base a n)(CH:CalsH P w K mg base a n)(A:Ats K mg):Cal P w K mg base (n+1) "rows_left" ["numbers", "taken"] (spF K (run K a (n+1) q3f)):=
 con A.rows_left x5s (fun ws hw=>(q94 hw).1) fun ws hw f cdv A outer s H E Z hr=>⟨_,x65 B M C CH hr,(q94 hw).2⟩
theorem x88(B:Blt mg)(M:Exs K mg a)(C:Cals P w K mg base a n)(CH:CalsH P w K mg base a n){outer:List Env}(hr:Room n (A.deeper (PyProof.Rows.envOfC "is_whole" (defScope q2j) s.heap.objs.size f cdv))):
  DSs Z (cxOf (CX1 P w) P w K mg base ["thing"] "is_whole" (defScope q2j) f cdv A outer s H E) (fun _=>E) (defBody q2j) (q5a K a (run K a n)):=
 (q0e (q0n (x02 (q2m (c0:=.ty _) rfl (q2g PyProof.Rows.Boot.«int» B.b_int) B.b_isinstance (dv 0)) (q80 (x4w (q2m (c0:=.ty _) rfl (q2g PyProof.Rows.Boot.«bool» B.b_bool) B.b_isinstance (dv 0)))))))
theorem x1p(h:run K a (n+1) q28 ws≠.no):ws.length=1/\(q5a K a (run K a n) (init 1 ws)).fn=run K a (n+1) q28 ws:=by
 rw[q9f]at h |-;split at h
 ·rename_i hl;rw[if_pos hl];exact⟨hl,rfl⟩
 ·exact absurd rfl h
theorem x66(B:Blt mg)(M:Exs K mg a)(C:Cals P w K mg base a n)(CH:CalsH P w K mg base a n)(A:Ats K mg):Cal P w K mg base (n+1) "is_whole" ["thing"] (spF K (run K a (n+1) q28)):=
 con A.is_whole x6z (fun ws hw=>(x1p hw).1) fun ws hw f cdv A outer s H E Z hr=>⟨_,x88 B M C CH hr,(x1p hw).2⟩
theorem x35(B:Blt mg)(M:Exs K mg a)(C:Cals P w K mg base a n)(CH:CalsH P w K mg base a n){outer:List Env}(hr:Room n (A.deeper (PyProof.Rows.envOfC "is_tuple_of" (defScope q1l) s.heap.objs.size f cdv))):
  DSs Z (cxOf (CX1 P w) P w K mg base ["thing", "length"] "is_tuple_of" (defScope q1l) f cdv A outer s H E) (fun _=>E) (defBody q1l) (q3y K a (run K a n)):=
 (q0e (q0n (x02 (q2m (c0:=.ty _) rfl (q2g PyProof.Rows.Boot.«tuple» B.b_tuple) B.b_isinstance (dv 0)) (q80 (q6c (q0p hr) (q1a B.b_len (q0a (dv 0) q0b)) (dv 1))))))
theorem q8j(h:run K a (n+1) q04 ws≠.no):ws.length=2/\(q3y K a (run K a n) (init 2 ws)).fn=run K a (n+1) q04 ws:=by
 rw[q64]at h |-;split at h
 ·rename_i hl;rw[if_pos hl];exact⟨hl,rfl⟩
 ·exact absurd rfl h
theorem x2i(B:Blt mg)(M:Exs K mg a)(C:Cals P w K mg base a n)(CH:CalsH P w K mg base a n)(A:Ats K mg):Cal P w K mg base (n+1) "is_tuple_of" ["thing", "length"] (spF K (run K a (n+1) q04)):=
 con A.is_tuple_of x2e (fun ws hw=>(q8j hw).1) fun ws hw f cdv A outer s H E Z hr=>⟨_,x35 B M C CH hr,(q8j hw).2⟩
theorem x52(B:Blt mg)(M:Exs K mg a)(C:Cals P w K mg base a n)(CH:CalsH P w K mg base a n){outer:List Env}(hr:Room n (A.deeper (PyProof.Rows.envOfC "same_truth" (defScope q1y) s.heap.objs.size f cdv))):
  DSs Z (cxOf (CX1 P w) P w K mg base ["thing", "truth"] "same_truth" (defScope q1y) f cdv A outer s H E) (fun _=>E) (defBody q1y) (q4b K a (run K a n)):=
 (q0e (q0n (x02 (q6c (q0p hr) (dv 0) (dv 1)) (q80 (q6c (q0p hr) (q2m (c0:=.ty _) rfl (q2g PyProof.Rows.Boot.«bool» B.b_bool) B.b_isinstance (dv 0)) (q2m (c0:=.ty _) rfl (q2g PyProof.Rows.Boot.«bool» B.b_bool) B.b_isinstance (dv 1)))))))
theorem q9h(h:run K a (n+1) q20 ws≠.no):ws.length=2/\(q4b K a (run K a n) (init 2 ws)).fn=run K a (n+1) q20 ws:=by
 rw[q7i]at h |-;split at h
 ·rename_i hl;rw[if_pos hl];exact⟨hl,rfl⟩
 ·exact absurd rfl h
theorem x36(B:Blt mg)(M:Exs K mg a)(C:Cals P w K mg base a n)(CH:CalsH P w K mg base a n)(A:Ats K mg):Cal P w K mg base (n+1) "same_truth" ["thing", "truth"] (spF K (run K a (n+1) q20)):=
 con A.same_truth x30 (fun ws hw=>(q9h hw).1) fun ws hw f cdv A outer s H E Z hr=>⟨_,x52 B M C CH hr,(q9h hw).2⟩
theorem x53(B:Blt mg)(M:Exs K mg a)(C:Cals P w K mg base a n)(CH:CalsH P w K mg base a n){outer:List Env}(hr:Room n (A.deeper (PyProof.Rows.envOfC "reaches_of" (defScope q1i) s.heap.objs.size f cdv))):
  DSs Z (cxOf (CX1 P w) P w K mg base ["wish"] "reaches_of" (defScope q1i) f cdv A outer s H E) (fun _=>E) (defBody q1i) (q3k K a (run K a n)):=
 (q0e (q3i (q2s (x:="prime") (Nf:=[]) (js:=[]) (sc:=defScope q1i) (N:=["wish"]) rfl (q0l C.primes hr pass1 (q0a (dv 0) q0b)) (by decide +kernel)
   (fun _ _ _ _ _ _=>q13)
   (fun _ _ _ _ _ _=>(q0w (q0a (dv 0) (q0a (q0l C.rows_in hr passE (q0a (dv 0) q0b)) q0b))))
   (fun _ _ _ _ _=>q1n 0 (show(["prime"]:List Str).Nodup by decide +kernel)))))
theorem q9i(h:run K a (n+1) q1v ws≠.no):ws.length=1/\(q3k K a (run K a n) (init 1 ws)).fn=run K a (n+1) q1v ws:=by
 rw[q5n]at h |-;split at h
 ·rename_i hl;rw[if_pos hl];exact⟨hl,rfl⟩
 ·exact absurd rfl h
theorem x37(B:Blt mg)(M:Exs K mg a)(C:Cals P w K mg base a n)(CH:CalsH P w K mg base a n)(A:Ats K mg):Cal P w K mg base (n+1) "reaches_of" ["wish"] (spF K (run K a (n+1) q1v)):=
 con A.reaches_of x31 (fun ws hw=>(q9i hw).1) fun ws hw f cdv A outer s H E Z hr=>⟨_,x53 B M C CH hr,(q9i hw).2⟩
theorem y35(B:Blt mg)(M:Exs K mg a)(C:Cals P w K mg base a n)(CH:CalsH P w K mg base a n){outer:List Env}(hr:Room n (A.deeper (PyProof.Rows.envOfC "having" (defScope q22) s.heap.objs.size f cdv))):
  DSs Z (cxOf (CX1 P w) P w K mg base ["reaches", "number"] "having" (defScope q22) f cdv A outer s H E) (fun _=>E) (defBody q22) (q6q K a (run K a n)):=
 (q0e (q3i (q2s (x:="reach") (Nf:=["number"]) (js:=[1]) (sc:=defScope q22) (N:=["reaches", "number"]) rfl (dv 0) (by decide +kernel)
   (fun _ _ _ _ _ _=>(q4f (y4l (q0p hr) (dv 1) (q0x (dv 0) q0c))))
   (fun _ _ _ _ _ _=>(dv 0))
   (fun _ _ _ _ _=>q1n 0 (show(["reach", "number"]:List Str).Nodup by decide +kernel)))))
theorem x54(h:run K a (n+1) q38 ws≠.no):ws.length=2/\(q6q K a (run K a n) (init 2 ws)).fn=run K a (n+1) q38 ws:=by
 rw[x1m]at h |-;split at h
 ·rename_i hl;rw[if_pos hl];exact⟨hl,rfl⟩
 ·exact absurd rfl h
theorem y1o(B:Blt mg)(M:Exs K mg a)(C:Cals P w K mg base a n)(CH:CalsH P w K mg base a n)(A:Ats K mg):Cal P w K mg base (n+1) "having" ["reaches", "number"] (spF K (run K a (n+1) q38)):=
 con A.having y1i (fun ws hw=>(x54 hw).1) fun ws hw f cdv A outer s H E Z hr=>⟨_,y35 B M C CH hr,(x54 hw).2⟩
theorem x38(B:Blt mg)(M:Exs K mg a)(C:Cals P w K mg base a n)(CH:CalsH P w K mg base a n){outer:List Env}(hr:Room n (A.deeper (PyProof.Rows.envOfC "shows_cover" (defScope q1m) s.heap.objs.size f cdv))):
  DSs Z (cxOf (CX1 P w) P w K mg base ["wish", "count", "tree", "reaches"] "shows_cover" (defScope q1m) f cdv A outer s H E) (fun _=>E) (defBody q1m) (q25 K a (run K a n)):=
 (q0d (q0o 3 sc_shows_cover.nd (q0l C.reaches_of hr pass1 (q0a (dv 0) q0b)))
  (q0d (q00 (x4e (dv 1) q0c)
  (q0e (q0n (x4d (dv 2) q1r)))
  q0t)
  (q0e (q0n (q0l C.is_tree hr pass1 (q0a (dv 2) (q0a (dv 3) (q0a (q0l C.wished_rows hr pass1 (q0a (dv 0) q0b)) (q0a (dv 1) q0b)))))))))
theorem q8k(h:run K a (n+1) q05 ws≠.no):ws.length=3/\(q25 K a (run K a n) (init 4 ws)).fn=run K a (n+1) q05 ws:=by
 rw[q5g]at h |-;split at h
 ·rename_i hl;rw[if_pos hl];exact⟨hl,rfl⟩
 ·exact absurd rfl h
theorem x2j(B:Blt mg)(M:Exs K mg a)(C:Cals P w K mg base a n)(CH:CalsH P w K mg base a n)(A:Ats K mg):Cal P w K mg base (n+1) "shows_cover" ["wish", "count", "tree"] (spF K (run K a (n+1) q05)):=
 con A.shows_cover sc_shows_cover (fun ws hw=>(q8k hw).1) fun ws hw f cdv A outer s H E Z hr=>⟨_,x38 B M C CH hr,(q8k hw).2⟩
theorem y1p(B:Blt mg)(M:Exs K mg a)(C:Cals P w K mg base a n)(CH:CalsH P w K mg base a n){outer:List Env}(hr:Room n (A.deeper (PyProof.Rows.envOfC "is_tree" (defScope q2p) s.heap.objs.size f cdv))):
  DSs Z (cxOf (CX1 P w) P w K mg base ["thing", "reaches", "left", "count", "number", "branches", "wanted"] "is_tree" (defScope q2p) f cdv A outer s H E) (fun _=>E) (defBody q2p) (q3r K a (run K a n)):=
 (q0d (q00 (q2i (q1u (q0l C.is_tuple_of hr pass1 (q0a (dv 0) (q0a q0c q0b)))))
  (q0e (q0n q0u))
  q0t)
  (q0d (q0o 4 sc_is_tree.nd (q0x (dv 0) q0c))
  (q0d (q0o 5 sc_is_tree.nd (q0x (dv 0) q0c))
  (q0d (q00 (dt_w (q4x (q2i (q1u (q0l C.is_whole hr pass1 (q0a (dv 4) q0b)))) (q4x (x09 (q0p hr) (dv 4) (dv 2)) (q6k (q2i (q1u (q2m (c0:=.ty _) rfl (q2g PyProof.Rows.Boot.«tuple» B.b_tuple) B.b_isinstance (dv 5))))))))
  (q0e (q0n q0u))
  q0t)
  (q0d (q00 (q5q (q0p hr) (dv 3) q0c)
  (q0e (q0n (q6c (q0p hr) (q1a B.b_len (q0a (dv 5) q0b)) q0c)))
  q0t)
  (q0d (q0o 6 sc_is_tree.nd (q0l C.having hr pass1 (q0a (dv 1) (q0a (dv 4) q0b))))
  (q0d (q00 (q45 (q0p hr) (q1a B.b_len (q0a (dv 5) q0b)) (q1a B.b_len (q0a (dv 6) q0b)))
  (q0e (q0n q0u))
  q0t)
  (q0e (q0n (x1a rfl B.b_all (q0a (q0v (q6n (x:="branch") (y:="reach") (Nf:=["reaches", "left", "count"]) (js:=[1,2,3]) (sc:=defScope q2p) (N:=["thing", "reaches", "left", "count", "number", "branches", "wanted"]) rfl (x5i B.b_zip (q0a (dv 5) (q0a (dv 6) q0b))) (by decide +kernel)
   (fun _ _ _ _ _ _=>q13)
   (fun _ _ _ _ _ _=>(q0l C.is_branch hr passE (q0a (dv 0) (q0a (dv 1) (q0a (dv 2) (q0a (dv 3) (q0a (dv 4) q0b)))))))
   (fun _ _ _ _ _=>q86 (show(["branch", "reach", "reaches", "left", "count"]:List Str).Nodup by decide +kernel) rfl))) q0b)))))))))))
theorem x3m(h:run K a (n+1) q2x ws≠.no):ws.length=4/\(q3r K a (run K a n) (init 7 ws)).fn=run K a (n+1) q2x ws:=by
 rw[q7c]at h |-;split at h
 ·rename_i hl;rw[if_pos hl];exact⟨hl,rfl⟩
 ·exact absurd rfl h
theorem x89(B:Blt mg)(M:Exs K mg a)(C:Cals P w K mg base a n)(CH:CalsH P w K mg base a n)(A:Ats K mg):Cal P w K mg base (n+1) "is_tree" ["thing", "reaches", "left", "count"] (spF K (run K a (n+1) q2x)):=
 con A.is_tree sc_is_tree (fun ws hw=>(x3m hw).1) fun ws hw f cdv A outer s H E Z hr=>⟨_,y1p B M C CH hr,(x3m hw).2⟩
theorem x67(B:Blt mg)(M:Exs K mg a)(C:Cals P w K mg base a n)(CH:CalsH P w K mg base a n){outer:List Env}(hr:Room n (A.deeper (PyProof.Rows.envOfC "is_branch" (defScope q2b) s.heap.objs.size f cdv))):
  DSs Z (cxOf (CX1 P w) P w K mg base ["thing", "reach", "reaches", "left", "count"] "is_branch" (defScope q2b) f cdv A outer s H E) (fun _=>E) (defBody q2b) (q32 K a (run K a n)):=
 (q0d (q00 (dt_w (q4x (q2i (q1u (q0l C.is_tuple_of hr pass1 (q0a (dv 0) (q0a q0c q0b))))) (q6k (q2i (q1u (q0l C.is_cube hr pass1 (q0a (q0x (dv 0) q0c) (q0a (q0x (dv 1) q0c) q0b))))))))
  (q0e (q0n q0u))
  q0t)
  (q0e (q0n (q0l C.is_tree hr pass1 (q0a (q0x (dv 0) q0c) (q0a (dv 2) (q0a (q0l C.rows_left hr pass1 (q0a (dv 3) (q0a (q0x (dv 1) q0c) q0b))) (q0a (q5v (dv 4) q0c) q0b))))))))
theorem q95(h:run K a (n+1) q16 ws≠.no):ws.length=5/\(q32 K a (run K a n) (init 5 ws)).fn=run K a (n+1) q16 ws:=by
 rw[q56]at h |-;split at h
 ·rename_i hl;rw[if_pos hl];exact⟨hl,rfl⟩
 ·exact absurd rfl h
theorem x55(B:Blt mg)(M:Exs K mg a)(C:Cals P w K mg base a n)(CH:CalsH P w K mg base a n)(A:Ats K mg):Cal P w K mg base (n+1) "is_branch" ["thing", "reach", "reaches", "left", "count"] (spF K (run K a (n+1) q16)):=
 con A.is_branch x5t (fun ws hw=>(q95 hw).1) fun ws hw f cdv A outer s H E Z hr=>⟨_,x67 B M C CH hr,(q95 hw).2⟩
theorem y1q(B:Blt mg)(M:Exs K mg a)(C:Cals P w K mg base a n)(CH:CalsH P w K mg base a n){outer:List Env}(hr:Room n (A.deeper (PyProof.Rows.envOfC "is_cube" (defScope q2q) s.heap.objs.size f cdv))):
  DSs Z (cxOf (CX1 P w) P w K mg base ["thing", "cube"] "is_cube" (defScope q2q) f cdv A outer s H E) (fun _=>E) (defBody q2q) (q50 K a (run K a n)):=
 (q0d (q00 (q2i (q1u (q0l C.is_tuple_of hr pass1 (q0a (dv 0) (q0a (q1a B.b_len (q0a (dv 1) q0b)) q0b)))))
  (q0e (q0n q0u))
  q0t)
  (q0e (q0n (x1a rfl B.b_all (q0a (q0v (q6n (x:="part") (y:="truth") (Nf:=[]) (js:=[]) (sc:=defScope q2q) (N:=["thing", "cube"]) rfl (x5i B.b_zip (q0a (dv 0) (q0a (dv 1) q0b))) (by decide +kernel)
   (fun _ _ _ _ _ _=>q13)
   (fun _ _ _ _ _ _=>(q0l C.same_truth hr passE (q0a (dv 0) (q0a (dv 1) q0b))))
   (fun _ _ _ _ _=>q86 (show(["part", "truth"]:List Str).Nodup by decide +kernel) rfl))) q0b)))))
theorem x3n(h:run K a (n+1) q39 ws≠.no):ws.length=2/\(q50 K a (run K a n) (init 2 ws)).fn=run K a (n+1) q39 ws:=by
 rw[q90]at h |-;split at h
 ·rename_i hl;rw[if_pos hl];exact⟨hl,rfl⟩
 ·exact absurd rfl h
theorem x9a(B:Blt mg)(M:Exs K mg a)(C:Cals P w K mg base a n)(CH:CalsH P w K mg base a n)(A:Ats K mg):Cal P w K mg base (n+1) "is_cube" ["thing", "cube"] (spF K (run K a (n+1) q39)):=
 con A.is_cube x83 (fun ws hw=>(x3n hw).1) fun ws hw f cdv A outer s H E Z hr=>⟨_,y1q B M C CH hr,(x3n hw).2⟩
theorem x2k(B:Blt mg)(M:Exs K mg a)(C:Cals P w K mg base a n)(CH:CalsH P w K mg base a n){outer:List Env}(hr:Room n (A.deeper (PyProof.Rows.envOfC "_law_cell_at" (defScope q1f) s.heap.objs.size f cdv))):
  DSs Z (cxOf (CX1 P w) P w K mg base ["_law_script", "_law_k"] "_law_cell_at" (defScope q1f) f cdv A outer s H E) (fun _=>E) (defBody q1f) (q3l K a (run K a n)):=
 (q0d (q00 (x4e (dv 1) (q1a B.b_len (q0a (dv 0) q0b)))
  (q0e (q0n (q0x (dv 0) (dv 1))))
  q0t)
  (q0e (q0n q0c)))
theorem q7j(h:run K a (n+1) q1o ws≠.no):ws.length=2/\(q3l K a (run K a n) (init 2 ws)).fn=run K a (n+1) q1o ws:=by
 rw[q6r]at h |-;split at h
 ·rename_i hl;rw[if_pos hl];exact⟨hl,rfl⟩
 ·exact absurd rfl h
theorem x1q(B:Blt mg)(M:Exs K mg a)(C:Cals P w K mg base a n)(CH:CalsH P w K mg base a n)(A:Ats K mg):Cal P w K mg base (n+1) "_law_cell_at" ["_law_script", "_law_k"] (spF K (run K a (n+1) q1o)):=
 con A._law_cell_at x1e (fun ws hw=>(q7j hw).1) fun ws hw f cdv A outer s H E Z hr=>⟨_,x2k B M C CH hr,(q7j hw).2⟩
theorem x9b(B:Blt mg)(M:Exs K mg a)(C:Cals P w K mg base a n)(CH:CalsH P w K mg base a n){outer:List Env}(hr:Room n (A.deeper (PyProof.Rows.envOfC "_law_way" (defScope q2k) s.heap.objs.size f cdv))):
  DSs Z (cxOf (CX1 P w) P w K mg base ["_law_script", "_law_k", "_law_many", "_law_mark_here"] "_law_way" (defScope q2k) f cdv A outer s H E) (fun _=>E) (defBody q2k) (q5b K a (run K a n)):=
 (q0d (q0o 3 sc__law_way.nd (q2v (q0r (q0r (q3j (q0l C._law_cell_at hr pass1 (q0a (dv 0) (q0a (dv 1) q0b))) q0c) (q3j q0c (q1a B.b_len (q0a (dv 0) q0b)))) (q3j q0c (dv 1))) q0c))
  (q0e (q0n (q2v (q2v (q3j (dv 3) (dv 3)) q0c) (dv 2)))))
theorem x1r(h:run K a (n+1) q0q ws≠.no):ws.length=3/\(q5b K a (run K a n) (init 4 ws)).fn=run K a (n+1) q0q ws:=by
 rw[q9g]at h |-;split at h
 ·rename_i hl;rw[if_pos hl];exact⟨hl,rfl⟩
 ·exact absurd rfl h
theorem x68(B:Blt mg)(M:Exs K mg a)(C:Cals P w K mg base a n)(CH:CalsH P w K mg base a n)(A:Ats K mg):Cal P w K mg base (n+1) "_law_way" ["_law_script", "_law_k", "_law_many"] (spF K (run K a (n+1) q0q)):=
 con A._law_way sc__law_way (fun ws hw=>(x1r hw).1) fun ws hw f cdv A outer s H E Z hr=>⟨_,x9b B M C CH hr,(x1r hw).2⟩
theorem x69(B:Blt mg)(M:Exs K mg a)(C:Cals P w K mg base a n)(CH:CalsH P w K mg base a n){outer:List Env}(hr:Room n (A.deeper (PyProof.Rows.envOfC "_law_mark" (defScope q2c) s.heap.objs.size f cdv))):
  DSs Z (cxOf (CX1 P w) P w K mg base ["_law_script", "_law_k", "_law_mark_here"] "_law_mark" (defScope q2c) f cdv A outer s H E) (fun _=>E) (defBody q2c) (q4u K a (run K a n)):=
 (q0d (q0o 2 sc__law_mark.nd (q0r (q0r (q3j (q0l C._law_cell_at hr pass1 (q0a (dv 0) (q0a (q0r q0c (dv 1)) q0b))) q0c) (q3j (q3j (q0l C._law_cell_at hr pass1 (q0a (dv 0) (q0a q0c q0b))) q0c) (q0r (dv 1) q0c))) (q3j q0c (dv 1))))
  (q0e (q0n (q2v (y6z (dv 2) (dv 2)) q0c))))
theorem q96(h:run K a (n+1) q0y ws≠.no):ws.length=2/\(q4u K a (run K a n) (init 3 ws)).fn=run K a (n+1) q0y ws:=by
 rw[q8d]at h |-;split at h
 ·rename_i hl;rw[if_pos hl];exact⟨hl,rfl⟩
 ·exact absurd rfl h
theorem x56(B:Blt mg)(M:Exs K mg a)(C:Cals P w K mg base a n)(CH:CalsH P w K mg base a n)(A:Ats K mg):Cal P w K mg base (n+1) "_law_mark" ["_law_script", "_law_k"] (spF K (run K a (n+1) q0y)):=
 con A._law_mark sc__law_mark (fun ws hw=>(q96 hw).1) fun ws hw f cdv A outer s H E Z hr=>⟨_,x69 B M C CH hr,(q96 hw).2⟩
theorem x7a(B:Blt mg)(M:Exs K mg a)(C:Cals P w K mg base a n)(CH:CalsH P w K mg base a n){outer:List Env}(hr:Room n (A.deeper (PyProof.Rows.envOfC "_law_rows" (defScope q1g) s.heap.objs.size f cdv))):
  DSs Z (cxOf (CX1 P w) P w K mg base ["_law_cube", "_law_found", "_law_wished"] "_law_rows" (defScope q1g) f cdv A outer s H E) (fun _=>E) (defBody q1g) (q4v K a (run K a n)):=
 (q0d (q0o 1 sc__law_rows.nd (q0v (q0z (q0a q0c q0b))))
  (q0d (x95 2 sc__law_rows.nd PassesOwn.leaving rfl (dv 0)
  (q0e (q00 (x4f (dv 2) q1r)
  (q0e (q0o 1 sc__law_rows.nd (q0r (q0v (q2s (x:="_law_k") (Nf:=[]) (js:=[]) (sc:=defScope q1g) (N:=["_law_cube", "_law_found", "_law_wished"]) rfl (dv 1) (by decide +kernel)
   (fun _ _ _ _ _ _=>q13)
   (fun _ _ _ _ _ _=>(q3j q0c (dv 0)))
   (fun _ _ _ _ _=>q1n 0 (show(["_law_k"]:List Str).Nodup by decide +kernel)))) (q0v (q2s (x:="_law_k") (Nf:=[]) (js:=[]) (sc:=defScope q1g) (N:=["_law_cube", "_law_found", "_law_wished"]) rfl (dv 1) (by decide +kernel)
   (fun _ _ _ _ _ _=>q13)
   (fun _ _ _ _ _ _=>(q0r (q3j q0c (dv 0)) q0c))
   (fun _ _ _ _ _=>q1n 0 (show(["_law_k"]:List Str).Nodup by decide +kernel)))))))
  (q0e (x07 1 sc__law_rows.nd (x:="_law_k") (Nf:=["_law_wished"]) (js:=[2]) (sc:=defScope q1g) (N:=["_law_cube", "_law_found", "_law_wished"]) rfl (dv 1) (by decide +kernel)
   (fun _ _ _ _ _ _=>q13)
   (fun _ _ _ _ _ _=>(q0r (q3j q0c (dv 0)) (x71 B.b_int (q0a (dv 1) q0b))))
   (fun _ _ _ _ _=>q1n 0 (show(["_law_k", "_law_wished"]:List Str).Nodup by decide +kernel)))))))
  (q0e (q0n (y06 rfl B.b_sorted (q0a (dv 1) q0b))))))
theorem q97(h:run K a (n+1) q2y ws≠.no):ws.length=1/\(q4v K a (run K a n) (init 3 ws)).fn=run K a (n+1) q2y ws:=by
 rw[q8e]at h |-;split at h
 ·rename_i hl;rw[if_pos hl];exact⟨hl,rfl⟩
 ·exact absurd rfl h
theorem x57(B:Blt mg)(M:Exs K mg a)(C:Cals P w K mg base a n)(CH:CalsH P w K mg base a n)(A:Ats K mg):Cal P w K mg base (n+1) "_law_rows" ["_law_cube"] (spF K (run K a (n+1) q2y)):=
 con A._law_rows sc__law_rows (fun ws hw=>(q97 hw).1) fun ws hw f cdv A outer s H E Z hr=>⟨_,x7a B M C CH hr,(q97 hw).2⟩
theorem x2l(B:Blt mg)(M:Exs K mg a)(C:Cals P w K mg base a n)(CH:CalsH P w K mg base a n){outer:List Env}(hr:Room n (A.deeper (PyProof.Rows.envOfC "_law_wish_by" (defScope q06) s.heap.objs.size f cdv))):
  DSs Z (cxOf (CX1 P w) P w K mg base ["_law_script", "_law_many", "_law_menus", "_law_menu", "_law_some"] "_law_wish_by" (defScope q06) f cdv A outer s H E) (fun _=>E) (defBody q06) (q3m K a (run K a n)):=
 (q0d (q0o 2 sc__law_wish_by.nd (q0v (q0z (q0a (q0v (q0z (q0a q0u (q0a q0u (q0a q1r q0b))))) (q0a (q0v (q0z (q0a q0u (q0a q0u (q0a q0u q0b))))) (q0a (q0v (q0z (q0a q0u (q0a q0u (q0a q0u (q0a q1r q0b)))))) (q0a (q0v (q0z (q0a q0u (q0a q0u (q0a q1r (q0a q0u (q0a q0u q0b))))))) q0b)))))))
  (q0d (q0o 2 sc__law_wish_by.nd (q0r (dv 2) (q0v (q0z (q0a (q0v (q0z (q0a q0u (q0a q0u q0b)))) (q0a (q0v (q0z (q0a q0u (q0a q0u q0b)))) (q0a (q0v (q0z (q0a q0u (q0a q1r (q0a q0u q0b))))) (q0a (q0v (q0z (q0a q0u (q0a q0u (q0a q0u (q0a q0u q0b)))))) q0b))))))))
  (q0d (q0o 3 sc__law_wish_by.nd (q0x (dv 2) (q0l C._law_way hr pass1 (q0a (dv 0) (q0a q0c (q0a q0c q0b))))))
  (q0d (q0o 4 sc__law_wish_by.nd (q0l C._law_way hr pass1 (q0a (dv 0) (q0a q0c (q0a q0c q0b)))))
  (q0d (q00 (x4e (dv 4) q0c)
  (q0e (q0o 3 sc__law_wish_by.nd (q0x (q0v (q0z (q0a (q0v (q0z (q0a q0u q0b))) (q0a (q0v (q0z (q0a q0u q0b))) (q0a (q0v (q0z (q0a q1r q0b))) q0b))))) (dv 4))))
  q0t)
  (q0e (q3i (q7u (x:="_law_k") (Nf:=["_law_script", "_law_menu"]) (js:=[0,3]) (sc:=defScope q06) (N:=["_law_script", "_law_many", "_law_menus", "_law_menu", "_law_some"]) rfl B.b_range (q0a (q0x (q0v (q0z (q0a q0c (q0a q0c (q0a q0c (q0a q0c (q0a q0c q0b))))))) (dv 1)) q0b) (by decide +kernel)
   (fun _ _ _ _ _ _=>q13)
   (fun _ _ _ _ _ _=>(q0x (dv 2) (q2v (q0l C._law_mark hr passE (q0a (dv 1) (q0a (dv 0) q0b))) (q1a B.b_len (q0a (dv 2) q0b)))))
   (fun _ _ _ _ _=>q1n 0 (show(["_law_k", "_law_script", "_law_menu"]:List Str).Nodup by decide +kernel))))))))))
theorem q7k(h:run K a (n+1) q14 ws≠.no):ws.length=2/\(q3m K a (run K a n) (init 5 ws)).fn=run K a (n+1) q14 ws:=by
 rw[q6s]at h |-;split at h
 ·rename_i hl;rw[if_pos hl];exact⟨hl,rfl⟩
 ·exact absurd rfl h
theorem x1s(B:Blt mg)(M:Exs K mg a)(C:Cals P w K mg base a n)(CH:CalsH P w K mg base a n)(A:Ats K mg):Cal P w K mg base (n+1) "_law_wish_by" ["_law_script", "_law_many"] (spF K (run K a (n+1) q14)):=
 con A._law_wish_by sc__law_wish_by (fun ws hw=>(q7k hw).1) fun ws hw f cdv A outer s H E Z hr=>⟨_,x2l B M C CH hr,(q7k hw).2⟩
theorem x1t(B:Blt mg)(M:Exs K mg a)(C:Cals P w K mg base a n)(CH:CalsH P w K mg base a n){outer:List Env}(hr:Room n (A.deeper (PyProof.Rows.envOfC "_law_odd_wish" (defScope q02) s.heap.objs.size f cdv))):
  DSs Z (cxOf (CX1 P w) P w K mg base ["_law_script", "_law_size"] "_law_odd_wish" (defScope q02) f cdv A outer s H E) (fun _=>E) (defBody q02) (q29 K a (run K a n)):=
 (q0d (q0o 1 sc__law_odd_wish.nd (q0x (q0v (q0z (q0a q0c (q0a q0c (q0a q0c (q0a q0c (q0a q0c (q0a q0c (q0a q0c (q0a q0c (q0a q0c (q0a q0c (q0a q0c (q0a q0c (q0a q0c q0b))))))))))))))) (q0l C._law_way hr pass1 (q0a (dv 0) (q0a q0c (q0a q0c q0b))))))
  (q0e (q3i (q7u (x:="_law_k") (Nf:=["_law_script"]) (js:=[0]) (sc:=defScope q02) (N:=["_law_script", "_law_size"]) rfl B.b_range (q0a (dv 1) q0b) (by decide +kernel)
   (fun _ _ _ _ _ _=>q13)
   (fun _ _ _ _ _ _=>(q0x (q0v (q0z (q0a q0u (q0a q0u (q0a q1r q0b))))) (q2v (q0l C._law_mark hr passE (q0a (dv 1) (q0a (dv 0) q0b))) q0c)))
   (fun _ _ _ _ _=>q1n 0 (show(["_law_k", "_law_script"]:List Str).Nodup by decide +kernel))))))
theorem q66(h:run K a (n+1) q1s ws≠.no):ws.length=1/\(q29 K a (run K a n) (init 2 ws)).fn=run K a (n+1) q1s ws:=by
 rw[q58]at h |-;split at h
 ·rename_i hl;rw[if_pos hl];exact⟨hl,rfl⟩
 ·exact absurd rfl h
theorem x0l(B:Blt mg)(M:Exs K mg a)(C:Cals P w K mg base a n)(CH:CalsH P w K mg base a n)(A:Ats K mg):Cal P w K mg base (n+1) "_law_odd_wish" ["_law_script"] (spF K (run K a (n+1) q1s)):=
 con A._law_odd_wish sc__law_odd_wish (fun ws hw=>(q66 hw).1) fun ws hw f cdv A outer s H E Z hr=>⟨_,x1t B M C CH hr,(q66 hw).2⟩
theorem x39(B:Blt mg)(M:Exs K mg a)(C:Cals P w K mg base a n)(CH:CalsH P w K mg base a n){outer:List Env}(hr:Room n (A.deeper (PyProof.Rows.envOfC "_law_having" (defScope q1d) s.heap.objs.size f cdv))):
  DSs Z (cxOf (CX1 P w) P w K mg base ["_law_wish", "_law_listed", "_law_having_here", "_law_number"] "_law_having" (defScope q1d) f cdv A outer s H E) (fun _=>E) (defBody q1d) (q3z K a (run K a n)):=
 (q0d (y3s 2 sc__law_having.nd)
  (q0d (q5i 3 sc__law_having.nd PassesOwn.leaving rfl B.b_range (q0a (q1a B.b_len (q0a (dv 0) q0b)) q0b)
  (q0e (q00 (x4f (q0x (dv 0) (dv 3)) q0u)
  (q0e (y66 2 (q0p hr) (q0v (q2s (x:="_law_prime") (Nf:=["_law_number"]) (js:=[3]) (sc:=defScope q1d) (N:=["_law_wish", "_law_listed", "_law_having_here", "_law_number"]) rfl (dv 1) (by decide +kernel)
   (fun _ _ _ _ _ _=>(q4f (y4l (q0p hr) (dv 1) (q0l C._law_rows hr passE (q0a (dv 0) q0b)))))
   (fun _ _ _ _ _ _=>(dv 0))
   (fun _ _ _ _ _=>q1n 0 (show(["_law_prime", "_law_number"]:List Str).Nodup by decide +kernel)))) (dv 3)))
  q0t)))
  (q0e (y7a 2))))
theorem q8l(h:run K a (n+1) q11 ws≠.no):ws.length=2/\(q3z K a (run K a n) (init 4 ws)).fn=run K a (n+1) q11 ws:=by
 rw[q65]at h |-;split at h
 ·rename_i hl;rw[if_pos hl];exact⟨hl,rfl⟩
 ·exact absurd rfl h
theorem x2m(B:Blt mg)(M:Exs K mg a)(C:Cals P w K mg base a n)(CH:CalsH P w K mg base a n)(A:Ats K mg):Cal P w K mg base (n+1) "_law_having" ["_law_wish", "_law_listed"] (spF K (run K a (n+1) q11)):=
 con A._law_having sc__law_having (fun ws hw=>(q8l hw).1) fun ws hw f cdv A outer s H E Z hr=>⟨_,x39 B M C CH hr,(q8l hw).2⟩
theorem x7b(B:Blt mg)(M:Exs K mg a)(C:Cals P w K mg base a n)(CH:CalsH P w K mg base a n){outer:List Env}(hr:Room n (A.deeper (PyProof.Rows.envOfC "_law_left" (defScope q1z) s.heap.objs.size f cdv))):
  DSs Z (cxOf (CX1 P w) P w K mg base ["_law_left_here", "_law_cube", "_law_inside"] "_law_left" (defScope q1z) f cdv A outer s H E) (fun _=>E) (defBody q1z) (q4w K a (run K a n)):=
 (q0d (q0o 2 sc__law_left.nd (q0l C._law_rows hr pass1 (q0a (dv 1) q0b)))
  (q0e (q3i (q2s (x:="_law_number") (Nf:=["_law_inside"]) (js:=[2]) (sc:=defScope q1z) (N:=["_law_left_here", "_law_cube", "_law_inside"]) rfl (dv 0) (by decide +kernel)
   (fun _ _ _ _ _ _=>(q4f (x09 (q0p hr) (dv 0) (dv 1))))
   (fun _ _ _ _ _ _=>(dv 0))
   (fun _ _ _ _ _=>q1n 0 (show(["_law_number", "_law_inside"]:List Str).Nodup by decide +kernel))))))
theorem q98(h:run K a (n+1) q1w ws≠.no):ws.length=2/\(q4w K a (run K a n) (init 3 ws)).fn=run K a (n+1) q1w ws:=by
 rw[q8f]at h |-;split at h
 ·rename_i hl;rw[if_pos hl];exact⟨hl,rfl⟩
 ·exact absurd rfl h
theorem x58(B:Blt mg)(M:Exs K mg a)(C:Cals P w K mg base a n)(CH:CalsH P w K mg base a n)(A:Ats K mg):Cal P w K mg base (n+1) "_law_left" ["_law_left_here", "_law_cube"] (spF K (run K a (n+1) q1w)):=
 con A._law_left sc__law_left (fun ws hw=>(q98 hw).1) fun ws hw f cdv A outer s H E Z hr=>⟨_,x7b B M C CH hr,(q98 hw).2⟩
theorem x7c(B:Blt mg)(M:Exs K mg a)(C:Cals P w K mg base a n)(CH:CalsH P w K mg base a n){outer:List Env}(hr:Room n (A.deeper (PyProof.Rows.envOfC "_law_made" (defScope q10) s.heap.objs.size f cdv))):
  DSs Z (cxOf (CX1 P w) P w K mg base ["_law_having_here", "_law_left_here", "_law_count", "_law_mark_here", "_law_number", "_law_some"] "_law_made" (defScope q10) f cdv A outer s H E) (fun _=>E) (defBody q10) (q33 K a (run K a n)):=
 (q0d (q00 (q5q (q0p hr) (dv 1) (q0v (q0z q0b)))
  (q0e (q0n q1r))
  q0t)
  (q0d (q0o 4 sc__law_made.nd (q0x (dv 1) (q3j (q2v (dv 3) (q1a B.b_len (q0a (dv 1) q0b))) (q31 (q2v (q31 (dv 3) q0c) q0c) q0c))))
  (q0d (q00 (q5q (q0p hr) (dv 2) q0c)
  (q0e (q0n (q0w (q0a (dv 4) (q0a (q0w q0b) q0b)))))
  q0t)
  (q0d (x07 5 sc__law_made.nd (x:="_law_one") (Nf:=["_law_having_here", "_law_left_here", "_law_count", "_law_mark_here"]) (js:=[0,1,2,3]) (sc:=defScope q10) (N:=["_law_having_here", "_law_left_here", "_law_count", "_law_mark_here", "_law_number", "_law_some"]) rfl (y1e (q0p hr) (dv 0) (dv 4)) (by decide +kernel)
   (fun _ _ _ _ _ _=>q13)
   (fun _ _ _ _ _ _=>(q0w (q0a (dv 0) (q0a (q0l C._law_made hr passE (q0a (dv 1) (q0a (q0l C._law_left hr passE (q0a (dv 2) (q0a (dv 0) q0b))) (q0a (q5v (dv 3) q0c) (q0a (q0r (q31 (dv 4) q0c) q0c) q0b))))) q0b))))
   (fun _ _ _ _ _=>q1n 0 (show(["_law_one", "_law_having_here", "_law_left_here", "_law_count", "_law_mark_here"]:List Str).Nodup by decide +kernel)))
  (q0e (q0n (q0w (q0a (dv 4) (q0a (x48 B.b_tuple (q0a (dv 5) q0b)) q0b)))))))))
theorem q99(h:run K a (n+1) q17 ws≠.no):ws.length=4/\(q33 K a (run K a n) (init 6 ws)).fn=run K a (n+1) q17 ws:=by
 rw[q57]at h |-;split at h
 ·rename_i hl;rw[if_pos hl];exact⟨hl,rfl⟩
 ·exact absurd rfl h
theorem x59(B:Blt mg)(M:Exs K mg a)(C:Cals P w K mg base a n)(CH:CalsH P w K mg base a n)(A:Ats K mg):Cal P w K mg base (n+1) "_law_made" ["_law_having_here", "_law_left_here", "_law_count", "_law_mark_here"] (spF K (run K a (n+1) q17)):=
 con A._law_made sc__law_made (fun ws hw=>(q99 hw).1) fun ws hw f cdv A outer s H E Z hr=>⟨_,x7c B M C CH hr,(q99 hw).2⟩
theorem x2n(B:Blt mg)(M:Exs K mg a)(C:Cals P w K mg base a n)(CH:CalsH P w K mg base a n){outer:List Env}(hr:Room n (A.deeper (PyProof.Rows.envOfC "_law_changed" (defScope q07) s.heap.objs.size f cdv))):
  DSs Z (cxOf (CX1 P w) P w K mg base ["_law_tree", "_law_mark_here", "_law_number", "_law_some", "_law_at", "_law_inner", "_law_way_here", "_law_one", "_law_choices"] "_law_changed" (defScope q07) f cdv A outer s H E) (fun _=>E) (defBody q07) (q2z K a (run K a n)):=
 (q0d (q00 (dt_w (q4x (q2i (q1u (q2m (c0:=.ty _) rfl (q2g PyProof.Rows.Boot.«tuple» B.b_tuple) B.b_isinstance (dv 0)))) (q4x (q45 (q0p hr) (q1a B.b_len (q0a (dv 0) q0b)) q0c) (q6k (q2i (q1u (q2m (c0:=.ty _) rfl (q2g PyProof.Rows.Boot.«tuple» B.b_tuple) B.b_isinstance (q0x (dv 0) q0c))))))))
  (q0e (q0n (q0x (q0v (q0z (q0a (q0w (q0a q0c (q0a (q0w q0b) q0b))) (q0a q0u (q0a (q0w q0b) q0b))))) (q2v (dv 1) q0c))))
  q0t)
  (q0d (q0o 2 sc__law_changed.nd (q0x (dv 0) q0c))
  (q0d (q0o 3 sc__law_changed.nd (q0x (dv 0) q0c))
  (q0d (q00 (dt_w (x01 (q45 (q0p hr) (dv 3) (q0w q0b)) (x15 (q5q (q0p hr) (q2v (dv 1) q0c) q0c))))
  (q0d (q0o 4 sc__law_changed.nd (q2v (q31 (dv 1) q0c) (q1a B.b_len (q0a (dv 3) q0b))))
  (q0d (q0o 5 sc__law_changed.nd (q0w (q0a (q0x (q0x (dv 3) (dv 4)) q0c) (q0a (q0l C._law_changed hr pass1 (q0a (q0x (q0x (dv 3) (dv 4)) q0c) (q0a (q31 (q31 (dv 1) q0c) (q1a B.b_len (q0a (dv 3) q0b))) q0b))) q0b))))
  (q0e (q0n (q0w (q0a (dv 2) (q0a (q0r (q0r (q35 (dv 3) q4g (q4h (dv 4))) (q0w (q0a (dv 5) q0b))) (q35 (dv 3) (q4h (q0r (dv 4) q0c)) q4g)) q0b)))))))
  q0t)
  (q0d (q0o 6 sc__law_changed.nd (q0x (q0r (q0r (q0r (q0v (q0z (q0a q0c (q0a q0c (q0a q0c (q0a q0c (q0a q0c (q0a q0c (q0a q0c (q0a q0c (q0a q0c (q0a q0c (q0a q0c (q0a q0c q0b)))))))))))))) (x5e (q0v (q0z (q0a q0c q0b))) q0c)) (x5e (q0v (q0z (q0a q0c q0b))) q0c)) (x5e (q0v (q0z (q0a q0c q0b))) q0c)) (q2v (q31 (dv 1) q0c) q0c)))
  (q0d (q00 (dt_w (x01 (q9q (dv 6) q0c) (x01 (x4e (dv 6) q0c) (x15 (q45 (q0p hr) (dv 3) (q0w q0b))))))
  (q0d (q0o 4 sc__law_changed.nd (q2v (q31 (dv 1) q0c) (q1a B.b_len (q0a (dv 3) q0b))))
  (q0d (q0o 7 sc__law_changed.nd (q0x (dv 3) (dv 4)))
  (q0d (q0o 5 sc__law_changed.nd (q0w (q0a (x48 B.b_tuple (q0a (q0v (q2s (x:="_law_x") (Nf:=[]) (js:=[]) (sc:=defScope q07) (N:=["_law_tree", "_law_mark_here", "_law_number", "_law_some", "_law_at", "_law_inner", "_law_way_here", "_law_one", "_law_choices"]) rfl (q0x (dv 7) q0c) (by decide +kernel)
   (fun _ _ _ _ _ _=>q13)
   (fun _ _ _ _ _ _=>(z1w (x4f (dv 0) q1r) q1r (x71 B.b_int (q0a (dv 0) q0b))))
   (fun _ _ _ _ _=>q1n 0 (show(["_law_x"]:List Str).Nodup by decide +kernel)))) q0b)) (q0a (q0x (dv 7) q0c) q0b))))
  (q0d (q00 (q5q (q0p hr) (dv 6) q0c)
  (q0e (q0n (q0w (q0a (dv 2) (q0a (q0r (q35 (dv 3) (q4h (q0r (dv 4) q0c)) q4g) (q35 (dv 3) q4g (q4h (q0r (dv 4) q0c)))) q0b)))))
  q0t)
  (q0d (q00 (q5q (q0p hr) (dv 6) q0c)
  (q0e (q0o 5 sc__law_changed.nd (q0r (dv 7) (q0w (q0a q1r q0b)))))
  q0t)
  (q0e (q0n (q0w (q0a (dv 2) (q0a (q0r (q0r (q35 (dv 3) q4g (q4h (dv 4))) (q0w (q0a (dv 5) q0b))) (q35 (dv 3) (q4h (q0r (dv 4) q0c)) q4g)) q0b))))))))))
  q0t)
  (q0d (q0o 8 sc__law_changed.nd (q0v (q0z (q0a (q0w (q0a (q0r (dv 2) q0c) (q0a (dv 3) q0b))) (q0a (q0w (q0a (z12 (dv 2) q0c) (q0a (dv 3) q0b))) (q0a (q0w (q0a (dv 2) (q0a (q0w q0b) q0b))) (q0a (q0w (q0a (dv 2) (q0a (q35 (dv 3) q4g (q4h (x46 q0c))) q0b))) (q0a (q0w (q0a (dv 2) (q0a (q0r (dv 3) (q0w (q0a (q0w q0b) q0b))) q0b))) q0b))))))))
  (q0d (q0o 8 sc__law_changed.nd (q0r (dv 8) (q0v (q0z (q0a q1r (q0a (q0w (q0a (dv 2) (q0a (q0v (x7z B.b_list (q0a (dv 3) q0b))) q0b))) (q0a (q0w (q0a (dv 2) q0b)) (q0a (q0w (q0a (q5v (dv 2) q0c) (q0a (dv 3) q0b))) (q0a (q0w (q0a (dv 2) (q0a (dv 3) (q0a q0c q0b)))) q0b)))))))))
  (q0e (q0n (q0x (q0r (dv 8) (q0v (q0z (q0a (q0w (q0a (dv 2) (q0a (dv 3) (q0a q1r q0b)))) (q0a (q0w (q0a (dv 3) (q0a (dv 2) q0b))) q0b))))) (dv 6))))))))))))
theorem q7l(h:run K a (n+1) q01 ws≠.no):ws.length=2/\(q2z K a (run K a n) (init 9 ws)).fn=run K a (n+1) q01 ws:=by
 rw[q3v]at h |-;split at h
 ·rename_i hl;rw[if_pos hl];exact⟨hl,rfl⟩
 ·exact absurd rfl h
theorem x1u(B:Blt mg)(M:Exs K mg a)(C:Cals P w K mg base a n)(CH:CalsH P w K mg base a n)(A:Ats K mg):Cal P w K mg base (n+1) "_law_changed" ["_law_tree", "_law_mark_here"] (spF K (run K a (n+1) q01)):=
 con A._law_changed sc__law_changed (fun ws hw=>(q7l hw).1) fun ws hw f cdv A outer s H E Z hr=>⟨_,x2n B M C CH hr,(q7l hw).2⟩
theorem x2o(B:Blt mg)(M:Exs K mg a)(C:Cals P w K mg base a n)(CH:CalsH P w K mg base a n){outer:List Env}(hr:Room n (A.deeper (PyProof.Rows.envOfC "_law_is_cube" (defScope q08) s.heap.objs.size f cdv))):
  DSs Z (cxOf (CX1 P w) P w K mg base ["_law_thing"] "_law_is_cube" (defScope q08) f cdv A outer s H E) (fun _=>E) (defBody q08) (q3n K a (run K a n)):=
 (q0d (q00 (q2i (q1u (q2m (c0:=.ty _) rfl (q2g PyProof.Rows.Boot.«tuple» B.b_tuple) B.b_isinstance (dv 0))))
  (q0e (q0n q0u))
  q0t)
  (q0e (q0n (q6c (q0p hr) (q0v (q2s (x:="_law_x") (Nf:=[]) (js:=[]) (sc:=defScope q08) (N:=["_law_thing"]) rfl (dv 0) (by decide +kernel)
   (fun _ _ _ _ _ _=>(q4f (dt_w (x01 (y0d (dv 0) q1r) (x15 (q2i (q1u (q2m (c0:=.ty _) rfl (q2g PyProof.Rows.Boot.«bool» B.b_bool) B.b_isinstance (dv 0)))))))))
   (fun _ _ _ _ _ _=>(dv 0))
   (fun _ _ _ _ _=>q1n 0 (show(["_law_x"]:List Str).Nodup by decide +kernel)))) (q0v (q0z q0b))))))
theorem q7m(h:run K a (n+1) q1e ws≠.no):ws.length=1/\(q3n K a (run K a n) (init 1 ws)).fn=run K a (n+1) q1e ws:=by
 rw[q6t]at h |-;split at h
 ·rename_i hl;rw[if_pos hl];exact⟨hl,rfl⟩
 ·exact absurd rfl h
theorem x1v(B:Blt mg)(M:Exs K mg a)(C:Cals P w K mg base a n)(CH:CalsH P w K mg base a n)(A:Ats K mg):Cal P w K mg base (n+1) "_law_is_cube" ["_law_thing"] (spF K (run K a (n+1) q1e)):=
 con A._law_is_cube x1f (fun ws hw=>(q7m hw).1) fun ws hw f cdv A outer s H E Z hr=>⟨_,x2o B M C CH hr,(q7m hw).2⟩
theorem x9c(B:Blt mg)(M:Exs K mg a)(C:Cals P w K mg base a n)(CH:CalsH P w K mg base a n){outer:List Env}(hr:Room n (A.deeper (PyProof.Rows.envOfC "_law_due" (defScope q2l) s.heap.objs.size f cdv))):
  DSs Z (cxOf (CX1 P w) P w K mg base ["_law_having_here", "_law_left_here", "_law_count", "_law_tree", "_law_listed", "_law_k", "_law_branch"] "_law_due" (defScope q2l) f cdv A outer s H E) (fun _=>E) (defBody q2l) (q3a K a (run K a n)):=
 (q0d (q00 (dt_w (q4x (q2i (q1u (q2m (c0:=.ty _) rfl (q2g PyProof.Rows.Boot.«tuple» B.b_tuple) B.b_isinstance (dv 3)))) (q6k (q45 (q0p hr) (q1a B.b_len (q0a (dv 3) q0b)) q0c))))
  (q0e (q0n q0u))
  q0t)
  (q0d (q00 (dt_w (q4x (q2i (q1u (q2m (c0:=.ty _) rfl (q2g PyProof.Rows.Boot.«int» B.b_int) B.b_isinstance (q0x (dv 3) q0c)))) (q4x (q1u (q2m (c0:=.ty _) rfl (q2g PyProof.Rows.Boot.«bool» B.b_bool) B.b_isinstance (q0x (dv 3) q0c))) (q6k (x09 (q0p hr) (q0x (dv 3) q0c) (dv 1))))))
  (q0e (q0n q0u))
  q0t)
  (q0d (q00 (dt_w (q4x (q2i (q1u (q2m (c0:=.ty _) rfl (q2g PyProof.Rows.Boot.«tuple» B.b_tuple) B.b_isinstance (q0x (dv 3) q0c)))) (q6k (q5q (q0p hr) (dv 2) q0c))))
  (q0e (q0n (q6c (q0p hr) (q0x (dv 3) q0c) (q0w q0b))))
  q0t)
  (q0d (q0o 4 sc__law_due.nd (y1e (q0p hr) (dv 0) (q0x (dv 3) q0c)))
  (q0d (q00 (q45 (q0p hr) (q1a B.b_len (q0a (q0x (dv 3) q0c) q0b)) (q1a B.b_len (q0a (dv 4) q0b)))
  (q0e (q0n q0u))
  q0t)
  (q0d (q5i 5 sc__law_due.nd PassesOwn.leaving rfl B.b_range (q0a (q1a B.b_len (q0a (dv 4) q0b)) q0b)
  (q0d (q0o 6 sc__law_due.nd (q0x (q0x (dv 3) q0c) (dv 5)))
  (q0d (q00 (dt_w (q4x (q2i (q1u (q2m (c0:=.ty _) rfl (q2g PyProof.Rows.Boot.«tuple» B.b_tuple) B.b_isinstance (dv 6)))) (q4x (q45 (q0p hr) (q1a B.b_len (q0a (dv 6) q0b)) q0c) (q4x (q2i (q1u (q0l C._law_is_cube hr pass1 (q0a (q0x (dv 6) q0c) q0b)))) (q6k (q45 (q0p hr) (q0x (dv 6) q0c) (q0x (dv 4) (dv 5))))))))
  (q0e (q0n q0u))
  q0t)
  (q0e (q00 (q2i (q1u (q0l C._law_due hr pass1 (q0a (dv 0) (q0a (q0l C._law_left hr pass1 (q0a (dv 1) (q0a (q0x (dv 4) (dv 5)) q0b))) (q0a (q5v (dv 2) q0c) (q0a (q0x (dv 6) q0c) q0b)))))))
  (q0e (q0n q0u))
  q0t)))))
  (q0e (q0n q0u))))))))
theorem x1w(h:run K a (n+1) q1p ws≠.no):ws.length=4/\(q3a K a (run K a n) (init 7 ws)).fn=run K a (n+1) q1p ws:=by
 rw[q6u]at h |-;split at h
 ·rename_i hl;rw[if_pos hl];exact⟨hl,rfl⟩
 ·exact absurd rfl h
theorem x7d(B:Blt mg)(M:Exs K mg a)(C:Cals P w K mg base a n)(CH:CalsH P w K mg base a n)(A:Ats K mg):Cal P w K mg base (n+1) "_law_due" ["_law_having_here", "_law_left_here", "_law_count", "_law_tree"] (spF K (run K a (n+1) q1p)):=
 con A._law_due sc__law_due (fun ws hw=>(x1w hw).1) fun ws hw f cdv A outer s H E Z hr=>⟨_,x9c B M C CH hr,(x1w hw).2⟩
theorem x1x(B:Blt mg)(M:Exs K mg a)(C:Cals P w K mg base a n)(CH:CalsH P w K mg base a n){outer:List Env}(hr:Room n (A.deeper (PyProof.Rows.envOfC "_law_odd_rows" (defScope q03) s.heap.objs.size f cdv))):
  DSs Z (cxOf (CX1 P w) P w K mg base ["_law_many", "_law_wish", "_law_k"] "_law_odd_rows" (defScope q03) f cdv A outer s H E) (fun _=>E) (defBody q03) (q3b K a (run K a n)):=
 (q0d (q0o 1 sc__law_odd_rows.nd (q0v (q0z (q0a q0u q0b))))
  (q0d (q5i 2 sc__law_odd_rows.nd PassesOwn.leaving rfl B.b_range (q0a (dv 0) q0b)
  (q0e (q0o 1 sc__law_odd_rows.nd (q0r (dv 1) (q0v (q2s (x:="_law_truth") (Nf:=[]) (js:=[]) (sc:=defScope q03) (N:=["_law_many", "_law_wish", "_law_k"]) rfl (dv 1) (by decide +kernel)
   (fun _ _ _ _ _ _=>q13)
   (fun _ _ _ _ _ _=>(x4w (dv 0)))
   (fun _ _ _ _ _=>q1n 0 (show(["_law_truth"]:List Str).Nodup by decide +kernel))))))))
  (q0e (q0n (dv 1)))))
theorem q67(h:run K a (n+1) q1t ws≠.no):ws.length=1/\(q3b K a (run K a n) (init 3 ws)).fn=run K a (n+1) q1t ws:=by
 rw[q59]at h |-;split at h
 ·rename_i hl;rw[if_pos hl];exact⟨hl,rfl⟩
 ·exact absurd rfl h
theorem x0m(B:Blt mg)(M:Exs K mg a)(C:Cals P w K mg base a n)(CH:CalsH P w K mg base a n)(A:Ats K mg):Cal P w K mg base (n+1) "_law_odd_rows" ["_law_many"] (spF K (run K a (n+1) q1t)):=
 con A._law_odd_rows sc__law_odd_rows (fun ws hw=>(q67 hw).1) fun ws hw f cdv A outer s H E Z hr=>⟨_,x1x B M C CH hr,(q67 hw).2⟩
theorem x2p(B:Blt mg)(M:Exs K mg a)(C:Cals P w K mg base a n)(CH:CalsH P w K mg base a n){outer:List Env}(hr:Room n (A.deeper (PyProof.Rows.envOfC "_law_refused" (defScope q1h) s.heap.objs.size f cdv))):
  DSs Z (cxOf (CX1 P w) P w K mg base ["_law_wish", "_law_count", "e"] "_law_refused" (defScope q1h) f cdv A outer s H E) (fun _=>E) (defBody q1h) (q3p K a (run K a n)):=
 (q0d (y8u M.m_CircuitError sc__law_refused.nd (i:=2) rfl rfl (fun EE pn xe hx1=>(q0e (x7u (q0l C.shows_cover hr hx1 (q0a (dv 0) (q0a (dv 1) (q0a q1r q0b)))))))
  (fun e=>(q0e (q0n (q2m (c0:=.ref _) rfl (y5l M.m_NoTable) B.b_isinstance (dv 2))))))
  (q0e (q0n q0u)))
theorem q7n(h:run K a (n+1) q1q ws≠.no):ws.length=2/\(q3p K a (run K a n) (init 3 ws)).fn=run K a (n+1) q1q ws:=by
 rw[q6v]at h |-;split at h
 ·rename_i hl;rw[if_pos hl];exact⟨hl,rfl⟩
 ·exact absurd rfl h
theorem x1y(B:Blt mg)(M:Exs K mg a)(C:Cals P w K mg base a n)(CH:CalsH P w K mg base a n)(A:Ats K mg):Cal P w K mg base (n+1) "_law_refused" ["_law_wish", "_law_count"] (spF K (run K a (n+1) q1q)):=
 con A._law_refused sc__law_refused (fun ws hw=>(q7n hw).1) fun ws hw f cdv A outer s H E Z hr=>⟨_,x2p B M C CH hr,(q7n hw).2⟩
theorem y4o(B:Blt mg)(M:Exs K mg a)(C:Cals P w K mg base a n)(CH:CalsH P w K mg base a n){outer:List Env}(hr:Room n (A.deeper (PyProof.Rows.envOfC "law" (defScope q4j) s.heap.objs.size f cdv))):
  DSs Z (cxOf (CX1 P w) P w K mg base ["_law_script", "_law_many", "_law_wish", "_law_count", "_law_turn", "_law_having_here", "_law_tree", "_law_due_here", "_law_found"] "law" (defScope q4j) f cdv A outer s H E) (fun _=>E) (defBody q4j) (x1k K a (run K a n)):=
 (q0d (q00 (q5q (q0p hr) (q31 (q0l C._law_way hr pass1 (q0a (dv 0) (q0a q0c (q0a q0c q0b)))) q0c) q0c)
  (q0e (q0n (q0l C._law_refused hr pass1 (q0a (q0l C._law_odd_wish hr pass1 (q0a (dv 0) q0b)) (q0a (q5v (q0l C._law_way hr pass1 (q0a (dv 0) (q0a q0c (q0a q0c q0b)))) q0c) q0b)))))
  q0t)
  (q0d (q0o 1 sc_law.nd (q0x (q0v (q0z (q0a q0c (q0a q0c (q0a q0c (q0a q0c (q0a q0c (q0a q0c (q0a q0c (q0a q0c (q0a q0c (q0a q0c q0b)))))))))))) (q0l C._law_way hr pass1 (q0a (dv 0) (q0a q0c (q0a q0c q0b))))))
  (q0d (q0o 2 sc_law.nd (q0l C._law_wish_by hr pass1 (q0a (dv 0) (q0a (dv 1) q0b))))
  (q0d (q0o 3 sc_law.nd (q5v (q0l C._law_way hr pass1 (q0a (dv 0) (q0a q0c (q0a q0c q0b)))) q0c))
  (q0d (q00 (q5q (q0p hr) (q0l C._law_way hr pass1 (q0a (dv 0) (q0a q0c (q0a q0c q0b)))) q0c)
  (q0d (q0o 2 sc_law.nd (q0l C._law_odd_rows hr pass1 (q0a (q0r q0c (q0l C._law_way hr pass1 (q0a (dv 0) (q0a q0c (q0a q0c q0b))))) q0b)))
  (q0e (q0o 3 sc_law.nd (q5v (q0l C._law_way hr pass1 (q0a (dv 0) (q0a q0c (q0a q0c q0b)))) q0c))))
  q0t)
  (q0d (q00 (q9q (q0l C._law_way hr pass1 (q0a (dv 0) (q0a q0c (q0a q0c q0b)))) q0c)
  (q0d (q0o 4 sc_law.nd (q2v (q0l C._law_mark hr pass1 (q0a (dv 0) (q0a q0c q0b))) q0c))
  (q0d (x6q 2 sc_law.nd (x:="_law_k") (Nf:=["_law_turn"]) (js:=[4]) (sc:=defScope q4j) (N:=["_law_script", "_law_many", "_law_wish", "_law_count", "_law_turn", "_law_having_here", "_law_tree", "_law_due_here", "_law_found"]) rfl B.b_range (q0a q0c q0b) (by decide +kernel)
   (fun _ _ _ _ _ _=>q13)
   (fun _ _ _ _ _ _=>(z0q (q0p hr) (dv 0) (q0w (q0a (dv 1) (q0a (q5v q0c (dv 1)) q0b)))))
   (fun _ _ _ _ _=>q1n 0 (show(["_law_k", "_law_turn"]:List Str).Nodup by decide +kernel)))
  (q0e (q0o 3 sc_law.nd (q0r q0c (q0l C._law_way hr pass1 (q0a (dv 0) (q0a q0c (q0a q0c q0b)))))))))
  q0t)
  (q0d (y3u 5 sc_law.nd C._law_having hr pass1 (q0a (dv 2) (q0a (q0l C.primes hr pass1 (q0a (dv 2) q0b)) q0b)))
  (q0d (q0o 6 sc_law.nd q1r)
  (q0d (q00 (q9q (dv 3) (x46 q0c))
  (q0e (q0o 6 sc_law.nd (q0l C._law_made hr pass1 (q0a (dv 5) (q0a (q0v (x5o rfl B.b_list (dv 5))) (q0a (dv 3) (q0a (q0l C._law_mark hr pass1 (q0a (dv 0) (q0a q0c q0b))) q0b)))))))
  q0t)
  (q0d (q00 (q9q (q2v (q0l C._law_mark hr pass1 (q0a (dv 0) (q0a q0c q0b))) q0c) q0c)
  (q0e (q0o 6 sc_law.nd (q0l C._law_changed hr pass1 (q0a (dv 6) (q0a (q0l C._law_mark hr pass1 (q0a (dv 0) (q0a q0c q0b))) q0b)))))
  q0t)
  (q0d (q0o 7 sc_law.nd (x4d (dv 6) q1r))
  (q0d (q00 (q9q (dv 3) (x46 q0c))
  (q0e (q0o 7 sc_law.nd (q0l C._law_due hr pass1 (q0a (dv 5) (q0a (q0v (x5o rfl B.b_list (dv 5))) (q0a (dv 3) (q0a (dv 6) q0b)))))))
  q0t)
  (q0d (q0o 8 sc_law.nd (q0l C.shows_cover hr pass1 (q0a (q0v (x7z B.b_list (q0a (dv 2) q0b))) (q0a (dv 3) (q0a (dv 6) q0b)))))
  (q0e (q0n (x02 (q2m (c0:=.ty _) rfl (q2g PyProof.Rows.Boot.«bool» B.b_bool) B.b_isinstance (dv 8)) (q80 (q6c (q0p hr) (dv 8) (dv 7)))))))))))))))))))
theorem x4i(h:run K a (n+1) q6e ws≠.no):ws.length=1/\(x1k K a (run K a n) (init 9 ws)).fn=run K a (n+1) q6e ws:=by
 rw[x8b]at h |-;split at h
 ·rename_i hl;rw[if_pos hl];exact⟨hl,rfl⟩
 ·exact absurd rfl h
theorem z08(B:Blt mg)(M:Exs K mg a)(C:Cals P w K mg base a n)(CH:CalsH P w K mg base a n)(A:Ats K mg):Cal P w K mg base (n+1) "law" ["_law_script"] (spF K (run K a (n+1) q6e)):=
 con A.law sc_law (fun ws hw=>(x4i hw).1) fun ws hw f cdv A outer s H E Z hr=>⟨_,y4o B M C CH hr,(x4i hw).2⟩
theorem allH(A:Ats K mg)(B:Blt mg)(M:Exs K mg a):∀n,CalsH P w K mg base a n
 |0=>⟨trivial⟩
 |n+1=>⟨trivial⟩
theorem all(A:Ats K mg)(B:Blt mg)(M:Exs K mg a):∀n,Cals P w K mg base a n
 |0=>⟨con0 A.row_of,con0 A.rows_many,con0 A.all_rows,con0 A.in_cube,con0 A.rows_in,con0 A.places_of,con0 A.wish_places,con0 A.fits,con0 A.primes,con0 A.all_cubes,con0 A.is_prime,con0 A.wider_cubes,con0 A.wished_rows,con0 A.rows_left,con0 A.is_whole,con0 A.is_tuple_of,con0 A.same_truth,con0 A.reaches_of,con0 A.having,con0 A.shows_cover,con0 A.is_tree,con0 A.is_branch,con0 A.is_cube,con0 A._law_cell_at,con0 A._law_way,con0 A._law_mark,con0 A._law_rows,con0 A._law_wish_by,con0 A._law_odd_wish,con0 A._law_having,con0 A._law_left,con0 A._law_made,con0 A._law_changed,con0 A._law_is_cube,con0 A._law_due,con0 A._law_odd_rows,con0 A._law_refused,con0 A.law⟩
 |n+1=>⟨y1j B M (all A B M n) (allH A B M n) A,x5x B M (all A B M n) (allH A B M n) A,x61 B M (all A B M n) (allH A B M n) A,x85 B M (all A B M n) (allH A B M n) A,x86 B M (all A B M n) (allH A B M n) A,x5y B M (all A B M n) (allH A B M n) A,x2f B M (all A B M n) (allH A B M n) A,y7f B M (all A B M n) (allH A B M n) A,y1n B M (all A B M n) (allH A B M n) A,x50 B M (all A B M n) (allH A B M n) A,x64 B M (all A B M n) (allH A B M n) A,x2g B M (all A B M n) (allH A B M n) A,x2h B M (all A B M n) (allH A B M n) A,x51 B M (all A B M n) (allH A B M n) A,x66 B M (all A B M n) (allH A B M n) A,x2i B M (all A B M n) (allH A B M n) A,x36 B M (all A B M n) (allH A B M n) A,x37 B M (all A B M n) (allH A B M n) A,y1o B M (all A B M n) (allH A B M n) A,x2j B M (all A B M n) (allH A B M n) A,x89 B M (all A B M n) (allH A B M n) A,x55 B M (all A B M n) (allH A B M n) A,x9a B M (all A B M n) (allH A B M n) A,x1q B M (all A B M n) (allH A B M n) A,x68 B M (all A B M n) (allH A B M n) A,x56 B M (all A B M n) (allH A B M n) A,x57 B M (all A B M n) (allH A B M n) A,x1s B M (all A B M n) (allH A B M n) A,x0l B M (all A B M n) (allH A B M n) A,x2m B M (all A B M n) (allH A B M n) A,x58 B M (all A B M n) (allH A B M n) A,x59 B M (all A B M n) (allH A B M n) A,x1u B M (all A B M n) (allH A B M n) A,x1v B M (all A B M n) (allH A B M n) A,x7d B M (all A B M n) (allH A B M n) A,x0m B M (all A B M n) (allH A B M n) A,x1y B M (all A B M n) (allH A B M n) A,z08 B M (all A B M n) (allH A B M n) A⟩
theorem law_fn{fd:FuncData}(A:Ats K mg)(B:Blt mg)(M:Exs K mg a)(F:Fun K "law" "law" q4j f fd)(n:Nat):FnOk P w K mg base (CX1 P w) (n+1) f fd ["_law_script"] (spF K (run K a (n+1) q6e)):=
 conF F sc_law (fun ws hw=>(x4i hw).1) fun ws hw cdv A' outer s H E Z hr=>⟨_,y4o B M (all A B M n) (allH A B M n) hr,(x4i hw).2⟩
end
theorem mk{l:PySem.W.OpenLaw}{w:World}{h:Heap}{fa:Addr}(X:K.In h)(G:h.Ns mainGlobals mg)(hfa:mg "law"=some (.ref fa))
  {f0:Addr}{od0 an0:Option Addr}{sl0:Array (Option Value)}{oc0 kV0 dc0 pm0 cd0 ct0:Value}
  {f1:Addr}{od1 an1:Option Addr}{sl1:Array (Option Value)}{oc1 kV1 dc1 pm1 cd1 ct1:Value}
  {f2:Addr}{od2 an2:Option Addr}{sl2:Array (Option Value)}{oc2 kV2 dc2 pm2 cd2 ct2:Value}
  {f3:Addr}{od3 an3:Option Addr}{sl3:Array (Option Value)}{oc3 kV3 dc3 pm3 cd3 ct3:Value}
  {f4:Addr}{od4 an4:Option Addr}{sl4:Array (Option Value)}{oc4 kV4 dc4 pm4 cd4 ct4:Value}
  {f5:Addr}{od5 an5:Option Addr}{sl5:Array (Option Value)}{oc5 kV5 dc5 pm5 cd5 ct5:Value}
  {f6:Addr}{od6 an6:Option Addr}{sl6:Array (Option Value)}{oc6 kV6 dc6 pm6 cd6 ct6:Value}
  {f7:Addr}{od7 an7:Option Addr}{sl7:Array (Option Value)}{oc7 kV7 dc7 pm7 cd7 ct7:Value}
  {f8:Addr}{od8 an8:Option Addr}{sl8:Array (Option Value)}{oc8 kV8 dc8 pm8 cd8 ct8:Value}
  {f9:Addr}{od9 an9:Option Addr}{sl9:Array (Option Value)}{oc9 kV9 dc9 pm9 cd9 ct9:Value}
  {f10:Addr}{od10 an10:Option Addr}{sl10:Array (Option Value)}{oc10 kV10 dc10 pm10 cd10 ct10:Value}
  {f11:Addr}{od11 an11:Option Addr}{sl11:Array (Option Value)}{oc11 kV11 dc11 pm11 cd11 ct11:Value}
  {f12:Addr}{od12 an12:Option Addr}{sl12:Array (Option Value)}{oc12 kV12 dc12 pm12 cd12 ct12:Value}
  {f13:Addr}{od13 an13:Option Addr}{sl13:Array (Option Value)}{oc13 kV13 dc13 pm13 cd13 ct13:Value}
  {f14:Addr}{od14 an14:Option Addr}{sl14:Array (Option Value)}{oc14 kV14 dc14 pm14 cd14 ct14:Value}
  {f15:Addr}{od15 an15:Option Addr}{sl15:Array (Option Value)}{oc15 kV15 dc15 pm15 cd15 ct15:Value}
  {f16:Addr}{od16 an16:Option Addr}{sl16:Array (Option Value)}{oc16 kV16 dc16 pm16 cd16 ct16:Value}
  {f17:Addr}{od17 an17:Option Addr}{sl17:Array (Option Value)}{oc17 kV17 dc17 pm17 cd17 ct17:Value}
  {f18:Addr}{od18 an18:Option Addr}{sl18:Array (Option Value)}{oc18 kV18 dc18 pm18 cd18 ct18:Value}
  {f19:Addr}{od19 an19:Option Addr}{sl19:Array (Option Value)}{oc19 kV19 dc19 pm19 cd19 ct19:Value}
  {f20:Addr}{od20 an20:Option Addr}{sl20:Array (Option Value)}{oc20 kV20 dc20 pm20 cd20 ct20:Value}
  {f21:Addr}{od21 an21:Option Addr}{sl21:Array (Option Value)}{oc21 kV21 dc21 pm21 cd21 ct21:Value}
  {f22:Addr}{od22 an22:Option Addr}{sl22:Array (Option Value)}{oc22 kV22 dc22 pm22 cd22 ct22:Value}
  {f23:Addr}{od23 an23:Option Addr}{sl23:Array (Option Value)}{oc23 kV23 dc23 pm23 cd23 ct23:Value}
  {f24:Addr}{od24 an24:Option Addr}{sl24:Array (Option Value)}{oc24 kV24 dc24 pm24 cd24 ct24:Value}
  {f25:Addr}{od25 an25:Option Addr}{sl25:Array (Option Value)}{oc25 kV25 dc25 pm25 cd25 ct25:Value}
  {f26:Addr}{od26 an26:Option Addr}{sl26:Array (Option Value)}{oc26 kV26 dc26 pm26 cd26 ct26:Value}
  {f27:Addr}{od27 an27:Option Addr}{sl27:Array (Option Value)}{oc27 kV27 dc27 pm27 cd27 ct27:Value}
  {f28:Addr}{od28 an28:Option Addr}{sl28:Array (Option Value)}{oc28 kV28 dc28 pm28 cd28 ct28:Value}
  {f29:Addr}{od29 an29:Option Addr}{sl29:Array (Option Value)}{oc29 kV29 dc29 pm29 cd29 ct29:Value}
  {f30:Addr}{od30 an30:Option Addr}{sl30:Array (Option Value)}{oc30 kV30 dc30 pm30 cd30 ct30:Value}
  {f31:Addr}{od31 an31:Option Addr}{sl31:Array (Option Value)}{oc31 kV31 dc31 pm31 cd31 ct31:Value}
  {f32:Addr}{od32 an32:Option Addr}{sl32:Array (Option Value)}{oc32 kV32 dc32 pm32 cd32 ct32:Value}
  {f33:Addr}{od33 an33:Option Addr}{sl33:Array (Option Value)}{oc33 kV33 dc33 pm33 cd33 ct33:Value}
  {f34:Addr}{od34 an34:Option Addr}{sl34:Array (Option Value)}{oc34 kV34 dc34 pm34 cd34 ct34:Value}
  {f35:Addr}{od35 an35:Option Addr}{sl35:Array (Option Value)}{oc35 kV35 dc35 pm35 cd35 ct35:Value}
  {f36:Addr}{od36 an36:Option Addr}{sl36:Array (Option Value)}{oc36 kV36 dc36 pm36 cd36 ct36:Value}
  {f37:Addr}{od37 an37:Option Addr}{sl37:Array (Option Value)}{oc37 kV37 dc37 pm37 cd37 ct37:Value}
  {A_CircuitError:Addr}
  {A_NoRow:Addr}
  {A_NoTable:Addr}
  {A_MOST_PLACES_tables:Value}
  {A_MOST_PLACES_covers:Value}
  (a0:PySem.W.nsIn K mainGlobals "row_of"=some (some (.ref f0)))
  (l0:K.lookup f0=some ⟨oc0,od0,.func (PySem.W.fnOf "row_of" "row_of" (defArgs q3g) (defBody q3g) (defScope q3g) .none kV0 dc0 pm0 an0 cd0 ct0),sl0⟩)
  (c0:PySem.W.codeIn K cd0 "row_of"=true)
  (k0:keepIn K (.ref f0)=true)
  (a1:PySem.W.nsIn K mainGlobals "rows_many"=some (some (.ref f1)))
  (l1:K.lookup f1=some ⟨oc1,od1,.func (PySem.W.fnOf "rows_many" "rows_many" (defArgs q18) (defBody q18) (defScope q18) .none kV1 dc1 pm1 an1 cd1 ct1),sl1⟩)
  (c1:PySem.W.codeIn K cd1 "rows_many"=true)
  (k1:keepIn K (.ref f1)=true)
  (a2:PySem.W.nsIn K mainGlobals "all_rows"=some (some (.ref f2)))
  (l2:K.lookup f2=some ⟨oc2,od2,.func (PySem.W.fnOf "all_rows" "all_rows" (defArgs q2f) (defBody q2f) (defScope q2f) .none kV2 dc2 pm2 an2 cd2 ct2),sl2⟩)
  (c2:PySem.W.codeIn K cd2 "all_rows"=true)
  (k2:keepIn K (.ref f2)=true)
  (a3:PySem.W.nsIn K mainGlobals "in_cube"=some (some (.ref f3)))
  (l3:K.lookup f3=some ⟨oc3,od3,.func (PySem.W.fnOf "in_cube" "in_cube" (defArgs q2n) (defBody q2n) (defScope q2n) .none kV3 dc3 pm3 an3 cd3 ct3),sl3⟩)
  (c3:PySem.W.codeIn K cd3 "in_cube"=true)
  (k3:keepIn K (.ref f3)=true)
  (a4:PySem.W.nsIn K mainGlobals "rows_in"=some (some (.ref f4)))
  (l4:K.lookup f4=some ⟨oc4,od4,.func (PySem.W.fnOf "rows_in" "rows_in" (defArgs q2o) (defBody q2o) (defScope q2o) .none kV4 dc4 pm4 an4 cd4 ct4),sl4⟩)
  (c4:PySem.W.codeIn K cd4 "rows_in"=true)
  (k4:keepIn K (.ref f4)=true)
  (a5:PySem.W.nsIn K mainGlobals "places_of"=some (some (.ref f5)))
  (l5:K.lookup f5=some ⟨oc5,od5,.func (PySem.W.fnOf "places_of" "places_of" (defArgs q19) (defBody q19) (defScope q19) .none kV5 dc5 pm5 an5 cd5 ct5),sl5⟩)
  (c5:PySem.W.codeIn K cd5 "places_of"=true)
  (k5:keepIn K (.ref f5)=true)
  (a6:PySem.W.nsIn K mainGlobals "wish_places"=some (some (.ref f6)))
  (l6:K.lookup f6=some ⟨oc6,od6,.func (PySem.W.fnOf "wish_places" "wish_places" (defArgs q1k) (defBody q1k) (defScope q1k) .none kV6 dc6 pm6 an6 cd6 ct6),sl6⟩)
  (c6:PySem.W.codeIn K cd6 "wish_places"=true)
  (k6:keepIn K (.ref f6)=true)
  (a7:PySem.W.nsIn K mainGlobals "fits"=some (some (.ref f7)))
  (l7:K.lookup f7=some ⟨oc7,od7,.func (PySem.W.fnOf "fits" "fits" (defArgs q4a) (defBody q4a) (defScope q4a) .none kV7 dc7 pm7 an7 cd7 ct7),sl7⟩)
  (c7:PySem.W.codeIn K cd7 "fits"=true)
  (k7:keepIn K (.ref f7)=true)
  (a8:PySem.W.nsIn K mainGlobals "primes"=some (some (.ref f8)))
  (l8:K.lookup f8=some ⟨oc8,od8,.func (PySem.W.fnOf "primes" "primes" (defArgs q21) (defBody q21) (defScope q21) .none kV8 dc8 pm8 an8 cd8 ct8),sl8⟩)
  (c8:PySem.W.codeIn K cd8 "primes"=true)
  (k8:keepIn K (.ref f8)=true)
  (a9:PySem.W.nsIn K mainGlobals "all_cubes"=some (some (.ref f9)))
  (l9:K.lookup f9=some ⟨oc9,od9,.func (PySem.W.fnOf "all_cubes" "all_cubes" (defArgs q2a) (defBody q2a) (defScope q2a) .none kV9 dc9 pm9 an9 cd9 ct9),sl9⟩)
  (c9:PySem.W.codeIn K cd9 "all_cubes"=true)
  (k9:keepIn K (.ref f9)=true)
  (a10:PySem.W.nsIn K mainGlobals "is_prime"=some (some (.ref f10)))
  (l10:K.lookup f10=some ⟨oc10,od10,.func (PySem.W.fnOf "is_prime" "is_prime" (defArgs q12) (defBody q12) (defScope q12) .none kV10 dc10 pm10 an10 cd10 ct10),sl10⟩)
  (c10:PySem.W.codeIn K cd10 "is_prime"=true)
  (k10:keepIn K (.ref f10)=true)
  (a11:PySem.W.nsIn K mainGlobals "wider_cubes"=some (some (.ref f11)))
  (l11:K.lookup f11=some ⟨oc11,od11,.func (PySem.W.fnOf "wider_cubes" "wider_cubes" (defArgs q1b) (defBody q1b) (defScope q1b) .none kV11 dc11 pm11 an11 cd11 ct11),sl11⟩)
  (c11:PySem.W.codeIn K cd11 "wider_cubes"=true)
  (k11:keepIn K (.ref f11)=true)
  (a12:PySem.W.nsIn K mainGlobals "wished_rows"=some (some (.ref f12)))
  (l12:K.lookup f12=some ⟨oc12,od12,.func (PySem.W.fnOf "wished_rows" "wished_rows" (defArgs q1c) (defBody q1c) (defScope q1c) .none kV12 dc12 pm12 an12 cd12 ct12),sl12⟩)
  (c12:PySem.W.codeIn K cd12 "wished_rows"=true)
  (k12:keepIn K (.ref f12)=true)
  (a13:PySem.W.nsIn K mainGlobals "rows_left"=some (some (.ref f13)))
  (l13:K.lookup f13=some ⟨oc13,od13,.func (PySem.W.fnOf "rows_left" "rows_left" (defArgs q1x) (defBody q1x) (defScope q1x) .none kV13 dc13 pm13 an13 cd13 ct13),sl13⟩)
  (c13:PySem.W.codeIn K cd13 "rows_left"=true)
  (k13:keepIn K (.ref f13)=true)
  (a14:PySem.W.nsIn K mainGlobals "is_whole"=some (some (.ref f14)))
  (l14:K.lookup f14=some ⟨oc14,od14,.func (PySem.W.fnOf "is_whole" "is_whole" (defArgs q2j) (defBody q2j) (defScope q2j) .none kV14 dc14 pm14 an14 cd14 ct14),sl14⟩)
  (c14:PySem.W.codeIn K cd14 "is_whole"=true)
  (k14:keepIn K (.ref f14)=true)
  (a15:PySem.W.nsIn K mainGlobals "is_tuple_of"=some (some (.ref f15)))
  (l15:K.lookup f15=some ⟨oc15,od15,.func (PySem.W.fnOf "is_tuple_of" "is_tuple_of" (defArgs q1l) (defBody q1l) (defScope q1l) .none kV15 dc15 pm15 an15 cd15 ct15),sl15⟩)
  (c15:PySem.W.codeIn K cd15 "is_tuple_of"=true)
  (k15:keepIn K (.ref f15)=true)
  (a16:PySem.W.nsIn K mainGlobals "same_truth"=some (some (.ref f16)))
  (l16:K.lookup f16=some ⟨oc16,od16,.func (PySem.W.fnOf "same_truth" "same_truth" (defArgs q1y) (defBody q1y) (defScope q1y) .none kV16 dc16 pm16 an16 cd16 ct16),sl16⟩)
  (c16:PySem.W.codeIn K cd16 "same_truth"=true)
  (k16:keepIn K (.ref f16)=true)
  (a17:PySem.W.nsIn K mainGlobals "reaches_of"=some (some (.ref f17)))
  (l17:K.lookup f17=some ⟨oc17,od17,.func (PySem.W.fnOf "reaches_of" "reaches_of" (defArgs q1i) (defBody q1i) (defScope q1i) .none kV17 dc17 pm17 an17 cd17 ct17),sl17⟩)
  (c17:PySem.W.codeIn K cd17 "reaches_of"=true)
  (k17:keepIn K (.ref f17)=true)
  (a18:PySem.W.nsIn K mainGlobals "having"=some (some (.ref f18)))
  (l18:K.lookup f18=some ⟨oc18,od18,.func (PySem.W.fnOf "having" "having" (defArgs q22) (defBody q22) (defScope q22) .none kV18 dc18 pm18 an18 cd18 ct18),sl18⟩)
  (c18:PySem.W.codeIn K cd18 "having"=true)
  (k18:keepIn K (.ref f18)=true)
  (a19:PySem.W.nsIn K mainGlobals "shows_cover"=some (some (.ref f19)))
  (l19:K.lookup f19=some ⟨oc19,od19,.func (PySem.W.fnOf "shows_cover" "shows_cover" (defArgs q1m) (defBody q1m) (defScope q1m) .none kV19 dc19 pm19 an19 cd19 ct19),sl19⟩)
  (c19:PySem.W.codeIn K cd19 "shows_cover"=true)
  (k19:keepIn K (.ref f19)=true)
  (a20:PySem.W.nsIn K mainGlobals "is_tree"=some (some (.ref f20)))
  (l20:K.lookup f20=some ⟨oc20,od20,.func (PySem.W.fnOf "is_tree" "is_tree" (defArgs q2p) (defBody q2p) (defScope q2p) .none kV20 dc20 pm20 an20 cd20 ct20),sl20⟩)
  (c20:PySem.W.codeIn K cd20 "is_tree"=true)
  (k20:keepIn K (.ref f20)=true)
  (a21:PySem.W.nsIn K mainGlobals "is_branch"=some (some (.ref f21)))
  (l21:K.lookup f21=some ⟨oc21,od21,.func (PySem.W.fnOf "is_branch" "is_branch" (defArgs q2b) (defBody q2b) (defScope q2b) .none kV21 dc21 pm21 an21 cd21 ct21),sl21⟩)
  (c21:PySem.W.codeIn K cd21 "is_branch"=true)
  (k21:keepIn K (.ref f21)=true)
  (a22:PySem.W.nsIn K mainGlobals "is_cube"=some (some (.ref f22)))
  (l22:K.lookup f22=some ⟨oc22,od22,.func (PySem.W.fnOf "is_cube" "is_cube" (defArgs q2q) (defBody q2q) (defScope q2q) .none kV22 dc22 pm22 an22 cd22 ct22),sl22⟩)
  (c22:PySem.W.codeIn K cd22 "is_cube"=true)
  (k22:keepIn K (.ref f22)=true)
  (a23:PySem.W.nsIn K mainGlobals "_law_cell_at"=some (some (.ref f23)))
  (l23:K.lookup f23=some ⟨oc23,od23,.func (PySem.W.fnOf "_law_cell_at" "_law_cell_at" (defArgs q1f) (defBody q1f) (defScope q1f) .none kV23 dc23 pm23 an23 cd23 ct23),sl23⟩)
  (c23:PySem.W.codeIn K cd23 "_law_cell_at"=true)
  (k23:keepIn K (.ref f23)=true)
  (a24:PySem.W.nsIn K mainGlobals "_law_way"=some (some (.ref f24)))
  (l24:K.lookup f24=some ⟨oc24,od24,.func (PySem.W.fnOf "_law_way" "_law_way" (defArgs q2k) (defBody q2k) (defScope q2k) .none kV24 dc24 pm24 an24 cd24 ct24),sl24⟩)
  (c24:PySem.W.codeIn K cd24 "_law_way"=true)
  (k24:keepIn K (.ref f24)=true)
  (a25:PySem.W.nsIn K mainGlobals "_law_mark"=some (some (.ref f25)))
  (l25:K.lookup f25=some ⟨oc25,od25,.func (PySem.W.fnOf "_law_mark" "_law_mark" (defArgs q2c) (defBody q2c) (defScope q2c) .none kV25 dc25 pm25 an25 cd25 ct25),sl25⟩)
  (c25:PySem.W.codeIn K cd25 "_law_mark"=true)
  (k25:keepIn K (.ref f25)=true)
  (a26:PySem.W.nsIn K mainGlobals "_law_rows"=some (some (.ref f26)))
  (l26:K.lookup f26=some ⟨oc26,od26,.func (PySem.W.fnOf "_law_rows" "_law_rows" (defArgs q1g) (defBody q1g) (defScope q1g) .none kV26 dc26 pm26 an26 cd26 ct26),sl26⟩)
  (c26:PySem.W.codeIn K cd26 "_law_rows"=true)
  (k26:keepIn K (.ref f26)=true)
  (a27:PySem.W.nsIn K mainGlobals "_law_wish_by"=some (some (.ref f27)))
  (l27:K.lookup f27=some ⟨oc27,od27,.func (PySem.W.fnOf "_law_wish_by" "_law_wish_by" (defArgs q06) (defBody q06) (defScope q06) .none kV27 dc27 pm27 an27 cd27 ct27),sl27⟩)
  (c27:PySem.W.codeIn K cd27 "_law_wish_by"=true)
  (k27:keepIn K (.ref f27)=true)
  (a28:PySem.W.nsIn K mainGlobals "_law_odd_wish"=some (some (.ref f28)))
  (l28:K.lookup f28=some ⟨oc28,od28,.func (PySem.W.fnOf "_law_odd_wish" "_law_odd_wish" (defArgs q02) (defBody q02) (defScope q02) .none kV28 dc28 pm28 an28 cd28 ct28),sl28⟩)
  (c28:PySem.W.codeIn K cd28 "_law_odd_wish"=true)
  (k28:keepIn K (.ref f28)=true)
  (a29:PySem.W.nsIn K mainGlobals "_law_having"=some (some (.ref f29)))
  (l29:K.lookup f29=some ⟨oc29,od29,.func (PySem.W.fnOf "_law_having" "_law_having" (defArgs q1d) (defBody q1d) (defScope q1d) .none kV29 dc29 pm29 an29 cd29 ct29),sl29⟩)
  (c29:PySem.W.codeIn K cd29 "_law_having"=true)
  (k29:keepIn K (.ref f29)=true)
  (a30:PySem.W.nsIn K mainGlobals "_law_left"=some (some (.ref f30)))
  (l30:K.lookup f30=some ⟨oc30,od30,.func (PySem.W.fnOf "_law_left" "_law_left" (defArgs q1z) (defBody q1z) (defScope q1z) .none kV30 dc30 pm30 an30 cd30 ct30),sl30⟩)
  (c30:PySem.W.codeIn K cd30 "_law_left"=true)
  (k30:keepIn K (.ref f30)=true)
  (a31:PySem.W.nsIn K mainGlobals "_law_made"=some (some (.ref f31)))
  (l31:K.lookup f31=some ⟨oc31,od31,.func (PySem.W.fnOf "_law_made" "_law_made" (defArgs q10) (defBody q10) (defScope q10) .none kV31 dc31 pm31 an31 cd31 ct31),sl31⟩)
  (c31:PySem.W.codeIn K cd31 "_law_made"=true)
  (k31:keepIn K (.ref f31)=true)
  (a32:PySem.W.nsIn K mainGlobals "_law_changed"=some (some (.ref f32)))
  (l32:K.lookup f32=some ⟨oc32,od32,.func (PySem.W.fnOf "_law_changed" "_law_changed" (defArgs q07) (defBody q07) (defScope q07) .none kV32 dc32 pm32 an32 cd32 ct32),sl32⟩)
  (c32:PySem.W.codeIn K cd32 "_law_changed"=true)
  (k32:keepIn K (.ref f32)=true)
  (a33:PySem.W.nsIn K mainGlobals "_law_is_cube"=some (some (.ref f33)))
  (l33:K.lookup f33=some ⟨oc33,od33,.func (PySem.W.fnOf "_law_is_cube" "_law_is_cube" (defArgs q08) (defBody q08) (defScope q08) .none kV33 dc33 pm33 an33 cd33 ct33),sl33⟩)
  (c33:PySem.W.codeIn K cd33 "_law_is_cube"=true)
  (k33:keepIn K (.ref f33)=true)
  (a34:PySem.W.nsIn K mainGlobals "_law_due"=some (some (.ref f34)))
  (l34:K.lookup f34=some ⟨oc34,od34,.func (PySem.W.fnOf "_law_due" "_law_due" (defArgs q2l) (defBody q2l) (defScope q2l) .none kV34 dc34 pm34 an34 cd34 ct34),sl34⟩)
  (c34:PySem.W.codeIn K cd34 "_law_due"=true)
  (k34:keepIn K (.ref f34)=true)
  (a35:PySem.W.nsIn K mainGlobals "_law_odd_rows"=some (some (.ref f35)))
  (l35:K.lookup f35=some ⟨oc35,od35,.func (PySem.W.fnOf "_law_odd_rows" "_law_odd_rows" (defArgs q03) (defBody q03) (defScope q03) .none kV35 dc35 pm35 an35 cd35 ct35),sl35⟩)
  (c35:PySem.W.codeIn K cd35 "_law_odd_rows"=true)
  (k35:keepIn K (.ref f35)=true)
  (a36:PySem.W.nsIn K mainGlobals "_law_refused"=some (some (.ref f36)))
  (l36:K.lookup f36=some ⟨oc36,od36,.func (PySem.W.fnOf "_law_refused" "_law_refused" (defArgs q1h) (defBody q1h) (defScope q1h) .none kV36 dc36 pm36 an36 cd36 ct36),sl36⟩)
  (c36:PySem.W.codeIn K cd36 "_law_refused"=true)
  (k36:keepIn K (.ref f36)=true)
  (a37:PySem.W.nsIn K mainGlobals "law"=some (some (.ref f37)))
  (l37:K.lookup f37=some ⟨oc37,od37,.func (PySem.W.fnOf "law" "law" (defArgs q4j) (defBody q4j) (defScope q4j) .none kV37 dc37 pm37 an37 cd37 ct37),sl37⟩)
  (c37:PySem.W.codeIn K cd37 "law"=true)
  (k37:keepIn K (.ref f37)=true)
  (n_CircuitError:PySem.W.nsIn K mainGlobals "CircuitError"=some (some (.ref A_CircuitError)))
  (n_NoRow:PySem.W.nsIn K mainGlobals "NoRow"=some (some (.ref A_NoRow)))
  (n_NoTable:PySem.W.nsIn K mainGlobals "NoTable"=some (some (.ref A_NoTable)))
  (n_MOST_PLACES_tables:PySem.W.nsIn K mainGlobals "MOST_PLACES_tables"=some (some A_MOST_PLACES_tables))
  (n_MOST_PLACES_covers:PySem.W.nsIn K mainGlobals "MOST_PLACES_covers"=some (some A_MOST_PLACES_covers))
  (z_all:PySem.W.nsIn K mainGlobals "all"=some none)
  (z_any:PySem.W.nsIn K mainGlobals "any"=some none)
  (z_bool:PySem.W.nsIn K mainGlobals "bool"=some none)
  (z_enumerate:PySem.W.nsIn K mainGlobals "enumerate"=some none)
  (z_int:PySem.W.nsIn K mainGlobals "int"=some none)
  (z_isinstance:PySem.W.nsIn K mainGlobals "isinstance"=some none)
  (z_len:PySem.W.nsIn K mainGlobals "len"=some none)
  (z_list:PySem.W.nsIn K mainGlobals "list"=some none)
  (z_range:PySem.W.nsIn K mainGlobals "range"=some none)
  (z_reversed:PySem.W.nsIn K mainGlobals "reversed"=some none)
  (z_sorted:PySem.W.nsIn K mainGlobals "sorted"=some none)
  (z_tuple:PySem.W.nsIn K mainGlobals "tuple"=some none)
  (z_zip:PySem.W.nsIn K mainGlobals "zip"=some none)
  (g_MOST_PLACES_tables:conIn K (.int 10) A_MOST_PLACES_tables=true)
  (g_MOST_PLACES_covers:conIn K (.int 4) A_MOST_PLACES_covers=true)
  (e_NoRow:excIn K A_NoRow A_CircuitError=true)
  (e_NoTable:excIn K A_NoTable A_CircuitError=true)
  (c_NoRow:excClsIn K A_NoRow=true)
  (x_NoRow_CircuitError:exmOne K (.ref A_NoRow) (.ref A_CircuitError)=some true)
  (k_NoRow_NoTable:kitOne K (.ref A_NoRow) (.ref A_NoTable)=some false)
  (c_NoTable:excClsIn K A_NoTable=true)
  (x_NoTable_CircuitError:exmOne K (.ref A_NoTable) (.ref A_CircuitError)=some true)
  (k_NoTable_NoTable:kitOne K (.ref A_NoTable) (.ref A_NoTable)=some true)
  (t_NoneType_int:kitOne K (.type "NoneType") (.type "int")=some false)
  (t_bool_int:kitOne K (.type "bool") (.type "int")=some true)
  (t_int_int:kitOne K (.type "int") (.type "int")=some true)
  (t_str_int:kitOne K (.type "str") (.type "int")=some false)
  (t_tuple_int:kitOne K (.type "tuple") (.type "int")=some false)
  (t_list_int:kitOne K (.type "list") (.type "int")=some false)
  (t_NoneType_bool:kitOne K (.type "NoneType") (.type "bool")=some false)
  (t_bool_bool:kitOne K (.type "bool") (.type "bool")=some true)
  (t_int_bool:kitOne K (.type "int") (.type "bool")=some false)
  (t_str_bool:kitOne K (.type "str") (.type "bool")=some false)
  (t_tuple_bool:kitOne K (.type "tuple") (.type "bool")=some false)
  (t_list_bool:kitOne K (.type "list") (.type "bool")=some false)
  (t_NoneType_tuple:kitOne K (.type "NoneType") (.type "tuple")=some false)
  (t_bool_tuple:kitOne K (.type "bool") (.type "tuple")=some false)
  (t_int_tuple:kitOne K (.type "int") (.type "tuple")=some false)
  (t_str_tuple:kitOne K (.type "str") (.type "tuple")=some false)
  (t_tuple_tuple:kitOne K (.type "tuple") (.type "tuple")=some true)
  (t_list_tuple:kitOne K (.type "list") (.type "tuple")=some false)
  (nt:NoTup K)
  (n:Nat)(hL:∀a:Adr,Exs K mg a->∀ns:List Int,Fit ns->run K a (n+1) q6e [.lst (ns.map .int)]=.ok (.fr (.bl true))):
  ∃fd:FuncData,(∀(s:Shared)(v:Value),BindsTo s fd ⟨[v],[]⟩ [("_law_script", v)])/\∀base:Heap,K.In base->base.Ns mainGlobals mg->FnOk l.prog w K mg base (CX1 l.prog w) (n+1) fa fd ["_law_script"] (spLawB K):=by
 have e:=hfa.symm.trans (mg_of X G a37);cases e
 have A:Ats K mg:=⟨⟨⟨_,_,q0h (st:=q3g) l0 c0 k0,mg_of X G a0,(q0h (st:=q3g) l0 c0 k0).binds (ps:=["number", "many"]) fun _ _ _ _ _ _=>us2 fun _ _=>rfl⟩⟩,
  ⟨⟨_,_,q0h (st:=q18) l1 c1 k1,mg_of X G a1,(q0h (st:=q18) l1 c1 k1).binds (ps:=["many"]) fun _ _ _ _ _ _=>us1 fun _=>rfl⟩⟩,
  ⟨⟨_,_,q0h (st:=q2f) l2 c2 k2,mg_of X G a2,(q0h (st:=q2f) l2 c2 k2).binds (ps:=["many"]) fun _ _ _ _ _ _=>us1 fun _=>rfl⟩⟩,
  ⟨⟨_,_,q0h (st:=q2n) l3 c3 k3,mg_of X G a3,(q0h (st:=q2n) l3 c3 k3).binds (ps:=["cube", "row"]) fun _ _ _ _ _ _=>us2 fun _ _=>rfl⟩⟩,
  ⟨⟨_,_,q0h (st:=q2o) l4 c4 k4,mg_of X G a4,(q0h (st:=q2o) l4 c4 k4).binds (ps:=["cube"]) fun _ _ _ _ _ _=>us1 fun _=>rfl⟩⟩,
  ⟨⟨_,_,q0h (st:=q19) l5 c5 k5,mg_of X G a5,(q0h (st:=q19) l5 c5 k5).binds (ps:=["table"]) fun _ _ _ _ _ _=>us1 fun _=>rfl⟩⟩,
  ⟨⟨_,_,q0h (st:=q1k) l6 c6 k6,mg_of X G a6,(q0h (st:=q1k) l6 c6 k6).binds (ps:=["wish"]) fun _ _ _ _ _ _=>us1 fun _=>rfl⟩⟩,
  ⟨⟨_,_,q0h (st:=q4a) l7 c7 k7,mg_of X G a7,(q0h (st:=q4a) l7 c7 k7).binds (ps:=["cube", "wish"]) fun _ _ _ _ _ _=>us2 fun _ _=>rfl⟩⟩,
  ⟨⟨_,_,q0h (st:=q21) l8 c8 k8,mg_of X G a8,(q0h (st:=q21) l8 c8 k8).binds (ps:=["wish"]) fun _ _ _ _ _ _=>us1 fun _=>rfl⟩⟩,
  ⟨⟨_,_,q0h (st:=q2a) l9 c9 k9,mg_of X G a9,(q0h (st:=q2a) l9 c9 k9).binds (ps:=["many"]) fun _ _ _ _ _ _=>us1 fun _=>rfl⟩⟩,
  ⟨⟨_,_,q0h (st:=q12) l10 c10 k10,mg_of X G a10,(q0h (st:=q12) l10 c10 k10).binds (ps:=["cube", "wish"]) fun _ _ _ _ _ _=>us2 fun _ _=>rfl⟩⟩,
  ⟨⟨_,_,q0h (st:=q1b) l11 c11 k11,mg_of X G a11,(q0h (st:=q1b) l11 c11 k11).binds (ps:=["cube"]) fun _ _ _ _ _ _=>us1 fun _=>rfl⟩⟩,
  ⟨⟨_,_,q0h (st:=q1c) l12 c12 k12,mg_of X G a12,(q0h (st:=q1c) l12 c12 k12).binds (ps:=["wish"]) fun _ _ _ _ _ _=>us1 fun _=>rfl⟩⟩,
  ⟨⟨_,_,q0h (st:=q1x) l13 c13 k13,mg_of X G a13,(q0h (st:=q1x) l13 c13 k13).binds (ps:=["numbers", "taken"]) fun _ _ _ _ _ _=>us2 fun _ _=>rfl⟩⟩,
  ⟨⟨_,_,q0h (st:=q2j) l14 c14 k14,mg_of X G a14,(q0h (st:=q2j) l14 c14 k14).binds (ps:=["thing"]) fun _ _ _ _ _ _=>us1 fun _=>rfl⟩⟩,
  ⟨⟨_,_,q0h (st:=q1l) l15 c15 k15,mg_of X G a15,(q0h (st:=q1l) l15 c15 k15).binds (ps:=["thing", "length"]) fun _ _ _ _ _ _=>us2 fun _ _=>rfl⟩⟩,
  ⟨⟨_,_,q0h (st:=q1y) l16 c16 k16,mg_of X G a16,(q0h (st:=q1y) l16 c16 k16).binds (ps:=["thing", "truth"]) fun _ _ _ _ _ _=>us2 fun _ _=>rfl⟩⟩,
  ⟨⟨_,_,q0h (st:=q1i) l17 c17 k17,mg_of X G a17,(q0h (st:=q1i) l17 c17 k17).binds (ps:=["wish"]) fun _ _ _ _ _ _=>us1 fun _=>rfl⟩⟩,
  ⟨⟨_,_,q0h (st:=q22) l18 c18 k18,mg_of X G a18,(q0h (st:=q22) l18 c18 k18).binds (ps:=["reaches", "number"]) fun _ _ _ _ _ _=>us2 fun _ _=>rfl⟩⟩,
  ⟨⟨_,_,q0h (st:=q1m) l19 c19 k19,mg_of X G a19,(q0h (st:=q1m) l19 c19 k19).binds (ps:=["wish", "count", "tree"]) fun _ _ _ _ _ _=>us3 fun _ _ _=>rfl⟩⟩,
  ⟨⟨_,_,q0h (st:=q2p) l20 c20 k20,mg_of X G a20,(q0h (st:=q2p) l20 c20 k20).binds (ps:=["thing", "reaches", "left", "count"]) fun _ _ _ _ _ _=>us4 fun _ _ _ _=>rfl⟩⟩,
  ⟨⟨_,_,q0h (st:=q2b) l21 c21 k21,mg_of X G a21,(q0h (st:=q2b) l21 c21 k21).binds (ps:=["thing", "reach", "reaches", "left", "count"]) fun _ _ _ _ _ _=>us5 fun _ _ _ _ _=>rfl⟩⟩,
  ⟨⟨_,_,q0h (st:=q2q) l22 c22 k22,mg_of X G a22,(q0h (st:=q2q) l22 c22 k22).binds (ps:=["thing", "cube"]) fun _ _ _ _ _ _=>us2 fun _ _=>rfl⟩⟩,
  ⟨⟨_,_,q0h (st:=q1f) l23 c23 k23,mg_of X G a23,(q0h (st:=q1f) l23 c23 k23).binds (ps:=["_law_script", "_law_k"]) fun _ _ _ _ _ _=>us2 fun _ _=>rfl⟩⟩,
  ⟨⟨_,_,q0h (st:=q2k) l24 c24 k24,mg_of X G a24,(q0h (st:=q2k) l24 c24 k24).binds (ps:=["_law_script", "_law_k", "_law_many"]) fun _ _ _ _ _ _=>us3 fun _ _ _=>rfl⟩⟩,
  ⟨⟨_,_,q0h (st:=q2c) l25 c25 k25,mg_of X G a25,(q0h (st:=q2c) l25 c25 k25).binds (ps:=["_law_script", "_law_k"]) fun _ _ _ _ _ _=>us2 fun _ _=>rfl⟩⟩,
  ⟨⟨_,_,q0h (st:=q1g) l26 c26 k26,mg_of X G a26,(q0h (st:=q1g) l26 c26 k26).binds (ps:=["_law_cube"]) fun _ _ _ _ _ _=>us1 fun _=>rfl⟩⟩,
  ⟨⟨_,_,q0h (st:=q06) l27 c27 k27,mg_of X G a27,(q0h (st:=q06) l27 c27 k27).binds (ps:=["_law_script", "_law_many"]) fun _ _ _ _ _ _=>us2 fun _ _=>rfl⟩⟩,
  ⟨⟨_,_,q0h (st:=q02) l28 c28 k28,mg_of X G a28,(q0h (st:=q02) l28 c28 k28).binds (ps:=["_law_script"]) fun _ _ _ _ _ _=>us1 fun _=>rfl⟩⟩,
  ⟨⟨_,_,q0h (st:=q1d) l29 c29 k29,mg_of X G a29,(q0h (st:=q1d) l29 c29 k29).binds (ps:=["_law_wish", "_law_listed"]) fun _ _ _ _ _ _=>us2 fun _ _=>rfl⟩⟩,
  ⟨⟨_,_,q0h (st:=q1z) l30 c30 k30,mg_of X G a30,(q0h (st:=q1z) l30 c30 k30).binds (ps:=["_law_left_here", "_law_cube"]) fun _ _ _ _ _ _=>us2 fun _ _=>rfl⟩⟩,
  ⟨⟨_,_,q0h (st:=q10) l31 c31 k31,mg_of X G a31,(q0h (st:=q10) l31 c31 k31).binds (ps:=["_law_having_here", "_law_left_here", "_law_count", "_law_mark_here"]) fun _ _ _ _ _ _=>us4 fun _ _ _ _=>rfl⟩⟩,
  ⟨⟨_,_,q0h (st:=q07) l32 c32 k32,mg_of X G a32,(q0h (st:=q07) l32 c32 k32).binds (ps:=["_law_tree", "_law_mark_here"]) fun _ _ _ _ _ _=>us2 fun _ _=>rfl⟩⟩,
  ⟨⟨_,_,q0h (st:=q08) l33 c33 k33,mg_of X G a33,(q0h (st:=q08) l33 c33 k33).binds (ps:=["_law_thing"]) fun _ _ _ _ _ _=>us1 fun _=>rfl⟩⟩,
  ⟨⟨_,_,q0h (st:=q2l) l34 c34 k34,mg_of X G a34,(q0h (st:=q2l) l34 c34 k34).binds (ps:=["_law_having_here", "_law_left_here", "_law_count", "_law_tree"]) fun _ _ _ _ _ _=>us4 fun _ _ _ _=>rfl⟩⟩,
  ⟨⟨_,_,q0h (st:=q03) l35 c35 k35,mg_of X G a35,(q0h (st:=q03) l35 c35 k35).binds (ps:=["_law_many"]) fun _ _ _ _ _ _=>us1 fun _=>rfl⟩⟩,
  ⟨⟨_,_,q0h (st:=q1h) l36 c36 k36,mg_of X G a36,(q0h (st:=q1h) l36 c36 k36).binds (ps:=["_law_wish", "_law_count"]) fun _ _ _ _ _ _=>us2 fun _ _=>rfl⟩⟩,
  ⟨⟨_,_,q0h (st:=q4j) l37 c37 k37,mg_of X G a37,(q0h (st:=q4j) l37 c37 k37).binds (ps:=["_law_script"]) fun _ _ _ _ _ _=>us1 fun _=>rfl⟩⟩⟩
 have B:Blt mg:=⟨mg_none_of X G z_all,mg_none_of X G z_any,mg_none_of X G z_bool,mg_none_of X G z_enumerate,mg_none_of X G z_int,mg_none_of X G z_isinstance,mg_none_of X G z_len,mg_none_of X G z_list,mg_none_of X G z_range,mg_none_of X G z_reversed,mg_none_of X G z_sorted,mg_none_of X G z_tuple,mg_none_of X G z_zip⟩;have M:Exs K mg ⟨A_CircuitError,A_NoRow,A_NoTable,A_MOST_PLACES_tables,A_MOST_PLACES_covers⟩:=⟨trivial,mg_of X G n_CircuitError,mg_of X G n_NoRow,mg_of X G n_NoTable,mg_of X G n_MOST_PLACES_tables,mg_of X G n_MOST_PLACES_covers,g_MOST_PLACES_tables,g_MOST_PLACES_covers,e_NoRow,e_NoTable,c_NoRow,x_NoRow_CircuitError,k_NoRow_NoTable,c_NoTable,x_NoTable_CircuitError,k_NoTable_NoTable,t_NoneType_int,t_bool_int,t_int_int,t_str_int,t_tuple_int,t_list_int,t_NoneType_bool,t_bool_bool,t_int_bool,t_str_bool,t_tuple_bool,t_list_bool,t_NoneType_tuple,t_bool_tuple,t_int_tuple,t_str_tuple,t_tuple_tuple,t_list_tuple,nt⟩;exact⟨_,fun s v=>.of_eq rfl,fun base _ _=>(law_fn A B M (q0h (st:=q4j) l37 c37 k37) n).imp fun vs H Q E q=>y1a (hL _ M) q⟩
local macro_rules | `(tactic| walk_at "den") => do
 let l:=(("y67 y68 z3j y3v y3w y3z y1f y7b y7c z04 y2s y6s y6t y6u y6v y3j y07 y08 z0z y3e y3f y3g y3h y25 y26 y0t y6l y0u y0v y27 z0t y28 y29 y0w z0u y6n y3b y3c y9c y9d y9e y9f y9g y9h y9i y5q y5m y5n y5o y2r y89 y9a y9b y5p z13 z14 z15 z16 y9j x8p x8q y0g y9k y9l y5t dC_s z17 z18 y5u y5v y9m y9n z19 y9o y5w y9p y9q z2a y5x y9r z2b y9s y5y y9t y9u z2c z2d y5z z2e y50 y9v y51 y9w y9x y52 y53 y54 y2v y55 y56 y2w y0h y2x y0i y9y y57 y0j q5k y58 y59 x70 y6a y6b y2y z2f y92 y93 z2g z2h y2z z2i y0k y6c y20 y94 y95 y96 y97 y98 y6e y6f y6g y6h y21 x8r x8s y0l y22 y0m y6i y23 z0a z0b z0c z0d z0e y6j z0f z2j z2k z2l z2m z2n z2o z2p z2q z2r z2s z2t z2u z2v z2w z2x z2y z0g z0h z0i z0j z0k z0l z0m ix_t ix_l z2z z20 z21 z22 z23 z24 z25 z26 z27 z28 z29 z3a z3b sc_i sc_b sc_s sc_n sl_l at0 at1 at2 z0n rng1 rng2 init Option.map_some Option.bind_some List.map_cons List.map_nil List.length_cons List.length_nil List.replicate_succ List.replicate_zero List.cons_append List.nil_append List.getElem?_cons_zero List.getElem?_cons_succ List.set_cons_zero List.set_cons_succ if_true if_false decide_eq_true_eq reduceIte Bool.false_eq_true ite_true ite_false Nat.reduceSub Nat.reduceAdd Nat.reduceLeDiff Nat.zero_add Nat.le_refl Int.reduceLT Int.reduceLE Int.reduceNeg true_and and_true true_or or_true false_and and_false false_or or_false not_true_eq_false not_false_eq_true decide_true decide_false Bool.not_true Bool.not_false String.reduceEq Nat.reduceEqDiff y24 z3d z3e Int.reduceToNat Int.reducePow Nat.reduceLT cast0 cast1 Int.reduceEq Int.reduceMod Int.reduceDiv Int.reduceAdd Int.reduceSub Int.reduceMul z06 z3k y2u y5r y5s y9z y90 y91 y2t".splitOn " ").map fun s=>Lean.mkIdent s.toName).toArray
 `(tactic| try simp only [$[$l:ident],*])
section
theorem x0n(n:Nat)(ns:List Int){k:Int}(hk:0<=k):run K a (n+1) q1o [.lst (ns.map .int),.int k]=.ok (.fr (.int (ns.getD k.toNat 0))):=by
 rw[q6r];unfold q3l;walk_at "den"
 by_cases h:k<ns.length
 ·rw[if_pos (by simpa using h),x5a hk]
  have e:(ns.map W.int)[k.toNat]?=some (.int (ns.getD k.toNat 0)):=by
   have:k.toNat<ns.length:=by omega
   simp[List.getD,this]
  rw[e];walk_at "den"
 ·rw[if_neg (by simpa using h)]
  have:ns.getD k.toNat 0=0:=by
   have:¬k.toNat<ns.length:=by omega
   simp[List.getD,this]
  rw[this]
theorem x3o{i:Nat}{b:List S->SR}(st:S->List S)(p:W->Bool)(rt:W->S):∀(ws:List W)(z:S),(∀w∈ws,∀z,(p w=true->∃e',b ((st z).set i (.fr w))=.rt (rt w) e')/\(p w=false->∃z',b ((st z).set i (.fr w))=.nx (st z'))) ->
  (∀w,ws.find? p=some w->∃e',forD i b ws (st z)=.rt (rt w) e')/\(ws.find? p=none->∃z',forD i b ws (st z)=.nx (st z'))
 |[],z,h=>⟨fun w q=>by simp at q,fun _=>⟨z,rfl⟩⟩
 |w::ws,z,h=>by
  obtain⟨h1,h2⟩:=h w (by simp) z;cases q:p w with
  |true=>
   obtain⟨e',h3⟩:=h1 q;refine⟨fun u hu=>?_,fun hu=>?_⟩
   ·rw[w3z q]at hu;cases hu;exact⟨e',by rw[q4z,h3,x70]⟩
   ·rw[w3z q]at hu;cases hu
  |false=>
   obtain⟨z',h3⟩:=h2 q;have ih:=x3o st p rt ws z' fun u hu=>h u (by simp[hu])
   rw[List.find?_cons_of_neg (by simp[q]),q4z,h3,q5k];exact ih
theorem q8m(n:Nat)(m:Int)(h0:0<=m)(h1:m<1000):run K a (n+1) q2w [.int m]=.ok (.fr (.int (2^m.toNat))):=by
 rw[q79];unfold q4q;walk_at "den";rw[if_pos (q3h (by omega) (by omega))];walk_at "den"
 obtain⟨e',h2,z,rfl⟩:=q46 (b:=q53 K a (run K a n)) (i:=2) (lo:=0) (hi:=m) m.toNat (by omega) (fun j e=>∃z,e=[.fr (.int m),.fr (.int (2^j)),z]) [.fr (.int m),.fr (.int 1),.no] ⟨_,rfl⟩ (by
  rintro j e hj ⟨z,rfl⟩;unfold q53;walk_at "den";exact⟨_,rfl,_,by rw[w4d,Int.mul_comm]⟩)
 rw[h2];walk_at "den"
noncomputable def lg(n:Nat):Option Nat:=(List.range 11).find? fun m=>decide (2^m=n)
theorem y7g(h:lg n=some m):m<=10/\n=2^m:=by
 unfold lg at h;have h1:=List.find?_some h;have h2:=List.mem_of_find?_eq_some h;simp at h1 h2;omega
noncomputable def placesR(a:Adr):Option Nat->FR
 |some m=>.ok (.fr (.int m))
 |none=>.ex (.ref a.NoTable)
theorem q8n(n:Nat)(ws:List W):run K a (n+2) q3d [.lst ws]=placesR a (lg ws.length):=by
 rw[q8a];unfold q4r;walk_at "den";rw[if_pos (q3h (by omega) (by omega))];walk_at "den";have e:rangeW 0 11=(List.range 11).map fun(k:Nat)=>W.int (0+(k:Int)):=rfl
 have h:=x3o (i:=1) (b:=q54 K a (run K a (n+1))) (fun z=>[.fr (.lst ws),z]) (fun w=>match w with|.int k=>decide ((ws.length:Int)=2^k.toNat)|_=>false) (fun w=>.fr w) (rangeW 0 11) .no (by
  intro w hw z;rw[e]at hw;obtain⟨k,hk,rfl⟩:=w1g.mp hw;rw[w0w]at hk;unfold q54;walk_at "den";rw[q8m n _ (by omega) (by omega)];walk_at "den";constructor
  ·intro hp;have hp:(ws.length:Int)=2^(0+(k:Int)).toNat:=by simpa using hp
   rw[if_pos hp];exact⟨_,rfl⟩
  ·intro hp;have hp:¬(ws.length:Int)=2^(0+(k:Int)).toNat:=by simpa using hp
   rw[if_neg hp];exact⟨_,rfl⟩)
 have e2:(rangeW 0 11).find? (fun w=>match w with|.int k=>decide ((ws.length:Int)=2^k.toNat)|_=>false)=(lg ws.length).map fun(k:Nat)=>W.int (0+(k:Int)):=by
  rw[e,List.find?_map];unfold lg;congr 2;funext k
  simp only[Function.comp];rw[show(0+(k:Int)).toNat=k by omega]
  have:((ws.length:Int)=2^k)↔2^k=ws.length:=by
   constructor
   ·intro h;exact_mod_cast h.symm
   ·intro h;exact_mod_cast h.symm
  simp only[this]
 rw[e2]at h;cases q:lg ws.length with
 |some m=>
  rw[q]at h;obtain⟨e',h1⟩:=h.1 _ rfl;rw[h1];walk_at "den";simp[placesR]
 |none=>
  rw[q]at h;obtain⟨z',h1⟩:=h.2 rfl;rw[h1];walk_at "den";rfl
open M10
theorem y7h(n:Nat)(i m:Int)(h0:0<=m)(h1:m<1000)(hi:i.natAbs<2^1000):run K a (n+1) q36 [.int i,.int m]=if rest m.toNat i=0 then .ok (.fr (.tup ((bits m.toNat i).reverse.map .bl)))else .ex (.ref a.NoRow):=by
 rw[x1l];unfold q6p;walk_at "den";rw[if_pos (q3h (by omega) (by omega))];walk_at "den"
 obtain⟨e',h2,z,rfl⟩:=q46 (b:=q7z K a (run K a n)) (i:=4) (lo:=0) (hi:=m) m.toNat (by omega) (fun j e=>∃z,e=[.fr (.int i),.fr (.int m),.own none ((bits j i).map .bl),.fr (.int (rest j i)),z]) [.fr (.int i),.fr (.int m),.own none [],.fr (.int i),.no] ⟨_,rfl⟩ (by
  rintro j e hj ⟨z,rfl⟩;unfold q7z;walk_at "den";rw[if_pos (by rw[w0a,q7y];omega)];walk_at "den";exact⟨_,rfl,_,by rw[x3h,x3i,w1p];rfl⟩)
 rw[h2];walk_at "den"
 by_cases hr:rest m.toNat i=0
 ·rw[if_pos hr];simp only[hr];walk_at "den";rw[List.map_reverse]
 ·rw[if_neg hr];simp only[hr];walk_at "den"
theorem small2{i:Int}(h1:0<=i)(h2:i<100000):i.natAbs<2^1000:=by
 have h:(2:Nat)^20<=2^1000:=w1c (by decide) (by decide);have:(2:Nat)^20=1048576:=by decide
 omega
noncomputable def rowB(m:Nat)(k:Nat):List Bool:=(bits m (k:Int)).reverse
theorem x0o(m k:Nat):(rowB m k).length=m:=by unfold rowB;rw[w3h,q7y]
theorem y7i(n:Nat){k:Nat}(hk:k<2^m)(hm:m<=10):run K a (n+1) q36 [.int (k:Int),.int (m:Int)]=.ok (.fr (.tup ((rowB m k).map .bl))):=by
 have h10:(2:Nat)^m<=2^10:=w1c (by decide) hm;have h1024:(2:Nat)^10=1024:=by decide
 have hk2:(k:Int)<2^m:=by exact_mod_cast hk
 rw[y7h n k m (by omega) (by omega) (small2 (by omega) (by omega)),if_pos (x3j (by omega) (by simpa using hk2))];rw[w1k];rfl
theorem x2q(m:Nat):(2:Int)^m=((2^m:Nat):Int):=by exact_mod_cast rfl
theorem q51(q:Nat):rangeW 0 (q:Int)=(List.range q).map fun k=>W.int ((k:Nat):Int):=by
 unfold rangeW;rw[w4p,w1k];apply w4i;intro k _;rw[w4s]
theorem x6a(n:Nat)(hm:m<=10):run K a (n+2) q3t [.int (m:Int)]=.ok (.own none ((List.range (2^m)).map fun k=>W.tup ((rowB m k).map .bl))):=by
 have h10:(2:Nat)^m<=2^10:=w1c (by decide) hm;have h1024:(2:Nat)^10=1024:=by decide
 have hp0:0<(2:Nat)^m:=w4t (by decide);rw[q9d];unfold q48;walk_at "den";rw[q8m n m (by omega) (by omega)];walk_at "den";rw[w1k,x2q,if_pos (q3h (by omega) (by omega))];walk_at "den";rw[if_pos (by rw[q44];omega)];simp only[frz1,pj1,w0f,w0j];rw[q51,D.x49 (g:=fun w=>match w with|.int k=>W.tup ((rowB m k.toNat).map .bl)|w=>w)]
 ·walk_at "den";rw[w1z];rfl
 ·intro w hw;obtain⟨k,hk,rfl⟩:=w1g.mp hw;rw[w0w]at hk;unfold q89;walk_at "den";rw[y7i n hk hm];walk_at "den";exact⟨_,rfl⟩
noncomputable def eo:Option Bool->W
 |none=>.non
 |some b=>.bl b
noncomputable def mt:List (Option Bool)->List Bool->Bool
 |o::c,b::r=>(o==none||o==some b)&&mt c r
 |_,_=>true
noncomputable def rin(c:List (Option Bool)):List Nat:=(List.range (2^c.length)).filter fun k=>mt c (rowB c.length k)
theorem q4k{cc:Den Bool}{d:Den W}{pe:List S}{α:Type}{q:α->Bool}{g:α->W}{en:α->W}:∀(xs:List α),(∀x∈xs,∃e1,cc (.fr (en x)::pe)=.ok (q x) e1/\(q x=true->∃e2,d e1=.ok (g x) e2))->compD cc d pe (xs.map en)=some ((xs.filter q).map g)
 |[],_=>rfl
 |x::xs,h=>by
  obtain⟨e1,h1,h2⟩:=h x (by simp);have ih:=q4k (cc:=cc) (d:=d) (pe:=pe) (q:=q) (g:=g) (en:=en) xs fun u hu=>h u (by simp[hu])
  rw[w0l,q84,h1,ih];cases hq:q x with
  |true=>
   obtain⟨e2,h3⟩:=h2 hq;simp only[hq,h3,w1q,if_true];rfl
  |false=>simp[hq,w1q]
theorem q4l{d:Den W}{pe:List S}{g:α->W}{en:α->W}(xs:List α)(h:∀x∈xs,∃e2,d (.fr (en x)::pe)=.ok (g x) e2):compD dYes d pe (xs.map en)=some (xs.map g):=by
 rw[q4k (cc:=dYes) (q:=fun _=>true) (g:=g) xs fun x hx=>⟨_,rfl,fun _=>h x hx⟩,List.filter_eq_self.mpr fun _ _=>rfl]
theorem pow10(hm:m<=10):2^m<=1024:=w0g (w1c (by decide) hm) (by decide)
theorem x0a(r0:Nat->List W->FR):∀(c:List (Option Bool))(r:List Bool),compP dYes (q69 K a r0) [] ((c.map eo).zip (r.map .bl))=some (((c.zip r).map fun p=>(p.1==none||p.1==some p.2)).map .bl)
 |[],_=>rfl
 |_::_,[]=>rfl
 |o::c,b::r=>by
  have ih:=x0a r0 c r;simp only[w0l,w2u];rw[q6d,ih];unfold q69;cases o with
  |none=>
   simp only[eo];walk_at "den";rfl
  |some d=>
   simp only[eo];walk_at "den";cases d<;>cases b<;>rfl
theorem y1r:∀(c:List (Option Bool))(r:List Bool),((c.zip r).map fun p=>(p.1==none||p.1==some p.2)).all id=mt c r
 |[],_=>by cases ‹List Bool›<;>rfl
 |_::_,[]=>rfl
 |o::c,b::r=>by
  simp only[w2u,w0l,w1s,id,mt];rw[y1r c r]
theorem x7e(n:Nat){r:List Bool}(h:c.length=r.length)(hl:r.length<=1000):run K a (n+1) q37 [.tup (c.map eo),.tup (r.map .bl)]=.ok (.fr (.bl (mt c r))):=by
 rw[q9y];unfold q5y;walk_at "den";simp only[w0a,h];walk_at "den";rw[if_pos (by simp[w2g];omega),x0a];walk_at "den";rw[x4g];walk_at "den";rw[y1r]
theorem x3p{f:Nat->W}:∀(N j:Nat),enumL j ((List.range' j N).map f)=(List.range' j N).map fun(k:Nat)=>(W.int ((k:Nat):Int),f k)
 |0,_=>rfl
 |N+1,j=>by
  rw[List.range'_succ,w0l,w0l,<- x3p N (j+1)];rfl
theorem x0b{f:Nat->W}(N:Nat):enumL 0 ((List.range N).map f)=(List.range N).map fun(k:Nat)=>(W.int ((k:Nat):Int),f k):=by
 rw[List.range_eq_range'];exact x3p N 0
theorem x0p{cc:Den Bool}{d:Den W}{pe:List S}{α:Type}{q:α->Bool}{g:α->W}{en:α->W×W}:∀(xs:List α),(∀x∈xs,∃e1,cc (.fr (en x).1::.fr (en x).2::pe)=.ok (q x) e1/\(q x=true->∃e2,d e1=.ok (g x) e2))->compP cc d pe (xs.map en)=some ((xs.filter q).map g)
 |[],_=>rfl
 |x::xs,h=>by
  obtain⟨e1,h1,h2⟩:=h x (by simp);have ih:=x0p (cc:=cc) (d:=d) (pe:=pe) (q:=q) (g:=g) (en:=en) xs fun u hu=>h u (by simp[hu])
  rw[w0l,q6d,h1,ih];cases hq:q x with
  |true=>
   obtain⟨e2,h3⟩:=h2 hq;simp only[hq,h3,w1q,if_true];rfl
  |false=>simp[hq,w1q]
theorem q7d(n:Nat)(hc:c.length<=10):run K a (n+3) q27 [.tup (c.map eo)]=.ok (.own none ((rin c).map fun(k:Nat)=>W.int (k:Int))):=by
 have h10:=pow10 hc;rw[q9z];unfold q5z;walk_at "den";rw[w0a,x6a n hc];walk_at "den";rw[x0b,if_pos (by rw[w0a,w1n];omega)];simp only[frz1,pj1,w0f,w0j];rw[x0p (q:=fun k=>mt c (rowB c.length k)) (g:=fun(k:Nat)=>W.int (k:Int))]
 ·walk_at "den";rfl
 ·intro k hk;unfold q9x q9w;walk_at "den";rw[x7e (n+1) (by rw[x0o]) (by rw[x0o];omega)];walk_at "den";exact⟨_,rfl,fun _=>⟨_,rfl⟩⟩
theorem rin_mem{k:Nat}:k∈rin c↔k<2^c.length/\mt c (rowB c.length k)=true:=by
 unfold rin;rw[w1d,w0w]
theorem x8c(c:List (Option Bool)):(rin c).length<=2^c.length:=by
 unfold rin;refine w0g (w0x _ _) ?_;rw[w1n];exact w0e _
theorem z09(h:m<=10):lg (2^m)=some m:=by
 have:m=0\/m=1\/m=2\/m=3\/m=4\/m=5\/m=6\/m=7\/m=8\/m=9\/m=10:=by omega
 rcases this with h|h|h|h|h|h|h|h|h|h|h<;>(subst h;decide)
theorem x2r(n:Nat)(hw:ws.length=2^m)(hm:m<=4):run K a (n+3) q1j [.lst ws]=.ok (.fr (.int m)):=by
 rw[q5f];unfold q24;walk_at "den";rw[q8n n,hw,z09 (by omega)];unfold placesR;walk_at "den";rw[if_neg (by omega)]
theorem y7j(n:Nat)(hw:∀m,m<=4->ws.length≠2^m):run K a (n+3) q1j [.lst ws]=.ex (.ref a.NoTable):=by
 rw[q5f];unfold q24;walk_at "den";rw[q8n n];cases h:lg ws.length with
 |none=>rfl
 |some m=>
  have h1:=y7g h;have h2:¬m<=4:=fun q=>hw m q h1.2
  unfold placesR;walk_at "den";rw[if_pos (by omega)]
noncomputable def fitB(c w:List (Option Bool)):Bool:=(rin c).all fun k=>w.getD k none != some false
theorem y1s(o:Option Bool):nisW (eo o) (.bl false)=some (.bl (o != some false)):=by
 cases o with
 |none=>rfl
 |some b=>cases b<;>rfl
theorem x4j{k:Nat}(h:k<w.length):atI (w.map eo) (k:Int)=some (eo (w.getD k none)):=by
 refine q43 ?_;simp[List.getD,h]
theorem x6b(n:Nat)(hw:w.length=2^c.length)(hc:c.length<=4):run K a (n+4) q5x [.tup (c.map eo),.lst (w.map eo)]=.ok (.fr (.bl (fitB c w))):=by
 have h10:=pow10 (show c.length<=10 by omega);rw[x5v];unfold q9a;walk_at "den";rw[x2r n (by rw[w0a];exact hw) hc];walk_at "den";simp only[w0a];walk_at "den";rw[q7d n (by omega)];walk_at "den";rw[if_pos (by rw[w0a];have:=x8c c;omega)];simp only[frz1,pj1,w0f,w0j];rw[q4l (g:=fun k=>W.bl (w.getD k none != some false))]
 ·walk_at "den";have e:(rin c).map (fun k=>W.bl (w.getD k none != some false))=((rin c).map fun k=>w.getD k none != some false).map .bl:=by rw[w1z];rfl
  rw[e,x4g];walk_at "den";unfold fitB;rw[w3m];rfl
 ·intro k hk;have h1:=rin_mem.mp hk;unfold x5u;walk_at "den";rw[x4j (by omega)];walk_at "den";rw[y1s];exact⟨_,rfl⟩
theorem q3q(n:Nat)(ns:List Int){k m:Int}(hk:0<=k)(hk2:k<=1000000)(hm:0<m):∃v,run K a (n+2) q0q [.lst (ns.map .int),.int k,.int m]=.ok (.fr (.int v))/\0<=v/\v<m:=by
 rw[q9g];unfold q5b;walk_at "den";rw[x0n n ns hk];walk_at "den";generalize hx:((ns.getD k.toNat 0*48271+7919*((ns.map W.int).length:Int)+104729*k)%2147483647)=x;have h1:0<=x:=by rw[<- hx];exact w2l _ (by decide)
 have h2:x<2147483647:=by rw[<- hx];exact w2a _ (by decide)
 rw[if_pos (.inl ⟨by omega,by omega⟩),if_pos hm];exact⟨_,rfl,w2l _ (by omega),w2a _ hm⟩
theorem x3q(hf:Fit ns)(i:Nat):Builtin.Int.intBits (ns.getD i 0)<=1048576:=by
 rw[w1a];cases h:ns[i]? with
 |none=>exact w1i _
 |some x=>exact hf.2 x (w1f h)
theorem q5o(hf:Fit ns)(n:Nat){k:Int}(hk:0<=k)(hk2:k<=1000000):∃v,run K a (n+2) q0y [.lst (ns.map .int),.int k]=.ok (.fr (.int v)):=by
 rw[q8d];unfold q4u;walk_at "den";rw[x0n n ns (show(0:Int)<=4+k by omega)];walk_at "den";rw[x0n n ns (show(0:Int)<=3 by decide)];walk_at "den";rw[if_pos (.inr ⟨by omega,by omega⟩)];generalize hx:(ns.getD (4+k).toNat 0*40692+ns.getD 3 0*48271*(k+1)+7919*k)=x
 have hb:Builtin.Int.intBits x<=67108864:=by
  rw[<- hx];exact w0g (PyProof.Rows.bits_add (PyProof.Rows.bits_add (PyProof.Rows.bits_mul (x3q hf _) (PySem.intBits_le_64 (by omega) (by omega))) (PyProof.Rows.bits_mul (PyProof.Rows.bits_mul (x3q hf _) (PySem.intBits_le_64 (by omega) (by omega))) (PySem.intBits_le_64 (by omega) (by omega)))) (PyProof.Rows.bits_mul (PySem.intBits_le_64 (by omega) (by omega)) (PySem.intBits_le_64 (by omega) (by omega)))) (by decide)
 rw[y60 hb hb (by decide)];walk_at "den";exact⟨_,rfl⟩
theorem x8d{l:List (Option Bool)}(h:l≠[])(v:Int):∃o,atI (l.map eo) (v%((l.map eo).length:Int))=some (eo o):=by
 have hp:0<l.length:=w4j.mpr h;have h1:=w2l v (show((l.map eo).length:Int)≠0 by rw[w0a];omega);have h2:=w2a v (show(0:Int)<((l.map eo).length:Int) by rw[w0a];omega);rw[w0a]at h2;rw[x5a h1];refine⟨l.getD (v%((l.map eo).length:Int)).toNat none,?_⟩;rw[w0a]at h1 |-
 have h3:(v%(l.length:Int)).toNat<l.length:=by omega
 simp[List.getD,h3]
theorem x2s{d:Den W}{pe:List S}(h:∀w∈ws,∃o e2,d (.fr w::pe)=.ok (eo o) e2):∃os:List (Option Bool),compD dYes d pe ws=some (os.map eo)/\os.length=ws.length:=by
 induction ws with
 |nil=>exact⟨[],rfl,rfl⟩
 |cons w ws ih=>
  obtain⟨os,h1,h2⟩:=ih fun u hu=>h u (by simp[hu])
  obtain⟨o,e2,h3⟩:=h w (by simp);refine⟨o::os,?_,by simp[h2]⟩;rw[q84];simp only[y0l,h3,h1];rfl
theorem x6c(ls:List (List (Option Bool)))(h:∀l∈ls,l≠[]){v:Int}(h0:0<=v)(h1:v<ls.length):∃l,l≠[]/\atI (ls.map fun l=>W.lst (l.map eo)) v=some (.lst (l.map eo)):=by
 have h2:v.toNat<ls.length:=by omega
 refine⟨ls[v.toNat],h _ (w1w h2),?_⟩;rw[x5a h0];simp[h2]
theorem x6d{q:Nat}(hm:m<=4)(hq:2^m=q):atI [W.int 1,W.int 2,W.int 4,W.int 8,W.int 16] (m:Int)=some (.int (q:Int)):=by
 subst hq;have:m=0\/m=1\/m=2\/m=3\/m=4:=by omega
 rcases this with h|h|h|h|h<;>(subst h;rfl)
theorem wishE(n:Nat)(hf:Fit ns){l:List (Option Bool)}(hl:l≠[]){k:Nat}(hk:k<=100000):∃o e2,q23 K a (run K a (n+2)) [.fr (.int (k:Int)),.fr (.lst (ns.map .int)),.fr (.lst (l.map eo))]=.ok (eo o) e2:=by
 unfold q23;walk_at "den";obtain⟨v,h⟩:=q5o (K:=K) (a:=a) hf n (k:=(k:Int)) (by omega) (by omega);rw[h];walk_at "den";have hp:0<l.length:=w4j.mpr hl;rw[if_pos (by rw[w0a];omega)];walk_at "den";obtain⟨o,ho⟩:=x8d hl v;rw[ho];walk_at "den";exact⟨o,_,rfl⟩
theorem x3r(n:Nat)(hf:Fit ns){l:List (Option Bool)}(hl:l≠[]){q:Nat}(hq:q<=100):∃w:List (Option Bool),compD dYes (q23 K a (run K a (n+2))) [.fr (.lst (ns.map .int)),.fr (.lst (l.map eo))] (rangeW 0 (q:Int))=some (w.map eo)/\w.length=q:=by
 rw[q51]
 obtain⟨os,h1,h2⟩:=x2s (d:=q23 K a (run K a (n+2))) (pe:=[.fr (.lst (ns.map .int)),.fr (.lst (l.map eo))]) (ws:=(List.range q).map fun k=>W.int ((k:Nat):Int)) (by
  intro w hw;obtain⟨k,hk,rfl⟩:=w1g.mp hw;rw[w0w]at hk;exact wishE n hf hl (by omega))
 exact⟨os,h1,by rw[h2,w0a,w1n]⟩
theorem x9d(hf:Fit ns)(n:Nat)(hm:m<=4):∃w:List (Option Bool),run K a (n+3) q14 [.lst (ns.map .int),.int (m:Int)]=.ok (.own none (w.map eo))/\w.length=2^m:=by
 have h16:2^m<=16:=w0g (w1c (by decide) hm) (by decide);obtain⟨q,hq⟩:∃q,2^m=q:=⟨_,rfl⟩;rw[hq]at h16 |-
 rw[q6s];unfold q3m;walk_at "den";obtain⟨v1,h1,b1,c1⟩:=q3q (K:=K) (a:=a) n ns (k:=1) (m:=8) (by decide) (by decide) (by decide);obtain⟨v2,h2,b2,c2⟩:=q3q (K:=K) (a:=a) n ns (k:=2) (m:=20) (by decide) (by decide) (by decide);rw[h1];walk_at "den";obtain⟨l1,hl1,e1⟩:=x6c [[some false,some true,none],[some false,some true,some true],[some false,some false,some true,none],[some true,some true,none,some false,some true],[some false,some true],[some false,some true],[some false,none,some true],[some true,some false,some false,some false]] (by decide) b1 c1;simp only[w0l,w2o,eo]at e1;rw[e1];walk_at "den";rw[h2];walk_at "den"
 by_cases h3:v2<3
 ·rw[if_pos h3];obtain⟨l2,hl2,e2⟩:=x6c [[some true],[some false],[none]] (by decide) b2 h3;simp only[w0l,w2o,eo]at e2;rw[e2];walk_at "den";rw[x6d hm hq];walk_at "den";rw[if_pos (q3h (by omega) (by omega))];walk_at "den";rw[if_pos (by rw[q44];omega)];simp only[frz1,pj1,w0f,w0j];obtain⟨w,hw,hwl⟩:=x3r (K:=K) (a:=a) n hf hl2 (q:=q) (by omega);rw[hw];exact⟨w,rfl,hwl⟩
 ·rw[if_neg h3];walk_at "den";rw[x6d hm hq];walk_at "den";rw[if_pos (q3h (by omega) (by omega))];walk_at "den";rw[if_pos (by rw[q44];omega)];simp only[frz1,pj1,w0f,w0j];obtain⟨w,hw,hwl⟩:=x3r (K:=K) (a:=a) n hf hl1 (q:=q) (by omega);rw[hw];exact⟨w,rfl,hwl⟩
open M10
noncomputable def lrF:List (Option Bool)->List Int->List Int
 |[],l=>l
 |none::c,l=>lrF c (l.map (fun x=>2*x)++l.map (fun x=>2*x+1))
 |some b::c,l=>lrF c (l.map fun x=>2*x+b2 b)
theorem x2t:∀(c:List (Option Bool))(l:List Int),(lrF c l).length<=l.length*2^c.length
 |[],l=>by simp[lrF]
 |none::c,l=>by
  refine w0g (x2t c _) ?_;rw[w0i,w0a,w0a,w0o,w3b,w4c (2^c.length) 2,<- Nat.mul_assoc];exact Nat.mul_le_mul_right _ (by omega)
 |some b::c,l=>by
  refine w0g (x2t c _) ?_;rw[w0a,w0o,w3b];exact w4k _ (by omega)
theorem x2u:∀(c:List (Option Bool))(l:List Int)(x:Int),x∈lrF c l↔∃y∈l,∃r:List Bool,r.length=c.length/\mt c r=true/\x=numG y r
 |[],l,x=>by
  constructor
  ·intro h;exact⟨x,h,[],rfl,rfl,rfl⟩
  ·rintro⟨y,hy,r,hr,_,rfl⟩;have:r=[]:=w3t.mp hr;subst this;exact hy
 |none::c,l,x=>by
  show x∈lrF c _↔_;rw[x2u c];constructor
  ·rintro⟨y,hy,r,hr,hm,rfl⟩;rcases w1j.mp hy with h|h
   ·obtain⟨z,hz,rfl⟩:=w1g.mp h;exact⟨z,hz,false::r,by simp[hr],by simpa [mt]using hm,by simp[numG]⟩
   ·obtain⟨z,hz,rfl⟩:=w1g.mp h;exact⟨z,hz,true::r,by simp[hr],by simpa [mt]using hm,by simp[numG]⟩
  ·rintro⟨y,hy,r,hr,hm,rfl⟩;cases r with
   |nil=>simp at hr
   |cons b r=>
    refine⟨2*y+b2 b,?_,r,by simpa using hr,by simpa [mt]using hm,by simp[numG,b2]⟩;cases b with
    |false=>exact w2d _ (w1g.mpr ⟨y,hy,by simp[b2]⟩)
    |true=>exact w0m _ (w1g.mpr ⟨y,hy,by simp[b2]⟩)
 |some d::c,l,x=>by
  show x∈lrF c _↔_;rw[x2u c];constructor
  ·rintro⟨y,hy,r,hr,hm,rfl⟩;obtain⟨z,hz,rfl⟩:=w1g.mp hy;exact⟨z,hz,d::r,by simp[hr],by simpa [mt]using hm,by simp[numG,b2]⟩
  ·rintro⟨y,hy,r,hr,hm,rfl⟩;cases r with
   |nil=>simp at hr
   |cons b r=>
    have h2:(d=b)/\mt c r=true:=by simpa [mt]using hm
    obtain⟨rfl,h3⟩:=h2;exact⟨2*y+b2 d,w1g.mpr ⟨y,hy,rfl⟩,r,by simpa using hr,h3,by simp[numG,b2]⟩
theorem y1t(c:List (Option Bool))(x:Int):x∈lrF c [0]↔∃k∈rin c,x=((k:Nat):Int):=by
 rw[x2u];constructor
 ·rintro⟨y,hy,r,hr,hm,rfl⟩;obtain rfl:y=0:=by simpa using hy
  have hb:=x1d r;have e:((num r).toNat:Int)=num r:=Int.toNat_of_nonneg hb.1;refine⟨(num r).toNat,rin_mem.mpr ⟨?_,?_⟩,e.symm⟩
  ·have h2:((num r).toNat:Int)<((2^r.length:Nat):Int):=by rw[e,<- x2q];exact hb.2
   rw[<- hr]
   exact_mod_cast h2
  ·unfold rowB;rw[e,<- hr,y32];exact hm
 ·rintro⟨k,hk,rfl⟩;obtain⟨h1,h2⟩:=rin_mem.mp hk;refine⟨0,by simp,rowB c.length k,x0o _ _,h2,?_⟩;have h3:(k:Int)<2^c.length:=by rw[x2q];exact_mod_cast h1
  exact(y31 (by omega) h3).symm
theorem q6w(r0:Nat->List W->FR)(cu:W):∀(c:List (Option Bool))(l:List Int)(z:S),l.length*2^c.length<=1000->∃z',forD 2 (q26 K a r0) (c.map eo) [.fr cu,.fr (.lst (l.map .int)),z]=.nx [.fr cu,.fr (.lst ((lrF c l).map .int)),z']
 |[],l,z,_=>⟨z,rfl⟩
 |none::c,l,z,h=>by
  rw[w0o,w3b,w4c (2^c.length) 2,<- Nat.mul_assoc]at h;have hp:0<2^c.length:=w4t (by decide);have hl:l.length*2<=1000:=w0g (w3u _ hp) h;obtain⟨z',ih⟩:=q6w r0 cu c (l.map (fun x=>2*x)++l.map (fun x=>2*x+1)) (.fr .non) (by rw[w0i,w0a,w0a,<- Nat.mul_two];exact h)
  refine⟨z',?_⟩;rw[w0l,q4z]
  have e1:q26 K a r0 [.fr cu,.fr (.lst (l.map .int)),.fr .non]=.nx [.fr cu,.fr (.lst ((l.map (fun x=>2*x)++l.map (fun x=>2*x+1)).map .int)),.fr .non]:=by
   unfold q26;walk_at "den";rw[if_pos (by rw[w0a];omega),q4l (g:=fun x=>W.int (2*x))]
   ·walk_at "den";rw[q4l (g:=fun x=>W.int (2*x+1))]
    ·walk_at "den";rw[if_pos (by simp only[w0a];omega)];walk_at "den";simp[Function.comp_def];omega
    ·intro x _;unfold q74;walk_at "den";exact⟨_,rfl⟩
   ·intro x _;unfold q73;walk_at "den";exact⟨_,rfl⟩
  simp only[eo,w3n,w3o];rw[e1,q5k];exact ih
 |some b::c,l,z,h=>by
  rw[w0o,w3b]at h;have hp:0<2^c.length:=w4t (by decide);have hl:l.length*2^c.length<=1000:=w0g (w4k _ (by omega)) h;have hl2:l.length<=1000:=w0g (w3u _ hp) hl;obtain⟨z',ih⟩:=q6w r0 cu c (l.map fun x=>2*x+b2 b) (.fr (.bl b)) (by rw[w0a];exact hl)
  refine⟨z',?_⟩;rw[w0l,q4z]
  have e1:q26 K a r0 [.fr cu,.fr (.lst (l.map .int)),.fr (.bl b)]=.nx [.fr cu,.fr (.lst ((l.map fun x=>2*x+b2 b).map .int)),.fr (.bl b)]:=by
   unfold q26;walk_at "den";rw[if_pos (by rw[w0a];omega)];simp only[frz1,pj1,w0f,w0j];rw[q4l (g:=fun x=>W.int (2*x+b2 b))]
   ·walk_at "den";simp[Function.comp_def]
   ·intro x _;unfold q75;walk_at "den";exact⟨_,rfl⟩
  simp only[eo,w3n,w3o];rw[e1,q5k];exact ih
theorem x0c(n:Nat)(hc:c.length<=5):run K a (n+1) q2y [.tup (c.map eo)]=.ok (.fr (.lst ((sortI (lrF c [0])).map .int))):=by
 have h32:2^c.length<=32:=w0g (w1c (by decide) hc) (by decide);have hl:=x2t c [0];simp only[w0o,w1v]at hl;rw[q8e];unfold q4v;walk_at "den";obtain⟨z',h⟩:=q6w (K:=K) (a:=a) (run K a n) (.tup (c.map eo)) c [0] .no (by simp;omega);simp only[w0l,w2o]at h;rw[h];walk_at "den";rw[y3i (by omega)];walk_at "den"
theorem x7f(hf:Fit ns)(n:Nat):∃w:List (Option Bool),run K a (n+3) q1s [.lst (ns.map .int)]=.ok (.own none (w.map eo))/\∀m,m<=4->w.length≠2^m:=by
 rw[q58];unfold q29;walk_at "den";obtain⟨v1,h1,b1,c1⟩:=q3q (K:=K) (a:=a) n ns (k:=2) (m:=13) (by decide) (by decide) (by decide);rw[h1];walk_at "den"
 have hs:∃q:Nat,atI [W.int 0,W.int 3,W.int 5,W.int 6,W.int 7,W.int 9,W.int 12,W.int 15,W.int 17,W.int 24,W.int 31,W.int 32,W.int 64] v1=some (.int (q:Int))/\q<=64/\∀m,m<=4->q≠2^m:=by
  have:v1=0\/v1=1\/v1=2\/v1=3\/v1=4\/v1=5\/v1=6\/v1=7\/v1=8\/v1=9\/v1=10\/v1=11\/v1=12:=by omega
  rcases this with h|h|h|h|h|h|h|h|h|h|h|h|h<;>subst h
  ·exact⟨0,rfl,by decide,by decide⟩
  ·exact⟨3,rfl,by decide,by decide⟩
  ·exact⟨5,rfl,by decide,by decide⟩
  ·exact⟨6,rfl,by decide,by decide⟩
  ·exact⟨7,rfl,by decide,by decide⟩
  ·exact⟨9,rfl,by decide,by decide⟩
  ·exact⟨12,rfl,by decide,by decide⟩
  ·exact⟨15,rfl,by decide,by decide⟩
  ·exact⟨17,rfl,by decide,by decide⟩
  ·exact⟨24,rfl,by decide,by decide⟩
  ·exact⟨31,rfl,by decide,by decide⟩
  ·exact⟨32,rfl,by decide,by decide⟩
  ·exact⟨64,rfl,by decide,by decide⟩
 obtain⟨q,hq,hq2,hq3⟩:=hs;rw[hq];walk_at "den";rw[if_pos (q3h (by omega) (by omega))];walk_at "den";rw[if_pos (by rw[q44];omega)];simp only[frz1,pj1,w0f,w0j];rw[q51]
 obtain⟨os,h3,h4⟩:=x2s (d:=q4n K a (run K a (n+2))) (pe:=[.fr (.lst (ns.map .int))]) (ws:=(List.range q).map fun k=>W.int ((k:Nat):Int)) (by
  intro w hw;obtain⟨k,hk,rfl⟩:=w1g.mp hw;rw[w0w]at hk;unfold q4n;walk_at "den";obtain⟨v,h⟩:=q5o (K:=K) (a:=a) hf n (k:=(k:Int)) (by omega) (by omega);rw[h];walk_at "den";obtain⟨o,ho⟩:=x8d (l:=[some true,some false,none]) (by decide) v;simp only[w0l,w2o,eo,w0o,w1v]at ho;have e3:((0+1+1+1:Nat):Int)=3:=rfl;rw[e3]at ho;rw[ho];exact⟨o,_,rfl⟩)
 rw[h3];refine⟨os,rfl,?_⟩;rw[h4,w0a,w1n];exact hq3
theorem x0q:∀(w:List (Option Bool)),depWs (w.map eo)=0
 |[]=>rfl
 |o::w=>by
  show max (depW (eo o)) (depWs (w.map eo))=0;rw[x0q w];cases o<;>rfl
noncomputable def encU(c:List (Option Bool)):W:=.tup (c.map eo)
noncomputable def up3(c:List (Option Bool)):List (List (Option Bool)):=[c++[none],c++[some false],c++[some true]]
noncomputable def cubesF:Nat->List (List (Option Bool))
 |0=>[[]]
 |m+1=>(cubesF m).flatMap up3
theorem q5h:∀m,(cubesF m).length=3^m
 |0=>rfl
 |m+1=>by
  show((cubesF m).flatMap up3).length=_;rw[List.length_flatMap]
  have:∀l:List (List (Option Bool)),(l.map fun c=>(up3 c).length).sum=3*l.length:=by
   intro l
   induction l with
   |nil=>rfl
   |cons c l ih=>rw[w0l,List.sum_cons,ih,w0o];show 3+3*l.length=_;omega
  rw[this,q5h m,w3b,w4c]
theorem q4m:∀(m:Nat)(c:List (Option Bool)),c∈cubesF m↔c.length=m
 |0,c=>by
  show c∈[[]]↔_;rw[w0u];exact w3t.symm
 |m+1,c=>by
  show c∈(cubesF m).flatMap up3↔_;rw[List.mem_flatMap];constructor
  ·rintro⟨d,hd,h⟩;have:=(q4m m d).mp hd;simp only[up3,w0h,w0y,or_false]at h;rcases h with rfl|rfl|rfl<;>simp[this]
  ·intro h;rcases List.eq_nil_or_concat c with rfl|⟨d,o,rfl⟩
   ·simp at h
   ·rw[List.concat_eq_append]at h |-
    refine⟨d,(q4m m d).mpr (by simpa using h),?_⟩;cases o with
    |none=>simp[up3]
    |some b=>cases b<;>simp[up3]
theorem y7k(c:List (Option Bool)):(up3 c).map encU=[.tup (c.map eo++[.non]),.tup (c.map eo++[.bl false]),.tup (c.map eo++[.bl true])]:=by
 simp[up3,encU,eo]
theorem x6e(r0:Nat->List W->FR)(x0 x1 x2:S):∀(cs acc:List (List (Option Bool)))(z:S),(∀c∈cs,c.length<=10)->acc.length+3*cs.length<=1000 ->
  ∃z',forD 4 (q4y K a r0) (cs.map encU) [x0,x1,x2,.own none (acc.map encU),z]=.nx [x0,x1,x2,.own none ((acc++cs.flatMap up3).map encU),z']
 |[],acc,z,_,_=>⟨z,by simp[forD]⟩
 |c::cs,acc,z,hc,hl=>by
  have h1:=hc c (by simp);rw[w0o]at hl;obtain⟨z',ih⟩:=x6e r0 x0 x1 x2 cs (acc++up3 c) (.fr (encU c)) (fun d h=>hc d (by simp[h])) (by rw[w0i];show acc.length+3+_<=_;omega)
  refine⟨z',?_⟩;rw[w0l,q4z]
  have e1:q4y K a r0 [x0,x1,x2,.own none (acc.map encU),.fr (encU c)]=.nx [x0,x1,x2,.own none ((acc++up3 c).map encU),.fr (encU c)]:=by
   unfold q4y encU;walk_at "den";have l1:(c.map eo).length<=16777215:=by rw[w0a];omega
   have l2:(acc.map fun c=>W.tup (c.map eo)).length<=16777213:=by rw[w0a];omega
   simp only[l1,l2,if_true];rw[w1p,show(up3 c).map (fun c=>W.tup (c.map eo))=(up3 c).map encU from rfl,y7k]
  simp only[w3n,w3o];rw[e1,q5k,ih,List.flatMap_cons,w2w]
theorem q68(h:m<=4):3^m<=81:=w0g (w1c (by decide) h) (by decide)
theorem x4a(n:Nat)(hm:m<=4):run K a (n+1) q3e [.int (m:Int)]=.ok (.fr (.lst ((cubesF m).map encU))):=by
 rw[q8b];unfold q4s;walk_at "den";rw[if_pos (q3h (by omega) (by omega))];walk_at "den"
 obtain⟨e',h5,z2,z3,z4,rfl⟩:=q46 (b:=q55 K a (run K a n)) (i:=2) (lo:=0) (hi:=(m:Int)) m (by omega) (fun j e=>∃(z2 z3 z4:S),e=[.fr (.int (m:Int)),.fr (.lst ((cubesF j).map encU)),z2,z3,z4]) [.fr (.int (m:Int)),.fr (.lst [.tup []]),.no,.no,.no] ⟨_,_,_,rfl⟩ (by
  rintro j e hj ⟨z2,z3,z4,rfl⟩;unfold q55;walk_at "den";obtain⟨z',h⟩:=x6e (K:=K) (a:=a) (run K a n) (.fr (.int (m:Int))) (.fr (.lst ((cubesF j).map encU))) (.fr (.int (0+(j:Int)))) (cubesF j) [] z4 (fun c h=>by rw[(q4m j c).mp h];omega) (by rw[q5h];have:=q68 (show j<=4 by omega);simp only[w1v];omega)
  simp only[w2o,List.nil_append]at h;rw[h];walk_at "den";exact⟨_,rfl,_,_,_,rfl⟩)
 rw[h5];walk_at "den"
open M10
noncomputable def wide(c:List (Option Bool))(k:Nat):List (Option Bool):=c.take k++none::c.drop (k+1)
theorem y36{k:Nat}(h:k<c.length):(wide c k).length=c.length:=by
 unfold wide;simp;omega
noncomputable def tru(c w:List (Option Bool)):Bool:=(rin c).any fun k=>w.getD k none==some true
noncomputable def wid(c:List (Option Bool)):List (List (Option Bool)):=((List.range c.length).filter fun k=>c.getD k none != none).map (wide c)
noncomputable def prB(c w:List (Option Bool)):Bool:=fitB c w&&(tru c w&&!((wid c).any fun d=>fitB d w))
theorem y7l(o:Option Bool):nisW (eo o) .non=some (.bl (o != none)):=by
 cases o with
 |none=>rfl
 |some b=>rfl
theorem x2v(o:Option Bool):isW (eo o) (.bl true)=some (.bl (o==some true)):=by
 cases o with
 |none=>rfl
 |some b=>cases b<;>rfl
theorem z1a{k:Nat}(h:k<=xs.length):cutW xs none (some (k:Int))=xs.take k:=by
 unfold cutW;rw[HT.sIx_none,HT.sIx_nat,Nat.min_eq_left h];simp
theorem y37{k:Nat}(h:k<=xs.length):cutW xs (some (k:Int)) none=xs.drop k:=by
 unfold cutW;rw[HT.sIx_none,HT.sIx_nat,Nat.min_eq_left h];exact List.take_of_length_le (by simp)
theorem z3n{k:Nat}(h:k<c.length):slW (.tup (c.map eo)) none (some (k:Int))=some (.tup ((c.take k).map eo)):=by
 show(if ¬(HT.sIx (c.map eo).length 0 none=0/\HT.sIx (c.map eo).length (c.map eo).length (some (k:Int))=(c.map eo).length)then some (W.tup (cutW (c.map eo) none (some (k:Int))))else none)=_;rw[HT.sIx_nat,if_pos (by rw[w0a];omega),z1a (by rw[w0a];omega),List.map_take]
theorem y7m{k:Nat}(h:k<c.length):slW (.tup (c.map eo)) (some ((k:Int)+1)) none=some (.tup ((c.drop (k+1)).map eo)):=by
 rw[show(k:Int)+1=((k+1:Nat):Int)from rfl];show(if ¬(HT.sIx (c.map eo).length 0 (some ((k+1:Nat):Int))=0/\HT.sIx (c.map eo).length (c.map eo).length none=(c.map eo).length)then some (W.tup (cutW (c.map eo) (some ((k+1:Nat):Int)) none))else none)=_;rw[HT.sIx_nat,if_pos (by rw[w0a];omega),y37 (by rw[w0a];omega),List.map_drop]
theorem y38(c:List (Option Bool))(k:Nat):(c.take k).map eo++[W.non]++(c.drop (k+1)).map eo=(wide c k).map eo:=by
 unfold wide;simp[eo]
theorem y1u(n:Nat)(hc:c.length<=10):run K a (n+1) q2u [.tup (c.map eo)]=.ok (.own none ((wid c).map encU)):=by
 rw[q62];unfold q3w;walk_at "den";rw[w0a,if_pos (q3h (by omega) (by omega))];walk_at "den";rw[if_pos (by rw[q44];omega)];simp only[frz1,pj1,w0f,w0j];rw[q51,q4k (q:=fun k=>c.getD k none != none) (g:=fun k=>encU (wide c k)) (en:=fun k=>W.int ((k:Nat):Int)) (List.range c.length)]
 ·unfold wid;rw[w1z];rfl
 ·intro k hk;rw[w0w]at hk;unfold q6z q6y;walk_at "den";rw[x4j hk];walk_at "den";rw[y7l];walk_at "den";refine⟨_,rfl,fun _=>?_⟩
  walk_at "den";rw[z3n hk];walk_at "den";rw[if_pos (by rw[w0a,w2i];omega)];walk_at "den";rw[y7m hk];walk_at "den";rw[if_pos (by simp only[w0i,w0a,w2i,w3c,w0o,w1v];omega)];rw[y38];exact⟨_,rfl⟩
theorem y7n{d:List (Option Bool)}(h:d∈wid c):d.length=c.length:=by
 unfold wid at h;obtain⟨k,hk,rfl⟩:=w1g.mp h;have:=(w1d.mp hk).1;rw[w0w]at this;exact y36 this
theorem y1v(bs:List Bool):any1 [.lst (bs.map .bl)]=some (.bl (bs.any id)):=z3f
theorem y7o(c:List (Option Bool)):(wid c).length<=c.length:=by
 unfold wid;rw[w0a];refine w0g (w0x _ _) ?_;rw[w1n];exact w0e _
theorem x6f(n:Nat)(hw:w.length=2^c.length)(hc:c.length<=4):run K a (n+5) q3u [.tup (c.map eo),.lst (w.map eo)]=.ok (.fr (.bl (prB c w))):=by
 have h10:=pow10 (show c.length<=10 by omega);have hr:=x8c c;have hwl:=y7o c;rw[q9e];unfold q49;walk_at "den";rw[x6b n hw hc];unfold prB;cases hf:fitB c w with
 |false=>walk_at "den";rfl
 |true=>
  walk_at "den";rw[q7d (n+1) (by omega)];walk_at "den";rw[if_pos (by rw[w0a];omega)];simp only[frz1,pj1,w0f,w0j];rw[q4l (g:=fun k=>W.bl (w.getD k none==some true))]
  ·walk_at "den";have e:(rin c).map (fun k=>W.bl (w.getD k none==some true))=((rin c).map fun k=>w.getD k none==some true).map .bl:=by rw[w1z];rfl
   rw[e,y1v];walk_at "den";have e2:((rin c).map fun k=>w.getD k none==some true).any id=tru c w:=by unfold tru;rw[w4r];rfl
   rw[e2];cases ht:tru c w with
   |false=>walk_at "den";rfl
   |true=>
    walk_at "den";rw[y1u (n+3) (by omega)];walk_at "den";rw[if_pos (by rw[w0a];omega)];simp only[frz1,pj1,w0f,w0j];rw[q4l (g:=fun d=>W.bl (fitB d w)) (en:=encU)]
    ·walk_at "den";have e3:(wid c).map (fun d=>W.bl (fitB d w))=((wid c).map fun d=>fitB d w).map .bl:=by rw[w1z];rfl
     rw[e3,y1v];walk_at "den";rw[w4r];rfl
    ·intro d hd;have hl:=y7n hd;unfold q9b encU;walk_at "den";rw[x6b n (by rw[hl];exact hw) (by omega)];exact⟨_,rfl⟩
  ·intro k hk;have h1:=rin_mem.mp hk;unfold q9c;walk_at "den";rw[x4j (by omega)];walk_at "den";rw[x2v];exact⟨_,rfl⟩
theorem x1z(n:Nat)(hw:w.length=2^m)(hm:m<=4):run K a (n+6) q2t [.lst (w.map eo)]=.ok (.own none (((cubesF m).filter fun c=>prB c w).map encU)):=by
 have h81:=q68 hm;have hl:=q5h m;rw[q70];unfold q5m;walk_at "den";rw[x2r (n+2) (by rw[w0a];exact hw) hm];walk_at "den";rw[x4a (n+4) hm];walk_at "den";rw[if_pos (by rw[w0a];omega)];simp only[frz1,pj1,w0f,w0j];rw[q4k (q:=fun c=>prB c w) (g:=encU) (en:=encU) (cubesF m)]
 ·rfl
 ·intro c hc;have h1:=(q4m m c).mp hc;unfold x1h x1g encU;walk_at "den";rw[x6f n (by rw[h1];exact hw) (by omega)];walk_at "den";exact⟨_,rfl,fun _=>⟨_,rfl⟩⟩
theorem y1w(n:Nat)(hw:∀m,m<=4->ws.length≠2^m):run K a (n+6) q2t [.lst ws]=.ex (.ref a.NoTable):=by
 rw[q70];unfold q5m;walk_at "den";rw[y7j (n+2) hw];walk_at "den"
noncomputable def nI(k:Nat):W:=.int (k:Int)
noncomputable def wr(w:List (Option Bool)):List Nat:=(List.range w.length).filter fun k=>w.getD k none==some true
theorem q9s:∀ts:List Nat,(ts.map nI).all scalW=true
 |[]=>rfl
 |_::ts=>by rw[w0l,w1s,q9s ts];rfl
theorem y1x(k:Nat):∀ts:List Nat,((ts.map nI).any fun y=>eqS y (.int (k:Int)))=ts.contains k
 |[]=>rfl
 |t::ts=>by
  rw[w0l,w2r,y1x k ts,List.contains_cons];congr 1;show(((t:Int)==(k:Int)):Bool)=(k==t);apply w1l.mpr;simp only[beq_iff_eq];omega
theorem z1b(k:Nat)(ts:List Nat):ninW (nI k) (.lst (ts.map nI))=some (.bl (!ts.contains k)):=by
 show(if scalW (.int (k:Int))=true/\(ts.map nI).all scalW=true then some (W.bl (!(ts.map nI).any fun y=>eqS y (.int (k:Int))))else none)=_
 rw[if_pos ⟨rfl,q9s ts⟩,y1x]
theorem x4b(n:Nat){ns ts:List Nat}(h:ns.length<=2000):run K a (n+1) q3f [.lst (ns.map nI),.lst (ts.map nI)]=.ok (.own none ((ns.filter fun k=>!ts.contains k).map nI)):=by
 rw[q8c];unfold q4t;walk_at "den";rw[if_pos (by rw[w0a];omega)];simp only[frz1,pj1,w0f,w0j];rw[q4k (q:=fun k=>!ts.contains k) (g:=nI) (en:=nI) ns]
 ·rfl
 ·intro k _;unfold q72 q71;walk_at "den";rw[z1b];walk_at "den";exact⟨_,rfl,fun _=>⟨_,rfl⟩⟩
theorem y7p(w:List (Option Bool)):enumL 0 (w.map eo)=(List.range w.length).map fun(k:Nat)=>(W.int ((k:Nat):Int),eo (w.getD k none)):=by
 have e:w.map eo=(List.range w.length).map fun k=>eo (w.getD k none):=by
  apply w2v;intro k
  by_cases h:k<w.length
  ·simp[List.getElem?_range h,h,List.getD]
  ·simp[h,Nat.le_of_not_lt h]
 rw[e,x0b]
theorem x9e(n:Nat)(hw:w.length=2^m)(hm:m<=4):run K a (n+4) q2h [.lst (w.map eo)]=.ok (.own none ((wr w).map nI)):=by
 have h10:=pow10 (show m<=10 by omega);rw[q63];unfold q3x;walk_at "den";rw[x2r n (by rw[w0a];exact hw) hm];walk_at "den";rw[y7p,if_pos (by rw[w0a,w1n];omega)];rw[x0p (q:=fun k=>w.getD k none==some true) (g:=nI)]
 ·rfl
 ·intro k hk;unfold q61 q60;walk_at "den";rw[x2v];walk_at "den";exact⟨_,rfl,fun _=>⟨_,rfl⟩⟩
theorem z1c(w:List (Option Bool)):(wr w).length<=w.length:=by
 unfold wr;refine w0g (w0x _ _) ?_;rw[w1n];exact w0e _
mutual
noncomputable def fine:W->Bool
 |.non=>true
 |.bl _=>true
 |.int _=>true
 |.tup ws=>decide (ws.length<=1000)&&fines ws
 |.lst ws=>fines ws
 |_=>false
noncomputable def fines:List W->Bool
 |[]=>true
 |w::ws=>fine w&&fines ws
end
theorem q2r:∀{ws:List W}{w:W},fines ws=true->w∈ws->fine w=true
 |x::ws,w,h,m=>by
  have h:(fine x&&fines ws)=true:=h;rw[w0r]at h;rcases w0h.mp m with rfl|m
  ·exact h.1
  ·exact q2r h.2 m
theorem x0r:∀{ws:List W},(∀w∈ws,fine w=true)->fines ws=true
 |[],_=>rfl
 |x::ws,h=>by
  show(fine x&&fines ws)=true;rw[h x (by simp),x0r fun w hw=>h w (by simp[hw])]
  rfl
theorem q30(h:fine (.tup ws)=true):fines ws=true:=(w0r _ _ ▸ (show(decide (ws.length<=1000)&&fines ws)=true from h)).2
theorem z1d(h:fine (.tup ws)=true):ws.length<=1000:=of_decide_eq_true (w0r _ _ ▸ (show(decide (ws.length<=1000)&&fines ws)=true from h)).1
theorem q7o(hl:ws.length<=1000)(h:∀w∈ws,fine w=true):fine (.tup ws)=true:=by
 show(decide (ws.length<=1000)&&fines ws)=true;rw[decide_eq_true hl,x0r h];rfl
noncomputable def isTu:W->Bool
 |.tup _=>true
 |_=>false
noncomputable def isIn:W->Bool
 |.int _=>true
 |_=>false
noncomputable def isBo:W->Bool
 |.bl _=>true
 |_=>false
theorem q6x(M:Exs K mg a){w:W}(h:fine w=true):isiW K (.type "tuple") w=some (.bl (isTu w)):=by
 cases w with
 |non=>exact x2a M.t_NoneType_tuple
 |bl b=>exact q5l M.t_bool_tuple
 |int b=>exact x18 M.t_int_tuple
 |tup b=>exact q4i M.t_tuple_tuple
 |lst b=>exact x19 M.t_list_tuple
 |_=>cases h
theorem q4c(M:Exs K mg a){w:W}(h:fine w=true):isiW K (.type "bool") w=some (.bl (isBo w)):=by
 cases w with
 |non=>exact x2a M.t_NoneType_bool
 |bl b=>exact q5l M.t_bool_bool
 |int b=>exact x18 M.t_int_bool
 |tup b=>exact q4i M.t_tuple_bool
 |lst b=>exact x19 M.t_list_bool
 |_=>cases h
theorem y1y(M:Exs K mg a){w:W}(h:fine w=true):isiW K (.type "int") w=some (.bl (isIn w||isBo w)):=by
 cases w with
 |non=>exact x2a M.t_NoneType_int
 |bl b=>exact q5l M.t_bool_int
 |int b=>exact x18 M.t_int_int
 |tup b=>exact q4i M.t_tuple_int
 |lst b=>exact x19 M.t_list_int
 |_=>cases h
noncomputable def tupN(k:Nat):W->Bool
 |.tup xs=>decide (xs.length=k)
 |_=>false
theorem q4d(M:Exs K mg a)(n:Nat){w:W}(h:fine w=true)(k:Nat):run K a (n+1) q04 [w,.int (k:Int)]=.ok (.fr (.bl (tupN k w))):=by
 rw[q64];unfold q3y;walk_at "den";rw[q6x M h];cases w with
 |tup xs=>
  simp only[isTu];walk_at "den";show FR.ok (S.fr (W.bl (decide (((xs.length:Nat):Int)=((k:Nat):Int)))))=FR.ok (S.fr (W.bl (decide (xs.length=k))));exact congrArg (fun b=>FR.ok (S.fr (W.bl b))) (decide_eq_decide.mpr (by omega))
 |_=>
  simp only[isTu];walk_at "den";rfl
theorem x3s(M:Exs K mg a)(n:Nat){w:W}(h:fine w=true):run K a (n+1) q28 [w]=.ok (.fr (.bl (isIn w))):=by
 rw[q9f];unfold q5a;walk_at "den";rw[y1y M h];cases w with
 |int i=>
  simp only[isIn,isBo,w3r];walk_at "den";rw[q4c M h];simp only[isBo];walk_at "den"
  all_goals rfl
 |bl b=>
  simp only[isIn,isBo,Bool.or_true];walk_at "den";rw[q4c M h];simp only[isBo];walk_at "den"
  all_goals rfl
 |_=>
  simp only[isIn,isBo,w3r];walk_at "den"
noncomputable def eqo:W->Option Bool->Bool
 |.non,none=>true
 |.bl b,some c=>b==c
 |_,_=>false
theorem y39(M:Exs K mg a)(n:Nat){w:W}(h:fine w=true)(hd:depW w<=100)(o:Option Bool):run K a (n+1) q20 [w,eo o]=.ok (.fr (.bl (eqo w o))):=by
 have ho:fine (eo o)=true:=by cases o<;>rfl
 rw[q7i];unfold q4b;walk_at "den";have e2:eq2 w (eo o)=(eqW w (eo o)).map .bl:=if_pos (by omega);rw[e2];cases w with
 |non=>
  cases o with
  |none=>
   rw[show eqW .non (eo none)=some true from rfl];walk_at "den";rw[q4c M h];walk_at "den";rw[q4c M ho];rfl
  |some b=>
   rw[show eqW .non (eo (some b))=some false from rfl];walk_at "den";rfl
 |bl c=>
  cases o with
  |none=>
   rw[show eqW (.bl c) (eo none)=some false from rfl];walk_at "den";rfl
  |some b=>
   rw[show eqW (.bl c) (eo (some b))=some (c==b)from rfl];cases hb:(c==b)with
   |true=>
    walk_at "den";rw[q4c M h];walk_at "den";rw[q4c M ho];walk_at "den";show FR.ok (S.fr (W.bl true))=FR.ok (S.fr (W.bl (c==b)));rw[hb]
   |false=>
    walk_at "den";show FR.ok (S.fr (W.bl false))=FR.ok (S.fr (W.bl (c==b)));rw[hb]
 |int c=>
  cases o with
  |none=>
   rw[show eqW (.int c) (eo none)=some false from rfl];walk_at "den";rfl
  |some b=>
   rw[show eqW (.int c) (eo (some b))=some (c==(if b then 1 else 0))from rfl];cases hb:(c==(if b then(1:Int)else 0))with
   |true=>
    walk_at "den";rw[q4c M h];walk_at "den";rw[q4c M ho];rfl
   |false=>
    walk_at "den";rfl
 |tup xs=>
  rw[show eqW (.tup xs) (eo o)=some false by cases o<;>rfl];walk_at "den";cases o<;>rfl
 |lst xs=>
  rw[show eqW (.lst xs) (eo o)=some false by cases o<;>rfl];walk_at "den";cases o<;>rfl
 |_=>cases h
noncomputable def eqc:W->List (Option Bool)->Bool
 |.tup ws,c=>decide (ws.length=c.length)&&(ws.zip c).all fun p=>eqo p.1 p.2
 |_,_=>false
theorem x8e:∀{ws:List W}{w:W},w∈ws->depW w<=depWs ws
 |x::ws,w,m=>by
  show depW w<=max (depW x) (depWs ws);rcases w0h.mp m with rfl|m
  ·omega
  ·have:=x8e m;omega
theorem q9j(M:Exs K mg a)(n:Nat):∀(ws:List W)(c:List (Option Bool)),fines ws=true->depWs ws<=100->compP dYes (q7b K a (run K a (n+1))) [] (ws.zip (c.map eo))=some (((ws.zip c).map fun p=>eqo p.1 p.2).map .bl)
 |[],_,_,_=>rfl
 |_::_,[],_,_=>rfl
 |w::ws,o::c,h,hd=>by
  have h:(fine w&&fines ws)=true:=h;rw[w0r]at h;have hd:max (depW w) (depWs ws)<=100:=hd;have ih:=q9j M n ws c h.2 (by omega);simp only[w0l,w2u];rw[q6d,ih];unfold q7b;walk_at "den";rw[y39 M n h.1 (by omega) o];walk_at "den"
theorem x7g(M:Exs K mg a)(n:Nat){w:W}(h:fine w=true)(hd:depW w<=100)(hc:c.length<=10):run K a (n+2) q39 [w,encU c]=.ok (.fr (.bl (eqc w c))):=by
 rw[q90];unfold q50 encU;walk_at "den";rw[w0a,q4d M n h c.length];walk_at "den";cases w with
 |tup ws=>
  by_cases hl:ws.length=c.length
  ·rw[show tupN c.length (.tup ws)=true from decide_eq_true hl];walk_at "den";rw[if_pos (by simp[w2g];omega),q9j M n ws c (q30 h) (by have:depWs ws+1<=100:=hd;omega)];walk_at "den";rw[x4g];walk_at "den";show FR.ok (S.fr (W.bl (((ws.zip c).map fun p=>eqo p.1 p.2).all id)))=FR.ok (S.fr (W.bl (decide (ws.length=c.length)&&(ws.zip c).all fun p=>eqo p.1 p.2)))
   rw[decide_eq_true hl,w2h,w3m];rfl
  ·rw[show tupN c.length (.tup ws)=false from decide_eq_false hl];walk_at "den";show FR.ok (S.fr (W.bl false))=FR.ok (S.fr (W.bl (decide (ws.length=c.length)&&(ws.zip c).all fun p=>eqo p.1 p.2)))
   rw[decide_eq_false hl,w1t]
 |_=>
  simp only[tupN];walk_at "den";try rfl
noncomputable abbrev Cb:=List (Option Bool)
noncomputable def inI(n:Int)(l:List Nat):Bool:=l.any fun k=>decide ((k:Int)=n)
noncomputable def rch(c:Cb):W:=.tup [encU c,.lst ((rin c).map nI)]
noncomputable def hv(P:List Cb)(n:Int):List Cb:=P.filter fun c=>inI n (rin c)
noncomputable def lf(l:List Nat)(c:Cb):List Nat:=l.filter fun k=>!(rin c).contains k
noncomputable def BT(T:List Nat->W->Bool)(l:List Nat):W->Cb->Bool
 |.tup [x,t],c=>eqc x c&&T (lf l c) t
 |_,_=>false
noncomputable def TS(k:Nat)(P:List Cb)(B:W->Cb->Bool)(l:List Nat):W->Bool
 |.tup [.int n,.tup bs]=>inI n l&&(if k=0 then bs.isEmpty else(decide (bs.length=(hv P n).length)&&(bs.zip (hv P n)).all fun p=>B p.1 p.2))
 |_=>false
noncomputable def TT(P:List Cb):Nat->List Nat->W->Bool
 |0,l,w=>TS 0 P (fun _ _=>false) l w
 |k+1,l,w=>TS (k+1) P (BT (TT P k) l) l w
theorem x2w(n:Int):∀ts:List Nat,((ts.map nI).any fun y=>eqS y (.int n))=inI n ts
 |[]=>rfl
 |t::ts=>by
  show(eqS (.int (t:Int)) (.int n)||(ts.map nI).any fun y=>eqS y (.int n))=(decide ((t:Int)=n)||inI n ts)
  rw[x2w n ts];congr 1
theorem x8f(n:Int)(ts:List Nat):ninW (.int n) (.lst (ts.map nI))=some (.bl (!inI n ts)):=by
 show(if scalW (.int n)=true/\(ts.map nI).all scalW=true then some (W.bl (!(ts.map nI).any fun y=>eqS y (.int n)))else none)=_
 rw[if_pos ⟨rfl,q9s ts⟩,x2w]
theorem z1e(n:Int)(ts:List Nat):inW (.int n) (.lst (ts.map nI))=some (.bl (inI n ts)):=by
 show(if scalW (.int n)=true/\(ts.map nI).all scalW=true then some (W.bl ((ts.map nI).any fun y=>eqS y (.int n)))else none)=_
 rw[if_pos ⟨rfl,q9s ts⟩,x2w]
theorem x10(n:Nat){P:List Cb}(hP:P.length<=1000)(x:Int):run K a (n+1) q38 [.lst (P.map rch),.int x]=.ok (.own none ((hv P x).map rch)):=by
 rw[x1m];unfold q6q;walk_at "den"
 rw[w0a,if_pos (by omega),q4k (q:=fun c=>inI x (rin c)) (g:=rch) (en:=rch) P fun c _=>by
  simp only[pjS,frzs,frz1,pj1,w0l,w2o,List.foldl_cons,List.foldl_nil,w0f,w0j];refine⟨[.fr (rch c),.fr (.int x)],?_,fun _=>⟨[.fr (rch c),.fr (.int x)],?_⟩⟩
  ·unfold x1j;walk_at "den";rw[show ixW (rch c) (.int 1)=some (.lst ((rin c).map nI))from rfl];walk_at "den";rw[z1e];walk_at "den"
  ·unfold x1i;walk_at "den"]
 walk_at "den";rfl
theorem x7h(n:Nat){w:Cb}(hw:w.length=2^m)(hm:m<=4):run K a (n+7) q1v [.lst (w.map eo)]=.ok (.own none (((cubesF m).filter fun c=>prB c w).map rch)):=by
 have hl:((cubesF m).filter fun c=>prB c w).length<=81:=by
  have:=w0x (fun c=>prB c w) (cubesF m)
  rw[q5h]at this;have:=q68 hm;omega
 have hc:∀c∈(cubesF m).filter fun c=>prB c w,c.length=m:=fun c h=>(q4m m c).mp (w1d.mp h).1
 have pr:=x1z (K:=K) (a:=a) n hw hm;rw[q5n];unfold q3k;walk_at "den";rw[pr];walk_at "den";generalize (cubesF m).filter (fun c=>prB c w)=P at hl hc
 rw[w0a,if_pos (by omega),q4l (g:=rch) (en:=encU) P fun c h=>by
  unfold q7h encU;walk_at "den";rw[q7d (n+3) (c:=c) (by rw[hc c h];omega)];walk_at "den";exact⟨_,rfl⟩]
 walk_at "den"
theorem q8o{R:Nat->List W->FR}{k:Nat}{P:List Cb}{B:W->Cb->Bool}(hB:∀(b:W)(c:Cb),fine b=true->depW b<=99->c∈P->R q16 [b,rch c,.lst (P.map rch),.lst (l.map nI),.int (k:Int)]=.ok (.fr (.bl (B b c)))):
  ∀(bs:List W)(cs:List Cb),fines bs=true->depWs bs<=99->(∀c∈cs,c∈P)->compP dYes (q7a K a R) [.fr (.lst (P.map rch)),.fr (.lst (l.map nI)),.fr (.int (k:Int))] (bs.zip (cs.map rch))=some (((bs.zip cs).map fun p=>B p.1 p.2).map .bl)
 |[],_,_,_,_=>rfl
 |_::_,[],_,_,_=>rfl
 |b::bs,c::cs,h,hd,hc=>by
  have h:(fine b&&fines bs)=true:=h;rw[w0r]at h;have hd:max (depW b) (depWs bs)<=99:=hd;have ih:=q8o hB bs cs h.2 (by omega) fun c hc'=>hc c (by simp[hc'])
  simp only[w0l,w2u];rw[q6d,ih];unfold q7a;walk_at "den";rw[hB b c h.1 (by omega) (hc c (by simp))];walk_at "den"
theorem x3t(M:Exs K mg a){R:Nat->List W->FR}{k:Nat}{P:List Cb}{B:W->Cb->Bool}(hP:P.length<=81)(hl:l.length<=100)
  (hT:∀x,fine x=true->R q04 [x,.int 2]=.ok (.fr (.bl (tupN 2 x))))(hW:∀x,fine x=true->R q28 [x]=.ok (.fr (.bl (isIn x))))(hH:∀x:Int,R q38 [.lst (P.map rch),.int x]=.ok (.own none ((hv P x).map rch)))
  (hB:k≠0->∀(b:W)(c:Cb),fine b=true->depW b<=99->c∈P->R q16 [b,rch c,.lst (P.map rch),.lst (l.map nI),.int (k:Int)]=.ok (.fr (.bl (B b c)))){w:W}(hf:fine w=true)(hd:depW w<=100):
  (q3r K a R [.fr w,.fr (.lst (P.map rch)),.fr (.lst (l.map nI)),.fr (.int (k:Int)),.no,.no,.no]).fn=.ok (.fr (.bl (TS k P B l w))):=by
 have no:∀w,fine w=true->tupN 2 w=false->(q3r K a R [.fr w,.fr (.lst (P.map rch)),.fr (.lst (l.map nI)),.fr (.int (k:Int)),.no,.no,.no]).fn=.ok (.fr (.bl false)):=fun w hf h2=>by
  unfold q3r;walk_at "den";rw[hT w hf,h2];walk_at "den"
 cases w with
 |tup xs=>
  rcases xs with _|⟨x,_|⟨y,_|⟨z,xs⟩⟩⟩
  ·exact no _ hf rfl
  ·rw[no _ hf rfl];cases x<;>rfl
  ·have hx:fine x=true:=q2r (ws:=[x,y]) (q30 hf) (by simp);have hy:fine y=true:=q2r (ws:=[x,y]) (q30 hf) (by simp);unfold q3r;walk_at "den";rw[hT _ hf];simp only[tupN];walk_at "den";rw[hW x hx];have hxx:(∃n,x=.int n)\/isIn x=false:=by cases x<;>first|exact .inl ⟨_,rfl⟩|exact .inr rfl
   rcases hxx with⟨n,rfl⟩|hx0
   ·simp only[isIn];walk_at "den";rw[x8f];walk_at "den";have hts:∀y,isTu y=false->TS k P B l (.tup [.int n,y])=false:=fun y h=>by cases y<;>first|rfl|cases h
    cases hin:inI n l with
    |false=>
     rw[if_pos (show(!false)=true from rfl)];cases y with
     |tup bs=>show _=FR.ok (S.fr (W.bl (inI n l&&_)));rw[hin];rfl
     |_=>rfl
    |true=>
     rw[if_neg (by decide),q6x M hy];cases htu:isTu y with
     |false=>
      walk_at "den";rw[hts y htu]
     |true=>
      obtain⟨bs,rfl⟩:∃bs,y=.tup bs:=by cases y<;>first|exact⟨_,rfl⟩|cases htu
      have hfb:fines bs=true:=q30 hy
      have hdb:depWs bs<=98:=by
       have hd:max 0 (max (depWs bs+1) 0)+1<=100:=hd;omega
      have eT:TS k P B l (.tup [.int n,.tup bs])=(if k=0 then bs.isEmpty else(decide (bs.length=(hv P n).length)&&(bs.zip (hv P n)).all fun p=>B p.1 p.2)):=by
       show(inI n l&&_)=_;rw[hin,w2h]
      rw[eT];walk_at "den"
      by_cases hk:k=0
      ·subst hk;rw[if_pos rfl,if_pos (by rfl)];walk_at "den";cases bs with
       |nil=>rfl
       |cons b bs=>
        show FR.ok (S.fr (W.bl (decide ((((b::bs).length:Nat):Int)=0))))=FR.ok (S.fr (W.bl false));rw[decide_eq_false (by simp only[w0o];omega)]
      ·rw[if_neg hk,if_neg (by omega),hH n];walk_at "den";rw[w0a];have hle:(hv P n).length<=81:=w0g (w0x _ _) hP
       by_cases he:bs.length=(hv P n).length
       ·rw[decide_eq_true he,w2h,if_neg (by simp;omega)];rw[if_pos (by rw[w2g,w0a];omega)];simp only[frz1,pj1,w0f,w0j];rw[q8o (hB hk) bs (hv P n) hfb (by omega) fun c hc=>(w1d.mp hc).1]
        walk_at "den";rw[x4g];walk_at "den";rw[w3m];rfl
       ·rw[decide_eq_false he,w1t,if_pos (by simp;omega)]
   ·rw[hx0];walk_at "den";cases x with
    |int n=>cases hx0
    |_=>rfl
  ·rw[no _ hf (show decide ((x::y::z::xs).length=2)=false from decide_eq_false (by simp only[w0o];omega))];cases x<;>cases y<;>rfl
 |_=>rw[no _ hf rfl];rfl
theorem x0s(l:List Nat)(c:Cb):(lf l c).length<=l.length:=w0x _ _
theorem x9f(M:Exs K mg a){P:List Cb}{k:Nat}(hm:m<=4)(hc:∀c∈P,c.length=m)(hT:∀(l:List Nat)(w:W),fine w=true->depW w<=100->l.length<=100->run K a (n+2) q2x [w,.lst (P.map rch),.lst (l.map nI),.int (k:Int)]=.ok (.fr (.bl (T l w))))
  (hl:l.length<=100){b:W}{c:Cb}(hf:fine b=true)(hd:depW b<=99)(hcP:c∈P):run K a (n+3) q16 [b,rch c,.lst (P.map rch),.lst (l.map nI),.int ((k+1:Nat):Int)]=.ok (.fr (.bl (BT T l b c))):=by
 have no:∀w,fine w=true->tupN 2 w=false->run K a (n+3) q16 [w,rch c,.lst (P.map rch),.lst (l.map nI),.int ((k+1:Nat):Int)]=.ok (.fr (.bl false)):=fun w hf h2=>by
  rw[q56];unfold q32;walk_at "den";have:=q4d M (n+1) hf 2;rw[show run K a (n+2) q04 [w,.int 2]=_ from this,h2];walk_at "den"
 cases b with
 |tup xs=>
  rcases xs with _|⟨x,_|⟨y,_|⟨z,xs⟩⟩⟩
  ·exact no _ hf rfl
  ·exact no _ hf rfl
  ·have hx:fine x=true:=q2r (ws:=[x,y]) (q30 hf) (by simp);have hy:fine y=true:=q2r (ws:=[x,y]) (q30 hf) (by simp);have hd:max (depW x) (max (depW y) 0)+1<=99:=hd;rw[q56];unfold q32;walk_at "den";have:=q4d M (n+1) hf 2;rw[show run K a (n+2) q04 [.tup [x,y],.int 2]=_ from this];simp only[tupN];walk_at "den";rw[show ixW (rch c) (.int 0)=some (encU c)from rfl];walk_at "den";rw[x7g M n hx (by omega) (c:=c) (by rw[hc c hcP];omega)];cases he:eqc x c with
   |false=>
    walk_at "den";show _=FR.ok (S.fr (W.bl (eqc x c&&_)));rw[he];rfl
   |true=>
    walk_at "den";rw[show ixW (rch c) (.int 1)=some (.lst ((rin c).map nI))from rfl];walk_at "den";rw[x4b (n+1) (by omega)];walk_at "den";rw[show(((k+1:Nat):Int))-1=(k:Int) by omega,show l.filter (fun k=>!(rin c).contains k)=lf l c from rfl,hT (lf l c) y hy (by omega) (w0g (x0s l c) hl)]
    walk_at "den";show _=FR.ok (S.fr (W.bl (eqc x c&&_)));rw[he];rfl
  ·exact no _ hf (show decide ((x::y::z::xs).length=2)=false from decide_eq_false (by simp only[w0o];omega))
 |_=>exact no _ hf rfl
theorem y4a(M:Exs K mg a){P:List Cb}(hm:m<=4)(hP:P.length<=81)(hc:∀c∈P,c.length=m):∀(k n:Nat)(l:List Nat)(w:W),fine w=true->depW w<=100->l.length<=100->run K a (n+2*k+4) q2x [w,.lst (P.map rch),.lst (l.map nI),.int (k:Int)]=.ok (.fr (.bl (TT P k l w))):=by
 intro k
 induction k with
 |zero=>
  intro n l w hf hd hl;rw[q7c];exact x3t M hP hl (fun x hx=>q4d M (n+2) hx 2) (fun x hx=>x3s M (n+2) hx) (fun x=>x10 (n+2) (by omega) x) (fun h=>absurd rfl h) hf hd
 |succ k ih=>
  intro n l w hf hd hl;have e:n+2*(k+1)+4=(n+2*k+3+2)+1:=by omega
  rw[e,q7c]
  exact x3t M hP hl (fun x hx=>q4d M (n+2*k+3+1) hx 2) (fun x hx=>x3s M (n+2*k+3+1) hx) (fun x=>x10 (n+2*k+3+1) (by omega) x) (fun _ b c hb hdb hcP=>by
   have:=x9f M hm hc (k:=k) (T:=TT P k) (n:=n+2*k+2) (fun l w h1 h2 h3=>ih n l w h1 h2 h3) hl hb hdb hcP
   exact this) hf hd
theorem y4p(c:Cb)(x:Int):((sortI (lrF c [0])).any fun y=>decide (y=x))=inI x (rin c):=by
 rw[w1l];unfold inI;rw[w2j,w2j];constructor
 ·rintro⟨y,hy,e⟩;rw[(q47 _).mem_iff,y1t]at hy;obtain⟨k,hk,rfl⟩:=hy;exact⟨k,hk,e⟩
 ·rintro⟨k,hk,e⟩;exact⟨(k:Int),by rw[(q47 _).mem_iff,y1t];exact⟨k,hk,rfl⟩,e⟩
theorem x0t:∀ts:List Int,(ts.map W.int).all scalW=true
 |[]=>rfl
 |t::ts=>by show(true&&(ts.map W.int).all scalW)=true;rw[x0t ts];rfl
theorem x0u(n:Int):∀ts:List Int,((ts.map W.int).any fun y=>eqS y (.int n))=ts.any fun y=>decide (y=n)
 |[]=>rfl
 |t::ts=>by
  show(eqS (.int t) (.int n)||(ts.map W.int).any fun y=>eqS y (.int n))=(decide (t=n)||ts.any fun y=>decide (y=n))
  rw[x0u n ts];congr 1
theorem z3o(c:Cb)(x:Int):inW (.int x) (.lst ((sortI (lrF c [0])).map .int))=some (.bl (inI x (rin c))):=by
 show(if scalW (.int x)=true/\((sortI (lrF c [0])).map W.int).all scalW=true then some (W.bl (((sortI (lrF c [0])).map W.int).any fun y=>eqS y (.int x)))else none)=_
 rw[if_pos ⟨rfl,x0t _⟩,x0u,y4p]
theorem z1f(c:Cb)(x:Int):ninW (.int x) (.lst ((sortI (lrF c [0])).map .int))=some (.bl (!inI x (rin c))):=by
 show(if scalW (.int x)=true/\((sortI (lrF c [0])).map W.int).all scalW=true then some (W.bl (!((sortI (lrF c [0])).map W.int).any fun y=>eqS y (.int x)))else none)=_
 rw[if_pos ⟨rfl,x0t _⟩,x0u,y4p]
theorem x8g(k:Nat)(l:List Nat):inI (k:Int) l=l.contains k:=by
 unfold inI;rw[w1l,w2j,List.contains_iff_mem];constructor
 ·rintro⟨j,hj,e⟩;have e:=of_decide_eq_true e;have:j=k:=by omega
  exact this ▸ hj
 ·exact fun h=>⟨k,h,decide_eq_true rfl⟩
theorem q9k(n:Nat)(hl:l.length<=100){c:Cb}(hc:c.length<=5):run K a (n+2) q1w [.lst (l.map nI),encU c]=.ok (.own none ((lf l c).map nI)):=by
 rw[q8f];unfold q4w encU;walk_at "den";rw[x0c n hc];walk_at "den";rw[w0a,if_pos (by omega)];simp only[frz1,pj1,w0f,w0j]
 rw[q4k (q:=fun k=>!(rin c).contains k) (g:=nI) (en:=nI) l fun k _=>by
  refine⟨[.fr (nI k),.fr (.lst ((sortI (lrF c [0])).map .int))],?_,fun _=>⟨[.fr (nI k),.fr (.lst ((sortI (lrF c [0])).map .int))],?_⟩⟩
  ·unfold q77;walk_at "den";rw[show nI k=.int (k:Int)from rfl,z1f];walk_at "den";rw[x8g]
  ·unfold q76;walk_at "den"]
 walk_at "den";rfl
noncomputable def isNo:W->Bool
 |.non=>true
 |_=>false
noncomputable def lcb:W->Bool
 |.tup ws=>ws.all fun x=>isNo x||isBo x
 |_=>false
theorem x6g(h:depWs xs<=100):eq2 (.lst xs) (.lst [])=some (.bl xs.isEmpty):=by
 unfold eq2;rw[if_pos (show depW (.lst xs)<=150 by show depWs xs+1<=150;omega)];cases xs<;>rfl
theorem x11{q:W->Bool}:∀xs:List W,depWs (xs.filter q)<=depWs xs
 |[]=>w0e _
 |x::xs=>by
  have ih:=x11 (q:=q) xs;rw[w1q];split
  ·show max (depW x) (depWs (xs.filter q))<=max (depW x) (depWs xs);omega
  ·show depWs (xs.filter q)<=max (depW x) (depWs xs);omega
theorem x6h:∀xs:List W,(xs.filter fun x=>!(isNo x||isBo x)).isEmpty=xs.all fun x=>isNo x||isBo x
 |[]=>rfl
 |x::xs=>by
  have ih:=x6h xs;rw[w1q,w1s];cases hx:(isNo x||isBo x)with
  |true=>simpa [hx]using ih
  |false=>simp
theorem x3u(M:Exs K mg a)(n:Nat){w:W}(hf:fine w=true)(hd:depW w<=100):run K a (n+1) q1e [w]=.ok (.fr (.bl (lcb w))):=by
 rw[q6t];unfold q3n;walk_at "den";rw[q6x M hf];cases w with
 |tup xs=>
  have hd:depWs xs+1<=100:=hd;have hl:=z1d hf;simp only[isTu];walk_at "den"
  have cm:=q4k (cc:=q42 K a (run K a n)) (d:=q41 K a (run K a n)) (pe:=[]) (q:=fun x=>!(isNo x||isBo x)) (g:=id) (en:=id) xs fun x hx=>by
   have hfx:=q2r (q30 hf) hx;refine⟨[.fr x],?_,fun _=>⟨[.fr x],?_⟩⟩
   ·unfold q42;simp only[id];walk_at "den";have en:nisW x .non=some (.bl (!isNo x)):=by cases x<;>rfl
    rw[en];cases hn:isNo x with
    |true=>
     walk_at "den";rfl
    |false=>
     walk_at "den";rw[q4c M hfx];cases isBo x<;>(walk_at "den";try rfl)
   ·unfold q41;walk_at "den";rfl
  rw[List.map_id,List.map_id]at cm;rw[if_pos (by omega),cm];walk_at "den";rw[x6g (w0g (x11 xs) (by omega))];walk_at "den";show FR.ok (S.fr (W.bl (xs.filter fun x=>!(isNo x||isBo x)).isEmpty))=FR.ok (S.fr (W.bl (xs.all fun x=>isNo x||isBo x)))
  rw[x6h]
 |_=>
  simp only[isTu];walk_at "den";try rfl
theorem y1z:∀{xs:List W},(xs.all fun x=>isNo x||isBo x)=true->∃os:Cb,xs=os.map eo
 |[],_=>⟨[],rfl⟩
 |x::xs,h=>by
  rw[w1s,w0r]at h;obtain⟨os,rfl⟩:=y1z h.2;cases x with
  |non=>exact⟨none::os,rfl⟩
  |bl b=>exact⟨some b::os,rfl⟩
  |_=>cases h.1
theorem x6i:∀x c:Cb,eqWs (x.map eo) (c.map eo)=some (decide (x=c))
 |[],[]=>rfl
 |[],_::_=>rfl
 |_::_,[]=>rfl
 |o::x,p::c=>by
  show(match eqW (eo o) (eo p),eqWs (x.map eo) (c.map eo)with|some a,some b=>some (a&&b)|_,_=>none)=_
  have e:eqW (eo o) (eo p)=some (decide (o=p)):=by
   cases o with
   |none=>cases p<;>rfl
   |some a=>cases p with
    |none=>rfl
    |some b=>cases a<;>cases b<;>rfl
  rw[e,x6i x c];simp
theorem ne_U(x c:Cb):ne2 (encU x) (encU c)=some (.bl (!decide (x=c))):=by
 unfold ne2 encU;rw[if_pos (show depW (.tup (x.map eo))<=150 by show depWs (x.map eo)+1<=150;rw[x0q];omega)];show(eqWs (x.map eo) (c.map eo)).map _=_;rw[x6i];rfl
theorem y4q:∀x c:Cb,eqc (encU x) c=decide (x=c)
 |[],[]=>rfl
 |[],_::_=>rfl
 |_::_,[]=>rfl
 |o::x,p::c=>by
  have ih:=y4q x c
  have e:eqo (eo o) p=decide (o=p):=by
   cases o with
   |none=>cases p<;>rfl
   |some a=>cases p with
    |none=>rfl
    |some b=>cases a<;>cases b<;>rfl
  have ih:(decide ((x.map eo).length=c.length)&&((x.map eo).zip c).all fun p=>eqo p.1 p.2)=decide (x=c):=ih
  show(decide (((o::x).map eo).length=(p::c).length)&&(eqo (eo o) p&&((x.map eo).zip c).all fun p=>eqo p.1 p.2))=decide (o::x=p::c)
  rw[e];have e2:decide (((o::x).map eo).length=(p::c).length)=decide ((x.map eo).length=c.length):=by simp
  rw[e2,<- w4e,Bool.and_comm (decide ((x.map eo).length=c.length)),w4e,ih];simp
theorem z1g{w:W}{c:Cb}(h:lcb w=false):eqc w c=false:=by
 cases w with
 |tup ws=>
  show(decide (ws.length=c.length)&&(ws.zip c).all fun p=>eqo p.1 p.2)=false
  have h:(ws.all fun x=>isNo x||isBo x)=false:=h
  by_cases hl:ws.length=c.length
  ·rw[decide_eq_true hl,w2h];cases q:(ws.zip c).all fun p=>eqo p.1 p.2 with
   |false=>rfl
   |true=>
    exfalso;rw[w1b]at q
    have:(ws.all fun x=>isNo x||isBo x)=true:=by
     rw[w1b];intro x hx;obtain⟨j,hj,rfl⟩:=w2c.mp hx;have:=q (ws[j],c[j]) (w2c.mpr ⟨j,by rw[w2g];omega,by rw[w3x]⟩);generalize ws[j]=x at this;generalize c[j]=o at this;cases x<;>first|rfl|(cases o<;>cases this)
    rw[h]at this;cases this
  ·rw[decide_eq_false hl,w1t]
 |_=>rfl
theorem x6j:∀l:List Nat,depWs (l.map nI)=0
 |[]=>rfl
 |x::l=>by show max 0 (depWs (l.map nI))=0;rw[x6j l];rfl
noncomputable def wrj(w:Cb)(j:Nat):List Nat:=(List.range j).filter fun k=>w.getD k none==some true
noncomputable def kI(k:Nat):Kx:=.int (k:Int)
noncomputable def vl(P:List Cb)(k:Nat):W:=.lst ((hv P (k:Int)).map encU)
noncomputable def hdW(P:List Cb)(L:List Nat):W:=.dw false .int (L.map kI) (L.map (vl P))
theorem z3p(w:Cb)(j:Nat):wrj w (j+1)=if(w.getD j none==some true)=true then wrj w j++[j]else wrj w j:=by
 unfold wrj;rw[List.range_succ,List.filter_append];cases h:(w.getD j none==some true)with
 |true=>rw[if_pos rfl,w1q,h];rfl
 |false=>rw[if_neg (by decide),w1q,h];simp
theorem y7q(w:Cb)(j:Nat):(wrj w j).length<=j:=w0g (w0x _ _) (by rw[w1n];exact w0e _)
theorem z1h{j k:Nat}(h:kI j=kI k):j=k:=by
 injection h with h
 omega
theorem vcomp(n:Nat){P:List Cb}(hm:m<=4)(hc:∀c∈P,c.length=m)(k:Nat):compD (q5d K a (run K a (n+1))) (q5c K a (run K a (n+1))) [.fr (.int (k:Int))] (P.map encU)=some ((hv P (k:Int)).map encU):=by
 refine q4k (q:=fun c=>inI (k:Int) (rin c)) (g:=encU) (en:=encU) P fun c h=>?_
 refine⟨[.fr (encU c),.fr (.int (k:Int))],?_,fun _=>⟨[.fr (encU c),.fr (.int (k:Int))],?_⟩⟩
 ·unfold q5d encU;walk_at "den";rw[x0c n (c:=c) (by rw[hc c h];omega)];walk_at "den";rw[z3o];walk_at "den"
 ·unfold q5c;walk_at "den"
theorem x7i(n:Nat){w:Cb}{P:List Cb}(hm:m<=4)(hw:w.length<=100)(hP:P.length<=81)(hc:∀c∈P,c.length=m):run K a (n+2) q11 [.lst (w.map eo),.lst (P.map encU)]=.ok (.dw .int ((wr w).map kI) ((wr w).map (vl P))):=by
 obtain⟨e',h1,z3,rfl⟩:=q46 (b:=q5e K a (run K a (n+1))) (i:=3) (lo:=0) (hi:=(w.length:Int)) w.length (by omega) (fun j e=>∃z3,e=[.fr (.lst (w.map eo)),.fr (.lst (P.map encU)),.dw .int ((wrj w j).map kI) ((wrj w j).map (vl P)),z3]) [.fr (.lst (w.map eo)),.fr (.lst (P.map encU)),.dw .int [] [],.no] ⟨.no,rfl⟩ fun j e hj he=>by
  obtain⟨z3,rfl⟩:=he;rw[w4s];refine⟨[.fr (.lst (w.map eo)),.fr (.lst (P.map encU)),.dw .int ((wrj w (j+1)).map kI) ((wrj w (j+1)).map (vl P)),.fr (.int (j:Int))],?_,_,rfl⟩;have hlj:=y7q w j;unfold q5e;walk_at "den";rw[x4j hj];walk_at "den";rw[x2v,z3p];cases hb:(w.getD j none==some true)with
  |false=>
   walk_at "den";try rfl
  |true=>
   walk_at "den";rw[w0a,if_pos (by omega)];simp only[frz1,pj1,w0f,w0j];rw[vcomp n hm hc j];walk_at "den"
   rw[y69 (by rw[w0a];omega) (by rfl) (fun z=>by
    obtain⟨k,hk,e⟩:=w1g.mp z;have:=z1h (k:=j) e;have:=w0w.mp (w1d.mp hk).1;omega)]
   walk_at "den";rw[w1p,w1p];rfl
 rw[q65];unfold q3z;walk_at "den";rw[w0a,if_pos (q3h (by omega) (by omega))];walk_at "den";rw[h1];walk_at "den";rfl
theorem lk_I{P:List Cb}{x:Int}:∀{L:List Nat},inI x L=true->∃k∈L,x=(k:Int)/\lkW (L.map kI) (L.map (vl P)) (.int x)=some (vl P k)
 |[],h=>by cases h
 |j::L,h=>by
  have h:(decide ((j:Int)=x)||inI x L)=true:=h
  by_cases e:(j:Int)=x
  ·subst e;refine⟨j,by simp,rfl,?_⟩;show(if kI j=Kx.int (j:Int)then some (vl P j)else _)=_;exact if_pos rfl
  ·rw[decide_eq_false e,Bool.false_or]at h;obtain⟨k,h1,h2,h3⟩:=lk_I (P:=P) h;refine⟨k,by simp[h1],h2,?_⟩;show(if kI j=Kx.int x then some (vl P j)else lkW (L.map kI) (L.map (vl P)) (.int x))=_;rw[if_neg (fun z=>e (by injection z)),h3]
theorem y4r{y:W}(hf:fine y=true)(hd:depW y<=100):eq2 y (.tup [])=some (.bl (match y with|.tup bs=>bs.isEmpty|_=>false)):=by
 have e2:eq2 y (.tup [])=(eqW y (.tup [])).map .bl:=if_pos (by omega);rw[e2];cases y with
 |tup bs=>cases bs<;>rfl
 |exc _=>cases hf
 |dic _=>cases hf
 |dw _ _ _ _=>cases hf
 |fn _ _ _=>cases hf
 |str _=>cases hf
 |_=>rfl
noncomputable def ED(P:List Cb)(L l:List Nat)(k:Nat)(n:Int)(bs:List W)(cs:List Cb)(z5 z6:S):List S:=[.fr (hdW P L),.fr (.lst (l.map nI)),.fr (.int (k:Int)),.fr (.tup [.int n,.tup bs]),.fr (.lst (cs.map encU)),z5,z6]
theorem y4b(M:Exs K mg a){R:Nat->List W->FR}{P:List Cb}{k:Nat}{n:Int}{bs:List W}{cs:List Cb}(hC:∀x,fine x=true->depW x<=100->R q1e [x]=.ok (.fr (.bl (lcb x))))
  (hL:∀c∈cs,R q1w [.lst (l.map nI),encU c]=.ok (.own none ((lf l c).map nI)))(hD:∀c∈cs,∀t,fine t=true->depW t<=100->R q1p [hdW P L,.lst ((lf l c).map nI),.int ((k:Int)-1),t]=.ok (.fr (.bl (T (lf l c) t))))
  {j:Nat}{b:W}{c:Cb}(hb:bs[j]?=some b)(hc:cs[j]?=some c)(hf:fine b=true)(hd:depW b<=99)(z6:S):
  q3o K a R (ED P L l k n bs cs (.fr (.int (j:Int))) z6)=if BT T l b c=true then .nx (ED P L l k n bs cs (.fr (.int (j:Int))) (.fr b))else .rt (.fr (.bl false)) (ED P L l k n bs cs (.fr (.int (j:Int))) (.fr b)):=by
 have hab:atI bs (j:Int)=some b:=q43 hb;have hac:atI (cs.map encU) (j:Int)=some (encU c):=q43 (by rw[w0v,hc];rfl);have hcm:c∈cs:=w1f hc
 have no:tupN 2 b=false->q3o K a R (ED P L l k n bs cs (.fr (.int (j:Int))) z6)=.rt (.fr (.bl false)) (ED P L l k n bs cs (.fr (.int (j:Int))) (.fr b)):=fun h2=>by
  unfold q3o ED;walk_at "den";rw[hab];walk_at "den";rw[q6x M hf];cases b with
  |tup xs=>
   simp only[isTu];walk_at "den";rw[if_pos (by have:=of_decide_eq_false (show decide (xs.length=2)=false from h2);simp;omega)]
  |_=>
   simp only[isTu];walk_at "den"
 have btn:tupN 2 b=false->BT T l b c=false:=fun h2=>by
  cases b with
  |tup xs=>
   rcases xs with _|⟨x,_|⟨y,_|⟨z,xs⟩⟩⟩
   ·rfl
   ·rfl
   ·cases h2
   ·rfl
  |_=>rfl
 cases h2:tupN 2 b with
 |false=>rw[btn h2,if_neg (by decide)];exact no h2
 |true=>
  obtain⟨x,t,rfl⟩:∃x t,b=.tup [x,t]:=by
   cases b with
   |tup xs=>
    rcases xs with _|⟨x,_|⟨y,_|⟨z,xs⟩⟩⟩
    ·cases h2
    ·cases h2
    ·exact⟨x,y,rfl⟩
    ·have:=of_decide_eq_true (show decide ((x::y::z::xs).length=2)=true from h2);simp only[w0o]at this;omega
   |_=>cases h2
  have hx:fine x=true:=q2r (ws:=[x,t]) (q30 hf) (by simp);have ht:fine t=true:=q2r (ws:=[x,t]) (q30 hf) (by simp);have hd:max (depW x) (max (depW t) 0)+1<=99:=hd;have eB:BT T l (.tup [x,t]) c=(eqc x c&&T (lf l c) t):=rfl;rw[eB];unfold q3o ED;walk_at "den";rw[hab];walk_at "den";rw[show isiW K (.type "tuple") (.tup [x,t])=some (.bl true)from q4i M.t_tuple_tuple];walk_at "den";rw[if_neg (by decide),hC x hx (by omega)];cases hl:lcb x with
  |false=>
   rw[z1g hl,w1t,if_neg (by decide)];walk_at "den"
  |true=>
   obtain⟨os,rfl⟩:∃os:Cb,x=encU os:=by
    cases x with
    |tup xs=>obtain⟨os,rfl⟩:=y1z hl;exact⟨os,rfl⟩
    |_=>cases hl
   rw[y4q];walk_at "den";rw[hac];walk_at "den";rw[ne_U];walk_at "den"
   by_cases he:os=c
   ·subst he;rw[decide_eq_true rfl,w2h];walk_at "den";rw[hac];walk_at "den";rw[hL os hcm];walk_at "den";rw[hD os hcm t ht (by omega)];cases T (lf l os) t<;>(walk_at "den";try rfl)
   ·rw[decide_eq_false he,w1t,if_pos (show(!false)=true from rfl),if_neg (by decide)]
theorem x6k(M:Exs K mg a){R:Nat->List W->FR}{P:List Cb}{k:Nat}{n:Int}{bs:List W}{cs:List Cb}(hC:∀x,fine x=true->depW x<=100->R q1e [x]=.ok (.fr (.bl (lcb x))))
  (hL:∀c∈cs,R q1w [.lst (l.map nI),encU c]=.ok (.own none ((lf l c).map nI)))(hD:∀c∈cs,∀t,fine t=true->depW t<=100->R q1p [hdW P L,.lst ((lf l c).map nI),.int ((k:Int)-1),t]=.ok (.fr (.bl (T (lf l c) t))))
  (hf:fines bs=true)(hd:depWs bs<=99)(hlen:bs.length=cs.length):∀(js:List Nat)(z5 z6:S),(∀j∈js,j<bs.length)->∃z5' z6',forD 5 (q3o K a R) (js.map nI) (ED P L l k n bs cs z5 z6)=if(js.all fun j=>BT T l (bs.getD j .non) (cs.getD j []))=true then .nx (ED P L l k n bs cs z5' z6')else .rt (.fr (.bl false)) (ED P L l k n bs cs z5' z6')
 |[],z5,z6,_=>⟨z5,z6,rfl⟩
 |j::js,z5,z6,h=>by
  have hj:=h j (by simp);have hb:bs[j]?=some (bs.getD j .non):=by rw[w1a,w0b hj];rfl
  have hc:cs[j]?=some (cs.getD j []):=by rw[w1a,w0b (by omega)];rfl
  have hbm:=w1f hb;have tn:=y4b (K:=K) (a:=a) M (n:=n) hC hL hD hb hc (q2r hf hbm) (w0g (x8e hbm) hd) z6;have es:(ED P L l k n bs cs z5 z6).set 5 (.fr (nI j))=ED P L l k n bs cs (.fr (.int (j:Int))) z6:=rfl;rw[w0l,q4z,es,tn,w1s];cases hB:BT T l (bs.getD j .non) (cs.getD j [])with
  |true=>
   rw[if_pos rfl,w2h,q5k];exact x6k M hC hL hD hf hd hlen js _ _ fun i hi=>h i (by simp[hi])
  |false=>
   rw[if_neg (by decide),w1t];exact⟨.fr (.int (j:Int)),.fr (bs.getD j .non),rfl⟩
theorem y7r{bs:List W}{cs:List Cb}(h:bs.length=cs.length):((List.range bs.length).all fun j=>BT T l (bs.getD j .non) (cs.getD j []))=(bs.zip cs).all fun p=>BT T l p.1 p.2:=by
 rw[w1l,w1b,w1b];constructor
 ·intro q p hp;obtain⟨j,hj,e⟩:=w2c.mp hp;rw[w2g]at hj;rw[w3x]at e;have:=q j (by rw[w0w];omega);rw[w1a,w1a,w0b (by omega),w0b (by omega)]at this;rw[<- e];exact this
 ·intro q j hj;rw[w0w]at hj;rw[w1a,w1a,w0b (by omega),w0b (by omega)];exact q (bs[j],cs[j]) (w2c.mpr ⟨j,by rw[w2g];omega,by rw[w3x]⟩)
theorem x6l(M:Exs K mg a){R:Nat->List W->FR}{P:List Cb}{k:Nat}(hP:P.length<=81)(hsub:∀x∈l,x∈L)(hC:∀x,fine x=true->depW x<=100->R q1e [x]=.ok (.fr (.bl (lcb x))))
  (hL:∀c∈P,R q1w [.lst (l.map nI),encU c]=.ok (.own none ((lf l c).map nI)))(hD:k≠0->∀c∈P,∀t,fine t=true->depW t<=100->R q1p [hdW P L,.lst ((lf l c).map nI),.int ((k:Int)-1),t]=.ok (.fr (.bl (T (lf l c) t)))){w:W}(hf:fine w=true)(hd:depW w<=100):
  (q3a K a R [.fr (hdW P L),.fr (.lst (l.map nI)),.fr (.int (k:Int)),.fr w,.no,.no,.no]).fn=.ok (.fr (.bl (TS k P (BT T l) l w))):=by
 have no:∀w,fine w=true->tupN 2 w=false->(q3a K a R [.fr (hdW P L),.fr (.lst (l.map nI)),.fr (.int (k:Int)),.fr w,.no,.no,.no]).fn=.ok (.fr (.bl false)):=fun w hf h2=>by
  unfold q3a;walk_at "den";rw[q6x M hf];cases w with
  |tup xs=>
   simp only[isTu];walk_at "den";rw[if_pos (by have:=of_decide_eq_false (show decide (xs.length=2)=false from h2);simp;omega)]
  |_=>
   simp only[isTu];walk_at "den"
 cases w with
 |tup xs=>
  rcases xs with _|⟨x,_|⟨y,_|⟨z,xs⟩⟩⟩
  ·exact no _ hf rfl
  ·rw[no _ hf rfl];cases x<;>rfl
  ·have hx:fine x=true:=q2r (ws:=[x,y]) (q30 hf) (by simp);have hy:fine y=true:=q2r (ws:=[x,y]) (q30 hf) (by simp);have hd:max (depW x) (max (depW y) 0)+1<=100:=hd;unfold q3a;walk_at "den";rw[show isiW K (.type "tuple") (.tup [x,y])=some (.bl true)from q4i M.t_tuple_tuple];walk_at "den";rw[if_neg (by decide),y1y M hx];have hxx:(∃n,x=.int n)\/(isIn x=false/\TS k P (BT T l) l (.tup [x,y])=false):=by cases x<;>first|exact .inl ⟨_,rfl⟩|exact .inr ⟨rfl,rfl⟩
   rcases hxx with⟨n,rfl⟩|⟨hx0,hx1⟩
   ·simp only[isIn,isBo,w3r];walk_at "den";rw[q4c M hx];simp only[isBo];walk_at "den";rw[x8f];walk_at "den";cases hin:inI n l with
    |false=>
     rw[if_pos (show(!false)=true from rfl)];cases y with
     |tup bs=>show _=FR.ok (S.fr (W.bl (inI n l&&_)));rw[hin];rfl
     |_=>rfl
    |true=>
     rw[if_neg (by decide),q6x M hy];have hts:∀y,isTu y=false->TS k P (BT T l) l (.tup [.int n,y])=false:=fun y h=>by cases y<;>first|rfl|cases h
     cases htu:isTu y with
     |false=>
      walk_at "den";rw[y4r hy (by omega),hts y htu];cases y with
      |tup bs=>cases htu
      |_=>rfl
     |true=>
      obtain⟨bs,rfl⟩:∃bs,y=.tup bs:=by cases y<;>first|exact⟨_,rfl⟩|cases htu
      have hfb:fines bs=true:=q30 hy
      have hdb:depWs bs<=98:=by
       have hd:max 0 (max (depWs bs+1) 0)+1<=100:=hd;omega
      have eT:TS k P (BT T l) l (.tup [.int n,.tup bs])=(if k=0 then bs.isEmpty else(decide (bs.length=(hv P n).length)&&(bs.zip (hv P n)).all fun p=>BT T l p.1 p.2)):=by
       show(inI n l&&_)=_;rw[hin,w2h]
      rw[eT];walk_at "den"
      by_cases hk:k=0
      ·subst hk;rw[if_pos rfl,if_pos (by rfl),y4r hy (by show depWs bs+1<=100;omega)];rfl
      ·have hinL:inI n L=true:=by
        unfold inI at hin |-
        rw[w2j]at hin |-
        obtain⟨j,hj,e⟩:=hin;exact⟨j,hsub j hj,e⟩
       obtain⟨j,hj,rfl,hlk⟩:=lk_I (P:=P) hinL;rw[if_neg hk,if_neg (by omega)];have hix:ixI (hdW P L) (.int (j:Int))=some (vl P j):=hlk;rw[hix];unfold vl;walk_at "den";rw[w0a];have hle:(hv P (j:Int)).length<=81:=w0g (w0x _ _) hP;have hmem:∀c∈hv P (j:Int),c∈P:=fun c hc=>(w1d.mp hc).1
       by_cases he:bs.length=(hv P (j:Int)).length
       ·rw[decide_eq_true he,w2h,if_neg (by simp;omega),if_pos (q3h (by omega) (by omega))];walk_at "den";obtain⟨z5,z6,lp⟩:=x6k (K:=K) (a:=a) M (P:=P) (L:=L) (l:=l) (k:=k) (n:=(j:Int)) (bs:=bs) (cs:=hv P (j:Int)) hC (fun c hc=>hL c (hmem c hc)) (fun c hc=>hD hk c (hmem c hc)) hfb (by omega) he (List.range bs.length) .no .no fun i hi=>w0w.mp hi
        rw[y7r he]at lp;have er:rangeW 0 (((hv P (j:Int)).length:Nat):Int)=(List.range bs.length).map nI:=by rw[he];exact q51 _
        rw[er,show[S.fr (hdW P L),.fr (.lst (l.map nI)),.fr (.int (k:Int)),.fr (.tup [.int (j:Int),.tup bs]),.fr (.lst ((hv P (j:Int)).map encU)),.no,.no]=ED P L l k (j:Int) bs (hv P (j:Int)) .no .no from rfl,lp];cases(bs.zip (hv P (j:Int))).all (fun p=>BT T l p.1 p.2)with
        |true=>rfl
        |false=>rfl
       ·rw[decide_eq_false he,w1t,if_pos (by simp;omega)]
   ·rw[hx0,hx1];cases hbo:isBo x with
    |false=>
     rw[show(false||false)=false from rfl];walk_at "den"
    |true=>
     rw[show(false||true)=true from rfl];walk_at "den";rw[q4c M hx,hbo];walk_at "den"
  ·rw[no _ hf (show decide ((x::y::z::xs).length=2)=false from decide_eq_false (by simp only[w0o];omega))];cases x<;>cases y<;>rfl
 |_=>rw[no _ hf rfl];rfl
theorem y7s(M:Exs K mg a){P:List Cb}(hm:m<=4)(hP:P.length<=81)(hc:∀c∈P,c.length=m):∀(k n:Nat)(l:List Nat)(w:W),(∀x∈l,x∈L)->fine w=true->depW w<=100->l.length<=100->run K a (n+k+3) q1p [hdW P L,.lst (l.map nI),.int (k:Int),w]=.ok (.fr (.bl (TT P k l w))):=by
 intro k
 induction k with
 |zero=>
  intro n l w hs hf hd hl;rw[q6u];have:=x6l (K:=K) (a:=a) M (R:=run K a (n+2)) (T:=fun _ _=>false) (k:=0) hP hs (fun x h1 h2=>x3u M (n+1) h1 h2) (fun c h=>q9k n hl (by rw[hc c h];omega)) (fun h=>absurd rfl h) hf hd
  refine Eq.trans this ?_
  have e:TS 0 P (BT (fun _ _=>false) l) l w=TS 0 P (fun _ _=>false) l w:=by
   unfold TS;split<;>rfl
  rw[e];rfl
 |succ k ih=>
  intro n l w hs hf hd hl;have e:n+(k+1)+3=(n+k+3)+1:=by omega
  rw[e,q6u]
  exact x6l (K:=K) (a:=a) M (R:=run K a (n+k+3)) (T:=TT P k) (k:=k+1) hP hs (fun x h1 h2=>x3u M (n+k+2) h1 h2) (fun c h=>q9k (n+k+1) hl (by rw[hc c h];omega)) (fun _ c h t h1 h2=>by
   rw[show(((k+1:Nat):Int))-1=(k:Int) by omega];exact ih n (lf l c) t (fun x hx=>hs x (w1d.mp hx).1) h1 h2 (w0g (x0s l c) hl)) hf hd
noncomputable def chB(K:PySem.W.Frag)(a:Adr)(r:Nat->List W->FR):List S->SR:=
 (dSeq (dSet 8 (dFz (dLst (dCons (dTup (dCons (dOp addX (dVar 2) (dC (.int 1))) (dCons (dVar 3) dNil))) (dCons (dTup (dCons (dOp gtW (dVar 2) (dC (.int 0))) (dCons (dVar 3) dNil))) (dCons (dTup (dCons (dVar 2) (dCons (dTup dNil) dNil))) (dCons (dTup (dCons (dVar 2) (dCons (dSlX (dVar 3) dNoPart (dPart (dUn negW (dC (.int 1))))) dNil))) (dCons (dTup (dCons (dVar 2) (dCons (dOp addX (dVar 3) (dTup (dCons (dTup dNil) dNil))) dNil))) dNil))))))))
  (dSeq (dSet 8 (dOp addX (dVar 8) (dFz (dLst (dCons (dC .non) (dCons (dTup (dCons (dVar 2) (dCons (dFz (dList (dCons (dVar 3) dNil))) dNil))) (dCons (dTup (dCons (dVar 2) dNil)) (dCons (dTup (dCons (dOp subW (dVar 2) (dC (.int 1))) (dCons (dVar 3) dNil))) (dCons (dTup (dCons (dVar 2) (dCons (dVar 3) (dCons (dC (.int 0)) dNil)))) dNil)))))))))
  (dRet (dOp ixW (dOp addX (dVar 8) (dFz (dLst (dCons (dTup (dCons (dVar 2) (dCons (dVar 3) (dCons (dC .non) dNil)))) (dCons (dTup (dCons (dVar 3) (dCons (dVar 2) dNil))) dNil))))) (dVar 6)))))
noncomputable def chA(K:PySem.W.Frag)(a:Adr)(r:Nat->List W->FR):List S->SR:=
 (dSeq (dSet 6 (dOp ixW (dOp addX (dOp addX (dOp addX (dFz (dLst (dCons (dC (.int 0)) (dCons (dC (.int 1)) (dCons (dC (.int 2)) (dCons (dC (.int 3)) (dCons (dC (.int 4)) (dCons (dC (.int 5)) (dCons (dC (.int 6)) (dCons (dC (.int 7)) (dCons (dC (.int 8)) (dCons (dC (.int 9)) (dCons (dC (.int 10)) (dCons (dC (.int 11)) dNil)))))))))))))) (dOp repW (dFz (dLst (dCons (dC (.int 1)) dNil))) (dC (.int 6)))) (dOp repW (dFz (dLst (dCons (dC (.int 7)) dNil))) (dC (.int 8)))) (dOp repW (dFz (dLst (dCons (dC (.int 4)) dNil))) (dC (.int 6)))) (dOp modW (dOp fdivW (dVar 1) (dC (.int 3))) (dC (.int 32)))))
  (dSeq (dIfS (dAnd (dTest (dOp gtW (dVar 6) (dC (.int 6)))) (dAnd (dTest (dOp ltW (dVar 6) (dC (.int 10)))) (dTest (dOp ne2 (dVar 3) (dTup dNil)))))
  (dSeq (dSet 4 (dOp modW (dOp fdivW (dVar 1) (dC (.int 96))) (dFn len1 (dCons (dVar 3) dNil))))
  (dSeq (dSet 7 (dOp ixW (dVar 3) (dVar 4)))
  (dSeq (dSet 5 (dTup (dCons (dFn tup1 (dCons (dFz (dComp [] (dOp ixW (dVar 7) (dC (.int 0))) dYes (q40 K a r))) dNil)) (dCons (dOp ixW (dVar 7) (dC (.int 1))) dNil))))
  (dSeq (dIfS (dTest (dOp eq2 (dVar 6) (dC (.int 8))))
  (dRet (dTup (dCons (dVar 2) (dCons (dOp addX (dSlX (dVar 3) (dPart (dOp addX (dVar 4) (dC (.int 1)))) dNoPart) (dSlX (dVar 3) dNoPart (dPart (dOp addX (dVar 4) (dC (.int 1)))))) dNil))))
  dNx)
  (dSeq (dIfS (dTest (dOp eq2 (dVar 6) (dC (.int 9))))
  (dSet 5 (dOp addX (dVar 7) (dTup (dCons (dC .non) dNil))))
  dNx)
  (dRet (dTup (dCons (dVar 2) (dCons (dOp addX (dOp addX (dSlX (dVar 3) dNoPart (dPart (dVar 4))) (dTup (dCons (dVar 5) dNil))) (dSlX (dVar 3) (dPart (dOp addX (dVar 4) (dC (.int 1)))) dNoPart)) dNil)))))))))
  dNx)
  (chB K a r)))
theorem q6a(K:PySem.W.Frag)(a:Adr)(r:Nat->List W->FR):q2z K a r =
 (dSeq (dIfS (dOr (dNot (dTru (dIsi K (.type "tuple") (dVar 0)))) (dOr (dTest (dOp ne2 (dFn len1 (dCons (dVar 0) dNil)) (dC (.int 2)))) (dNot (dTru (dIsi K (.type "tuple") (dOp ixW (dVar 0) (dC (.int 1))))))))
  (dRet (dOp ixW (dFz (dLst (dCons (dTup (dCons (dC (.int 0)) (dCons (dTup dNil) dNil))) (dCons (dC (.bl true)) (dCons (dTup dNil) dNil))))) (dOp modW (dVar 1) (dC (.int 3)))))
  dNx)
  (dSeq (dSet 2 (dOp ixW (dVar 0) (dC (.int 0))))
  (dSeq (dSet 3 (dOp ixW (dVar 0) (dC (.int 1))))
  (dSeq (dIfS (dAnd (dTest (dOp ne2 (dVar 3) (dTup dNil))) (dTest (dOp eq2 (dOp modW (dVar 1) (dC (.int 3))) (dC (.int 1)))))
  (dSeq (dSet 4 (dOp modW (dOp fdivW (dVar 1) (dC (.int 3))) (dFn len1 (dCons (dVar 3) dNil))))
  (dSeq (dSet 5 (dTup (dCons (dOp ixW (dOp ixW (dVar 3) (dVar 4)) (dC (.int 0))) (dCons (dCall (r q01) (dCons (dOp ixW (dOp ixW (dVar 3) (dVar 4)) (dC (.int 1))) (dCons (dOp fdivW (dOp fdivW (dVar 1) (dC (.int 3))) (dFn len1 (dCons (dVar 3) dNil))) dNil))) dNil))))
  (dRet (dTup (dCons (dVar 2) (dCons (dOp addX (dOp addX (dSlX (dVar 3) dNoPart (dPart (dVar 4))) (dTup (dCons (dVar 5) dNil))) (dSlX (dVar 3) (dPart (dOp addX (dVar 4) (dC (.int 1)))) dNoPart)) dNil))))))
  dNx)
  (chA K a r))))):=rfl
def Tr:Nat->W->Prop
 |0,w=>w=.non\/∃n:Int,w=.tup [.int n,.tup []]
 |d+1,w=>w=.non\/∃(n:Int)(bs:List W),w=.tup [.int n,.tup bs]/\bs.length<=81/\∀b∈bs,∃(c:Cb)(t:W),b=.tup [encU c,t]/\c.length<=4/\Tr d t
theorem q9l(c:Cb)(h:c.length<=1000):fine (encU c)=true:=q7o (by rw[w0a];exact h) fun w hw=>by
 obtain⟨o,_,rfl⟩:=w1g.mp hw;cases o<;>rfl
theorem x12(c:Cb):depW (encU c)=1:=by show depWs (c.map eo)+1=1;rw[x0q]
theorem q5p{d:Nat}:∀{ws:List W},(∀w∈ws,depW w<=d)->depWs ws<=d
 |[],_=>w1i _
 |w::ws,h=>by
  show max (depW w) (depWs ws)<=d;have h1:=h w (by simp);have h2:=q5p (ws:=ws) fun x hx=>h x (by simp[hx])
  omega
theorem Tr.ok:∀{d:Nat}{w:W},Tr d w->fine w=true/\depW w<=3*d+2
 |0,w,h=>by
  rcases h with rfl|⟨n,rfl⟩
  ·exact⟨rfl,w1i _⟩
  ·exact⟨rfl,by show max 0 (max (0+1) 0)+1<=2;decide⟩
 |d+1,w,h=>by
  rcases h with rfl|⟨n,bs,rfl,hl,hb⟩
  ·exact⟨rfl,w1i _⟩
  ·have hbs:∀b∈bs,fine b=true/\depW b<=3*d+3:=fun b hb'=>by
    obtain⟨c,t,rfl,hc,ht⟩:=hb b hb';obtain⟨t1,t2⟩:=Tr.ok ht;refine⟨q7o (by simp) fun x hx=>?_,?_⟩
    ·rcases w0h.mp hx with rfl|hx
     ·exact q9l c (by omega)
     ·rw[w0u.mp hx];exact t1
    ·show max (depW (encU c)) (max (depW t) 0)+1<=_;rw[x12];omega
   have f1:fine (.tup bs)=true:=q7o (by omega) fun b hb'=>(hbs b hb').1
   refine⟨q7o (by simp) fun x hx=>?_,?_⟩
   ·rcases w0h.mp hx with rfl|hx
    ·rfl
    ·rw[w0u.mp hx];exact f1
   ·have:=q5p (d:=3*d+3) fun b hb'=>(hbs b hb').2
    show max 0 (max (depWs bs+1) 0)+1<=3*(d+1)+2;omega
noncomputable def pk(l:List Nat)(mark:Int):Nat:=l.getD (mark%(l.length:Int)*(mark / 16%3 / 2)).toNat 0
noncomputable def mdF(P:List Cb):Nat->List Nat->Int->W
 |0,l,mark=>if l.isEmpty=true then .non else .tup [.int (pk l mark:Int),.tup []]
 |k+1,l,mark=>if l.isEmpty=true then .non else .tup [.int (pk l mark:Int),.tup ((hv P (pk l mark:Int)).map fun c=>.tup [encU c,mdF P k (lf l c) (mark / 7+3)])]
theorem y4s(h:l.isEmpty=false)(mark:Int):atI (l.map nI) (mark%(l.length:Int)*(mark / 16%3 / 2))=some (.int (pk l mark:Int))/\pk l mark∈l:=by
 have hpos:0<l.length:=by cases l with|nil=>cases h|cons _ _=>simp
 have h1:=w2l mark (b:=(l.length:Int)) (by omega);have h2:=w2a mark (b:=(l.length:Int)) (by omega);have hq:mark / 16%3 / 2=0\/mark / 16%3 / 2=1:=by omega
 have hr:0<=mark%(l.length:Int)*(mark / 16%3 / 2)/\mark%(l.length:Int)*(mark / 16%3 / 2)<l.length:=by
  rcases hq with q|q<;>rw[q]<;>simp<;>omega
 obtain⟨j,hj⟩:∃j:Nat,mark%(l.length:Int)*(mark / 16%3 / 2)=(j:Int):=⟨(mark%(l.length:Int)*(mark / 16%3 / 2)).toNat,by omega⟩;unfold pk;rw[hj]at hr |-
 have hj2:j<l.length:=by omega
 have e:l.getD (j:Int).toNat 0=l[j]:=by rw[w1k,w1a,w0b hj2];rfl
 rw[e];exact⟨q43 (by rw[w0v,w0b hj2];rfl),w1w hj2⟩
theorem y10{P:List Cb}(hm:m<=4)(hP:P.length<=81)(hc:∀c∈P,c.length=m):∀(k:Nat)(l:List Nat)(mark:Int),Tr k (mdF P k l mark)
 |0,l,mark=>by
  unfold mdF;split
  ·exact .inl rfl
  ·exact .inr ⟨_,rfl⟩
 |k+1,l,mark=>by
  unfold mdF;split
  ·exact .inl rfl
  ·refine .inr ⟨_,_,rfl,by rw[w0a];exact w0g (w0x _ _) hP,fun b hb=>?_⟩
   obtain⟨c,hc',rfl⟩:=w1g.mp hb;exact⟨c,_,rfl,by rw[hc c (w1d.mp hc').1];exact hm,y10 hm hP hc k _ _⟩
theorem y7t{k:Nat}(h:k∈l):inI (k:Int) l=true:=by rw[x8g];simpa using h
theorem y4c{P:List Cb}(hm:m<=4)(hP:P.length<=81)(hc:∀c∈P,c.length=m):∀(k n:Nat)(l:List Nat)(mark:Int),(∀x∈l,x∈L)->l.length<=100->run K a (n+k+3) q17 [hdW P L,.lst (l.map nI),.int (k:Int),.int mark]=.ok (.fr (mdF P k l mark)):=by
 intro k
 induction k with
 |zero=>
  intro n l mark hs hl;rw[q57];unfold q33 mdF;walk_at "den";rw[x6g (by rw[x6j];omega)];cases he:(l.map nI).isEmpty with
  |true=>
   rw[if_pos (show l.isEmpty=true by simpa using he)];walk_at "den"
  |false=>
   have he':l.isEmpty=false:=by simpa using he
   have hpos:0<l.length:=by cases l with|nil=>cases he'|cons _ _=>simp
   rw[if_neg (by rw[he'];decide)];walk_at "den";rw[w0a,if_pos (by omega),if_pos (.inr ⟨by omega,by omega⟩),(y4s he' mark).1];walk_at "den"
 |succ k ih=>
  intro n l mark hs hl;have e:n+(k+1)+3=(n+k+3)+1:=by omega
  rw[e,q57];unfold q33 mdF;walk_at "den";rw[x6g (by rw[x6j];omega)];cases he:(l.map nI).isEmpty with
  |true=>
   rw[if_pos (show l.isEmpty=true by simpa using he)];walk_at "den"
  |false=>
   have he':l.isEmpty=false:=by simpa using he
   have hpos:0<l.length:=by cases l with|nil=>cases he'|cons _ _=>simp
   obtain⟨pa,pm⟩:=y4s he' mark;rw[if_neg (by rw[he'];decide)];walk_at "den";rw[w0a,if_pos (by omega),if_pos (.inr ⟨by omega,by omega⟩),pa];generalize pk l mark=x at pm;walk_at "den";rw[if_neg (by omega)];obtain⟨j,hj,ej,hlk⟩:=lk_I (P:=P) (y7t (hs x pm));have ej:x=j:=by omega
   subst ej;rw[show ixI (hdW P L) (.int (x:Int))=some (vl P x)from hlk];unfold vl;walk_at "den";have hle:(hv P (x:Int)).length<=81:=w0g (w0x _ _) hP;rw[w0a,if_pos (by omega)];simp only[frz1,pj1,w0f,w0j]
   rw[q4l (g:=fun c=>.tup [encU c,mdF P k (lf l c) (mark / 7+3)]) (en:=encU) (hv P (x:Int)) fun c hcm=>by
    have hcP:=(w1d.mp hcm).1;unfold q78;walk_at "den";rw[q9k (n+k+1) hl (by rw[hc c hcP];omega)];walk_at "den";rw[show(((k+1:Nat):Int))-1=(k:Int) by omega,ih n (lf l c) (mark / 7+3) (fun y hy=>hs y (w1d.mp hy).1) (w0g (x0s l c) hl)]
    walk_at "den";exact⟨_,rfl⟩]
   walk_at "den"
def GoodW(d:Nat)(w:W):Prop:=fine w=true/\depW w<=d
theorem q4e{d:Nat}(hl:ws.length<=1000)(h:∀w∈ws,GoodW d w):GoodW (d+1) (.tup ws):=⟨q7o hl fun w hw=>(h w hw).1,by show depWs ws+1<=d+1;have:=q5p fun w hw=>(h w hw).2;omega⟩
theorem z1i{d:Nat}(h:∀w∈ws,GoodW d w):GoodW (d+1) (.lst ws):=⟨x0r fun w hw=>(h w hw).1,by show depWs ws+1<=d+1;have:=q5p fun w hw=>(h w hw).2;omega⟩
theorem GoodW.mono{d e:Nat}{w:W}(h:GoodW d w)(hd:d<=e):GoodW e w:=⟨h.1,w0g h.2 hd⟩
theorem q9m{w:W}(h:scalW w=true/\fine w=true):GoodW 0 w:=⟨h.2,by cases w<;>first|exact w0e _|cases h.1⟩
theorem q52{d:Nat}{x y:W}(hx:GoodW d x)(hy:GoodW d y):GoodW (d+1) (.tup [x,y]):=q4e (by simp) fun w hw=>by
 rcases w0h.mp hw with rfl|hw
 ·exact hx
 ·rw[w0u.mp hw];exact hy
theorem q6f(ws:List W)(lo hi:Option Int):∃ws',slX (.tup ws) lo hi=some (.tup ws')/\(∀b∈ws',b∈ws)/\ws'.length<=ws.length:=by
 by_cases h:HT.sIx ws.length 0 lo=0/\HT.sIx ws.length ws.length hi=ws.length
 ·exact⟨ws,z3m h,fun _ h=>h,w0e _⟩
 ·refine⟨cutW ws lo hi,z3l h,fun b hb=>List.mem_of_mem_drop (List.mem_of_mem_take hb),?_⟩
  unfold cutW;rw[w2i,w3c];omega
theorem q7p{l:List W}{i:Int}(h0:0<=i)(h1:i<(l.length:Int)):∃w∈l,atI l i=some w:=by
 obtain⟨j,rfl⟩:∃j:Nat,i=(j:Int):=⟨i.toNat,by omega⟩;have hj:j<l.length:=by omega
 exact⟨l[j],w1w hj,q43 (w0b hj)⟩
theorem x9g{bs:List W}(hd:depWs bs<=100):ne2 (.tup bs) (.tup [])=some (.bl (!bs.isEmpty)):=by
 unfold ne2;rw[if_pos (show depW (.tup bs)<=150 by show depWs bs+1<=150;omega)];cases bs<;>rfl
theorem y7u(M:Exs K mg a)(R:Nat->List W->FR){D:Nat}{x mark way:Int}{bs:List W}(hl:bs.length<=81)(hb:∀b∈bs,GoodW D b)(h0:0<=way)(h1:way<=11)(z0 z4 z5 z7 z8:S):
  ∃w',(chB K a R [z0,.fr (.int mark),.fr (.int x),.fr (.tup bs),z4,z5,.fr (.int way),z7,z8]).fn=.ok (.fr w')/\GoodW (D+5) w':=by
 have gb:GoodW (D+2) (.tup bs):=(q4e (by omega) hb).mono (by omega);have gl:GoodW (D+2) (.lst bs):=(z1i hb).mono (by omega);have gs:∀w,scalW w=true/\fine w=true->GoodW (D+2) w:=fun w h=>(q9m h).mono (by omega)
 obtain⟨bs',e1,sm,sl⟩:=q6f bs none (some (-1));have gb':GoodW (D+2) (.tup bs'):=(q4e (by omega) fun b h=>hb b (sm b h)).mono (by omega)
 have ga:GoodW (D+2) (.tup (bs++[.tup []])):=q4e (d:=D+1) (by simp;omega) fun b h=>by
  rcases w1j.mp h with h|h
  ·exact(hb b h).mono (by omega)
  ·rw[w0u.mp h];exact⟨rfl,by show 0+1<=D+1;omega⟩
 have g2:∀x y,GoodW (D+2) x->GoodW (D+2) y->GoodW (D+3) (.tup [x,y]):=fun x y=>q52
 have ge:GoodW (D+2) (.tup []):=⟨rfl,by show 0+1<=D+2;omega⟩
 have g3:∀y z,GoodW (D+2) y->GoodW (D+2) z->GoodW (D+3) (.tup [.int x,y,z]):=fun y z hy hz=>q4e (by simp) fun w hw=>by
  rcases w0h.mp hw with rfl|hw
  ·exact gs _ ⟨rfl,rfl⟩
  ·rcases w0h.mp hw with rfl|hw
   ·exact hy
   ·rw[w0u.mp hw];exact hz
 have g1:GoodW (D+3) (.tup [.int x]):=q4e (by simp) fun w hw=>by rw[w0u.mp hw];exact gs _ ⟨rfl,rfl⟩
 unfold chB;walk_at "den";rw[e1];walk_at "den";rw[if_pos (by omega)];walk_at "den"
 have all:∀w∈[W.tup [W.int (x+1),W.tup bs],W.tup [W.bl (decide (0<x)),W.tup bs],W.tup [W.int x,W.tup []],W.tup [W.int x,W.tup bs'],W.tup [W.int x,W.tup (bs++[W.tup []])],W.non,W.tup [W.int x,W.lst bs],W.tup [W.int x],W.tup [W.int (x-1),W.tup bs],W.tup [W.int x,W.tup bs,W.int 0],W.tup [W.int x,W.tup bs,W.non],W.tup [W.tup bs,W.int x]],GoodW (D+5) w:=by
  intro w hw;simp only[w0h,w0y,or_false]at hw;have si:∀n:Int,GoodW (D+2) (.int n):=fun n=>gs _ ⟨rfl,rfl⟩
  rcases hw with rfl|rfl|rfl|rfl|rfl|rfl|rfl|rfl|rfl|rfl|rfl|rfl
  ·exact(g2 _ _ (si _) gb).mono (by omega)
  ·exact(g2 _ _ (gs _ ⟨rfl,rfl⟩) gb).mono (by omega)
  ·exact(g2 _ _ (si _) ge).mono (by omega)
  ·exact(g2 _ _ (si _) gb').mono (by omega)
  ·exact(g2 _ _ (si _) ga).mono (by omega)
  ·exact(gs _ ⟨rfl,rfl⟩).mono (by omega)
  ·exact(g2 _ _ (si _) gl).mono (by omega)
  ·exact g1.mono (by omega)
  ·exact(g2 _ _ (si _) gb).mono (by omega)
  ·exact(g3 _ _ gb (si _)).mono (by omega)
  ·exact(g3 _ _ gb (gs _ ⟨rfl,rfl⟩)).mono (by omega)
  ·exact(g2 _ _ gb (si _)).mono (by omega)
 obtain⟨w,hw,ew⟩:=q7p (l:=[W.tup [W.int (x+1),W.tup bs],W.tup [W.bl (decide (0<x)),W.tup bs],W.tup [W.int x,W.tup []],W.tup [W.int x,W.tup bs'],W.tup [W.int x,W.tup (bs++[W.tup []])],W.non,W.tup [W.int x,W.lst bs],W.tup [W.int x],W.tup [W.int (x-1),W.tup bs],W.tup [W.int x,W.tup bs,W.int 0],W.tup [W.int x,W.tup bs,W.non],W.tup [W.tup bs,W.int x]]) h0 (by simp only[w0o,w1v];omega);rw[ew];exact⟨w,rfl,all w hw⟩
noncomputable def tI:Option Bool->W
 |none=>.non
 |some b=>.int (if b=true then 1 else 0)
theorem x8h(M:Exs K mg a)(R:Nat->List W->FR){D:Nat}(hD:D<=80){x mark:Int}{bs:List W}(hl:bs.length<=81)(hb:∀b∈bs,∃(c:Cb)(t:W),b=.tup [encU c,t]/\c.length<=4/\GoodW D t)(z0 z4 z5 z6 z7 z8:S):
  ∃w',(chA K a R [z0,.fr (.int mark),.fr (.int x),.fr (.tup bs),z4,z5,z6,z7,z8]).fn=.ok (.fr w')/\GoodW (D+7) w':=by
 have hbg:∀b∈bs,GoodW (D+2) b:=fun b h=>by
  obtain⟨c,t,rfl,hc,ht⟩:=hb b h;exact q52 (d:=D+1) ⟨q9l c (by omega),by rw[x12];omega⟩ (ht.mono (by omega))
 have hdb:depWs bs<=100:=w0g (q5p fun b h=>(hbg b h).2) (by omega)
 have rep6:∀v:Int,repW (W.lst [W.int v]) (W.int 6)=some (.lst [.int v,.int v,.int v,.int v,.int v,.int v]):=fun v=>rfl
 have rep8:∀v:Int,repW (W.lst [W.int v]) (W.int 8)=some (.lst [.int v,.int v,.int v,.int v,.int v,.int v,.int v,.int v]):=fun v=>rfl
 unfold chA;walk_at "den";rw[rep6];walk_at "den";rw[rep8];walk_at "den";rw[rep6];walk_at "den";obtain⟨w,hw,ew⟩:=q7p (l:=[W.int 0,W.int 1,W.int 2,W.int 3,W.int 4,W.int 5,W.int 6,W.int 7,W.int 8,W.int 9,W.int 10,W.int 11,W.int 1,W.int 1,W.int 1,W.int 1,W.int 1,W.int 1,W.int 7,W.int 7,W.int 7,W.int 7,W.int 7,W.int 7,W.int 7,W.int 7,W.int 4,W.int 4,W.int 4,W.int 4,W.int 4,W.int 4]) (i:=mark / 3%32) (by omega) (by simp only[w0o,w1v];omega)
 obtain⟨way,rfl,w0,w1⟩:∃way:Int,w=.int way/\0<=way/\way<=11:=by
  simp only[w0h,w0y,or_false]at hw;rcases hw with rfl|rfl|rfl|rfl|rfl|rfl|rfl|rfl|rfl|rfl|rfl|rfl|rfl|rfl|rfl|rfl|rfl|rfl|rfl|rfl|rfl|rfl|rfl|rfl|rfl|rfl|rfl|rfl|rfl|rfl|rfl|rfl<;>exact⟨_,rfl,by decide,by decide⟩
 have cB:=fun z4 z5 z7 z8=>y7u (K:=K) (a:=a) M R (x:=x) (mark:=mark) (D:=D+2) hl hbg w0 w1 z0 z4 z5 z7 z8
 rw[ew];walk_at "den"
 by_cases q1:(6:Int)<way
 ·rw[if_pos q1];walk_at "den"
  by_cases q2:way<10
  ·rw[if_pos q2,x9g hdb];walk_at "den";cases he:bs.isEmpty with
   |true=>
    rw[if_neg (by decide)];exact cB _ _ _ _
   |false=>
    have hpos:0<bs.length:=by cases bs with|nil=>cases he|cons _ _=>simp
    rw[if_pos (show(!false)=true from rfl),if_pos (by omega)];have i0:=w2l (mark / 96) (b:=(bs.length:Int)) (by omega);have i1:=w2a (mark / 96) (b:=(bs.length:Int)) (by omega);generalize mark / 96%(bs.length:Int)=at' at i0 i1;obtain⟨b,hbm,eb⟩:=q7p i0 i1;rw[eb];have gone:GoodW (D+2) b:=hbg b hbm;obtain⟨c,t,rfl,hc,ht⟩:=hb b hbm;walk_at "den";rw[show seqW (encU c)=some (c.map eo)from rfl];walk_at "den"
    rw[w0a,if_pos (by omega),q4l (g:=tI) (en:=eo) c fun o _=>by
     unfold q40;cases o with
     |none=>
      simp only[eo];walk_at "den";exact⟨_,rfl⟩
     |some b=>
      simp only[eo];walk_at "den";exact⟨_,rfl⟩]
    walk_at "den";obtain⟨s1,e1,m1,l1⟩:=q6f bs (some (at'+1)) none;obtain⟨s2,e2,m2,l2⟩:=q6f bs none (some (at'+1));obtain⟨s3,e3,m3,l3⟩:=q6f bs none (some at')
    have gt:GoodW (D+2) (.tup (c.map tI)):=q4e (d:=D+1) (by rw[w0a];omega) fun w hw=>by
     obtain⟨o,_,rfl⟩:=w1g.mp hw;exact(q9m (by cases o<;>exact⟨rfl,rfl⟩)).mono (by omega)
    have gin:GoodW (D+3) (.tup [.tup (c.map tI),t]):=q52 gt (ht.mono (by omega))
    have gon:GoodW (D+3) (.tup [encU c,t,.non]):=q4e (by simp) fun w hw=>by
     rcases w0h.mp hw with rfl|hw
     ·exact⟨q9l c (by omega),by rw[x12];omega⟩
     ·rcases w0h.mp hw with rfl|hw
      ·exact ht.mono (by omega)
      ·rw[w0u.mp hw];exact⟨rfl,w1i _⟩
    have fin:∀v,GoodW (D+3) v->GoodW (D+7) (.tup [.int x,.tup (s3++[v]++s1)]):=fun v hv=>(q52 (d:=D+4) ((q9m ⟨rfl,rfl⟩).mono (by omega)) (q4e (by rw[w0i,w0i];simp;omega) fun w hw=>by
     rcases w1j.mp hw with hw|hw
     ·rcases w1j.mp hw with hw|hw
      ·exact(hbg w (m3 w hw)).mono (by omega)
      ·rw[w0u.mp hw];exact hv
     ·exact(hbg w (m1 w hw)).mono (by omega))).mono (by omega)
    by_cases q8:way=8
    ·rw[if_pos q8,e1];walk_at "den";rw[e2];walk_at "den";rw[if_pos (by omega)];walk_at "den";refine⟨_,rfl,(q52 (d:=D+4) ((q9m ⟨rfl,rfl⟩).mono (by omega)) (q4e (by rw[w0i];omega) fun w hw=>?_)).mono (by omega)⟩
     rcases w1j.mp hw with hw|hw
     ·exact(hbg w (m1 w hw)).mono (by omega)
     ·exact(hbg w (m2 w hw)).mono (by omega)
    ·rw[if_neg q8];walk_at "den"
     by_cases q9:way=9
     ·rw[if_pos q9];walk_at "den";rw[e3];walk_at "den";rw[if_pos (by omega)];walk_at "den";rw[e1];walk_at "den";rw[if_pos (by rw[w0i];simp;omega)];walk_at "den";exact⟨_,rfl,fin _ gon⟩
     ·rw[if_neg q9];walk_at "den";rw[e3];walk_at "den";rw[if_pos (by omega)];walk_at "den";rw[e1];walk_at "den";rw[if_pos (by rw[w0i];simp;omega)];walk_at "den";exact⟨_,rfl,fin _ gin⟩
  ·rw[if_neg q2];walk_at "den";exact cB _ _ _ _
 ·rw[if_neg q1];walk_at "den";exact cB _ _ _ _
theorem x7j(M:Exs K mg a):∀(d n:Nat)(w:W)(mark:Int),d<=20->Tr d w->∃w',run K a (n+d+1) q01 [w,.int mark]=.ok (.fr w')/\GoodW (3*d+12) w':=by
 have hnon:∀(n:Nat)(mark:Int),∃w',run K a (n+1) q01 [.non,.int mark]=.ok (.fr w')/\GoodW 2 w':=fun n mark=>by
  rw[q3v];unfold q2z;walk_at "den";rw[q6x M rfl];simp only[isTu];walk_at "den";obtain⟨w,hw,ew⟩:=q7p (l:=[W.tup [W.int 0,W.tup []],W.bl true,W.tup []]) (i:=mark%3) (by omega) (by simp only[w0o,w1v];omega);rw[ew];refine⟨w,rfl,?_⟩;simp only[w0h,w0y,or_false]at hw;rcases hw with rfl|rfl|rfl
  ·exact⟨rfl,by decide⟩
  ·exact⟨rfl,by decide⟩
  ·exact⟨rfl,by decide⟩
 intro d
 induction d with
 |zero=>
  intro n w mark hd h;rcases h with rfl|⟨x,rfl⟩
  ·obtain⟨w',h1,h2⟩:=hnon n mark;exact⟨w',h1,h2.mono (by omega)⟩
  ·show ∃w',run K a (n+1) q01 [.tup [.int x,.tup []],.int mark]=.ok (.fr w')/\GoodW 12 w';rw[q3v,q6a];walk_at "den";rw[show isiW K (.type "tuple") (.tup [.int x,.tup []])=some (.bl true)from q4i M.t_tuple_tuple];walk_at "den";rw[if_neg (by decide),show isiW K (.type "tuple") (.tup [])=some (.bl true)from q4i M.t_tuple_tuple];walk_at "den";rw[x9g (bs:=[]) (by decide)];walk_at "den";obtain⟨w',h1,h2⟩:=x8h (K:=K) (a:=a) M (run K a n) (D:=0) (by omega) (x:=x) (mark:=mark) (bs:=[]) (by simp) (fun b hb=>nomatch hb) (.fr (.tup [.int x,.tup []])) .no .no .no .no .no
   exact⟨w',h1,h2.mono (by omega)⟩
 |succ d ih=>
  intro n w mark hd h;rcases h with rfl|⟨x,bs,rfl,hl,hb⟩
  ·obtain⟨w',h1,h2⟩:=hnon (n+(d+1)) mark;exact⟨w',h1,h2.mono (by omega)⟩
  ·have hbg:∀b∈bs,∃(c:Cb)(t:W),b=.tup [encU c,t]/\c.length<=4/\GoodW (3*d+2) t:=fun b hb'=>by
    obtain⟨c,t,e,hc,ht⟩:=hb b hb';exact⟨c,t,e,hc,ht.ok⟩
   have hbd:∀b∈bs,GoodW (3*d+4) b:=fun b hb'=>by
    obtain⟨c,t,rfl,hc,ht⟩:=hbg b hb';exact(q52 (d:=3*d+2) ⟨q9l c (by omega),by rw[x12];omega⟩ ht).mono (by omega)
   have hdb:depWs bs<=100:=w0g (q5p fun b h=>(hbd b h).2) (by omega)
   have e:n+(d+1)+1=(n+d+1)+1:=by omega
   obtain⟨wA,hA1,hA2⟩:=x8h (K:=K) (a:=a) M (run K a (n+d+1)) (D:=3*d+2) (by omega) (x:=x) (mark:=mark) hl hbg (.fr (.tup [.int x,.tup bs])) .no .no .no .no .no;rw[e,q3v,q6a];walk_at "den";rw[show isiW K (.type "tuple") (.tup [.int x,.tup bs])=some (.bl true)from q4i M.t_tuple_tuple];walk_at "den";rw[if_neg (by decide),show isiW K (.type "tuple") (.tup bs)=some (.bl true)from q4i M.t_tuple_tuple];walk_at "den";rw[x9g hdb];walk_at "den";cases he:bs.isEmpty with
   |true=>
    rw[if_neg (by decide)];exact⟨wA,hA1,hA2.mono (by omega)⟩
   |false=>
    have hpos:0<bs.length:=by cases bs with|nil=>cases he|cons _ _=>simp
    rw[if_pos (show(!false)=true from rfl)];walk_at "den"
    by_cases q1:mark%3=1
    ·rw[if_pos q1];walk_at "den";rw[if_pos (by omega)];have i0:=w2l (mark / 3) (b:=(bs.length:Int)) (by omega);have i1:=w2a (mark / 3) (b:=(bs.length:Int)) (by omega);generalize mark / 3%(bs.length:Int)=at' at i0 i1;obtain⟨b,hbm,eb⟩:=q7p i0 i1;obtain⟨c,t,rfl,hc,ht⟩:=hb b hbm;obtain⟨w1,r1,g1⟩:=ih n t (mark / 3 / (bs.length:Int)) (by omega) ht;walk_at "den";rw[eb];walk_at "den";rw[eb];walk_at "den";rw[if_pos ⟨by omega,by omega⟩,r1];walk_at "den";obtain⟨s1,e1,m1,l1⟩:=q6f bs (some (at'+1)) none;obtain⟨s3,e3,m3,l3⟩:=q6f bs none (some at');rw[e3];walk_at "den";rw[if_pos (by omega)];walk_at "den";rw[e1];walk_at "den";rw[if_pos (by rw[w0i];simp;omega)];walk_at "den";refine⟨_,rfl,q52 (d:=3*d+14) ((q9m ⟨rfl,rfl⟩).mono (by omega)) (q4e (d:=3*d+13) (by rw[w0i,w0i];simp;omega) fun w hw=>?_)⟩
     rcases w1j.mp hw with hw|hw
     ·rcases w1j.mp hw with hw|hw
      ·exact(hbd w (m3 w hw)).mono (by omega)
      ·rw[w0u.mp hw];exact q52 ⟨q9l c (by omega),by rw[x12];omega⟩ g1
     ·exact(hbd w (m1 w hw)).mono (by omega)
    ·rw[if_neg q1];exact⟨wA,hA1,hA2.mono (by omega)⟩
noncomputable def lwC(K:PySem.W.Frag)(a:Adr)(r:Nat->List W->FR):List S->SR:=
 (dSeq (dSet 7 (dOp isW (dVar 6) (dC .non)))
  (dSeq (dIfS (dTest (dOp gtW (dVar 3) (dUn negW (dC (.int 1)))))
  (dSet 7 (dCall (r q1p) (dCons (dVar 5) (dCons (dFz (dListW (dVar 5))) (dCons (dVar 3) (dCons (dVar 6) dNil))))))
  dNx)
  (dSeq (dSet 8 (dCall (r q05) (dCons (dFz (dList (dCons (dVar 2) dNil))) (dCons (dVar 3) (dCons (dVar 6) dNil)))))
  (dRet (dAndV (dIsi K (.type "bool") (dVar 8)) (dOp eq2 (dVar 8) (dVar 7)))))))
noncomputable def lwB(K:PySem.W.Frag)(a:Adr)(r:Nat->List W->FR):List S->SR:=
 (dSeq (dIfS (dTest (dOp gtW (dOp modW (dCall (r q0y) (dCons (dVar 0) (dCons (dC (.int 22)) dNil))) (dC (.int 3))) (dC (.int 0))))
  (dSet 6 (dCall (r q01) (dCons (dVar 6) (dCons (dCall (r q0y) (dCons (dVar 0) (dCons (dC (.int 21)) dNil))) dNil))))
  dNx)
  (lwC K a r))
noncomputable def lwA(K:PySem.W.Frag)(a:Adr)(r:Nat->List W->FR):List S->SR:=
 (dSeq (dSetDI 5 (r q11) (dCons (dVar 2) (dCons (dCall (r q2t) (dCons (dVar 2) dNil)) dNil)))
  (dSeq (dSet 6 (dC .non))
  (dSeq (dIfS (dTest (dOp gtW (dVar 3) (dUn negW (dC (.int 1)))))
  (dSet 6 (dCall (r q17) (dCons (dVar 5) (dCons (dFz (dListW (dVar 5))) (dCons (dVar 3) (dCons (dCall (r q0y) (dCons (dVar 0) (dCons (dC (.int 20)) dNil))) dNil))))))
  dNx)
  (lwB K a r))))
theorem y4d(K:PySem.W.Frag)(a:Adr)(r:Nat->List W->FR):x1k K a r =
 (dSeq (dIfS (dTest (dOp eq2 (dOp fdivW (dCall (r q0q) (dCons (dVar 0) (dCons (dC (.int 0)) (dCons (dC (.int 80)) dNil)))) (dC (.int 10))) (dC (.int 1))))
  (dRet (dCall (r q1q) (dCons (dCall (r q1s) (dCons (dVar 0) dNil)) (dCons (dOp subW (dCall (r q0q) (dCons (dVar 0) (dCons (dC (.int 3)) (dCons (dC (.int 4)) dNil)))) (dC (.int 1))) dNil))))
  dNx)
  (dSeq (dSet 1 (dOp ixW (dFz (dLst (dCons (dC (.int 0)) (dCons (dC (.int 1)) (dCons (dC (.int 2)) (dCons (dC (.int 3)) (dCons (dC (.int 1)) (dCons (dC (.int 2)) (dCons (dC (.int 3)) (dCons (dC (.int 2)) (dCons (dC (.int 3)) (dCons (dC (.int 4)) dNil)))))))))))) (dCall (r q0q) (dCons (dVar 0) (dCons (dC (.int 0)) (dCons (dC (.int 10)) dNil))))))
  (dSeq (dSet 2 (dCall (r q14) (dCons (dVar 0) (dCons (dVar 1) dNil))))
  (dSeq (dSet 3 (dOp subW (dCall (r q0q) (dCons (dVar 0) (dCons (dC (.int 3)) (dCons (dC (.int 5)) dNil)))) (dC (.int 1))))
  (dSeq (dIfS (dTest (dOp eq2 (dCall (r q0q) (dCons (dVar 0) (dCons (dC (.int 1)) (dCons (dC (.int 7)) dNil)))) (dC (.int 3))))
  (dSeq (dSet 2 (dCall (r q1t) (dCons (dOp addX (dC (.int 3)) (dCall (r q0q) (dCons (dVar 0) (dCons (dC (.int 0)) (dCons (dC (.int 2)) dNil))))) dNil)))
  (dSet 3 (dOp subW (dCall (r q0q) (dCons (dVar 0) (dCons (dC (.int 3)) (dCons (dC (.int 10)) dNil)))) (dC (.int 1)))))
  dNx)
  (dSeq (dIfS (dTest (dOp gtW (dCall (r q0q) (dCons (dVar 0) (dCons (dC (.int 1)) (dCons (dC (.int 7)) dNil)))) (dC (.int 4))))
  (dSeq (dSet 4 (dOp modW (dCall (r q0y) (dCons (dVar 0) (dCons (dC (.int 23)) dNil))) (dC (.int 8))))
  (dSeq (dSet 2 (dFz (dCompR rng1 [4] (dCons (dC (.int 8)) dNil) dYes (q9r K a r))))
  (dSet 3 (dOp addX (dC (.int 1)) (dCall (r q0q) (dCons (dVar 0) (dCons (dC (.int 3)) (dCons (dC (.int 3)) dNil))))))))
  dNx)
  (lwA K a r))))))):=rfl
noncomputable def Pm(w:Cb)(m:Nat):List Cb:=(cubesF m).filter fun c=>prB c w
theorem x9h(w:Cb)(hm:m<=4):(Pm w m).length<=81/\∀c∈Pm w m,c.length=m:=by
 refine⟨?_,fun c h=>(q4m m c).mp (w1d.mp h).1⟩
 have:=w0x (fun c=>prB c w) (cubesF m)
 rw[q5h]at this;have:=q68 hm;exact w0g ‹_› this
theorem x6m{w:Cb}(hw:w.length=2^m)(hm:m<=4):(wr w).length<=100:=by
 have h1:=z1c w;have h2:2^m<=2^4:=w1c (by decide) hm;have h3:(2:Nat)^4=16:=rfl;omega
theorem y11{w:W}(h:fine w=true):isW w .non=some (.bl (isNo w)):=by
 cases w<;>first|rfl|cases h
noncomputable def ans(w:Cb)(m:Nat)(cnt:Int)(t:W):Bool:=if cnt<0 then isNo t else TT (Pm w m) cnt.toNat (wr w) t
theorem y12(M:Exs K mg a){w:Cb}(hw:w.length=2^m)(hm:m<=4)(h1:cnt<=20)(hf:fine t=true)(hd:depW t<=100):run K a 150 q05 [.lst (w.map eo),.int cnt,t]=.ok (.fr (.bl (ans w m cnt t))):=by
 obtain⟨p1,p2⟩:=x9h w hm;have rr:run K a 149 q1v [.lst (w.map eo)]=.ok (.own none ((Pm w m).map rch)):=x7h (K:=K) (a:=a) 142 hw hm;have wd:run K a 149 q2h [.lst (w.map eo)]=.ok (.own none ((wr w).map nI)):=x9e (K:=K) (a:=a) 145 hw hm
 have tr:0<=cnt->run K a 149 q2x [t,.lst ((Pm w m).map rch),.lst ((wr w).map nI),.int cnt]=.ok (.fr (.bl (TT (Pm w m) cnt.toNat (wr w) t))):=fun h0=>by
  have:=y4a (K:=K) (a:=a) M hm p1 p2 cnt.toNat (145-2*cnt.toNat) (wr w) t hf hd (x6m hw hm);rw[show 145-2*cnt.toNat+2*cnt.toNat+4=149 by omega,show((cnt.toNat:Nat):Int)=cnt by omega]at this;exact this
 unfold ans;show run K a (149+1) q05 _=_;rw[q5g];unfold q25;walk_at "den";rw[rr];walk_at "den"
 by_cases hc:cnt<0
 ·rw[if_pos hc,if_pos hc,y11 hf];walk_at "den"
 ·rw[if_neg hc,if_neg hc,wd];walk_at "den";rw[tr (by omega)];walk_at "den"
theorem y7v(M:Exs K mg a){w:Cb}(hw:w.length=2^m)(hm:m<=4)(h0:-1<=cnt)(h1:cnt<=20)(hf:fine t=true)(hd:depW t<=100)(A:W)(z1 z4:S):
  (lwC K a (run K a 150) [.fr A,z1,.fr (.lst (w.map eo)),.fr (.int cnt),z4,.fr (hdW (Pm w m) (wr w)),.fr t,.no,.no]).fn=.ok (.fr (.bl true)):=by
 obtain⟨p1,p2⟩:=x9h w hm;have sh:=y12 (K:=K) (a:=a) M hw hm h1 hf hd;have ed:((wr w).map kI).map wK=(wr w).map nI:=by rw[w1z];rfl
 have du:0<=cnt->run K a 150 q1p [hdW (Pm w m) (wr w),.lst ((wr w).map nI),.int cnt,t]=.ok (.fr (.bl (TT (Pm w m) cnt.toNat (wr w) t))):=fun h0=>by
  have:=y7s (K:=K) (a:=a) M (L:=wr w) hm p1 p2 cnt.toNat (147-cnt.toNat) (wr w) t (fun _ h=>h) hf hd (x6m hw hm)
  rw[show 147-cnt.toNat+cnt.toNat+3=150 by omega,show((cnt.toNat:Nat):Int)=cnt by omega]at this;exact this
 have fin:∀b:Bool,b=ans w m cnt t->isiW K (.type "bool") (.bl b)=some (.bl true):=fun b _=>q5l M.t_bool_bool
 generalize run K a 150=R at sh du;unfold lwC;walk_at "den";rw[y11 hf];walk_at "den"
 by_cases hc:(-1:Int)<cnt
 ·rw[if_pos hc];unfold hdW at du |-
  walk_at "den";rw[ed,du (by omega)];walk_at "den";rw[sh];walk_at "den";rw[q5l M.t_bool_bool];walk_at "den";unfold ans;rw[if_neg (by omega)];simp
 ·rw[if_neg hc];walk_at "den";rw[sh];walk_at "den";rw[q5l M.t_bool_bool];walk_at "den";unfold ans;rw[if_pos (by omega)];simp
theorem y7w(M:Exs K mg a)(hF:Fit ns){w:Cb}(hw:w.length=2^m)(hm:m<=4)(h0:-1<=cnt)(h1:cnt<=20){d:Nat}(hd:d<=20)(ht:Tr d t)(z1 z4:S):
  (lwB K a (run K a 150) [.fr (.lst (ns.map .int)),z1,.fr (.lst (w.map eo)),.fr (.int cnt),z4,.fr (hdW (Pm w m) (wr w)),.fr t,.no,.no]).fn=.ok (.fr (.bl true)):=by
 obtain⟨v1,e1⟩:=q5o (K:=K) (a:=a) hF 148 (k:=22) (by decide) (by decide);obtain⟨v2,e2⟩:=q5o (K:=K) (a:=a) hF 148 (k:=21) (by decide) (by decide);have e1:run K a 150 q0y [.lst (ns.map .int),.int 22]=.ok (.fr (.int v1)):=e1;have e2:run K a 150 q0y [.lst (ns.map .int),.int 21]=.ok (.fr (.int v2)):=e2;obtain⟨t',c1,c2⟩:=x7j (K:=K) (a:=a) M d (149-d) t v2 hd ht;rw[show 149-d+d+1=150 by omega]at c1;have lc:=fun t hf hd=>y7v (K:=K) (a:=a) M hw hm h0 h1 (t:=t) hf hd (.lst (ns.map .int)) z1 z4
 obtain⟨f1,f2⟩:=ht.ok;generalize run K a 150=R at *;unfold lwB;walk_at "den";rw[e1];walk_at "den"
 by_cases q:0<v1%3
 ·rw[if_pos q,e2];walk_at "den";rw[c1];walk_at "den";exact lc t' c2.1 (by have:=c2.2;omega)
 ·rw[if_neg q];walk_at "den";exact lc t f1 (by omega)
theorem y7x(M:Exs K mg a)(hF:Fit ns){w:Cb}(hw:w.length=2^m)(hm:m<=4)(h0:-1<=cnt)(h1:cnt<=20)(z1 z4:S):
  (lwA K a (run K a 150) [.fr (.lst (ns.map .int)),z1,.fr (.lst (w.map eo)),.fr (.int cnt),z4,.no,.no,.no,.no]).fn=.ok (.fr (.bl true)):=by
 obtain⟨p1,p2⟩:=x9h w hm;obtain⟨v1,e1⟩:=q5o (K:=K) (a:=a) hF 148 (k:=20) (by decide) (by decide);have e1:run K a 150 q0y [.lst (ns.map .int),.int 20]=.ok (.fr (.int v1)):=e1;have ed:((wr w).map kI).map wK=(wr w).map nI:=by rw[w1z];rfl
 have pr:run K a 150 q2t [.lst (w.map eo)]=.ok (.own none ((Pm w m).map encU)):=x1z (K:=K) (a:=a) 144 hw hm
 have w16:w.length<=100:=by
  have h2:2^m<=2^4:=w1c (by decide) hm;have h3:(2:Nat)^4=16:=rfl;omega
 have hv1:run K a 150 q11 [.lst (w.map eo),.lst ((Pm w m).map encU)]=.ok (.dw .int ((wr w).map kI) ((wr w).map (vl (Pm w m)))):=x7i (K:=K) (a:=a) 148 hm w16 p1 p2
 have md:0<=cnt->run K a 150 q17 [hdW (Pm w m) (wr w),.lst ((wr w).map nI),.int cnt,.int v1]=.ok (.fr (mdF (Pm w m) cnt.toNat (wr w) v1)):=fun h0=>by
  have:=y4c (K:=K) (a:=a) (L:=wr w) hm p1 p2 cnt.toNat (147-cnt.toNat) (wr w) v1 (fun _ h=>h) (x6m hw hm)
  rw[show 147-cnt.toNat+cnt.toNat+3=150 by omega,show((cnt.toNat:Nat):Int)=cnt by omega]at this;exact this
 have mT:=y10 (P:=Pm w m) hm p1 p2 cnt.toNat (wr w) v1;have lb:=fun d t hd ht=>y7w (K:=K) (a:=a) M hF hw hm h0 h1 (t:=t) (d:=d) hd ht z1 z4
 generalize run K a 150=R at *;unfold lwA;walk_at "den";rw[pr];walk_at "den";rw[hv1];walk_at "den"
 by_cases q:(-1:Int)<cnt
 ·rw[if_pos q];walk_at "den";rw[ed,e1];walk_at "den";rw[show W.dw false Sh.int ((wr w).map kI) ((wr w).map (vl (Pm w m)))=hdW (Pm w m) (wr w)from rfl,md (by omega)];walk_at "den";exact lb _ _ (by omega) mT
 ·rw[if_neg q];walk_at "den";exact lb 0 .non (by omega) (.inl rfl)
theorem x7k(M:Exs K mg a)(hw:∀m,m<=4->ws.length≠2^m)(cnt:Int):run K a 150 q1q [.lst ws,.int cnt]=.ok (.fr (.bl true)):=by
 have pe:run K a 147 q2t [.lst ws]=.ex (.ref a.NoTable):=y1w (K:=K) (a:=a) 141 hw
 have re:run K a 148 q1v [.lst ws]=.ex (.ref a.NoTable):=by
  show run K a (147+1) q1v _=_;rw[q5n];unfold q3k;walk_at "den";rw[pe];walk_at "den"
 have se:run K a 149 q05 [.lst ws,.int cnt,.non]=.ex (.ref a.NoTable):=by
  show run K a (148+1) q05 _=_;rw[q5g];unfold q25;walk_at "den";rw[re];walk_at "den"
 show run K a (149+1) q1q _=_;rw[q6v];unfold q3p;walk_at "den";rw[se];walk_at "den";rw[y99 M.x_NoTable_CircuitError];walk_at "den";rw[y6d M.c_NoTable M.k_NoTable_NoTable];walk_at "den"
theorem x3v(r0:Nat->List W->FR):∀bs:List Bool,compD dYes (q4o K a r0) [] (bs.map .bl)=some ((bs.map (!·)).map .bl)
 |[]=>rfl
 |b::bs=>by
  rw[w0l,q84];have ih:=x3v r0 bs;rw[ih];unfold q4o;cases b<;>walk_at "den"
theorem x7l(n:Nat){q:Nat}(hq:q<=4):∃w:Cb,run K a (n+1) q1t [.int (q:Int)]=.ok (.fr (.lst (w.map eo)))/\w.length=2^q:=by
 obtain⟨e',h1,bs,z2,rfl,hl⟩:=q46 (b:=q4p K a (run K a n)) (i:=2) (lo:=0) (hi:=(q:Int)) q (by omega) (fun j e=>∃(bs:List Bool)(z2:S),e=[.fr (.int (q:Int)),.fr (.lst (bs.map .bl)),z2]/\bs.length=2^j) [.fr (.int (q:Int)),.fr (.lst [.bl false]),.no] ⟨[false],.no,rfl,rfl⟩ fun j e hj he=>by
  obtain⟨bs,z2,rfl,hl⟩:=he;have hp:2^j<=2^4:=w1c (by decide) (by omega);have h3:(2:Nat)^4=16:=rfl;rw[w4s];refine⟨[.fr (.int (q:Int)),.fr (.lst ((bs++bs.map (!·)).map .bl)),.fr (.int (j:Int))],?_,_,_,rfl,?_⟩
  ·unfold q4p;walk_at "den";rw[w0a,if_pos (by omega),x3v];walk_at "den";rw[if_pos (by simp only[w0a];omega)];walk_at "den";rw[w1p]
  ·rw[w0i,w0a,w3b];omega
 refine⟨bs.map some,?_,by rw[w0a];exact hl⟩;have eb:(bs.map some).map eo=bs.map .bl:=by rw[w1z];rfl
 rw[eb,q59];unfold q3b;walk_at "den";rw[if_pos (q3h (by omega) (by omega))];walk_at "den";rw[h1];walk_at "den"
theorem y4e(M:Exs K mg a)(ns:List Int)(hl:Fit ns):run K a 151 q6e [.lst (ns.map .int)]=.ok (.fr (.bl true)):=by
 obtain⟨v80,e80,_,_⟩:=q3q (K:=K) (a:=a) 148 ns (k:=0) (m:=80) (by decide) (by decide) (by decide);obtain⟨v4,e4,_,_⟩:=q3q (K:=K) (a:=a) 148 ns (k:=3) (m:=4) (by decide) (by decide) (by decide);obtain⟨v10,e10,g10,k10⟩:=q3q (K:=K) (a:=a) 148 ns (k:=0) (m:=10) (by decide) (by decide) (by decide);obtain⟨v5,e5,g5,k5⟩:=q3q (K:=K) (a:=a) 148 ns (k:=3) (m:=5) (by decide) (by decide) (by decide);obtain⟨v7,e7,g7,k7⟩:=q3q (K:=K) (a:=a) 148 ns (k:=1) (m:=7) (by decide) (by decide) (by decide);obtain⟨v2,e2,g2,k2⟩:=q3q (K:=K) (a:=a) 148 ns (k:=0) (m:=2) (by decide) (by decide) (by decide);obtain⟨vt,et,gt,kt⟩:=q3q (K:=K) (a:=a) 148 ns (k:=3) (m:=10) (by decide) (by decide) (by decide);obtain⟨v3,e3,g3,k3⟩:=q3q (K:=K) (a:=a) 148 ns (k:=3) (m:=3) (by decide) (by decide) (by decide);obtain⟨vm,em⟩:=q5o (K:=K) (a:=a) hl 148 (k:=23) (by decide) (by decide);obtain⟨wo,eo1,ho⟩:=x7f (K:=K) (a:=a) hl 147
 obtain⟨m,am,hm⟩:∃m:Nat,atI [W.int 0,W.int 1,W.int 2,W.int 3,W.int 1,W.int 2,W.int 3,W.int 2,W.int 3,W.int 4] v10=some (.int (m:Int))/\m<=4:=by
  obtain⟨w,hw,ew⟩:=q7p (l:=[W.int 0,W.int 1,W.int 2,W.int 3,W.int 1,W.int 2,W.int 3,W.int 2,W.int 3,W.int 4]) g10 k10;simp only[w0h,w0y,or_false]at hw;rcases hw with rfl|rfl|rfl|rfl|rfl|rfl|rfl|rfl|rfl|rfl
  ·exact⟨0,ew,by decide⟩
  ·exact⟨1,ew,by decide⟩
  ·exact⟨2,ew,by decide⟩
  ·exact⟨3,ew,by decide⟩
  ·exact⟨1,ew,by decide⟩
  ·exact⟨2,ew,by decide⟩
  ·exact⟨3,ew,by decide⟩
  ·exact⟨2,ew,by decide⟩
  ·exact⟨3,ew,by decide⟩
  ·exact⟨4,ew,by decide⟩
 obtain⟨w,ew,hw⟩:=x9d (K:=K) (a:=a) hl 147 hm;have rf:=x7k (K:=K) (a:=a) M (ws:=wo.map eo) (by simpa using ho) (v4-1);have A:=fun {w:Cb} {m:Nat} (hw:w.length=2^m) (hm:m<=4) {cnt:Int} h0 h1 z1 z4=>y7x (K:=K) (a:=a) M hl hw hm (cnt:=cnt) h0 h1 z1 z4
 obtain⟨wr',er',hr'⟩:=x7l (K:=K) (a:=a) 149 (q:=(3+v2).toNat) (by omega);rw[show(((3+v2).toNat:Nat):Int)=3+v2 by omega]at er';have q8:(3+v2).toNat<=4:=by omega
 simp only[show(148+2)=150 from rfl,show(147+3)=150 from rfl,show(149+1)=150 from rfl]at e80 e4 e10 e5 e7 e2 et e3 em eo1 ew er';show run K a (150+1) q6e _=_;rw[x8b,y4d];generalize run K a 150=R at *;walk_at "den";rw[e80];walk_at "den"
 by_cases c1:v80 / 10=1
 ·rw[if_pos c1,eo1];walk_at "den";rw[e4];walk_at "den";rw[rf];walk_at "den"
 ·rw[if_neg c1,e10];walk_at "den";rw[am];walk_at "den";rw[ew];walk_at "den";rw[e5];walk_at "den";rw[e7];walk_at "den"
  by_cases c2:v7=3
  ·rw[if_pos c2,e2];walk_at "den";rw[er'];walk_at "den";rw[et];walk_at "den";rw[e7];walk_at "den";rw[if_neg (by omega)];exact A hr' q8 (by omega) (by omega) _ _
  ·rw[if_neg c2,e7];walk_at "den"
   by_cases c3:4<v7
   ·rw[if_pos c3,em];walk_at "den";rw[if_pos (q3h (by omega) (by omega)),show rangeW 0 8=[W.int 0,.int 1,.int 2,.int 3,.int 4,.int 5,.int 6,.int 7]from rfl];walk_at "den";simp only[frz1,pj1,w0f,w0j]
    obtain⟨os,co,ol⟩:=x2s (d:=q9r K a R) (pe:=[.fr (.int (vm%8))]) (ws:=[W.int 0,.int 1,.int 2,.int 3,.int 4,.int 5,.int 6,.int 7]) (fun w hw=>by
     obtain⟨i,rfl⟩:∃i:Int,w=.int i:=by
      simp only[w0h,w0y,or_false]at hw;rcases hw with rfl|rfl|rfl|rfl|rfl|rfl|rfl|rfl<;>exact⟨_,rfl⟩
     obtain⟨b,hb⟩:∃b:Bool,ninW (.int i) (.tup [.int (vm%8),.int (7-vm%8)])=some (.bl b):=⟨_,rfl⟩;refine⟨some b,[.fr (.int i),.fr (.int (vm%8))],?_⟩;unfold q9r;walk_at "den"
     first|(rw[hb];rfl)|trace_state)
    rw[co];walk_at "den";rw[e3];walk_at "den";exact A (w:=os) (m:=3) (by rw[ol];rfl) (by decide) (by omega) (by omega) _ _
   ·rw[if_neg c3];exact A hw hm (by omega) (by omega) _ _
end
theorem walk{l:PySem.W.OpenLaw}{q:Program}{loose:List Str}{XP:(Str->Option Value)->Heap->Prop}{YP:World->Heap->Prop}{d:DefRec}{K:Params->PySem.W.Frag}(hn:l.most=some 63)(hdf:d.params.defaults=[])
  (hY:∀(w:World)(h:Heap),YP w h->(K w.params).In h)
  (F:∀(w:World)(mg:Str->Option Value)(fa:Addr)(h:Heap),(K w.params).In h->h.Ns mainGlobals mg->mg d.name=some (.ref fa) ->
   ∃fd:FuncData,(∀(s:Shared)(u:Value),BindsTo s fd ⟨[u],[]⟩ [("_law_script", u)])/\∀base:Heap,(K w.params).In base->base.Ns mainGlobals mg->FnOk l.prog w (K w.params) mg base (CX1 l.prog w) 151 fa fd ["_law_script"] (spLawB (K w.params)))(hNM:∀w:World,noMark (K w.params)=true):
  PySem.W.WalkO q loose XP YP l.row.toRowW d [] (fun f vs=>PySem.call f vs):=
 L2.y3m (n:=63) (k:=151) (x:="_law_script") (CX:=fun w=>CX1 l.prog w) (sp:=fun w=>spLawB (K w.params)) hn (by decide) hdf ⟨rfl,by decide,by decide,rfl⟩ hY F (fun _ _ a ns hl hb _ hS=>⟨a,ns,rfl,hS,⟨hl,hb⟩,fun _=>rfl⟩) (fun _ _ _ _ _ z=>y88 z) hNM
theorem walkD{l:PySem.W.OpenLaw}{q:Program}{loose:List Str}{XP:(Str->Option Value)->Heap->Prop}{YP:World->Heap->Prop}{d:DefRec}{K:Params->PySem.W.Frag}(hn:l.most=some 63)(hdf:d.params.defaults=[])
  (hY:∀(w:World)(h:Heap),YP w h->(K w.params).In h)
  (F:∀(w:World)(mg:Str->Option Value)(fa:Addr)(h:Heap),(D.dropT (K w.params)).In h->h.Ns mainGlobals mg->mg d.name=some (.ref fa) ->
   ∃fd:FuncData,(∀(s:Shared)(u:Value),BindsTo s fd ⟨[u],[]⟩ [("_law_script", u)])/\∀base:Heap,(D.dropT (K w.params)).In base->base.Ns mainGlobals mg->FnOk l.prog w (D.dropT (K w.params)) mg base (CX1 l.prog w) 151 fa fd ["_law_script"] (spLawB (D.dropT (K w.params))))(hNM:∀w:World,noMark (K w.params)=true):
  PySem.W.WalkO q loose XP YP l.row.toRowW d [] (fun f vs=>PySem.call f vs):=
 walk (K:=fun p=>D.dropT (K p)) hn hdf (fun w h Y=>D.y3x (hY w h Y)) F (fun w=>D.x6w (hNM w))
end Q
open PySem PySem.W PyProof.Rows
set_option maxRecDepth 100000 in
set_option maxHeartbeats 0 in
theorem PySem.Challenge.cw_circuits_k24_shows_cover_holds : PySem.Challenge.rw_circuits_k24_shows_cover.Holds := by
 w_on; o_law; k_head; (case hw => w_witness2)
 k_fill
 refine Q.walkD (l := PySem.Challenge.rw_circuits_k24_shows_cover) rfl rfl (fun w h Y => PySem.W.kIn_of Y) ?F (fun w => by kernel_rfl)
 case F =>
  intro w mg fa h KX G hmg;refine' Q.mk KX G hmg ?a0 ?l0 ?c0 ?k0 ?a1 ?l1 ?c1 ?k1 ?a2 ?l2 ?c2 ?k2 ?a3 ?l3 ?c3 ?k3 ?a4 ?l4 ?c4 ?k4 ?a5 ?l5 ?c5 ?k5 ?a6 ?l6 ?c6 ?k6 ?a7 ?l7 ?c7 ?k7 ?a8 ?l8 ?c8 ?k8 ?a9 ?l9 ?c9 ?k9 ?a10 ?l10 ?c10 ?k10 ?a11 ?l11 ?c11 ?k11 ?a12 ?l12 ?c12 ?k12 ?a13 ?l13 ?c13 ?k13 ?a14 ?l14 ?c14 ?k14 ?a15 ?l15 ?c15 ?k15 ?a16 ?l16 ?c16 ?k16 ?a17 ?l17 ?c17 ?k17 ?a18 ?l18 ?c18 ?k18 ?a19 ?l19 ?c19 ?k19 ?a20 ?l20 ?c20 ?k20 ?a21 ?l21 ?c21 ?k21 ?a22 ?l22 ?c22 ?k22 ?a23 ?l23 ?c23 ?k23 ?a24 ?l24 ?c24 ?k24 ?a25 ?l25 ?c25 ?k25 ?a26 ?l26 ?c26 ?k26 ?a27 ?l27 ?c27 ?k27 ?a28 ?l28 ?c28 ?k28 ?a29 ?l29 ?c29 ?k29 ?a30 ?l30 ?c30 ?k30 ?a31 ?l31 ?c31 ?k31 ?a32 ?l32 ?c32 ?k32 ?a33 ?l33 ?c33 ?k33 ?a34 ?l34 ?c34 ?k34 ?a35 ?l35 ?c35 ?k35 ?a36 ?l36 ?c36 ?k36 ?a37 ?l37 ?c37 ?k37 ?n_CircuitError ?n_NoRow ?n_NoTable ?n_MOST_PLACES_tables ?n_MOST_PLACES_covers ?z_all ?z_any ?z_bool ?z_enumerate ?z_int ?z_isinstance ?z_len ?z_list ?z_range ?z_reversed ?z_sorted ?z_tuple ?z_zip ?g_MOST_PLACES_tables ?g_MOST_PLACES_covers ?e_NoRow ?e_NoTable ?c_NoRow ?x_NoRow_CircuitError ?k_NoRow_NoTable ?c_NoTable ?x_NoTable_CircuitError ?k_NoTable_NoTable ?t_NoneType_int ?t_bool_int ?t_int_int ?t_str_int ?t_tuple_int ?t_list_int ?t_NoneType_bool ?t_bool_bool ?t_int_bool ?t_str_bool ?t_tuple_bool ?t_list_bool ?t_NoneType_tuple ?t_bool_tuple ?t_int_tuple ?t_str_tuple ?t_tuple_tuple ?t_list_tuple ?nt 150 ?hL
  (case a0 => exact D.q0g (by k_is) (by kernel_rfl))
  (case l0 => exact D.q0i (by k_is) (by kernel_rfl))
  (case c0 => exact D.q0j (by k_is) (by kernel_rfl))
  (case k0 => exact D.q0k (by kernel_rfl))
  (case a1 => exact D.q0g (by k_is) (by kernel_rfl))
  (case l1 => exact D.q0i (by k_is) (by kernel_rfl))
  (case c1 => exact D.q0j (by k_is) (by kernel_rfl))
  (case k1 => exact D.q0k (by kernel_rfl))
  (case a2 => exact D.q0g (by k_is) (by kernel_rfl))
  (case l2 => exact D.q0i (by k_is) (by kernel_rfl))
  (case c2 => exact D.q0j (by k_is) (by kernel_rfl))
  (case k2 => exact D.q0k (by kernel_rfl))
  (case a3 => exact D.q0g (by k_is) (by kernel_rfl))
  (case l3 => exact D.q0i (by k_is) (by kernel_rfl))
  (case c3 => exact D.q0j (by k_is) (by kernel_rfl))
  (case k3 => exact D.q0k (by kernel_rfl))
  (case a4 => exact D.q0g (by k_is) (by kernel_rfl))
  (case l4 => exact D.q0i (by k_is) (by kernel_rfl))
  (case c4 => exact D.q0j (by k_is) (by kernel_rfl))
  (case k4 => exact D.q0k (by kernel_rfl))
  (case a5 => exact D.q0g (by k_is) (by kernel_rfl))
  (case l5 => exact D.q0i (by k_is) (by kernel_rfl))
  (case c5 => exact D.q0j (by k_is) (by kernel_rfl))
  (case k5 => exact D.q0k (by kernel_rfl))
  (case a6 => exact D.q0g (by k_is) (by kernel_rfl))
  (case l6 => exact D.q0i (by k_is) (by kernel_rfl))
  (case c6 => exact D.q0j (by k_is) (by kernel_rfl))
  (case k6 => exact D.q0k (by kernel_rfl))
  (case a7 => exact D.q0g (by k_is) (by kernel_rfl))
  (case l7 => exact D.q0i (by k_is) (by kernel_rfl))
  (case c7 => exact D.q0j (by k_is) (by kernel_rfl))
  (case k7 => exact D.q0k (by kernel_rfl))
  (case a8 => exact D.q0g (by k_is) (by kernel_rfl))
  (case l8 => exact D.q0i (by k_is) (by kernel_rfl))
  (case c8 => exact D.q0j (by k_is) (by kernel_rfl))
  (case k8 => exact D.q0k (by kernel_rfl))
  (case a9 => exact D.q0g (by k_is) (by kernel_rfl))
  (case l9 => exact D.q0i (by k_is) (by kernel_rfl))
  (case c9 => exact D.q0j (by k_is) (by kernel_rfl))
  (case k9 => exact D.q0k (by kernel_rfl))
  (case a10 => exact D.q0g (by k_is) (by kernel_rfl))
  (case l10 => exact D.q0i (by k_is) (by kernel_rfl))
  (case c10 => exact D.q0j (by k_is) (by kernel_rfl))
  (case k10 => exact D.q0k (by kernel_rfl))
  (case a11 => exact D.q0g (by k_is) (by kernel_rfl))
  (case l11 => exact D.q0i (by k_is) (by kernel_rfl))
  (case c11 => exact D.q0j (by k_is) (by kernel_rfl))
  (case k11 => exact D.q0k (by kernel_rfl))
  (case a12 => exact D.q0g (by k_is) (by kernel_rfl))
  (case l12 => exact D.q0i (by k_is) (by kernel_rfl))
  (case c12 => exact D.q0j (by k_is) (by kernel_rfl))
  (case k12 => exact D.q0k (by kernel_rfl))
  (case a13 => exact D.q0g (by k_is) (by kernel_rfl))
  (case l13 => exact D.q0i (by k_is) (by kernel_rfl))
  (case c13 => exact D.q0j (by k_is) (by kernel_rfl))
  (case k13 => exact D.q0k (by kernel_rfl))
  (case a14 => exact D.q0g (by k_is) (by kernel_rfl))
  (case l14 => exact D.q0i (by k_is) (by kernel_rfl))
  (case c14 => exact D.q0j (by k_is) (by kernel_rfl))
  (case k14 => exact D.q0k (by kernel_rfl))
  (case a15 => exact D.q0g (by k_is) (by kernel_rfl))
  (case l15 => exact D.q0i (by k_is) (by kernel_rfl))
  (case c15 => exact D.q0j (by k_is) (by kernel_rfl))
  (case k15 => exact D.q0k (by kernel_rfl))
  (case a16 => exact D.q0g (by k_is) (by kernel_rfl))
  (case l16 => exact D.q0i (by k_is) (by kernel_rfl))
  (case c16 => exact D.q0j (by k_is) (by kernel_rfl))
  (case k16 => exact D.q0k (by kernel_rfl))
  (case a17 => exact D.q0g (by k_is) (by kernel_rfl))
  (case l17 => exact D.q0i (by k_is) (by kernel_rfl))
  (case c17 => exact D.q0j (by k_is) (by kernel_rfl))
  (case k17 => exact D.q0k (by kernel_rfl))
  (case a18 => exact D.q0g (by k_is) (by kernel_rfl))
  (case l18 => exact D.q0i (by k_is) (by kernel_rfl))
  (case c18 => exact D.q0j (by k_is) (by kernel_rfl))
  (case k18 => exact D.q0k (by kernel_rfl))
  (case a19 => exact D.q0g (by k_is) (by kernel_rfl))
  (case l19 => exact D.q0i (by k_is) (by kernel_rfl))
  (case c19 => exact D.q0j (by k_is) (by kernel_rfl))
  (case k19 => exact D.q0k (by kernel_rfl))
  (case a20 => exact D.q0g (by k_is) (by kernel_rfl))
  (case l20 => exact D.q0i (by k_is) (by kernel_rfl))
  (case c20 => exact D.q0j (by k_is) (by kernel_rfl))
  (case k20 => exact D.q0k (by kernel_rfl))
  (case a21 => exact D.q0g (by k_is) (by kernel_rfl))
  (case l21 => exact D.q0i (by k_is) (by kernel_rfl))
  (case c21 => exact D.q0j (by k_is) (by kernel_rfl))
  (case k21 => exact D.q0k (by kernel_rfl))
  (case a22 => exact D.q0g (by k_is) (by kernel_rfl))
  (case l22 => exact D.q0i (by k_is) (by kernel_rfl))
  (case c22 => exact D.q0j (by k_is) (by kernel_rfl))
  (case k22 => exact D.q0k (by kernel_rfl))
  (case a23 => exact D.q0g (by k_is) (by kernel_rfl))
  (case l23 => exact D.q0i (by k_is) (by kernel_rfl))
  (case c23 => exact D.q0j (by k_is) (by kernel_rfl))
  (case k23 => exact D.q0k (by kernel_rfl))
  (case a24 => exact D.q0g (by k_is) (by kernel_rfl))
  (case l24 => exact D.q0i (by k_is) (by kernel_rfl))
  (case c24 => exact D.q0j (by k_is) (by kernel_rfl))
  (case k24 => exact D.q0k (by kernel_rfl))
  (case a25 => exact D.q0g (by k_is) (by kernel_rfl))
  (case l25 => exact D.q0i (by k_is) (by kernel_rfl))
  (case c25 => exact D.q0j (by k_is) (by kernel_rfl))
  (case k25 => exact D.q0k (by kernel_rfl))
  (case a26 => exact D.q0g (by k_is) (by kernel_rfl))
  (case l26 => exact D.q0i (by k_is) (by kernel_rfl))
  (case c26 => exact D.q0j (by k_is) (by kernel_rfl))
  (case k26 => exact D.q0k (by kernel_rfl))
  (case a27 => exact D.q0g (by k_is) (by kernel_rfl))
  (case l27 => exact D.q0i (by k_is) (by kernel_rfl))
  (case c27 => exact D.q0j (by k_is) (by kernel_rfl))
  (case k27 => exact D.q0k (by kernel_rfl))
  (case a28 => exact D.q0g (by k_is) (by kernel_rfl))
  (case l28 => exact D.q0i (by k_is) (by kernel_rfl))
  (case c28 => exact D.q0j (by k_is) (by kernel_rfl))
  (case k28 => exact D.q0k (by kernel_rfl))
  (case a29 => exact D.q0g (by k_is) (by kernel_rfl))
  (case l29 => exact D.q0i (by k_is) (by kernel_rfl))
  (case c29 => exact D.q0j (by k_is) (by kernel_rfl))
  (case k29 => exact D.q0k (by kernel_rfl))
  (case a30 => exact D.q0g (by k_is) (by kernel_rfl))
  (case l30 => exact D.q0i (by k_is) (by kernel_rfl))
  (case c30 => exact D.q0j (by k_is) (by kernel_rfl))
  (case k30 => exact D.q0k (by kernel_rfl))
  (case a31 => exact D.q0g (by k_is) (by kernel_rfl))
  (case l31 => exact D.q0i (by k_is) (by kernel_rfl))
  (case c31 => exact D.q0j (by k_is) (by kernel_rfl))
  (case k31 => exact D.q0k (by kernel_rfl))
  (case a32 => exact D.q0g (by k_is) (by kernel_rfl))
  (case l32 => exact D.q0i (by k_is) (by kernel_rfl))
  (case c32 => exact D.q0j (by k_is) (by kernel_rfl))
  (case k32 => exact D.q0k (by kernel_rfl))
  (case a33 => exact D.q0g (by k_is) (by kernel_rfl))
  (case l33 => exact D.q0i (by k_is) (by kernel_rfl))
  (case c33 => exact D.q0j (by k_is) (by kernel_rfl))
  (case k33 => exact D.q0k (by kernel_rfl))
  (case a34 => exact D.q0g (by k_is) (by kernel_rfl))
  (case l34 => exact D.q0i (by k_is) (by kernel_rfl))
  (case c34 => exact D.q0j (by k_is) (by kernel_rfl))
  (case k34 => exact D.q0k (by kernel_rfl))
  (case a35 => exact D.q0g (by k_is) (by kernel_rfl))
  (case l35 => exact D.q0i (by k_is) (by kernel_rfl))
  (case c35 => exact D.q0j (by k_is) (by kernel_rfl))
  (case k35 => exact D.q0k (by kernel_rfl))
  (case a36 => exact D.q0g (by k_is) (by kernel_rfl))
  (case l36 => exact D.q0i (by k_is) (by kernel_rfl))
  (case c36 => exact D.q0j (by k_is) (by kernel_rfl))
  (case k36 => exact D.q0k (by kernel_rfl))
  (case a37 => exact D.q0g (by k_is) (by kernel_rfl))
  (case l37 => exact D.q0i (by k_is) (by kernel_rfl))
  (case c37 => exact D.q0j (by k_is) (by kernel_rfl))
  (case k37 => exact D.q0k (by kernel_rfl))
  (case n_CircuitError => exact D.q0g (by k_is) (by kernel_rfl))
  (case n_NoRow => exact D.q0g (by k_is) (by kernel_rfl))
  (case n_NoTable => exact D.q0g (by k_is) (by kernel_rfl))
  (case n_MOST_PLACES_tables => exact D.q0g (by k_is) (by kernel_rfl))
  (case n_MOST_PLACES_covers => exact D.q0g (by k_is) (by kernel_rfl))
  (case z_all => exact D.q0g (by k_is) (by kernel_rfl))
  (case z_any => exact D.q0g (by k_is) (by kernel_rfl))
  (case z_bool => exact D.q0g (by k_is) (by kernel_rfl))
  (case z_enumerate => exact D.q0g (by k_is) (by kernel_rfl))
  (case z_int => exact D.q0g (by k_is) (by kernel_rfl))
  (case z_isinstance => exact D.q0g (by k_is) (by kernel_rfl))
  (case z_len => exact D.q0g (by k_is) (by kernel_rfl))
  (case z_list => exact D.q0g (by k_is) (by kernel_rfl))
  (case z_range => exact D.q0g (by k_is) (by kernel_rfl))
  (case z_reversed => exact D.q0g (by k_is) (by kernel_rfl))
  (case z_sorted => exact D.q0g (by k_is) (by kernel_rfl))
  (case z_tuple => exact D.q0g (by k_is) (by kernel_rfl))
  (case z_zip => exact D.q0g (by k_is) (by kernel_rfl))
  (case g_MOST_PLACES_tables => kernel_rfl)
  (case g_MOST_PLACES_covers => kernel_rfl)
  (case e_NoRow => kernel_rfl)
  (case e_NoTable => kernel_rfl)
  (case c_NoRow => kernel_rfl)
  (case x_NoRow_CircuitError => kernel_rfl)
  (case k_NoRow_NoTable => kernel_rfl)
  (case c_NoTable => kernel_rfl)
  (case x_NoTable_CircuitError => kernel_rfl)
  (case k_NoTable_NoTable => kernel_rfl)
  (case t_NoneType_int => kernel_rfl)
  (case t_bool_int => kernel_rfl)
  (case t_int_int => kernel_rfl)
  (case t_str_int => kernel_rfl)
  (case t_tuple_int => kernel_rfl)
  (case t_list_int => kernel_rfl)
  (case t_NoneType_bool => kernel_rfl)
  (case t_bool_bool => kernel_rfl)
  (case t_int_bool => kernel_rfl)
  (case t_str_bool => kernel_rfl)
  (case t_tuple_bool => kernel_rfl)
  (case t_list_bool => kernel_rfl)
  (case t_NoneType_tuple => kernel_rfl)
  (case t_bool_tuple => kernel_rfl)
  (case t_int_tuple => kernel_rfl)
  (case t_str_tuple => kernel_rfl)
  (case t_tuple_tuple => kernel_rfl)
  (case t_list_tuple => kernel_rfl)
  (case nt => exact D.y3y)
  (case hL => exact fun a M ns hl => Q.y4e M ns hl)
