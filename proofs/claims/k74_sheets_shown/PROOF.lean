import PyProof.Rows.All
import Wide.All
import OpenK.AllK
import Wide.FinOn
import PyProof.TupleKey
import PyProof.EqAt
import PyProof.EqKinds
import Wide.Seal
import Lean
import PyProof.TupleCall
import KE.KTryMore
import KE.KRevIter
import PyProof.CollectIter
import PyProof.ConsumeWalk
import PyProof.TupleOfStr
import KE.KIsAll
import PyProof.ExcArgs
import PyProof.ExcAttrAll.ValueError
import PyProof.CompUse
import PyProof.NeKinds
import PyProof.EnumIter
import PyProof.EnumFor
import PyProof.EnumMake
import PyProof.EnumStmt
import PyProof.ListMulRoad
import PyProof.ZipIter
import PyProof.TupleIter
import PyProof.Rows.SortWalk
import PyProof.SetKind
import PyProof.Rows.SetFrom
import PyProof.FactsAll.set_1
import KE.KDictSum
import PyProof.FactsAll.set_2
import PyProof.FactsAll.tuple_2
import PyProof.ReprRoads
import PyProof.Rows.SeqMore
import PyProof.ReprLen
import PyProof.WalkInts
import PyProof.SeqI3
import PyProof.Rows.TupIter
import PyProof.ListRange
import PyProof.SumWalk
import PyProof.DictIter
import PyProof.DictWalks
import PyProof.Draws
import PyProof.StrBlockI
import PyProof.StrLawsIn
import PyProof.StrOps2
import PyProof.ReprStr
import KE.KTops
import PyProof.StrCalls6
import PyProof.DictRoadsH
import PyProof.DictTruth
import KE.KDictList
import PyProof.Rows.TupDisplay
import PyProof.DictUpdate
import PySem.Challenge.RW_circuits_k74_sheets_shown
set_option Elab.async false
set_option linter.all false
set_option maxRecDepth 100000
set_option maxHeartbeats 1000000
local macro_rules | `(tactic| omega) => `(tactic| first | with_reducible assumption | decide | with_reducible exact Nat.le_refl _ | with_reducible exact Nat.zero_le _ | lia)
set_option genSizeOf false
set_option genInjectivity false
set_option compiler.extract_closed false
local macro_rules | `(tactic| walk_at "1") => `(tactic| (first | exact Or.inl rfl | exact Or.inr (Or.inl rfl) | exact Or.inr (Or.inr rfl)))
local macro_rules | `(tactic| walk_at "2") => `(tactic| (first | exact .inl rfl | exact .inr rfl | assumption))
local macro_rules | `(tactic| walk_at "3") => `(tactic| (first | exact Or.inl rfl | exact Or.inr rfl))
open PySem.W (exmOne findIn hideAll_get kdpLook keepIn kia_one kitOne methodObj pyHash_slot specialIn takesIn)
def w0a:=@Nat.le_refl
def w0b:=@List.getElem?_eq_getElem
def w0c:=@List.mem_append_right
def w0d:=@List.mem_cons
def w0e:=@List.mem_cons_of_mem
def w0f:=@List.getElem?_set_ne
def w0g:=@List.map_cons
def w0h:=@List.mem_cons_self
def w0i:=@List.length_map
def w0j:=@List.append_assoc
def w0k:=@List.not_mem_nil
def w0l:=@Bool.and_eq_true
def w0m:=@List.getElem?_eq_some_iff
def w0n:=@List.getElem?_set_self
def w0o:=@List.map_append
def w0p:=@List.mem_append_left
def w0q:=@Nat.lt_of_lt_of_le
def w0r:=@List.mem_map
def w0s:=@Nat.le_trans
def w0t:=@Nat.ne_of_lt
def w0u:=@List.length_append
def w0v:=@List.length_cons
def w0w:=@Option.map_eq_some_iff
def w0x:=@List.map_map
def w0y:=@List.all_eq_true
def w0z:=@List.getD_eq_getElem?_getD
def w1a:=@List.append_nil
def w1b:=@List.cons_append
def w1c:=@Int.emod_lt_of_pos
def w1d:=@Nat.zero_le
def w1e:=@List.length_drop
def w1f:=@List.mem_append
def w1g:=@Int.emod_nonneg
def w1h:=@List.mem_range
def w1i:=@Bool.false_ne_true
def w1j:=@List.getElem?_append_right
def w1k:=@List.mem_singleton
def w1l:=@List.foldl_cons
def w1m:=@List.drop_eq_getElem_cons
def w1n:=@Nat.lt_succ_of_lt
def w1o:=@List.mem_of_getElem?
def w1p:=@List.nodup_cons
def w1q:=@List.set_cons_zero
def w1r:=@List.set_cons_succ
def w1s:=@List.getElem_mem
def w1t:=@List.getElem?_cons_succ
def w1u:=@List.getElem?_cons_zero
def w1v:=@List.map_nil
def w1w:=@Int.toNat_natCast
def w1x:=@Option.isSome_map
def w1y:=@List.map_congr_left
def w1z:=@List.take_append_drop
def w2a:=@List.map_eq_cons_iff
def w2b:=@List.forIn_cons
def w2c:=@List.size_toArray
def w2d:=@List.find?_cons
def w2e:=@Nat.min_eq_left
def w2f:=@List.nil_append
def w2g:=@Nat.lt_irrefl
def w2h:=@List.all_cons
def w2i:=@List.replicate_succ
def w2j:=@Option.bind_eq_some_iff
def w2k:=@List.filter_eq_self
def w2l:=@List.take_of_length_le
def w2m:=@List.map_eq_append_iff
def w2n:=@Nat.ne_of_gt
def w2o:=@Bool.eq_iff_iff
def w2p:=@List.length_zip
def w2q:=@List.getElem?_map
def w2r:=@List.reverse_cons
def w2s:=@List.nodup_append
def w2t:=@List.getElem?_zip_eq_some
def w2u:=@List.getElem?_append_left
def w2v:=@List.nodup_nil
def w2w:=@List.map_eq_singleton_iff
def w2x:=@List.take_length
def w2y:=@List.filter_cons
def w2z:=@List.ext_getElem
def w3a:=@Array.length_toList
def w3b:=@List.length_pos_iff
def w3c:=@Option.isSome_iff_exists
def w3d:=@Array.forIn_toList
def w3e:=@List.length_set
def w3f:=@Nat.add_sub_cancel_left
def w3g:=@Bool.eq_false_iff
def w3h:=@List.flatten_cons
def w3i:=@Bool.not_eq_true'
def w3j:=@List.take_add_one
def w3k:=@List.foldl_append
def w3l:=@List.flatMap_cons
def w3m:=@Nat.le_of_ble_eq_true
def w3n:=@List.getElem?_eq_none
def w3o:=@List.singleton_append
def w3p:=@List.drop_length
def w3q:=@List.eq_nil_of_length_eq_zero
def w3r:=@List.mem_of_mem_drop
def w3s:=@List.countP_eq_length_filter
def w3t:=@List.of_mem_zip
def w3u:=@List.getElem_of_mem
def w3v:=@List.takeWhile_cons
def w3w:=@List.getElem?_range
def w3x:=@List.range_succ
def w3y:=@List.mem_map_of_mem
def w3z:=@Bool.false_eq_true
def w4a:=@List.mem_filterMap
def w4b:=@Nat.zero_add
def w4c:=@List.forIn_nil
def w4d:=@Array.getElem?_eq_getElem
def w4e:=@List.mem_or_eq_of_mem_set
def w4f:=@Nat.not_lt
def w4g:=@List.any_cons
def w4h:=@List.length_eq_zero_iff
def w4i:=@List.map_take
def w4j:=@List.filter_cons_of_neg
def w4k:=@Nat.succ_ne_self
def w4l:=@List.length_take
def w4m:=@List.drop_eq_nil_of_le
def w4n:=@Bool.or_eq_true
def w4o:=@List.dropLast_eq_take
def w4p:=@Nat.ble_eq_true_of_le
def w4q:=@List.all_map
def w4r:=@List.length_singleton
def w4s:=@List.length_filter_le
def w4t:=@Int.zero_add
def w4u:=@List.mem_iff_getElem
def w4v:=@List.drop_zero
def w4w:=@List.foldl_nil
def w4x:=@List.drop_drop
def w4y:=@List.flatMap_append
def w4z:=@Array.append_assoc
def w5a:=@List.mem_replicate
def w5b:=@List.map_drop
def w5c:=@Bool.true_and
def w5d:=@List.filter_append
def w5e:=@Nat.le_of_lt
def w5f:=@Nat.lt_trans
def w5g:=@Nat.lt_or_ge
def w5h:=@List.map_set
def w5i:=@Nat.le_succ
namespace PySem.W.Fast
theorem tw9888708587727750578:True:=trivial
theorem tw4400038434760882070:True:=trivial
theorem tw4686189836889917661:True:=trivial
theorem tw12375241800200872507:True:=trivial
theorem tw11369896806109691115:True:=trivial
theorem tw10799386632920447219:True:=trivial
theorem tw11274186597707099357:True:=trivial
theorem tw12101785541065985892:True:=trivial
theorem tw404870382221628854:True:=trivial
theorem tw10865073065242860097:True:=trivial
theorem tw16807261652627270226:True:=trivial
theorem tw546741063895701567:True:=trivial
theorem tw364426436356744290:True:=trivial
theorem tw18175024995038134109:True:=trivial
theorem tw11037039057895826505:True:=trivial
theorem tw14218901560746246895:True:=trivial
theorem tw349674454419589495:True:=trivial
theorem tw4706349562542153907:True:=trivial
theorem tw9993901240098544457:True:=trivial
theorem tw2565618762100449138:True:=trivial
theorem tw7940946364624022814:True:=trivial
theorem tw7277065773015005059:True:=trivial
theorem tw4557487741518666763:True:=trivial
theorem tw14238936812828913553:True:=trivial
theorem tw2429438947789178596:True:=trivial
theorem tw9841681515255889099:True:=trivial
theorem tw13298165625017670443:True:=trivial
theorem tw16306375550851744451:True:=trivial
theorem tw12461266942869328812:True:=trivial
theorem tw15595669101524216735:True:=trivial
theorem tw17248571160500286934:True:=trivial
theorem tw2263324910886395707:True:=trivial
theorem tw12448804148655797565:True:=trivial
theorem tw1215223592334362489:True:=trivial
theorem tw17668216597441033142:True:=trivial
theorem tw2832326004865183319:True:=trivial
theorem tw13119199063187918449:True:=trivial
theorem tw17371323387592195537:True:=trivial
theorem tw13512204910968917909:True:=trivial
theorem tw10378245298194078826:True:=trivial
theorem tw4466774291158820276:True:=trivial
theorem tw17863587866470823197:True:=trivial
theorem tw8271788442240415827:True:=trivial
theorem tw6139308199261732014:True:=trivial
theorem tw4995229898924691039:True:=trivial
theorem tw6166613910677403763:True:=trivial
theorem tw13387786207831452451:True:=trivial
theorem tw6979538911696170741:True:=trivial
theorem tw16195370100135867657:True:=trivial
theorem tw3247456437017155228:True:=trivial
theorem tw17592914372918282775:True:=trivial
theorem tw7112616235901639088:True:=trivial
theorem tw2364114648449664468:True:=trivial
theorem tw1955011930276871802:True:=trivial
theorem tw6419849198435403323:True:=trivial
theorem tw5345935063541590799:True:=trivial
theorem tw14538959896077503674:True:=trivial
theorem tw14519252420762511198:True:=trivial
theorem tw4112463553868152521:True:=trivial
theorem tw9954999306020507154:True:=trivial
end PySem.W.Fast
namespace L2
open PySem PySem.Spec PyProof.Rows
variable{a:Addr}{A:Around}{op:CmpOp}{c e tg:Expr}{fd:FuncData}{base h h':Heap}{pins:List (Addr×Obj)}{ch fp:List Addr}{es:List Expr}{N ps:List Str}{us:List Value}{i t':Nat}{p pos:Pos}{P prog:Program}{K:PySem.W.Frag}{s:Shared}{x:Str}{mg:Str->Option Value}{u:Value}{E:Value->Shared->Prop}{f:Value->Value->Sem Value}{w:World}
set_option genInjectivity true in
inductive Kx where
 |non|bl (b:Bool)|int (i:Int)|str (x:Str)|tup (ks:List Kx)
inductive Sh where
 |ob|bl|int|str|tup (ss:List Sh)|many (s:Sh)
noncomputable instance:DecidableEq Kx:=λ_ _=>Classical.propDecidable _
mutual
noncomputable def Kx.depth:Kx->Nat
 |.tup ks=>Kx.depths ks+1
 |_=>0
noncomputable def Kx.depths:List Kx->Nat
 |[]=>0
 |k::ks=>max k.depth (Kx.depths ks)
end
mutual
noncomputable def Conf:Kx->Sh->Prop
 |.non,.ob=>True
 |.bl _,.ob=>True
 |.bl _,.bl=>True
 |.int _,.int=>True
 |.str _,.str=>True
 |.tup ks,.tup ss=>Confs ks ss
 |.tup ks,.many s=>ConfM ks s
 |_,_=>False
noncomputable def Confs:List Kx->List Sh->Prop
 |[],[]=>True
 |k::ks,s::ss=>Conf k s/\Confs ks ss
 |_,_=>False
noncomputable def ConfM:List Kx->Sh->Prop
 |[],_=>True
 |k::ks,s=>Conf k s/\ConfM ks s
end
mutual
noncomputable def KIs(h:Heap):Kx->Value->Prop
 |.non,v=>v=.none
 |.bl b,v=>v=.bool b
 |.int i,v=>∃t,v=.int i t
 |.str x,v=>∃t,v=.str x t
 |.tup ks,v=>∃a o items n,v=.ref a/\h.get? a=some o/\o.cls=.type "tuple" /\ o.data=.seq items n/\KAre h ks items.toList
noncomputable def KAre(h:Heap):List Kx->List Value->Prop
 |[],vs=>vs=[]
 |k::ks,vs=>∃v r,vs=v::r/\KIs h k v/\KAre h ks r
end
mutual
theorem x71{h:Heap}:∀(k k':Kx){v:Value},KIs h k v->KIs h k' v->k=k'
 |.non,k',v,x,y=>by
  cases(show v=.none from x);cases k' with
  |non=>rfl
  |bl c=>cases(show Value.none=.bool c from y)
  |int i=>obtain⟨t,e⟩:=y;cases e
  |str i=>obtain⟨t,e⟩:=y;cases e
  |tup ks=>obtain⟨_,_,_,_,e,_⟩:=y;cases e
 |.bl b,k',v,x,y=>by
  cases(show v=.bool b from x);cases k' with
  |non=>cases(show Value.bool b=.none from y)
  |bl c=>cases(show Value.bool b=.bool c from y);rfl
  |int i=>obtain⟨t,e⟩:=y;cases e
  |str i=>obtain⟨t,e⟩:=y;cases e
  |tup ks=>obtain⟨_,_,_,_,e,_⟩:=y;cases e
 |.int b,k',v,x,y=>by
  obtain⟨t,rfl⟩:=x;cases k' with
  |non=>cases y
  |bl c=>cases y
  |int i=>obtain⟨t,e⟩:=y;cases e;rfl
  |str i=>obtain⟨t,e⟩:=y;cases e
  |tup ks=>obtain⟨_,_,_,_,e,_⟩:=y;cases e
 |.str b,k',v,x,y=>by
  obtain⟨t,rfl⟩:=x;cases k' with
  |non=>cases y
  |bl c=>cases y
  |int i=>obtain⟨t,e⟩:=y;cases e
  |str i=>obtain⟨t,e⟩:=y;cases e;rfl
  |tup ks=>obtain⟨_,_,_,_,e,_⟩:=y;cases e
 |.tup ks,k',v,x,y=>by
  obtain⟨a,o,it,n,rfl,h1,h2,h3,h4⟩:=x;cases k' with
  |non=>cases y
  |bl c=>cases y
  |int i=>obtain⟨t,e⟩:=y;cases e
  |str i=>obtain⟨t,e⟩:=y;cases e
  |tup ks'=>
   obtain⟨a',o',it',n',e,g1,g2,g3,g4⟩:=y;cases e;rw[h1]at g1;cases g1;rw[h3]at g3;injection g3 with e1 _
   subst e1;rw[x09 ks ks' h4 g4]
theorem x09{h:Heap}:∀(ks ks':List Kx){vs:List Value},KAre h ks vs->KAre h ks' vs->ks=ks'
 |[],ks',vs,x,y=>by
  cases(show vs=[]from x);cases ks' with
  |nil=>rfl
  |cons k ks'=>obtain⟨v,r,e,_⟩:=y;cases e
 |k::ks,ks',vs,x,y=>by
  obtain⟨v,r,rfl,h1,h2⟩:=x;cases ks' with
  |nil=>cases(show v::r=[]from y)
  |cons k' ks'=>
   obtain⟨v',r',e,g1,g2⟩:=y;cases e;rw[x71 k k' h1 g1,x09 ks ks' h2 g2]
end
mutual
theorem x3n{h h':Heap}(hk:∀a o,h.get? a=some o->o.cls=.type "tuple"->(∃it n,o.data=.seq it n)->h'.get? a=some o):∀(k:Kx){v:Value},KIs h k v->KIs h' k v
 |.non,v,x=>x
 |.bl b,v,x=>x
 |.int b,v,x=>x
 |.str b,v,x=>x
 |.tup ks,v,x=>by
  obtain⟨a,o,it,n,rfl,h1,h2,h3,h4⟩:=x;exact⟨a,o,it,n,rfl,hk a o h1 h2 ⟨it,n,h3⟩,h2,h3,x1u hk ks h4⟩
theorem x1u{h h':Heap}(hk:∀a o,h.get? a=some o->o.cls=.type "tuple"->(∃it n,o.data=.seq it n)->h'.get? a=some o):∀(ks:List Kx){vs:List Value},KAre h ks vs->KAre h' ks vs
 |[],vs,x=>x
 |k::ks,vs,x=>by
  obtain⟨v,r,rfl,h1,h2⟩:=x;exact⟨v,r,rfl,x3n hk k h1,x1u hk ks h2⟩
end
theorem KAre.length:∀(ks:List Kx){vs:List Value},KAre h ks vs->vs.length=ks.length
 |[],vs,x=>by cases(show vs=[]from x);rfl
 |k::ks,vs,x=>by
  obtain⟨v,r,rfl,h1,h2⟩:=x;rw[w0v,w0v,KAre.length ks h2]
mutual
noncomputable def kHash(w:World):Kx->Int
 |.non=>PySem.W.hashW w.params .none
 |.bl b=>reduceHash (if b=true then 1 else 0)
 |.int i=>hashInt i
 |.str x=>hashStr w x
 |.tup ks=>reduceHash (Builtin.Tuple.tupleHashOf (kHashes w ks))
noncomputable def kHashes(w:World):List Kx->List Int
 |[]=>[]
 |k::ks=>kHash w k::kHashes w ks
end
mutual
noncomputable def kDraws:Kx->Nat
 |.tup ks=>kDrawss ks+1
 |_=>1
noncomputable def kDrawss:List Kx->Nat
 |[]=>0
 |k::ks=>kDraws k+kDrawss ks
end
mutual
theorem x72:∀(k:Kx)(v:Value)(A:Around)(s:Shared)(Q:Int->Shared->Prop),KIs s.heap k v->A.units+k.depth<cLine->Q (kHash w k) {s with toks:=s.toks+kDraws k}->wpAny (model prog w) A (pyHash v) Q E s
 |.non,v,A,s,Q,x,hu,h=>by
  cases(show v=.none from x);exact pyHash_slot (T:="NoneType") rfl F.slot_NoneType_hash F.entry_NoneType_hash (F.args_NoneType_hash_1 _) (beq_builtin_none _) (.inr (by omega)) (wpAny_bind (wpAny_pure (wpAny_bind (wpAny_mkInt (wpAny_pure ⟨_,_,rfl,h⟩)))))
 |.bl b,v,A,s,Q,x,hu,h=>by
  cases(show v=.bool b from x);refine pyHash_slot (T:="bool") rfl F.slot_bool_hash entry_int_hash (args_int_hash _) (beq_builtin_none _) (.inr (by omega)) ?_;cases b
  ·exact(show wpAny _ _ (do ret (<- mkInt 0)) _ _ s from wpAny_bind (wpAny_mkInt (wpAny_pure ⟨_,_,rfl,h⟩)))
  ·exact(show wpAny _ _ (do ret (<- mkInt 1)) _ _ s from wpAny_bind (wpAny_mkInt (wpAny_pure ⟨_,_,rfl,h⟩)))
 |.int i,v,A,s,Q,x,hu,h=>by
  obtain⟨t,rfl⟩:=x;exact wpAny_pyHash_int h
 |.str i,v,A,s,Q,x,hu,h=>by
  obtain⟨t,rfl⟩:=x;exact wpAny_pyHash_str h
 |.tup ks,v,A,s,Q,x,hu,h=>by
  obtain⟨a,o,it,n,rfl,h1,h2,h3,h4⟩:=x;refine pyHash_slot (T:="tuple") ⟨_,h1,h2⟩ F.slot_tuple_hash F.entry_tuple_hash (F.args_tuple_hash_1 _) (beq_builtin_none _) (.inr (by omega)) ?_;show wpAny _ _ (Builtin.Tuple.tupleItemsOf (.ref a) >>= _) _ _ s;refine wpAny_bind (wpAny_tupleItemsOf h1 h3 ?_);refine wpAny_bind ?_;rw[<- w3d];refine x3o ks it.toList A.in1 s #[] _ h4 (by grind [Kx.depth]) λb hb=>?_
  show wpAny _ _ (retInt (Builtin.Tuple.tupleHashOf b.toList)) _ _ _;rw[hb];exact wpAny_bind (wpAny_mkInt (wpAny_pure ⟨_,_,rfl,by grind [kHash,kDraws]⟩))
theorem x3o:∀(ks:List Kx)(vs:List Value)(A:Around)(s:Shared)(b:Array Int)(Q:Array Int->Shared->Prop),KAre s.heap ks vs->A.units+Kx.depths ks<cLine ->
  (∀b',b'.toList=b.toList++kHashes w ks->Q b' {s with toks:=s.toks+kDrawss ks}) ->
  wpAny (model prog w) A (forIn vs b λx r=>do let h <- pyHash x;pure PUnit.unit;pure (ForInStep.yield (r.push h))) Q E s
 |[],vs,A,s,b,Q,x,hu,h=>by
  cases(show vs=[]from x);exact wpAny_pure (h b (by simp[kHashes]))
 |k::ks,vs,A,s,b,Q,x,hu,h=>by
  obtain⟨v,r,rfl,h1,h2⟩:=x;simp only[Kx.depths]at hu;rw[w2b];refine wpAny_bind (wpAny_bind (x72 k v A s _ h1 (by omega) ?_));refine wpAny_bind (wpAny_pure (wpAny_pure ?_))
  exact x3o ks r A _ _ Q h2 (by omega) λb' hb=>by
   grind [kHashes,kDrawss]
end
theorem x73(a b):decide (Kx.bl a=Kx.bl b)=(a==b):=by
 grind
theorem y3y(a b):decide (Kx.int a=Kx.int b)=(a==b):=by
 grind
theorem y3z(a b):decide (Kx.str a=Kx.str b)=(a==b):=by
 grind
noncomputable def sameAt(ks ks':List Kx)(j:Nat):Bool:=decide (ks[j]?=ks'[j]?)
theorem y30:∀ks ks':List Kx,((List.range (min ks.length ks'.length)).all (sameAt ks ks')&&ks.length==ks'.length)=decide (Kx.tup ks=Kx.tup ks'):=by
 intro ks ks'
 by_cases e:ks=ks'
 ·grind [sameAt]
 ·rw[decide_eq_false (λz=>e (by injection z))]
  rw[Bool.and_eq_false_iff]
  by_cases hl:ks.length=ks'.length
  ·left
   rw[w3g];intro ha;refine e (List.ext_getElem? λj=>?_)
   by_cases hj:j<ks.length
   ·have:=w0y.mp ha j (w1h.mpr (by omega));exact of_decide_eq_true this
   grind
  grind
theorem q77:∀(ks:List Kx){vs:List Value},KAre h ks vs->∀(j:Nat)(v:Value),vs[j]?=some v->∃k,ks[j]?=some k/\KIs h k v
 |[],vs,x,j,v,e=>by cases(show vs=[]from x);simp at e
 |k::ks,vs,x,j,v,e=>by
  obtain⟨u,r,rfl,h1,h2⟩:=x;cases j with
  |zero=>grind
  |succ j=>exact q77 ks h2 j v (by simpa using e)
theorem q8u:∀(ks:List Kx)(j:Nat)(k:Kx),ks[j]?=some k->k.depth<=Kx.depths ks
 |[],j,k,e=>by simp at e
 |x::ks,j,k,e=>by
  simp only[Kx.depths];cases j with
  |zero=>cases e;omega
  |succ j=>have:=q8u ks j k (by simpa using e);omega
theorem q8v:∀(ks:List Kx)(ss:List Sh),Confs ks ss->∀(j:Nat)(k:Kx),ks[j]?=some k->∃s,ss[j]?=some s/\Conf k s
 |[],ss,_,j,k,e=>by simp at e
 |x::ks,[],c,j,k,e=>c.elim
 |x::ks,s::ss,c,j,k,e=>by
  cases j with
  |zero=>cases e;exact⟨s,rfl,c.1⟩
  |succ j=>exact q8v ks ss c.2 j k (by simpa using e)
theorem q8w:∀(ks:List Kx)(s:Sh),ConfM ks s->∀(j:Nat)(k:Kx),ks[j]?=some k->Conf k s
 |[],s,_,j,k,e=>by simp at e
 |x::ks,s,c,j,k,e=>by
  cases j with
  |zero=>cases e;exact c.1
  |succ j=>exact q8w ks s c.2 j k (by simpa using e)
theorem z63(s:Shared):∀(n:Nat)(k k':Kx)(sh:Sh)(v v':Value)(A:Around),k.depth<=n->Conf k sh->Conf k' sh->KIs s.heap k v->KIs s.heap k' v'->A.units+n<cLine->SeqAt.EqAt A s v v' (decide (k=k')):=by
 intro n
 induction n with
 |zero=>
  intro k k' sh v v' A hd c c' x y hu;cases k with
  |non=>
   cases sh with
   |ob=>
    cases k' with
    |non=>cases(show v=.none from x);cases(show v'=.none from y);rw[decide_eq_true rfl];exact .same _
    |bl b=>cases(show v=.none from x);cases(show v'=.bool b from y);simp_all [SeqAt.EqAt.none_bool]
    |_=>exact c'.elim
   |_=>exact c.elim
  |bl a=>
   cases sh with
   |ob=>
    cases k' with
    |non=>cases(show v=.bool a from x);cases(show v'=.none from y);simp_all [SeqAt.EqAt.bool_none]
    |bl b=>cases(show v=.bool a from x);cases(show v'=.bool b from y);rw[x73];exact .bool_bool a b
    |_=>exact c'.elim
   |bl=>
    cases k' with
    |bl b=>cases(show v=.bool a from x);cases(show v'=.bool b from y);rw[x73];exact .bool_bool a b
    |_=>exact c'.elim
   |_=>exact c.elim
  |int a=>
   cases sh with
   |int=>
    cases k' with
    |int b=>obtain⟨t,rfl⟩:=x;obtain⟨u,rfl⟩:=y;rw[y3y];exact .int_int a t b u
    |_=>exact c'.elim
   |_=>exact c.elim
  |str a=>
   cases sh with
   |str=>
    cases k' with
    |str b=>obtain⟨t,rfl⟩:=x;obtain⟨u,rfl⟩:=y;rw[y3z];exact .str_str a t b u
    |_=>exact c'.elim
   |_=>exact c.elim
  |tup ks=>grind [Kx.depth]
 |succ n ih=>
  intro k k' sh v v' A hd c c' x y hu;cases k with
  |non=>exact ih .non k' sh v v' A (w1d _) c c' x y (by omega)
  |bl a=>exact ih (.bl a) k' sh v v' A (w1d _) c c' x y (by omega)
  |int a=>exact ih (.int a) k' sh v v' A (w1d _) c c' x y (by omega)
  |str a=>exact ih (.str a) k' sh v v' A (w1d _) c c' x y (by omega)
  |tup ks=>
   obtain⟨a,o,it,m,rfl,h1,h2,h3,h4⟩:=x
   have tail:∀ks',k'=.tup ks'->(∀(j:Nat)(u u':Kx),ks[j]?=some u->ks'[j]?=some u'->∃s,Conf u s/\Conf u' s)->SeqAt.EqAt A s (.ref a) v' (decide (Kx.tup ks=k')):=by
    rintro ks' rfl hc;obtain⟨b,o',it',m',rfl,g1,g2,g3,g4⟩:=y
    by_cases hab:a=b
    ·grind [x09,SeqAt.EqAt.same]
    ·have l1:=KAre.length ks h4;have l2:=KAre.length ks' g4;rw[<- y30]
     have:=SeqAt.RcAt.tuples (A:=A) (s:=s) (e:=sameAt ks ks') (show s.heap.IsTuple a it from⟨o,h1,h2,m,h3⟩) (show s.heap.IsTuple b it' from⟨o',g1,g2,m',g3⟩) (by omega) (λj j1 j2=>by
      obtain⟨u,u1,u2⟩:=q77 ks h4 j it[j] (by simp[j1]);obtain⟨u',u1',u2'⟩:=q77 ks' g4 j it'[j] (by simp[j2]);obtain⟨sh',c1,c2⟩:=hc j u u' u1 u1';have hdj:=q8u ks j u u1;simp only[Kx.depth]at hd;have z:=ih u u' sh' _ _ A.in1 (by omega) c1 c2 u2 u2' (by grind)
      grind [sameAt,decide])
     grind [SeqAt.EqAt.of_refs]
   cases sh with
   |tup ss=>
    cases k' with
    |tup ks'=>
     refine tail ks' rfl λj u u' e1 e2=>?_
     obtain⟨s1,q1,q2⟩:=q8v ks ss c j u e1;obtain⟨s2,q3,q4⟩:=q8v ks' ss c' j u' e2
     grind
    |_=>exact c'.elim
   |many s1=>
    cases k' with
    |tup ks'=>exact tail ks' rfl λj u u' e1 e2=>⟨s1,q8w ks s1 c j u e1,q8w ks' s1 c' j u' e2⟩
    |_=>exact c'.elim
   |_=>exact c.elim
theorem y31:∀(n:Nat)(k:Kx)(v:Value)(s:Shared)(Q:Bool->Shared->Prop),k.depth<=n->KIs s.heap k v->Q true s->wpAny (model prog w) A (eqIsQuiet n v) Q E s:=by
 intro n
 induction n with
 |zero=>
  intro k v s Q hd x h;cases k with
  |non=>cases(show v=.none from x);rw[eqIsQuiet_byValue _ rfl];exact wpAny_pure h
  |bl b=>cases(show v=.bool b from x);rw[eqIsQuiet_byValue _ rfl];exact wpAny_pure h
  |int i=>obtain⟨t,rfl⟩:=x;rw[eqIsQuiet_byValue _ rfl];exact wpAny_pure h
  |str i=>obtain⟨t,rfl⟩:=x;rw[eqIsQuiet_byValue _ rfl];exact wpAny_pure h
  |tup ks=>grind [Kx.depth]
 |succ n ih=>
  intro k v s Q hd x h;cases k with
  |non=>cases(show v=.none from x);rw[eqIsQuiet_byValue _ rfl];exact wpAny_pure h
  |bl b=>cases(show v=.bool b from x);rw[eqIsQuiet_byValue _ rfl];exact wpAny_pure h
  |int i=>obtain⟨t,rfl⟩:=x;rw[eqIsQuiet_byValue _ rfl];exact wpAny_pure h
  |str i=>obtain⟨t,rfl⟩:=x;rw[eqIsQuiet_byValue _ rfl];exact wpAny_pure h
  |tup ks=>
   obtain⟨a,o,it,m,rfl,h1,h2,h3,h4⟩:=x;have hT:s.TypeIs (.ref a) "tuple":=⟨o,h1,h2⟩;unfold eqIsQuiet;refine wpAny_bind (wpAny_specialOf hT F.slot_tuple_eq.lookup ?_);show wpAny _ _ (isInstance (.ref a) (.type "tuple") >>= _) _ _ s;refine wpAny_bind (wpAny_isInstance hT isSubtype_tuple_tuple ?_);simp only[Bool.not_true,w3z,if_false];refine wpAny_bind (wpAny_seqItems h1 h3 ?_);refine wpAny_bind ?_;show wpAny _ _ (forIn it _ _) _ _ s;rw[<- w3d];refine wpAny_forIn_list _ (λrest r s'=>r.1=none/\s'=s/\∀v∈rest,∃k:Kx,k.depth<=n/\KIs s.heap k v) _ ?_ ?_ _ _ ⟨rfl,rfl,λv hv=>?_⟩
   ·rintro v rest r s' ⟨hr,rfl,hall⟩;obtain⟨k,k1,k2⟩:=hall v w0h;refine wpAny_bind (ih k v _ _ k1 k2 ?_)
    simp_all [wpAny_pure]
   ·grind [wpAny_pure]
   ·obtain⟨j,hj,e⟩:=w4u.mp hv;obtain⟨k,k1,k2⟩:=q77 ks h4 j v (by grind);have:=q8u ks j k k1
    grind [Kx.depth]
noncomputable def treeKind(prog)(w)(sh:Sh):HeapKind prog w Kx where
 is:=λh k a=>KIs h k (.ref a)/\Conf k sh/\k.depth<=7
 hash:=kHash w
 draws:=kDraws
 room:=λA=>A.units+8<cLine
 inj:=λhx hy=>x71 _ _ hx.1 hy.1
 keeps:=λ{h h' k a d o es ep} x ho hd hs=>⟨x3n (λb ob e1 e2 e3=>by
  have hne:b≠d:=by
   grind
  exact(hs.2 b hne).trans e1) _ x.1,x.2⟩
 pyHash:=λ{A E s k a Q} hu hk h=>x72 k _ A s Q hk.1 (by have:=hk.2.2;omega) h
 eqBool:=λ{A E s x y a b Q} hu hx hy h=>z63 s 7 x y sh _ _ A hx.2.2 hx.2.1 hy.2.1 hx.1 hy.1 (by omega) prog w E Q h
 quiet:=λ{A E s k a Q} hk h=>y31 8 k _ s Q (by have:=hk.2.2;omega) hk.1 h
set_option Elab.async false
set_option linter.all false
set_option maxRecDepth 100000
noncomputable abbrev Key:=Sum Int Str
noncomputable def keyIs:Key->Value->Bool
 |.inl k,v=>Value.isInt k v
 |.inr x,v=>Value.isStrOf x v
noncomputable def keyH(w:World):Key->Int
 |.inl k=>hashInt k
 |.inr x=>hashStr w x
theorem keyIs_shape:∀{k:Key}{v:Value},keyIs k v=true->(∃i t,k=Sum.inl i/\v=Value.int i t)\/(∃x t,k=Sum.inr x/\v=Value.str x t)
 |.inl i,v,h=>by
  obtain⟨t,e⟩:=Value.isInt_shape (k:=i) (v:=v) h
  grind
 |.inr x,v,h=>by
  obtain⟨t,e⟩:=Value.isStrOf_shape (x:=x) (v:=v) h
  grind
theorem y0k(i)(t):keyIs (.inl i) (.int i t)=true:=by simp[keyIs,Value.isInt]
theorem y0l(x)(t):keyIs (.inr x) (.str x t)=true:=by simp[keyIs,Value.isStrOf]
theorem z2h(a b):decide ((Sum.inl a:Key)=Sum.inl b)=(a==b):=by
 grind
theorem z2i(a b):decide ((Sum.inr a:Key)=Sum.inr b)=decide (a=b):=by
 grind
theorem z2j(a)(b):decide ((Sum.inl a:Key)=Sum.inr b)=false:=decide_eq_false (λq=>nomatch q)
theorem z2k(a)(b):decide ((Sum.inr a:Key)=Sum.inl b)=false:=decide_eq_false (λq=>nomatch q)
noncomputable def mixKind(prog)(w):PySem.KeyKind prog w Key where
 is:=keyIs
 hash:=keyH w
 inj:=λv a b ha hb=>by
  grind [keyIs_shape]
 byValue:=λk v h=>by
  rcases keyIs_shape h with⟨i,t,rfl,rfl⟩|⟨x,t,rfl,rfl⟩<;>rfl
 pyHash:=λhv h=>by
  rcases keyIs_shape hv with⟨i,t,rfl,rfl⟩|⟨x,t,rfl,rfl⟩
  ·exact wpAny_pyHash_int h
  ·exact wpAny_pyHash_str h
 eqBool:=λhu hv h=>by
  rcases keyIs_shape hu with⟨i,t,rfl,rfl⟩|⟨x,t,rfl,rfl⟩
  ·rcases keyIs_shape hv with⟨j,u,rfl,rfl⟩|⟨y,u,rfl,rfl⟩
   ·grind [z2h,wpAny_eqBool_int]
   ·rw[z2j]at h;exact SeqAt.EqAt.int_str i t y u _ _ _ _ h
  ·rcases keyIs_shape hv with⟨j,u,rfl,rfl⟩|⟨y,u,rfl,rfl⟩
   ·rw[z2k]at h;exact SeqAt.EqAt.str_int x t j u _ _ _ _ h
   grind [z2i,wpAny_eqBool_str]
 «strs»:=λk x t v h=>by
  rcases keyIs_shape h with⟨i,u,rfl,e⟩|⟨y,u,rfl,e⟩
  ·exact nomatch e
  ·injection e with e1 _
   subst e1;cases v<;>rfl
theorem x7h(prog)(w)(i)(t):(mixKind prog w).is (.inl i) (.int i t)=true:=y0k i t
theorem x7i(prog)(w)(x)(t):(mixKind prog w).is (.inr x) (.str x t)=true:=y0l x t
set_option genInjectivity true in
inductive V where
 |non|bl (b:Bool)|int (i:Int)|str (x:Str)|byt (b:Array UInt8)|flt (b:UInt64)|ref (a:Addr)|ty (n:String)
 deriving DecidableEq
variable{xs:List V}{v:V}
noncomputable def RelV:V->Value->Prop
 |.non,u=>u=Value.none
 |.bl b,u=>u=Value.bool b
 |.int i,u=>∃t,u=Value.int i t
 |.str x,u=>∃t,u=Value.str x t
 |.byt b,u=>∃t,u=Value.bytes b t
 |.flt b,u=>∃t,u=Value.float b t
 |.ref a,u=>u=Value.ref a
 |.ty n,u=>u=Value.type n
abbrev Vals:List V->List Value->Prop:=Paired RelV
theorem Vals.length(r:Vals xs us):xs.length=us.length:=Paired.length r
theorem Vals.get:∀{xs:List V}{us:List Value}{i:Nat}{x:V},Vals xs us->xs[i]?=some x->∃u,us[i]?=some u/\RelV x u
 |_,_,_,_,.nil,e=>by simp at e
 |_,_,0,_,.cons r _,e=>by grind
 |_,_,i+1,x,.cons _ t,e=>by
  obtain⟨u,h1,h2⟩:=Vals.get (i:=i) (x:=x) t (by simpa using e)
  grind
theorem Vals.set{x:V}(r:RelV x u):∀{xs:List V}{us:List Value}(i:Nat),Vals xs us->Vals (xs.set i x) (us.set i u)
 |_,_,_,.nil=>.nil
 |_,_,0,.cons _ t=>.cons r t
 |_,_,i+1,.cons q t=>.cons q (Vals.set r i t)
theorem Vals.append:∀{xs ys:List V}{us ws:List Value},Vals xs us->Vals ys ws->Vals (xs++ys) (us++ws)
 |_,_,_,_,.nil,s=>s
 |_,_,_,_,.cons r t,s=>.cons r (Vals.append t s)
theorem Vals.take:∀{xs:List V}{us:List Value}(n:Nat),Vals xs us->Vals (xs.take n) (us.take n)
 |_,_,0,_=>.nil
 |_,_,_+1,.nil=>.nil
 |_,_,n+1,.cons r t=>.cons r (Vals.take n t)
theorem Vals.drop:∀{xs:List V}{us:List Value}(n:Nat),Vals xs us->Vals (xs.drop n) (us.drop n)
 |_,_,0,r=>r
 |_,_,_+1,.nil=>.nil
 |_,_,n+1,.cons _ t=>Vals.drop n t
noncomputable def RelO:Option V->Option Value->Prop
 |some v,some u=>RelV v u
 |none,none=>True
 |_,_=>False
noncomputable def KV{κ:Type}:List (κ×V)->List (κ×Value)->Prop:=Paired fun(p:κ×V) (q:κ×Value)=>p.1=q.1/\RelV p.2 q.2
noncomputable def kV:Key->V
 |.inl i=>.int i
 |.inr x=>.str x
inductive HO where
 |lst (xs:List V)
 |tup (xs:List V)
 |dK (kvs:List (Key×V))|dT (sh:Sh) (kvs:List (Kx×V)) (kas:List Addr)
 |set (S:Int->Bool) (n:Nat)
 |ins (C dx:Addr) (fs:List (Str×V))
 |own (x:Addr)
 |xd (fs:List (Str×V))
 |met (f x:Addr)
 |rng (lo hi:Int)
 |frz (o:Obj) (u:HO)
 |tbl (ps:Array Value)
 |ext (φ:Heap->Prop)
noncomputable abbrev Hp:=Addr->Option HO
variable{H H':Hp}
noncomputable def TupLike:HO->Prop
 |.tup _=>True
 |.frz _ (.tup _)=>True
 |.frz _ (.own _)=>True
 |_=>False
mutual
noncomputable def KRep(H:Hp):Kx->V->Prop
 |.non,v=>v=.non
 |.bl b,v=>v=.bl b
 |.int i,v=>v=.int i
 |.str x,v=>v=.str x
 |.tup ks,v=>∃a xs,v=.ref a/\(H a=some (.tup xs)\/∃o,H a=some (.frz o (.tup xs)))/\KReps H ks xs
noncomputable def KReps(H:Hp):List Kx->List V->Prop
 |[],vs=>vs=[]
 |k::ks,vs=>∃v r,vs=v::r/\KRep H k v/\KReps H ks r
end
mutual
theorem KRep.keeps{H H':Hp}(ht:∀b u,TupLike u->H b=some u->H' b=some u):∀(k:Kx){v:V},KRep H k v->KRep H' k v
 |.non,_,x=>x
 |.bl _,_,x=>x
 |.int _,_,x=>x
 |.str _,_,x=>x
 |.tup ks,_,x=>by
  obtain⟨a,xs,e,q,r⟩:=x;refine⟨a,xs,e,?_,KReps.keeps ht ks r⟩;rcases q with q|⟨o,q⟩
  ·exact .inl (ht _ _ True.intro q)
  ·exact .inr ⟨o,ht _ _ True.intro q⟩
theorem KReps.keeps{H H':Hp}(ht:∀b u,TupLike u->H b=some u->H' b=some u):∀(ks:List Kx){vs:List V},KReps H ks vs->KReps H' ks vs
 |[],_,x=>x
 |k::ks,_,x=>by
  obtain⟨v,r,e,h1,h2⟩:=x;exact⟨v,r,e,KRep.keeps ht k h1,KReps.keeps ht ks h2⟩
end
noncomputable def upd(H:Hp)(a:Addr)(o:HO):Hp:=λb=>if b=a then some o else H b
theorem q0k:upd H a o a=some o:=by simp_all [upd]
theorem q0g(h:b≠a):upd H a o b=H b:=by unfold upd;rw[if_neg h]
theorem y7p{u:HO}:upd (upd H a o) a u=upd H a u:=by
 grind [upd]
theorem q3o{u:HO}(h:H a=some o)(h':H b=some u)(d:o≠u):a≠b:=by
 grind
theorem q0p(h:H a=some o)(h':H b=none):a≠b:=by
 grind
section
variable(P:Program)(w:World)
noncomputable def BareT(h:Heap)(a:Addr):Prop:=∃o,h.get? a=some o/\o.dict=none
noncomputable def ObjOk(H:Hp)(h:Heap)(a:Addr):HO->Prop
 |.lst xs=>xs.length<=sizeLine/\∃(its:List Value)(n:Nat),Vals xs its/\h.get? a=some {cls:=.type "list", data:=.seq its.toArray n}
 |.tup xs=>xs.length<=sizeLine/\∃its:List Value,Vals xs its/\IsTup h a its.toArray/\BareT h a
 |.dK kvs=>kvs.length<=sizeLine/\(a==sysModules)=false/\∃vs,KV kvs vs/\h.DictOf (mixKind P w) a vs
 |.dT sh kvs kas=>kvs.length<=sizeLine/\(a==sysModules)=false/\∃xs:List (Kx×Addr×Value),
   Paired (fun(p:Kx×V) (q:Kx×Addr×Value)=>p.1=q.1/\(KRep H p.1 (.ref q.2.1)/\Conf p.1 sh/\p.1.depth<=7)/\RelV p.2 q.2.2) kvs xs/\xs.map (·.2.1)=kas /\
   ∃o es ep,h.get? a=some o/\o.ExactDict/\o.data=.dict es ep/\es.toList=xs.map (entryOfKey (treeKind P w sh))/\(xs.map (·.1)).Nodup
 |.set S n=>h.SetOf (intKind P w) a S n
 |.ins C dx fs=>H dx=some (.own a)/\fs.length<=1000/\dx≠a/\h.get? a=some (PySem.W.instObj C dx) /\
   ∃mA,h.Ns1 dx mA/\(∀f,RelO (fs.lookup f) (mA f))/\PySem.Within mA (fs.map (·.1))
 |.own _=>∃o,h.get? a=some o
 |.xd fs=>∃mA,h.Ns1 a mA/\∀f,RelO (fs.lookup f) (mA f)
 |.rng lo hi=>∃t u v,h.get? a=some {cls:=.type "range", data:=.fields #[.int lo t,.int hi u,.int 1 v]}
 |.frz o u=>h.get? a=some o/\ObjOk H h a u
 |.tbl ps=>(∃(q:Str)(qs:Array Value),ps[0]?=some (.bool true)/\ps[1]?=some (.str q 0)/\h.get? a=some {cls:=.none,data:=.fields qs}/\TriplesOk qs.toList/\∀(pos:Pos)(cv:Value),codeAmong pos qs.toList=some cv ->
   ∃(c:Addr)(oc:Obj)(vs:Array Value)(t:Tok),cv=.ref c/\H c=some (.frz oc (.own 0))/\oc.data=.fields vs/\vs[1]?=some (.str q t)) \/
   ∃(q:Str)(c:Addr)(oc ob:Obj)(vs:Array Value)(t:Tok),ps[0]?=some (.bool false)/\ps[1]?=some (.str q 0)/\ps[2]?=some (.ref c)/\H c=some (.frz oc (.own 0))/\oc.data=.fields vs/\vs[1]?=some (.str q t)/\h.get? a=some ob
 |.met f x=>h.get? a=some (methodObj (.ref f) (.ref x))
 |.ext φ=>φ h/\(∃o,h.get? a=some o)/\∀h1 h2:Heap,φ h1->(∀o,h1.get? a=some o->h2.get? a=some o)->φ h2
noncomputable def HOk(H:Hp)(h:Heap):Prop:=∀a o,H a=some o->ObjOk P w H h a o
end
section
variable{o:HO}
theorem ObjOk.lt(x:ObjOk P w H h a o):a<h.objs.size:=by
 cases o with
 |lst xs=>obtain⟨_,_,_,_,e⟩:=x;exact Heap.lt_size e
 |tup xs=>obtain⟨_,_,_,p,_⟩:=x;exact p.lt
 |dK kvs=>obtain⟨_,_,_,_,o,_,_,e,_⟩:=x;exact Heap.lt_size e
 |dT sh kvs kas=>obtain⟨_,_,_,_,_,o,_,_,e,_⟩:=x;exact Heap.lt_size e
 |set S n=>obtain⟨o,_,_,_,e,_⟩:=x;exact Heap.lt_size e
 |ins C dx fs=>obtain⟨_,_,_,e,_⟩:=x;exact Heap.lt_size e
 |own y=>obtain⟨_,e⟩:=x;exact Heap.lt_size e
 |xd fs=>obtain⟨_,⟨_,_,_,e,_⟩,_⟩:=x;exact Heap.lt_size e
 |rng lo hi=>obtain⟨_,_,_,e⟩:=x;exact Heap.lt_size e
 |frz ob u=>obtain⟨e,_⟩:=x;exact Heap.lt_size e
 |tbl ps=>rcases x with⟨_,_,_,_,e,_⟩|⟨_,_,_,_,_,_,_,_,_,_,_,_,e⟩<;>exact Heap.lt_size e
 |met f y=>exact Heap.lt_size (show h.get? a=some _ from x)
 |ext φ=>obtain⟨_,⟨_,e⟩,_⟩:=x;exact Heap.lt_size e
theorem Paired.mapP{α β:Type}{F G:α->β->Prop}:∀{l₁:List α}{l₂:List β},Paired F l₁ l₂->(∀a b,F a b->G a b)->Paired G l₁ l₂
 |_,_,.nil,_=>.nil
 |_,_,.cons r t,f=>.cons (f _ _ r) (Paired.mapP t f)
theorem ObjOk.stay(x:ObjOk P w H h a o)(k:∀b u,(b=a\/H b=some (.own a))->h.get? b=some u->h'.get? b=some u)
  (ho:∀b,H b=some (.own a)->H' b=some (.own a))(ht:∀b u,TupLike u->H b=some u->H' b=some u):ObjOk P w H' h' a o:=by
 induction o with
 |lst xs=>obtain⟨z,its,n,r,e⟩:=x;exact⟨z,its,n,r,k _ _ (.inl rfl) e⟩
 |tup xs=>obtain⟨z,its,r,⟨ob,e,c⟩,⟨o2,e2,c2⟩⟩:=x;exact⟨z,its,r,⟨ob,k _ _ (.inl rfl) e,c⟩,⟨o2,k _ _ (.inl rfl) e2,c2⟩⟩
 |dK kvs=>obtain⟨z,y,vs,r,ob,es,ep,e,c⟩:=x;exact⟨z,y,vs,r,ob,es,ep,k _ _ (.inl rfl) e,c⟩
 |dT sh kvs kas=>
  obtain⟨z,y,xs,r,ka,ob,es,ep,e,c⟩:=x;exact⟨z,y,xs,Paired.mapP r λp q z=>⟨z.1,⟨KRep.keeps ht _ z.2.1.1,z.2.1.2⟩,z.2.2⟩,ka,ob,es,ep,k _ _ (.inl rfl) e,c⟩
 |set S n=>obtain⟨ob,es,ep,t,e,c⟩:=x;exact⟨ob,es,ep,t,k _ _ (.inl rfl) e,c⟩
 |ins C dx fs=>
  obtain⟨d,z,ne,e,mA,⟨od,es,ep,e2,c⟩,r⟩:=x;exact⟨ho _ d,z,ne,k _ _ (.inl rfl) e,mA,⟨od,es,ep,k _ _ (.inr d) e2,c⟩,r⟩
 |own y=>obtain⟨ob,e⟩:=x;exact⟨ob,k _ _ (.inl rfl) e⟩
 |xd fs=>obtain⟨mA,⟨od,es,ep,e,c⟩,r⟩:=x;exact⟨mA,⟨od,es,ep,k _ _ (.inl rfl) e,c⟩,r⟩
 |rng lo hi=>obtain⟨t,u,v,e⟩:=x;exact⟨t,u,v,k _ _ (.inl rfl) e⟩
 |frz ob u ih=>obtain⟨e,q⟩:=x;exact⟨k _ _ (.inl rfl) e,ih q⟩
 |tbl ps=>
  rcases x with⟨q,qs,p0,p1,e,tr,cd⟩|⟨q,c,oc,ob,vs,t,p0,p1,p2,h3,h4,h5,e⟩
  ·refine .inl ⟨q,qs,p0,p1,k _ _ (.inl rfl) e,tr,λpos cv z=>?_⟩
   obtain⟨c,oc,vs,t,h1,h3,h4,h5⟩:=cd pos cv z;exact⟨c,oc,vs,t,h1,ht _ _ True.intro h3,h4,h5⟩
  ·exact .inr ⟨q,c,oc,ob,vs,t,p0,p1,p2,ht _ _ True.intro h3,h4,h5,k _ _ (.inl rfl) e⟩
 |met f y=>
  have e:h.get? a=some (methodObj (.ref f) (.ref y)):=x;show h'.get? a=some (methodObj (.ref f) (.ref y));exact k a _ (.inl rfl) e
 |ext φ=>obtain⟨p,⟨o,e⟩,st⟩:=x;exact⟨st _ _ p λo q=>k _ _ (.inl rfl) q,⟨o,k _ _ (.inl rfl) e⟩,st⟩
theorem HOk.lt(x:HOk P w H h)(e:H a=some o):a<h.objs.size:=(x a o e).lt
theorem HOk.fresh(x:HOk P w H h)(e:h.objs.size<=a):H a=none:=by
 cases q:H a with
 |none=>rfl
 |some u=>exact absurd (w0q (x.lt q) e) (w2g _)
theorem HOk.kept(x:HOk P w H h)(k:∀b u,h.get? b=some u->h'.get? b=some u):HOk P w H h':=λa o e=>
 (x a o e).stay (λb u _ q=>k b u q) (λ_ q=>q) λ_ _ _ q=>q
theorem HOk.laid(x:HOk P w H h)(k:∀b u,h.get? b=some u->h'.get? b=some u)(hp:h.objs.size<=a)(new:ObjOk P w (upd H a o) h' a o):HOk P w (upd H a o) h':=λb u e=>by
 have hn:=x.fresh hp
 by_cases hb:b=a
 ·grind [q0k]
 ·rw[q0g hb]at e;exact(x b u e).stay (λc v _ q=>k c v q) (λc q=>by rw[q0g (q0p q hn)];exact q) λc xs _ q=>by rw[q0g (q0p q hn)];exact q
end
noncomputable def Rd(H:Hp)(a:Addr)(u:HO):Prop:=H a=some u\/∃o,H a=some (.frz o u)
theorem Rd.ok{u:HO}(r:Rd H a u)(x:HOk P w H h):ObjOk P w H h a u:=by
 rcases r with r|⟨o,r⟩
 ·exact x a u r
 ·obtain⟨_,q⟩:=x a _ r;exact q
noncomputable def Mut:Option HO->Prop
 |some (.lst _)=>True
 |some (.dK _)=>True
 |some (.dT _ _ _)=>True
 |some (.set _ _)=>True
 |some (.ins _ _ _)=>True
 |some (.ext _)=>True
 |_=>False
section
variable{x e:Addr}{o':HO}
theorem HOk.write(ok:HOk P w H h)(mu:Mut (H x))(he:e=x\/H e=some (.own x))(k:∀b u,b≠e->h.get? b=some u->h'.get? b=some u)(heo:∃u,h'.get? e=some u)
  (new:ObjOk P w (upd H x o') h' x o'):HOk P w (upd H x o') h':=λb u q=>by
 have nown:∀c y,H c=some (.own y)->c≠x:=λc y r z=>by subst z;rw[r]at mu;exact mu
 have ntup:∀c u,TupLike u->H c=some u->c≠x:=λc u t r z=>by
  subst z;rw[r]at mu;cases u<;>first|exact mu|exact t
 by_cases hb:b=x
 ·grind [q0k]
 ·rw[q0g hb]at q
  by_cases hbe:b=e
  ·have q':H b=some (.own x):=by
    grind
   rw[q]at q';cases q';obtain⟨v,hv⟩:=heo;exact⟨v,by rw[hbe];exact hv⟩
  ·refine(ok b u q).stay (λc v hc r=>k c v ?_ r) (λc r=>by grind [q0g]) λc xs t r=>by grind [q0g]
   rcases hc with rfl|hc
   ·exact hbe
   ·rintro rfl;rcases he with z|z
    ·exact nown c b hc z
    ·rw[hc]at z;cases z;exact hb rfl
end
structure Un(fs ex:List Addr)(H H':Hp)(h h':Heap):Prop where
 keep:∀b o,h.get? b=some o->H b=none->b∉fs->b∉ex->h'.get? b=some o
 slot:∀b o,h.get? b=some o->H b=none->b∈fs->b∉ex->∃sl,h'.get? b=some {o with slots:=sl}
 free:∀b o,h.get? b=some o->H b=none->b∉ex->H' b=none
 there:∀b o,h.get? b=some o->b∉ex->∃o',h'.get? b=some o'
 tups:∀b xs,H b=some (.tup xs)->H' b=some (.tup xs)
 frzs:∀b o u,H b=some (.frz o u)->H' b=some (.frz o u)
 tbls:∀b ps,H b=some (.tbl ps)->∃more,H' b=some (.tbl (ps++more))
section
variable{fs fs' ex ex':List Addr}{H1 H2:Hp}{h1 h2:Heap}{x e:Addr}{o:HO}
theorem Un.any(u:Un fs ex H H1 h h1)(q:h.get? b=some ob)(n:H b=none)(hx:b∉ex):∃sl,h1.get? b=some {ob with slots:=sl}:=by
 by_cases hb:b∈fs
 ·exact u.slot b ob q n hb hx
 ·exact⟨ob.slots,u.keep b ob q n hb hx⟩
theorem Un.kept(k:∀b u,h.get? b=some u->h'.get? b=some u):Un fs ex H H h h':=
 ⟨λb ob q _ _ _=>k b ob q,λb ob q _ _ _=>⟨ob.slots,k b ob q⟩,λ_ _ _ n _=>n,λb ob q _=>⟨ob,k b ob q⟩,λ_ _ q=>q,λ_ _ _ q=>q,λ_ ps q=>⟨#[],by rw[q];simp⟩⟩
theorem Un.refl:Un fs ex H H h h:=Un.kept λ_ _ q=>q
theorem Un.laid(k:∀b u,h.get? b=some u->h'.get? b=some u)(hp:h.objs.size<=a)(hn:H a=none):Un fs ex H (upd H a o) h h' where
 keep:=λb u q _ _ _=>k b u q
 slot:=λb u q _ _ _=>⟨u.slots,k b u q⟩
 free:=λb u q n _=>by rw[q0g (w0t (w0q (Heap.lt_size q) hp))];exact n
 there:=λb u q _=>⟨u,k b u q⟩
 tups:=λb xs q=>by rw[q0g (q0p q hn)];exact q
 frzs:=λb u xs q=>by rw[q0g (q0p q hn)];exact q
 tbls:=λb ps q=>⟨#[],by rw[q0g (q0p q hn),q];simp⟩
theorem Un.write(mu:Mut (H x))(he:e=x\/H e=some (.own x))(k:∀b u,b≠e->h.get? b=some u->h'.get? b=some u)(heo:∃u,h'.get? e=some u):Un fs ex H (upd H x o) h h':=by
 have hx:∀b,H b=none->b≠x:=λb n z=>by subst z;rw[n]at mu;exact mu
 have hb:∀b,H b=none->b≠e:=λb n z=>by
  grind
 have hm:∀b u,H b=some u->¬Mut (some u)->b≠x:=λb u q nm z=>by grind
 refine⟨λb u q n _ _=>k b u (hb b n) q,λb u q n _ _=>⟨u.slots,k b u (hb b n) q⟩,λb u q n _=>by grind [q0g],λb u q _=>?_,
  λb xs q=>by rw[q0g (hm b _ q λz=>z)];exact q,λb u xs q=>by rw[q0g (hm b _ q λz=>z)];exact q,λb ps q=>⟨#[],by rw[q0g (hm b _ q λz=>z),q];simp⟩⟩
 grind
end
noncomputable def trk(h:Heap)(H:Hp):List Addr:=(List.range h.objs.size).filter λa=>(H a).isSome
noncomputable def hidT(h:Heap)(H:Hp):Heap:=PySem.W.hideAll h (trk h H)
theorem y0m(h)(H):(hidT h H).objs.size=h.objs.size:=PySem.W.hideAll_size _ _
theorem y33(e:h.get? b=some o)(n:H b=none):(hidT h H).get? b=some o:=
 hideAll_get _ e λhm=>by
  have q:(H b).isSome=true:=(List.mem_filter.mp hm).2;rw[n]at q;simp at q
theorem y7q(e:(hidT h H).get? b=some o):h.get? b=some o/\H b=none:=by
 have e':h.get? b=some o:=PySem.W.of_hideAll (trk h H) e;refine⟨e',?_⟩;cases q:H b with
 |none=>rfl
 |some x=>
  grind [trk,Heap.lt_size,hidT,W.hideAll_none]
noncomputable def allNews(g h:Heap)(L:Addr):List (Addr×Obj):=(List.range h.objs.size).filterMap λa=>if a=L\/(g.get? a).isSome=true then none else(h.get? a).map λo=>(a,o)
noncomputable def rest(g h:Heap)(L d:Addr):List (Addr×Obj):=(allNews g h L).filter λp=>decide (p.1≠d)
structure Mod(K:PySem.W.Frag)(mg:Str->Option Value)(base:Heap):Prop where
 kin:K.In base
 glob:base.Ns mainGlobals mg
 blt:∃mb,base.Ns builtinsNs mb/\∀x:Str,x≠"__name__"->mb x=bootBuiltins x
 nolimit:base.NoLimit
structure Cx where
 prog:Program
 w:World
 K:PySem.W.Frag
 mg:Str->Option Value
 base:Heap
 A:Around
 N:List Str
 s₀:Shared
 H₀:Hp
 env:Env
 outer:List Env
 stack:List Env
 ex:List Addr
 fn:Str->Bool
 calm:Bool
 pn:List (Addr×Obj)
 xe:Value->Shared->Prop
variable{X:Cx}
noncomputable def frs(l:List Env):List Addr:=l.filterMap (·.frame)
noncomputable abbrev Cx.fs(X:Cx):List Addr:=frs X.outer
noncomputable def Vis(sc:Scope)(x:Str):Prop:=sc.names.lookup x=some .local\/sc.names.lookup x=some .cell\/sc.names.lookup x=some .free
noncomputable def Loc(sc:Scope)(x:Str):Prop:=sc.names.lookup x=some .local\/sc.names.lookup x=some .cell
noncomputable def Look(env:Env)(h:Heap)(m:Str->Option Value)(x:Str)(u:Value):Prop:=
 (env.kindOf x=some .local/\m x=some u)\/((env.kindOf x=some .cell\/env.kindOf x=some .free)/\∃c,env.cells.lookup x=some c/\h.IsCell c (some u))
noncomputable abbrev markO(P:Addr)(q:Str):Obj:={cls:=.str q 0,data:=.fields #[.ref P]}
noncomputable def TabOk(K:PySem.W.Frag)(H:Hp):Prop:=∀(a:Addr)(q:Str)(P:Addr),(a,markO P q)∈K->∃ps:Array Value,H P=some (.tbl ps)/\ps[0]?=some (.bool true)/\ps[1]?=some (.str q 0)
noncomputable def noMark(K:PySem.W.Frag):Bool:=K.all λp=>match p.2.cls with
 |.str _ _=>false
 |_=>true
theorem TabOk.vac(h:noMark K=true):TabOk K H:=λa q P m=>by
 have:=w0y.mp h _ m;cases this
theorem TabOk.un(t:TabOk K H)(u:Un fs ex H H' h h'):TabOk K H':=λa q P m=>by
 obtain⟨ps,e,p0,p1⟩:=t a q P m;obtain⟨more,e'⟩:=u.tbls P ps e
 grind
theorem TabOk.laid(t:TabOk K H)(hn:H D=none):TabOk K (upd H D o):=λa q P m=>by
 obtain⟨ps,e,p⟩:=t a q P m;exact⟨ps,by rw[q0g (q0p e hn)];exact e,p⟩
structure Cx.Ok(X:Cx):Prop where
 mod:Mod X.K X.mg X.base
 kind:X.env.scope.kind=.function
 glob:X.env.globals=mainGlobals
 blt:X.env.builtins=builtinsNs
 above:X.s₀.heap.objs.size<=X.env.locals
 inj:∀x y c,X.env.cells.lookup x=some c->X.env.cells.lookup y=some c->x=y
 has:∀x,(X.env.kindOf x=some .cell\/X.env.kindOf x=some .free)->∃c,X.env.cells.lookup x=some c
 cab:∀x c,X.fn x=true->X.env.cells.lookup x=some c->X.s₀.heap.objs.size<=c
 hd:X.calm=true->X.A.handled=none
 frames:X.A.frames=some X.stack
 stk:X.stack=X.outer\/(X.stack=X.env::X.outer/\X.env.frame=some X.env.locals)
 exf:∀b∈X.ex,b≠X.env.locals/\∀x c,X.env.cells.lookup x=some c->c≠b
 bs:∀b o,X.base.get? b=some o->X.s₀.heap.get? b=some o/\X.H₀ b=none
 bsz:X.base.objs.size<=X.s₀.heap.objs.size
 noex:∀b o,X.base.get? b=some o->b∉X.ex
 exfs:∀b∈X.ex,b∉X.fs
 funs:X.s₀.heap.FunFrames X.base X.outer
 frf:∀b∈X.fs,X.H₀ b=none
 tab:TabOk X.K X.H₀
structure Inv(X:Cx)(pins:List (Addr×Obj))(σ:List (Option V))(H:Hp)(s:Shared):Prop where
 ok:X.Ok
 os:s.os=X.s₀.os
 bare:AllBare s.gens
 base:Un X.fs X.ex X.H₀ H X.s₀.heap s.heap
 loc:∃m,s.heap.Ns X.env.locals m/\∀(i:Nat)(x:Str)(v:V),X.N[i]?=some x->σ[i]?=some (some v)->Vis X.env.scope x->∃u,RelV v u/\Look X.env s.heap m x u
 cell:∀x c,X.env.cells.lookup x=some c->∃v,s.heap.IsCell c v
 free:H X.env.locals=none
 freeC:∀x c,X.env.cells.lookup x=some c->H c=none
 pin:∀p∈X.pn++pins,s.heap.get? p.1=some p.2/\H p.1=none/\p.1≠X.env.locals/\p.1∉X.fs/\∀v,p.2.data≠.cell v
 hok:HOk X.prog X.w H s.heap
 len:σ.length=X.N.length
section
variable{σ:List (Option V)}
theorem Cx.Ok.nofr(ok:X.Ok)(e:X.base.get? b=some o):b∉X.fs:=λhb=>by
 have:=(ok.funs.mem hb).1
 grind
theorem Inv.bs(I:Inv X pins σ H s):∀b o,X.base.get? b=some o->s.heap.get? b=some o/\H b=none:=λb o e=>
 ⟨I.base.keep b o (I.ok.bs b o e).1 (I.ok.bs b o e).2 (I.ok.nofr e) (I.ok.noex b o e),I.base.free b o (I.ok.bs b o e).1 (I.ok.bs b o e).2 (I.ok.noex b o e)⟩
theorem Inv.bk(I:Inv X pins σ H s):∀b o,X.base.get? b=some o->s.heap.get? b=some o:=λb o e=>(I.bs b o e).1
theorem Inv.mod(I:Inv X pins σ H s):Mod X.K X.mg X.base:=I.ok.mod
theorem Inv.kIn(I:Inv X pins σ H s):X.K.In s.heap:=I.ok.mod.kin.keeps I.bk
theorem Inv.fr(I:Inv X pins σ H s):∃m,Fr X.base X.env.locals s.heap m:=
 let ⟨m,hn,_⟩:=I.loc
 ⟨m,hn,I.bk,w0s I.ok.bsz I.ok.above⟩
theorem Inv.lt(I:Inv X pins σ H s):X.env.locals<s.heap.objs.size:=let ⟨_,hn,_⟩:=I.loc;hn.lt
theorem Inv.sz(I:Inv X pins σ H s):X.s₀.heap.objs.size<=s.heap.objs.size:=w0s I.ok.above (w5e I.lt)
theorem Inv.nofs(I:Inv X pins σ H s)(h:s.heap.objs.size<=a):a∉X.fs:=λhb=>by
 obtain⟨_,o,ho,_⟩:=I.ok.funs.mem hb
 exact absurd (w0q (Heap.lt_size ho) (w0s I.sz h)) (w2g _)
theorem Inv.cne(I:Inv X pins σ H s):∀x c,X.env.cells.lookup x=some c->c≠X.env.locals:=λx c e z=>by
 obtain⟨v,o,ho,hd⟩:=I.cell x c e;obtain⟨m,⟨o',es,ep,ho',hd',_⟩,_⟩:=I.loc
 grind
theorem Inv.funs(I:Inv X pins σ H s):s.heap.FunFrames X.base X.outer:=by
 have all:∀(l:List Env),(∀b∈frs l,b∈X.fs)->X.s₀.heap.FunFrames X.base l->s.heap.FunFrames X.base l:=by
  intro l
  induction l with
  |nil=>intro _ _;trivial
  |cons env r ih=>
   intro hs hl;obtain⟨hk,⟨L,o,hf,hn,ho,hd⟩,hr⟩:=hl;have hL:L∈X.fs:=hs L (by grind [frs]);obtain⟨sl,e⟩:=I.base.slot L o ho (I.ok.frf L hL) hL λz=>I.ok.exfs L z hL
   exact⟨hk,⟨L,_,hf,hn,e,hd⟩,ih (λb hb=>hs b (by grind [frs])) hr⟩
 exact all X.outer (λ_ hb=>hb) I.ok.funs
theorem Inv.stack(I:Inv X pins σ H s):s.heap.FunFrames X.base X.stack:=by
 rcases I.ok.stk with e|⟨e,hf⟩
 ·rw[e];exact I.funs
 ·rw[e];obtain⟨m,hn,_⟩:=I.loc;refine .cons (by rw[I.ok.kind];decide) hf hn ?_ I.funs
  exact Heap.get?_none_of_le (w0s I.ok.bsz I.ok.above)
theorem Inv.stkSub(I:Inv X pins σ H s):∀b∈frs X.stack,b∈X.env.locals::X.fs:=λb hb=>by
 rcases I.ok.stk with e|⟨e,hf⟩
 all_goals grind [frs]
theorem Inv.stkFree(I:Inv X pins σ H s):∀b∈frs X.stack,H b=none:=λb hb=>by
 rcases w0d.mp (I.stkSub b hb)with e|hb
 ·rw[e];exact I.free
 ·obtain⟨_,o,ho,_⟩:=I.ok.funs.mem hb
  exact I.base.free b o ho (I.ok.frf b hb) λz=>I.ok.exfs b z hb
theorem Inv.step{g':Array GenState}{d':Drawn}{ch:List Addr}(I:Inv X pins σ H s)
  (hch:∀b∈ch,(b∈X.ex\/X.s₀.heap.objs.size<=b)/\b≠X.env.locals/\(∀x c,X.env.cells.lookup x=some c->c≠b)/\∀p∈X.pn++pins,p.1≠b)
  (keep:∀b o,b≠X.env.locals->b∉X.fs->b∉ch->s.heap.get? b=some o->H b=none->h'.get? b=some o)
  (slot:∀b o,b≠X.env.locals->b∈X.fs->b∉ch->s.heap.get? b=some o->H b=none->∃sl,h'.get? b=some {o with slots:=sl})(free:∀b o,b∉ch->s.heap.get? b=some o->H b=none->H' b=none)
  (there:∀b o,b∉ch->s.heap.get? b=some o->∃o',h'.get? b=some o')
  (tups:∀b xs,H b=some (.tup xs)->H' b=some (.tup xs))(frzs:∀b o u,H b=some (.frz o u)->H' b=some (.frz o u))(tbls:∀b ps,H b=some (.tbl ps)->∃more,H' b=some (.tbl (ps++more)))
  (ns:∀m,s.heap.Ns X.env.locals m->h'.Ns X.env.locals m)(hok:HOk X.prog X.w H' h')(hg:AllBare g'):
  Inv X pins σ H' {s with heap:=h',gens:=g',drawn:=d',toks:=t'}:=by
 have neL:∀b o,X.s₀.heap.get? b=some o->b≠X.env.locals:=λb o e=>w0t (w0q (Heap.lt_size e) I.ok.above)
 have neC:∀b o,X.s₀.heap.get? b=some o->b∉X.ex->b∉ch:=λb o e hx hb=>by
  rcases(hch b hb).1 with z|z
  ·exact hx z
  ·exact absurd (w0q (Heap.lt_size e) z) (w2g _)
 have cellK:∀x c,X.env.cells.lookup x=some c->∀v,s.heap.IsCell c v->h'.IsCell c v:=λx c e v ⟨o,ho,hd⟩=>by
  have nch:c∉ch:=λz=>(hch c z).2.2.1 x c e rfl
  by_cases hc:c∈X.fs
  ·obtain⟨sl,q⟩:=slot c o (I.cne x c e) hc nch ho (I.freeC x c e);exact⟨_,q,hd⟩
  ·exact⟨o,keep c o (I.cne x c e) hc nch ho (I.freeC x c e),hd⟩
 refine⟨I.ok,I.os,hg,⟨λb o e n hb hx=>?_,λb o e n hb hx=>?_,λb o e n hx=>?_,λb o e hx=>?_,λb xs e=>tups b xs (I.base.tups b xs e),λb o xs e=>frzs b o xs (I.base.frzs b o xs e),λb ps e=>?_⟩,?_,λx c e=>?_,?_,λx c e=>?_,λp hp=>?_,hok,I.len⟩
 ·exact keep b o (neL b o e) hb (neC b o e hx) (I.base.keep b o e n hb hx) (I.base.free b o e n hx)
 ·obtain⟨sl,e1⟩:=I.base.slot b o e n hb hx;obtain⟨sl',e2⟩:=slot b _ (neL b o e) hb (neC b o e hx) e1 (I.base.free b o e n hx);exact⟨sl',e2⟩
 ·obtain⟨o',e1⟩:=I.base.there b o e hx;exact free b o' (neC b o e hx) e1 (I.base.free b o e n hx)
 ·obtain⟨o',e1⟩:=I.base.there b o e hx
  grind
 ·obtain⟨m1,e1⟩:=I.base.tbls b ps e
  grind
 ·obtain⟨m,hn,hl⟩:=I.loc;refine⟨m,ns m hn,λi x v e1 e2 e3=>?_⟩
  obtain⟨u,r,l⟩:=hl i x v e1 e2 e3;refine⟨u,r,?_⟩;rcases l with l|⟨k,c,e,z⟩
  ·exact .inl l
  ·exact .inr ⟨k,c,e,cellK x c e _ z⟩
 ·obtain⟨v,z⟩:=I.cell x c e
  grind
 ·obtain⟨m,⟨o,_,_,ho,_⟩,_⟩:=I.loc
  grind [free]
 ·obtain⟨v,o,ho,hd⟩:=I.cell x c e;exact free c o (λz=>(hch c z).2.2.1 x c e rfl) ho (I.freeC x c e)
 ·obtain⟨e,n,ne,nf,d⟩:=I.pin p hp
  grind
theorem Inv.un(I:Inv X pins σ H s)(u:Un X.fs [] H H' s.heap h')(hok:HOk X.prog X.w H' h'):Inv X pins σ H' {s with heap:=h',toks:=t'}:=by
 obtain⟨m,⟨o,es,ep,ho,r⟩,_⟩:=id I.loc;obtain⟨sl,hL⟩:=u.any ho I.free (by simp)
 exact I.step (g':=s.gens) (d':=s.drawn) (ch:=[]) (λ_ z=>nomatch z) (λb o _ hb _ e n=>u.keep b o e n hb (by simp)) (λb o _ hb _ e n=>u.slot b o e n hb (by simp)) (λb o _ e n=>u.free b o e n (by simp)) (λb o _ e=>u.there b o e (by simp)) u.tups u.frzs u.tbls (λm' hm=>by
  obtain⟨o',es',ep',ho',r'⟩:=hm;rw[ho]at ho';cases ho';exact⟨_,es',ep',hL,r'⟩) hok I.bare
theorem Inv.call{g':Array GenState}{d':Drawn}(I:Inv X pins σ H s)(u:Un (frs X.stack) ch H H' s.heap h')(hok:HOk X.prog X.w H' h')(hg:AllBare g')
  (hch:∀b∈ch,(b∈X.ex\/X.s₀.heap.objs.size<=b)/\b≠X.env.locals/\(∀x c,X.env.cells.lookup x=some c->c≠b)/\∀p∈X.pn++pins,p.1≠b):
  Inv X pins σ H' {s with heap:=h',gens:=g',drawn:=d',toks:=t'}:=by
 obtain⟨m,⟨o,es,ep,ho,r⟩,_⟩:=id I.loc;obtain⟨sl,hL⟩:=u.any ho I.free λz=>(hch _ z).2.1 rfl
 exact I.step (ch:=ch) hch (λb o hL hb hc e n=>u.keep b o e n (λz=>(w0d.mp (I.stkSub b z)).elim hL hb) hc) (λb o _ _ hc e n=>u.any e n hc) (λb o hc e n=>u.free b o e n hc) (λb o hc e=>u.there b o e hc) u.tups u.frzs u.tbls (λm' hm=>by
  obtain⟨o',es',ep',ho',r'⟩:=hm;rw[ho]at ho';cases ho';exact⟨_,es',ep',hL,r'⟩) hok hg
theorem Inv.turned{t':Nat}{it:Addr}(I:Inv X pins σ H s)(k:∀b o,b≠it->s.heap.get? b=some o->h'.get? b=some o)(hn:H it=none)(hL:it≠X.env.locals)
  (h1:it∈X.ex\/X.s₀.heap.objs.size<=it)(h2:∀x c,X.env.cells.lookup x=some c->c≠it)(h3:∀p∈X.pn++pins,p.1≠it):Inv X pins σ H {s with heap:=h',toks:=t'}:=by
 have nit:∀b u,H b=some u->b≠it:=λb u e z=>by rw[z,hn]at e;cases e
 refine I.step (g':=s.gens) (d':=s.drawn) (ch:=[it]) (λb hb=>?_) (λb o _ _ hc e _=>k b o (λz=>hc (by simp[z])) e) (λb o _ _ hc e _=>⟨o.slots,k b o (λz=>hc (by simp[z])) e⟩) (λ_ _ _ _ n=>n)
  (λb o hc e=>⟨o,k b o (λz=>hc (by simp[z])) e⟩) (λ_ _ e=>e) (λ_ _ _ e=>e) (λb ps e=>⟨#[],by rw[e];simp⟩) (λm hm=>?_) (λb u e=>?_) I.bare
 ·grind
 ·obtain⟨o,es,ep,ho,r⟩:=hm;exact⟨o,es,ep,k _ o (Ne.symm hL) ho,r⟩
 ·refine(I.hok b u e).stay (λc v hc q=>k c v ?_ q) (λ_ q=>q) λ_ _ _ q=>q
  grind
theorem Inv.tok(I:Inv X pins σ H s)(t:Nat):Inv X pins σ H {s with toks:=t}:=I.un (h':=s.heap) (t':=t) Un.refl I.hok
theorem Inv.kept{t':Nat}(I:Inv X pins σ H s)(k:∀b u,s.heap.get? b=some u->h'.get? b=some u):Inv X pins σ H {s with heap:=h',toks:=t'}:=I.un (Un.kept k) (I.hok.kept k)
theorem Inv.laid{a:Addr}{o:HO}{t':Nat}(I:Inv X pins σ H s)(k:∀b u,s.heap.get? b=some u->h'.get? b=some u)(hp:s.heap.objs.size<=a)(new:ObjOk X.prog X.w (upd H a o) h' a o):
  Inv X pins σ (upd H a o) {s with heap:=h',toks:=t'}:=I.un (Un.laid k hp (I.hok.fresh hp)) (I.hok.laid k hp new)
theorem Inv.write{x e:Addr}{o:HO}(I:Inv X pins σ H s)(mu:Mut (H x))(he:e=x\/H e=some (.own x))(k:∀b u,b≠e->s.heap.get? b=some u->h'.get? b=some u)(heo:∃u,h'.get? e=some u)
  (new:ObjOk X.prog X.w (upd H x o) h' x o):Inv X pins σ (upd H x o) {s with heap:=h',toks:=t'}:=I.un (Un.write mu he k heo) (I.hok.write mu he k heo new)
theorem Inv.weak{σ':List (Option V)}(I:Inv X pins σ H s)(hl:σ'.length=σ.length)(w:∀(i:Nat) v,σ'[i]?=some (some v)->σ[i]?=some (some v)):Inv X pins σ' H s:=
 ⟨I.ok,I.os,I.bare,I.base,let ⟨m,hn,hl'⟩:=I.loc;⟨m,hn,λi x v e1 e2 e3=>hl' i x v e1 (w i v e2) e3⟩,I.cell,I.free,I.freeC,I.pin,I.hok,hl.trans I.len⟩
theorem Inv.pins_of{pins':List (Addr×Obj)}(I:Inv X pins σ H s)(h:∀p∈pins',s.heap.get? p.1=some p.2/\H p.1=none/\p.1≠X.env.locals/\p.1∉X.fs/\∀v,p.2.data≠.cell v):Inv X pins' σ H s:=
 ⟨I.ok,I.os,I.bare,I.base,I.loc,I.cell,I.free,I.freeC,λp hp=>(w1f.mp hp).elim (λz=>I.pin p (w0p _ z)) (h p),I.hok,I.len⟩
theorem x5j(hN:N.Nodup){j:Nat}(a:N[i]?=some x)(b:N[j]?=some x):i=j:=by
 obtain⟨h1,e1⟩:=w0m.mp a;obtain⟨h2,e2⟩:=w0m.mp b;exact(List.getElem_inj hN).mp (e1.trans e2.symm)
theorem y0n{M:Model}{Q:Unit->Shared->Prop}(I:Inv X pins σ H s)(hN:X.N.Nodup)(hi:X.N[i]?=some x)(hx:Loc X.env.scope x)(r:RelV v u)
  (h:∀s',Inv X pins (σ.set i (some v)) H s'->(∃a,Heap.SameBut a s.heap s'.heap/\(a=X.env.locals\/X.env.cells.lookup x=some a))->Q () s')(hf:X.fn x=true\/X.env.scope.names.lookup x=some .local:=by walk_at "2"):wpAny M A (storeName X.env x u) Q E s:=by
 obtain⟨m,hn,hl⟩:=id I.loc;have hcls:(X.env.scope.kind==.class||(X.env.scope.kind==.module&&X.env.locals != X.env.globals))=false:=by rw[I.ok.kind];rfl
 have hiσ:i<σ.length:=by grind [Inv.len]
 have cne:=I.cne
 have tracked:∀{a:Addr}{h':Heap},(∃o,s.heap.get? a=some o/\H a=none)->Heap.SameBut a s.heap h'->HOk X.prog X.w H h':=λ{a h'} ha hs b ob e=>by
  obtain⟨_,_,hfree⟩:=ha;refine(I.hok b ob e).stay (λc w' hc q=>(hs.2 c ?_).trans q) (λ_ q=>q) λ_ _ _ q=>q
  grind
 rcases hx with hk|hk
 ·refine wpAny_storeName_local hk hn (λh' hn' hs=>?_) hcls
  obtain⟨oL,_,_,hoL,_⟩:=id hn;refine h _ ⟨I.ok,I.os,I.bare,⟨λb o e n hb hx=>?_,λb o e n hb hx=>?_,I.base.free,λb o e hx=>?_,I.base.tups,I.base.frzs,I.base.tbls⟩,⟨_,hn',λj y v' e1 e2 e3=>?_⟩,λy c e=>?_,I.free,I.freeC,λp hp=>?_,tracked ⟨oL,hoL,I.free⟩ hs,by simpa using I.len⟩ ⟨_,hs,.inl rfl⟩
  ·exact(hs.2 b (w0t (w0q (Heap.lt_size e) I.ok.above))).trans (I.base.keep b o e n hb hx)
  ·obtain⟨sl,e1⟩:=I.base.slot b o e n hb hx;exact⟨sl,(hs.2 b (w0t (w0q (Heap.lt_size e) I.ok.above))).trans e1⟩
  ·obtain⟨o',e1⟩:=I.base.there b o e hx;exact⟨o',(hs.2 b (w0t (w0q (Heap.lt_size e) I.ok.above))).trans e1⟩
  ·by_cases hj:j=i
   ·subst hj;rw[hi]at e1;cases e1;rw[w0n hiσ]at e2;cases e2;exact⟨u,r,.inl ⟨hk,by simp⟩⟩
   ·rw[w0f (Ne.symm hj)]at e2;obtain⟨u',r',q⟩:=hl j y v' e1 e2 e3;refine⟨u',r',?_⟩;rcases q with⟨k,e⟩|⟨k,c,e,z⟩
    ·refine .inl ⟨k,?_⟩
     grind [x5j]
    ·exact .inr ⟨k,c,e,z.sameBut hs (cne y c e)⟩
  ·obtain⟨w',z⟩:=I.cell y c e;exact⟨w',z.sameBut hs (cne y c e)⟩
  ·obtain⟨e,n,ne,nf,d⟩:=I.pin p hp;exact⟨(hs.2 p.1 ne).trans e,n,ne,nf,d⟩
 ·have hfn:X.fn x=true:=by
   grind
  obtain⟨c,hc⟩:=I.ok.has x (.inl hk);obtain⟨w',z⟩:=I.cell x c hc;refine wpAny_storeName_cell I.ok.kind hk hc z (λh' hc' hs=>?_)
  obtain⟨oc,hoc,hocd⟩:=id z;refine h {s with heap:=h'} ⟨I.ok,I.os,I.bare,⟨λb o e n hb hx=>?_,λb o e n hb hx=>?_,I.base.free,λb o e hx=>?_,I.base.tups,I.base.frzs,I.base.tbls⟩,⟨m,hn.sameBut hs (Ne.symm (cne x c hc)),λj y v' e1 e2 e3=>?_⟩,λy c' e=>?_,I.free,I.freeC,λp hp=>?_,tracked ⟨oc,hoc,I.freeC x c hc⟩ hs,by simpa using I.len⟩ ⟨c,hs,.inr hc⟩
  ·exact(hs.2 b (w0t (w0q (Heap.lt_size e) (I.ok.cab x c hfn hc)))).trans (I.base.keep b o e n hb hx)
  ·obtain⟨sl,e1⟩:=I.base.slot b o e n hb hx;exact⟨sl,(hs.2 b (w0t (w0q (Heap.lt_size e) (I.ok.cab x c hfn hc)))).trans e1⟩
  ·obtain⟨o',e1⟩:=I.base.there b o e hx;exact⟨o',(hs.2 b (w0t (w0q (Heap.lt_size e) (I.ok.cab x c hfn hc)))).trans e1⟩
  ·by_cases hj:j=i
   ·subst hj;rw[hi]at e1;cases e1;rw[w0n hiσ]at e2;cases e2;exact⟨u,r,.inr ⟨.inl hk,c,hc,hc'⟩⟩
   ·rw[w0f (Ne.symm hj)]at e2;obtain⟨u',r',q⟩:=hl j y v' e1 e2 e3;refine⟨u',r',?_⟩;rcases q with q|⟨k,c',e,z'⟩
    ·exact .inl q
    ·refine .inr ⟨k,c',e,z'.sameBut hs ?_⟩;rintro rfl;exact hj (x5j hN e1 (I.ok.inj _ _ _ e hc ▸ hi))
  ·by_cases hcc:c'=c
   ·grind
   ·obtain⟨w2,z2⟩:=I.cell y c' e;exact⟨w2,z2.sameBut hs hcc⟩
  ·obtain⟨e,n,ne,nf,d⟩:=I.pin p hp;refine⟨(hs.2 p.1 ?_).trans e,n,ne,nf,d⟩
   grind
theorem x1a{M:Model}{Q:Unit->Shared->Prop}(I:Inv X pins σ H s)(hN:X.N.Nodup)(hi:X.N[i]?=some x)(hx:Loc X.env.scope x)(r:RelV v u)
  (h:∀s',Inv X pins (σ.set i (some v)) H s'->Q () s')(hf:X.fn x=true\/X.env.scope.names.lookup x=some .local:=by walk_at "2"):wpAny M A (storeName X.env x u) Q E s:=
 y0n I hN hi hx r (λs' I' _=>h s' I') hf
theorem Inv.call'{s':Shared}{ch:List Addr}(I:Inv X pins σ H s)(ho:s'.os=s.os)(u:Un (frs X.stack) ch H H' s.heap s'.heap)(hok:HOk X.prog X.w H' s'.heap)(hg:AllBare s'.gens)
  (hch:∀b∈ch,(b∈X.ex\/X.s₀.heap.objs.size<=b)/\b≠X.env.locals/\(∀x c,X.env.cells.lookup x=some c->c≠b)/\∀p∈X.pn++pins,p.1≠b):Inv X pins σ H' s':=by
 obtain⟨h',g',d',t',o'⟩:=s';have e:o'=s.os:=ho;subst e;exact I.call (g':=g') (t':=t') (d':=d') u hok hg hch
end
abbrev XK:=Value->Option Addr->Hp->Prop
noncomputable abbrev St:=List (Option V)
variable{σ:St}
abbrev VK:=V->Hp->Prop
abbrev TE:=St->Hp->VK->Prop
variable{ta te:TE}
abbrev TT:=St->Hp->(Bool->Hp->Prop)->Prop
abbrev TA:=St->Hp->(List V->Hp->Prop)->Prop
variable{t:TA}
structure Ends where
 nx:St->Hp->Prop
 rt:VK
 bk:St->Hp->Prop:=λ_ _=>False
 ct:St->Hp->Prop:=λ_ _=>False
abbrev TS:=Ends->St->Hp->Prop
variable{tb:TS}
noncomputable def EP(X:Cx)(pins:List (Addr×Obj))(σ:St)(Q:VK)(u:Value)(s':Shared):Prop:=∃v H',Inv X pins σ H' s'/\RelV v u/\Q v H'
noncomputable def TP(X:Cx)(pins:List (Addr×Obj))(σ:St)(Q:Bool->Hp->Prop)(b:Bool)(s':Shared):Prop:=∃H',Inv X pins σ H' s'/\Q b H'
noncomputable def AP(X:Cx)(pins:List (Addr×Obj))(σ:St)(Q:List V->Hp->Prop)(us:List Value)(s':Shared):Prop:=∃vs H',Inv X pins σ H' s'/\Vals vs us/\Q vs H'
noncomputable def SP(X:Cx)(pins:List (Addr×Obj))(D:Ends)(f:Flow)(s':Shared):Prop:=
 match f with
 |.next=>∃σ' H',Inv X pins σ' H' s'/\D.nx σ' H'
 |.brk=>∃σ' H',Inv X pins σ' H' s'/\D.bk σ' H'
 |.cont=>∃σ' H',Inv X pins σ' H' s'/\D.ct σ' H'
 |.ret u=>∃v σ' H',Inv X pins σ' H' s'/\RelV v u/\D.rt v H'
noncomputable def PE(X:Cx)(e:Expr)(t:TE):Prop:=
 ∀(pins:List (Addr×Obj))(s:Shared)(σ:St)(H:Hp)(Q:VK),Inv X pins σ H s->t σ H Q->wpAny (model X.prog X.w) X.A (eval e X.env) (EP X pins σ Q) X.xe s
noncomputable def PT(X:Cx)(e:Expr)(t:TT):Prop:=
 ∀(pins:List (Addr×Obj))(s:Shared)(σ:St)(H:Hp)(Q:Bool->Hp->Prop),Inv X pins σ H s->t σ H Q->wpAny (model X.prog X.w) X.A (isTrue e X.env (eval e X.env)) (TP X pins σ Q) X.xe s
noncomputable def PW(X:Cx)(e:Expr)(t:TT):Prop:=
 ∀(whole:Sem Value)(pins:List (Addr×Obj))(s:Shared)(σ:St)(H:Hp)(Q:Bool->Hp->Prop),Inv X pins σ H s->t σ H Q->wpAny (model X.prog X.w) X.A (isTrue e X.env whole) (TP X pins σ Q) X.xe s
theorem PW.pt{t:TT}(h:PW X e t):PT X e t:=h _
noncomputable def PA(X:Cx)(es:List Expr)(t:TA):Prop:=
 ∀(pos:Pos)(pins:List (Addr×Obj))(s:Shared)(σ:St)(H:Hp)(Q:List V->Hp->Prop),Inv X pins σ H s->t σ H Q->wpAny (model X.prog X.w) X.A (spliced (backTo pos (starEach es X.env))) (AP X pins σ Q) X.xe s
noncomputable def PS(X:Cx)(st:Stmt)(t:TS):Prop:=
 ∀(pins:List (Addr×Obj))(s:Shared)(σ:St)(H:Hp)(D:Ends),Inv X pins σ H s->t D σ H->wpAny (model X.prog X.w) X.A (exec st X.env) (SP X pins D) X.xe s
noncomputable def PSs(X:Cx)(st:List Stmt)(t:TS):Prop:=
 ∀(pins:List (Addr×Obj))(s:Shared)(σ:St)(H:Hp)(D:Ends),Inv X pins σ H s->t D σ H->wpAny (model X.prog X.w) X.A (execs st X.env) (SP X pins D) X.xe s
theorem thn{α:Type}{t:Sem α}{Q Q':α->Shared->Prop}{M:Model}(h:wpAny M A t Q E s)(hQ:∀a s,Q a s->Q' a s):wpAny M A t Q' E s:=wpAny_mono h hQ λ_ _ x=>x
section
noncomputable def tVar(i:Nat):TE:=λσ H Q=>∃v,σ[i]?=some (some v)/\Q v H
noncomputable def tC(v:V):TE:=λ_ H Q=>Q v H
theorem z2l(hN:X.N[i]?=some x)(hv:Vis X.env.scope x)(hd:(x==("__debug__":Str))=false:=by decide)(hcd:(x==("__classdict__":Str))=false:=by decide):PE X (.Name x pos) (tVar i):=by
 intro pins s σ H Q I h;obtain⟨v,e,h⟩:=h;obtain⟨m,hn,hl⟩:=I.loc;obtain⟨u,r,l⟩:=hl i x v hN e hv;have fin:EP X pins σ Q u s:=⟨v,H,I,r,h⟩;rcases l with⟨hk,hm⟩|⟨hk,c,hc,hcell⟩
 ·exact wpAny_Name (wpAny_loadName_local I.ok.kind hk hn hm fin) hd
 ·rcases hk with hk|hk
  ·exact wpAny_Name (wpAny_loadName_cell I.ok.kind hk hc hcell fin) hd
  ·exact wpAny_Name (wpAny_loadName_free I.ok.kind hk hc hcell fin hcd) hd
theorem z2m{i j pos}:PE X (.Constant (.int i) j pos) (tC (.int i)):=λ_ _ _ H _ I h=>wpAny_Constant_int ⟨.int i,H,I.tok _,⟨_,rfl⟩,h⟩
theorem z64{b j pos}:PE X (.Constant (.bool b) j pos) (tC (.bl b)):=λ_ _ _ H _ I h=>Constant_bool ⟨.bl b,H,I,rfl,h⟩
theorem z2n{j pos}:PE X (.Constant .none j pos) (tC .non):=λ_ _ _ H _ I h=>Constant_none ⟨.non,H,I,rfl,h⟩
theorem y0o{x j pos}:PE X (.Constant (.str x) j pos) (tC (.str x)):=λ_ _ _ H _ I h=>Calls.Constant_str ⟨.str x,H,I.tok _,⟨_,rfl⟩,h⟩
noncomputable def Gl(X:Cx)(x:Str):Prop:=X.env.kindOf x=some .globalImplicit
theorem q92{Q:Value->Shared->Prop}(I:Inv X pins σ H s)(hg:Gl X x)(hm:X.mg x=some u)(h:Q u s)
  (hd:(x==("__debug__":Str))=false:=by decide):wpAny (model X.prog X.w) X.A (eval (.Name x pos) X.env) Q E s:=
 Calls.Name_function_global I.ok.kind hg (Calls.loadGlobal_global (by rw[I.ok.glob];exact I.mod.glob.keeps I.bk) hm h) hd
theorem q3y{Q:Value->Shared->Prop}(I:Inv X pins σ H s)(hg:Gl X x)(hm:X.mg x=none)(hv:bootBuiltins x=some u)(h:Q u s)
  (hn:x≠"__name__":=by decide)(hd:(x==("__debug__":Str))=false:=by decide):wpAny (model X.prog X.w) X.A (eval (.Name x pos) X.env) Q E s:=by
 obtain⟨mb,h1,h2⟩:=I.mod.blt;exact Calls.Name_function_global I.ok.kind hg (Calls.loadGlobal_builtin (by rw[I.ok.glob];exact I.mod.glob.keeps I.bk) hm (by rw[I.ok.blt];exact h1.keeps I.bk) ((h2 x hn).trans hv) h) hd
theorem q7r{v:V}(hg:Gl X x)(hm:X.mg x=some u)(r:RelV v u)(hd:(x==("__debug__":Str))=false:=by decide):PE X (.Name x pos) (tC v):=
 λ_ _ _ H _ I h=>q92 I hg hm ⟨v,H,I,r,h⟩ hd
theorem y7r{v:V}(hg:Gl X x)(hm:X.mg x=none)(hv:bootBuiltins x=some u)(r:RelV v u)(hn:x≠"__name__":=by decide)(hd:(x==("__debug__":Str))=false:=by decide):PE X (.Name x pos) (tC v):=
 λ_ _ _ H _ I h=>q3y I hg hm hv ⟨v,H,I,r,h⟩ hn hd
variable{a b:Expr}{tb:TE}
noncomputable def PC(X:Cx)(op:CmpOp)(a b:Expr)(t:TE):Prop:=
 ∀(pins:List (Addr×Obj))(s:Shared)(σ:St)(H:Hp)(Q:VK),Inv X pins σ H s->t σ H Q ->
  wpAny (model X.prog X.w) X.A (eval a X.env) (λv s₁=>wpAny (model X.prog X.w) X.A (eval b X.env) (λu s₂=>wpAny (model X.prog X.w) X.A (compareOp op v u) (EP X pins σ Q) X.xe s₂) X.xe s₁) X.xe s
theorem nobehind(b:Expr)(h:op≠.In)(h2:op≠.NotIn):behindInMarks op b=false:=by
 have e1:(op==CmpOp.In)=false:=by grind
 have e2:(op==CmpOp.NotIn)=false:=by grind
 cases b<;>simp[behindInMarks,e1,e2]
noncomputable def tB(t:TE):TT:=λσ H Q=>t σ H λx H1=>∃c,x=.bl c/\Q c H1
theorem z2o{t:TE}(h:PC X op a b t)(h1:behindInMarks op b=false:=by first|exact nobehind _ (by decide) (by decide)|rfl):PE X (.Compare a [op] [b] pos) t:=λpins s σ H Q I hw=>wpAny_Compare1 (h pins s σ H Q I hw) h1
theorem z2p{t:TE}(h:PC X op a b t)(h1:behindInMarks op b=false:=by first|exact nobehind _ (by decide) (by decide)|rfl):PT X (.Compare a [op] [b] pos) (tB t):=by
 intro pins s σ H Q I hw;refine wpAny_isTrue_Compare1 (thn (h pins s σ H _ I hw) λv s1 h1=>thn h1 λu s2 h2=>thn h2 λc s3 ⟨x,H1,I1,r1,q1⟩=>?_) h1
 obtain⟨d,rfl,q⟩:=q1;cases r1;exact wpAny_truthy_bool ⟨H1,I1,q⟩
variable{tA tB':TT}{rest:List Expr}
noncomputable def tAnd(t u:TT):TT:=λσ H Q=>t σ H λc H1=>if c=true then u σ H1 Q else Q false H1
noncomputable def tOr(t u:TT):TT:=λσ H Q=>t σ H λc H1=>if c=true then Q true H1 else u σ H1 Q
noncomputable def tNot(t:TT):TT:=λσ H Q=>t σ H λc H1=>Q (!c) H1
theorem y7s(ha:PT X a tA):PW X (.BoolOp .And [a] pos) tA:=by
 intro wh pins s σ H Q I h;refine isTrue_and (thn (ha pins s σ H Q I h) λc s1 e=>?_)
 grind [isTrue_and_nil]
theorem z2q(ha:PT X a tA):PW X (.BoolOp .Or [a] pos) tA:=by
 intro wh pins s σ H Q I h;refine isTrue_or (thn (ha pins s σ H Q I h) λc s1 e=>?_)
 grind [isTrue_or_nil]
theorem z2r(ha:PT X a tA)(hb:PW X (.BoolOp .And (b::rest) pos) tB'):PW X (.BoolOp .And (a::b::rest) pos) (tAnd tA tB'):=by
 intro wh pins s σ H Q I h;refine isTrue_and (thn (ha pins s σ H _ I h) λc s1 ⟨H1,I1,q1⟩=>?_)
 cases c with
 |true=>exact hb wh pins s1 σ H1 Q I1 q1
 |false=>exact⟨H1,I1,q1⟩
theorem z65(ha:PT X a tA)(hb:PW X (.BoolOp .Or (b::rest) pos) tB'):PW X (.BoolOp .Or (a::b::rest) pos) (tOr tA tB'):=by
 intro wh pins s σ H Q I h;refine isTrue_or (thn (ha pins s σ H _ I h) λc s1 ⟨H1,I1,q1⟩=>?_)
 cases c with
 |true=>exact⟨H1,I1,q1⟩
 |false=>exact hb wh pins s1 σ H1 Q I1 q1
theorem z2s(ha:PT X a tA):PT X (.UnaryOp .Not a pos) (tNot tA):=by
 intro pins s σ H Q I h;exact isTrue_not (ha pins s σ H (λc H1=>Q (!c) H1) I h)
noncomputable def tAndV(ta tb:TE):TE:=λσ H Q=>ta σ H λx H1=>∃c,x=.bl c/\if c=true then tb σ H1 Q else Q (.bl false) H1
noncomputable def tOrV(ta tb:TE):TE:=λσ H Q=>ta σ H λx H1=>∃c,x=.bl c/\if c=true then Q (.bl true) H1 else tb σ H1 Q
theorem z2t{op}{t:TE}(h:PE X a t):PE X (.BoolOp op [a] pos) t:=λpins s σ H Q I hw=>BoolOp_one (h pins s σ H Q I hw)
theorem z2u(ha:PE X a ta)(hb:PE X (.BoolOp .And (b::rest) pos) tb):PE X (.BoolOp .And (a::b::rest) pos) (tAndV ta tb):=by
 intro pins s σ H Q I h;refine BoolOp_and (thn (ha pins s σ H _ I h) λv s1 ⟨x,H1,I1,r1,q1⟩=>?_)
 obtain⟨c,rfl,q1⟩:=q1;cases r1;refine wpAny_truthy_bool ?_;cases c with
 |true=>exact hb pins s1 σ H1 Q I1 q1
 |false=>exact⟨.bl false,H1,I1,rfl,q1⟩
theorem z66(ha:PE X a ta)(hb:PE X (.BoolOp .Or (b::rest) pos) tb):PE X (.BoolOp .Or (a::b::rest) pos) (tOrV ta tb):=by
 intro pins s σ H Q I h;refine BoolOp_or (thn (ha pins s σ H _ I h) λv s1 ⟨x,H1,I1,r1,q1⟩=>?_)
 obtain⟨c,rfl,q1⟩:=q1;cases r1;refine wpAny_truthy_bool ?_;cases c with
 |false=>exact hb pins s1 σ H1 Q I1 q1
 |true=>exact⟨.bl true,H1,I1,rfl,q1⟩
noncomputable def tIf(t:TT)(ta tb:TE):TE:=λσ H Q=>t σ H λc H1=>if c=true then ta σ H1 Q else tb σ H1 Q
theorem y34(hc:PT X c tA)(ha:PE X a ta)(hb:PE X b tb):PE X (.IfExp c a b pos) (tIf tA ta tb):=by
 intro pins s σ H Q I h;refine wpAny_IfExp (thn (hc pins s σ H _ I h) λd s1 ⟨H1,I1,q1⟩=>?_)
 cases d with
 |true=>exact ha pins s1 σ H1 Q I1 q1
 |false=>exact hb pins s1 σ H1 Q I1 q1
end
noncomputable def SqL(K:PySem.W.Frag)(H:Hp)(a:Addr)(xs:List V):Prop:=
 Rd H a (.lst xs) \/
  ∃(o:Obj)(its:Array Value)(n:Nat),K.lookup a=some o/\o.cls=.type "list" /\ o.dict=none/\o.data=.seq its n/\its.size<=sizeLine/\Vals xs its.toList
noncomputable def SqT(K:PySem.W.Frag)(H:Hp)(a:Addr)(xs:List V):Prop:=
 Rd H a (.tup xs) \/
  ∃(o:Obj)(its:Array Value)(n:Nat),K.lookup a=some o/\o.cls=.type "tuple" /\ o.dict=none/\o.data=.seq its n/\its.size<=sizeLine/\Vals xs its.toList
noncomputable def absV:Value->Option V
 |.none=>some .non
 |.bool b=>some (.bl b)
 |.int i _=>some (.int i)
 |.str x _=>some (.str x)
 |.bytes b _=>some (.byt b)
 |.float b _=>some (.flt b)
 |.ref a=>some (.ref a)
 |.type n=>some (.ty n)
 |_=>none
theorem RelV.abs{x:V}(r:RelV x u):absV u=some x:=by
 cases x with
 |non=>cases r;rfl
 |bl _=>cases r;rfl
 |int _=>obtain⟨t,rfl⟩:=r;rfl
 |str _=>obtain⟨t,rfl⟩:=r;rfl
 |byt _=>obtain⟨t,rfl⟩:=r;rfl
 |flt _=>obtain⟨t,rfl⟩:=r;rfl
 |ref _=>cases r;rfl
 |ty _=>cases r;rfl
theorem RelV.inj{x y:V}(r:RelV x u)(q:RelV y u):x=y:=Option.some.inj (r.abs.symm.trans q.abs)
theorem Vals.inj:∀{xs ys:List V}{us:List Value},Vals xs us->Vals ys us->xs=ys
 |_,_,_,.nil,.nil=>rfl
 |_,_,_,.cons r t,.cons r' t'=>by rw[r.inj r',Vals.inj t t']
section
variable{ys:List V}
theorem SqL.of(h:H a=some (.lst xs)):SqL K H a xs:=.inl (.inl h)
theorem SqT.of(h:H a=some (.tup xs)):SqT K H a xs:=.inl (.inl h)
theorem Inv.list(I:Inv X pins σ H s)(h:SqL X.K H a xs):∃its:List Value,Vals xs its/\PlainL s.heap a its.toArray/\xs.length<=sizeLine:=by
 rcases h with h|⟨o,its,n,hk,hc,hd,hs,hz,r⟩
 ·obtain⟨z,its,n,r,e⟩:=h.ok I.hok;exact⟨its,r,⟨_,n,e,rfl,rfl,rfl⟩,z⟩
 ·refine⟨its.toList,r,⟨o,n,I.kIn a o hk,hc,hd,by simpa using hs⟩,?_⟩
  grind [Vals.length,Array.length_toList]
theorem Inv.tuple(I:Inv X pins σ H s)(h:SqT X.K H a xs):∃its:List Value,Vals xs its/\IsTup s.heap a its.toArray/\xs.length<=sizeLine:=by
 rcases h with h|⟨o,its,n,hk,hc,_,hs,hz,r⟩
 ·obtain⟨z,its,r,p,_⟩:=h.ok I.hok;exact⟨its,r,p,z⟩
 ·refine⟨its.toList,r,⟨o,I.kIn a o hk,hc,n,by simpa using hs⟩,?_⟩
  grind [Vals.length,Array.length_toList]
theorem Inv.list_inj(I:Inv X pins σ H s)(h:SqL X.K H a xs)(h':SqL X.K H a ys):xs=ys:=by
 obtain⟨its,r,⟨o,n,e,_,_,d⟩,_⟩:=I.list h;obtain⟨its',r',⟨o',n',e',_,_,d'⟩,_⟩:=I.list h';rw[e]at e';cases e';rw[d]at d';injection d' with d1 _
 have:its=its':=by grind
 subst this;exact r.inj r'
theorem Inv.tuple_inj(I:Inv X pins σ H s)(h:SqT X.K H a xs)(h':SqT X.K H a ys):xs=ys:=by
 obtain⟨its,r,⟨o,e,_,n,d⟩,_⟩:=I.tuple h;obtain⟨its',r',⟨o',e',_,n',d'⟩,_⟩:=I.tuple h';rw[e]at e';cases e';rw[d]at d';injection d' with d1 _
 have:its=its':=by grind
 subst this;exact r.inj r'
end
section
variable{st:Stmt}{rest:List Stmt}{t u:TS}
noncomputable def tNext:TS:=λD σ H=>D.nx σ H
noncomputable def tSeq(t u:TS):TS:=λD σ H=>t {D with nx:=u D} σ H
theorem y7t:PSs X [] tNext:=λ_ _ σ H _ I h=>wpAny_execs_nil ⟨σ,H,I,h⟩
theorem y35(h1:PS X st t)(h2:PSs X rest u):PSs X (st::rest) (tSeq t u):=by
 intro pins s σ H D I h;refine wpAny_execs_cons (thn (h1 pins s σ H {D with nx:=u D} I h) λf s1 q=>?_)
 cases f with
 |next=>
  obtain⟨σ',H',I',q⟩:=q;exact h2 pins s1 σ' H' D I' q
 |ret v=>exact q
 |brk=>exact q
 |cont=>exact q
theorem y7u(h1:PS X st t):PSs X [st] t:=by
 intro pins s σ H D I h;refine wpAny_execs_cons (thn (h1 pins s σ H D I h) λf s1 q=>?_)
 grind [wpAny_execs_nil]
theorem Inv.quiet(I:Inv X pins σ H s):interactive X.env=false:=by simp[interactive,I.ok.kind]
noncomputable def tDrop(te:TE):TS:=λD σ H=>te σ H λ_ H1=>D.nx σ H1
theorem q7s(he:PE X e te)(hs:swapsWith e none pos.line X.env=pure false:=by rfl):PS X (.Expr e pos) (tDrop te):=by
 intro pins s σ H D I h;exact wpAny_Expr_any (thn (he pins s σ H _ I h) λv s1 ⟨x,H1,I1,r1,q1⟩=>⟨σ,H1,I1,q1⟩) I.quiet hs
noncomputable def tRet(te:TE):TS:=λD σ H=>te σ H D.rt
theorem q8x(he:PE X e te):PS X (.Return (some e) pos) (tRet te):=by
 intro pins s σ H D I h;exact wpAny_Return_some (thn (he pins s σ H _ I h) λv s1 ⟨x,H1,I1,r1,q1⟩=>⟨x,σ,H1,I1,r1,q1⟩)
noncomputable def tIfS(c:TT)(t u:TS):TS:=λD σ H=>c σ H λb H1=>if b=true then t D σ H1 else u D σ H1
theorem z67{a b:List Stmt}{tc:TT}(hc:PT X c tc)(ha:PSs X a t)(hb:PSs X b u):PS X (.If c a b pos) (tIfS tc t u):=by
 intro pins s σ H D I h;refine wpAny_If (thn (hc pins s σ H _ I h) λd s1 ⟨H1,I1,q1⟩=>?_)
 cases d with
 |true=>exact ha pins s1 σ H1 D I1 q1
 |false=>exact hb pins s1 σ H1 D I1 q1
end
abbrev TG:=V->St->Hp->(St->Hp->Prop)->Prop
abbrev TGs:=List V->St->Hp->(St->Hp->Prop)->Prop
noncomputable def PG(X:Cx)(target:Expr)(t:TG):Prop:=
 ∀(pins:List (Addr×Obj))(s:Shared)(σ:St)(H:Hp)(v:V)(u:Value)(Q:St->Hp->Prop),Inv X pins σ H s->RelV v u->t v σ H Q ->
  wpAny (model X.prog X.w) X.A (assign target X.env u) (λ_ s'=>∃σ' H',Inv X pins σ' H' s'/\Q σ' H') X.xe s
noncomputable def PGs(X:Cx)(ts:List Expr)(t:TGs):Prop:=
 ∀(pins:List (Addr×Obj))(s:Shared)(σ:St)(H:Hp)(vs:List V)(us:List Value)(Q:St->Hp->Prop),Inv X pins σ H s->Vals vs us->t vs σ H Q ->
  wpAny (model X.prog X.w) X.A (assignInOrder ((assignEach ts X.env).map (·.2)) us) (λ_ s'=>∃σ' H',Inv X pins σ' H' s'/\Q σ' H') X.xe s
abbrev TSet:=V->V->V->Hp->(Hp->Prop)->Prop
noncomputable def PSet(X:Cx)(t:TSet):Prop:=
 ∀(pins:List (Addr×Obj))(s:Shared)(σ:St)(H:Hp)(o i v:V)(ov iv u:Value)(Q:Hp->Prop),Inv X pins σ H s->RelV o ov->RelV i iv->RelV v u->t o i v H Q ->
  wpAny (model X.prog X.w) X.A (setItem ov iv u) (λ_ s'=>∃H',Inv X pins σ H' s'/\Q H') X.xe s
noncomputable def gName(i:Nat):TG:=λv σ H Q=>Q (σ.set i (some v)) H
theorem y7v(hN:X.N.Nodup)(hi:X.N[i]?=some x)(hx:Loc X.env.scope x)(hf:X.fn x=true\/X.env.scope.names.lookup x=some .local:=by walk_at "2"):PG X (.Name x pos) (gName i):=by
 intro pins s σ H v u Q I r h;exact wpAny_assign_Name (x1a I hN hi hx r (λs' I'=>⟨_,H,I',h⟩) hf)
noncomputable def gNil:TGs:=λvs σ H Q=>vs=[]/\Q σ H
noncomputable def gCons(t:TG)(u:TGs):TGs:=λvs σ H Q=>∃v r,vs=v::r/\t v σ H λσ' H'=>u r σ' H' Q
theorem y7w:PGs X [] gNil:=by
 intro pins s σ H vs us Q I r h;obtain⟨e,h⟩:=h;subst e;cases r;exact assignInOrder_nil ⟨σ,H,I,h⟩
theorem x5k{t:TG}{u:TGs}(h1:PG X e t)(h2:PGs X es u)
  (hs:(assignEach (e::es) X.env).map (·.2)=assign e X.env::(assignEach es X.env).map (·.2):=by rfl):PGs X (e::es) (gCons t u):=by
 intro pins s σ H vs us Q I r h;obtain⟨v,vr,e1,h⟩:=h;subst e1;cases r with
 |cons r rr=>
  rw[hs];refine assignInOrder_cons (thn (h1 pins s σ H _ _ _ I r h) λ_ s1 ⟨σ1,H1,I1,q1⟩=>?_)
  exact h2 pins s1 σ1 H1 _ _ Q I1 rr q1
noncomputable def gTup(K:PySem.W.Frag)(n:Nat)(t:TGs):TG:=λv σ H Q=>∃a xs,v=.ref a/\SqT K H a xs/\xs.length=n/\t xs σ H Q
theorem z2v{k:Nat}{t:TGs}{n:Nat}(hc:X.calm=true)(h:PGs X es t)
  (hn:(assignEach es X.env).length=n:=by rfl)(hst:(assignEach es X.env).findIdx? (·.1)=none:=by rfl):PG X (.Tuple es k pos) (gTup X.K n t):=by
 intro pins s σ H v u Q I r hw;obtain⟨a,xs,e1,hq,hl,hw⟩:=hw;subst e1;cases r;obtain⟨its,rv,ht,hz⟩:=I.tuple hq;refine assign_Tuple_tuple (I.ok.hd hc) ht (by grind [Vals.length]) hst λh' hx=>?_
 have I1:Inv X pins σ H {s with heap:=h'}:=I.kept (t':=s.toks) λb o e=>hx b o (w0t (Heap.lt_size e)) e
 exact h pins _ σ H xs _ Q I1 (by simpa using rv) hw
noncomputable def gSub(to ti:TE)(t:TSet):TG:=λv σ H Q=>to σ H λo H1=>ti σ H1 λi H2=>t o i v H2 λH3=>Q σ H3
theorem z2w{o i:Expr}{to ti:TE}{t:TSet}(ho:PE X o to)(hi:PE X i ti)(hs:PSet X t)
  (ha:∀v,assign (.Subscript o i pos) X.env v=(do
   let ov <- holding [v] (eval o X.env)
   let iv <- holding [v,ov] (eval i X.env)
   standAt pos
   holding [v,ov,iv] (setItem ov iv v)
   release [v,ov,iv] []):=by intro _;rfl):PG X (.Subscript o i pos) (gSub to ti t):=by
 intro pins s σ H v u Q I r h;rw[ha];refine wpAny_bind (wpAny_holding (thn (ho pins s σ H _ I h) λov s1 ⟨x,H1,I1,r1,q1⟩=>?_))
 refine wpAny_bind (wpAny_holding (thn (hi pins s1 σ H1 _ I1 q1) λiv s2 ⟨y,H2,I2,r2,q2⟩=>?_))
 refine wpAny_bind (wpAny_standAt (wpAny_bind (wpAny_holding (thn (hs pins s2 σ H2 x y v ov iv u _ I2 r1 r2 r q2) λ_ s3 ⟨H3,I3,q3⟩=>?_))))
 grind [wpAny_release]
noncomputable def tAsg(te:TE)(g:TG):TS:=λD σ H=>te σ H λx H1=>g x σ H1 D.nx
theorem z2x{g:TG}(he:PE X e te)(hg:PG X tg g)(hs:swapsWithSole [tg] e pos.line X.env=pure false:=by rfl)(hw:swappedStores [tg] e X.env=pure none:=by rfl)
  (h1:(assignEach [tg] X.env).map (·.2)=[assign tg X.env]:=by rfl):PS X (.Assign [tg] e pos) (tAsg te g):=by
 intro pins s σ H D I h;refine wpAny_Assign_stores (thn (he pins s σ H _ I h) λv s1 ⟨x,H1,I1,r1,q1⟩=>?_) hs hw
 rw[h1];exact thn (hg pins s1 σ H1 x v _ I1 r1 q1) λ_ s2 q=>q
theorem z2y{pos':Pos}(hN:X.N.Nodup)(hi:X.N[i]?=some x)(hx:Loc X.env.scope x)(he:PE X e te)(hs:swapsWith e (some (.Name x pos')) pos.line X.env=pure false:=by rfl)(hf:X.fn x=true\/X.env.scope.names.lookup x=some .local:=by walk_at "2"):
  PS X (.Assign [.Name x pos'] e pos) (tAsg te (gName i)):=by
 intro pins s σ H D I h;refine wpAny_Assign_Name (thn (he pins s σ H _ I h) λv s1 ⟨y,H1,I1,r1,q1⟩=>?_) hs
 exact x1a I1 hN hi hx r1 (λs2 I2=>⟨_,H1,I2,q1⟩) hf
noncomputable def tWhile(c:TT)(tb:TS):TS:=λD σ H=>∃W:Nat->St->Hp->Prop,(∃m,W m σ H)/\∀m σ H,W m σ H ->
 c σ H λb H1=>if b=true then ∃N:St->Hp->Prop,(∀σ' H',N σ' H'->∃m',m'<m/\W m' σ' H')/\tb {D with nx:=N,ct:=N,bk:=D.nx} σ H1 else D.nx σ H1
theorem y36{body:List Stmt}{tc:TT}(hp:PassesOwn (model X.prog X.w) X.A X.env X.xe)(hc:PT X c tc)(hb:PSs X body tb):PS X (.While c body [] pos) (tWhile tc tb):=by
 intro pins s σ H D I h;obtain⟨W,⟨m0,w0⟩,turn⟩:=h;refine wpAny_While (codeAny_whileLoop (λn s'=>∃σ' H',Inv X pins σ' H' s'/\W n σ' H') ?_ m0 ⟨σ,H,I,w0⟩)
 rintro n s1 ⟨σ1,H1,I1,w1⟩;refine wpAny_passesOwn hp (thn (hc pins s1 σ1 H1 _ I1 (turn n σ1 H1 w1)) λb s2 ⟨H2,I2,q2⟩=>?_)
 cases b with
 |true=>
  obtain⟨N,hN,q2⟩:=q2;rw[if_pos rfl];refine wpAny_passesOwn hp (thn (hb pins s2 σ1 H2 _ I2 q2) λf s3 q3=>?_)
  cases f with
  |next=>
   obtain⟨σ3,H3,I3,n3⟩:=q3
   grind
  |cont=>
   obtain⟨σ3,H3,I3,n3⟩:=q3
   grind
  |brk=>exact q3
  |ret v=>exact q3
 |false=>
  rw[if_neg w1i];exact wpAny_execs_nil ⟨σ1,H2,I2,q2⟩
structure It where
 go:Nat->Hp->Prop
 yld:Nat->Hp->V->Hp->Prop
 stop:Nat->Hp->Prop
noncomputable def FpOk(X:Cx)(pins:List (Addr×Obj))(H:Hp)(b:Addr):Prop:=
 H b=none/\b≠X.env.locals/\b∉X.fs/\(b∈X.ex\/X.s₀.heap.objs.size<=b)/\(∀x c,X.env.cells.lookup x=some c->c≠b)/\∀p∈X.pn++pins,p.1≠b
theorem Inv.fpOk{b:Addr}(I:Inv X pins σ H s)(hb:s.heap.objs.size<=b)(hn:H' b=none):FpOk X pins H' b:=by
 refine⟨hn,w2n (w0q I.lt hb),I.nofs hb,.inr (w0s I.sz hb),λx c e z=>?_,λp hp z=>?_⟩
 ·obtain⟨v,q⟩:=I.cell x c e;exact absurd (w0q q.lt (by rw[z];exact hb)) (w2g _)
 ·exact absurd (w0q (Heap.lt_size (I.pin p hp).1) (by rw[z];exact hb)) (w2g _)
structure Turn(P:Program)(w:World)(K:PySem.W.Frag)(tg:Expr)(J:It)(fp:List Addr)(it:Addr)(tn:Nat->Heap->Prop):Prop where
 mem:it∈fp
 obj:∀i h,tn i h->∀b∈fp,∃o,h.get? b=some o/\∀v,o.data≠.cell v
 keep:∀i h h',tn i h->(∀b∈fp,∀o,h.get? b=some o->h'.get? b=some o)->tn i h'
 item:∀(X:Cx),X.prog=P->X.w=w->X.K=K->X.calm=true->∀(i:Nat)(pins:List (Addr×Obj))(s:Shared)(σ:St)(H:Hp)(E:Value->Shared->Prop),Inv X pins σ H s->(∀b∈fp,FpOk X pins H b)->tn i s.heap->J.go i H ->
  wpAny (model P w) X.A (pyNext (.ref it)) (λr s1=>∃u,r=some u /\
   wpAny (model P w) X.A (letOwnedTupleGo tg (.ref it) u) (λ_ s2=>∃x H',Inv X pins σ H' s2/\RelV x u/\J.yld i H x H'/\tn (i+1) s2.heap/\∀b∈fp,H' b=none) E s1) E s
 done:∀(X:Cx),X.prog=P->X.w=w->X.K=K->X.calm=true->∀(i:Nat)(pins:List (Addr×Obj))(s:Shared)(σ:St)(H:Hp)(E:Value->Shared->Prop),Inv X pins σ H s->(∀b∈fp,FpOk X pins H b)->tn i s.heap->J.stop i H ->
  wpAny (model P w) X.A (pyNext (.ref it)) (λr s1=>r=none/\Inv X pins σ H s1) E s
 self:∀(A:Around)(i:Nat)(s:Shared)(Q:Value->Shared->Prop)(E:Value->Shared->Prop),tn i s.heap->Q (.ref it) s->wpAny (model P w) A (pyIter (.ref it)) Q E s
abbrev TI:=St->Hp->(It->Hp->Prop)->Prop
noncomputable def PIE(X:Cx)(pins:List (Addr×Obj))(σ:St)(tg:Expr)(R:It->Hp->Prop)(itv:Value)(s2:Shared):Prop:=
 ∃(it:Addr)(fp:List Addr)(tn:Nat->Heap->Prop)(J:It)(H':Hp),itv=.ref it/\Inv X pins σ H' s2/\Turn X.prog X.w X.K tg J fp it tn/\tn 0 s2.heap/\(∀b∈fp,FpOk X pins H' b)/\R J H'
noncomputable def PI(X:Cx)(tg iter:Expr)(wi:TI):Prop:=
 ∀(pins:List (Addr×Obj))(s:Shared)(σ:St)(H:Hp)(R:It->Hp->Prop),Inv X pins σ H s->wi σ H R ->
  wpAny (model X.prog X.w) X.A (eval iter X.env) (λv s1=>wpAny (model X.prog X.w) X.A (pyIter v) (PIE X pins σ tg R) X.xe s1) X.xe s
theorem x45{M : Model}{E : Value -> Shared -> Prop}{s : Shared}{it : Addr}{o : Obj}{n : String}{vs : Array Value}{Q : Unit -> Shared -> Prop}(ho : s.heap.get? it = some o)(hc : o.cls = .type n)(hd : o.data = .fields vs)
    (hn : ["enumerate", "zip", "dict_itemiterator", "dict_reverseitemiterator", "odict_iterator", "itertools.zip_longest", "itertools.pairwise"].contains n = false)(hQ : Q () s) : wpAny M A (letOwnedTupleGo tg (.ref it) u) Q E s := by
  unfold letOwnedTupleGo
  cases tg <;> first
    | exact wpAny_pure hQ
    | (cases u <;> first
        | exact wpAny_pure hQ
        | (refine wpAny_bind (wpAny_load ho ?_)
           rw [hc, hd];show wpAny M A (if (["enumerate", "zip", "dict_itemiterator", "dict_reverseitemiterator", "odict_iterator", "itertools.zip_longest", "itertools.pairwise"].contains n && vs[0]? == some (rawInt _)) = true then _ else _) Q E s;rw [if_neg (by intro h; rw [hn, Bool.false_and] at h; cases h)];exact wpAny_pure hQ))
noncomputable def Itl(K:PySem.W.Frag)(a:Addr):It:=
 ⟨λi H=>∃xs x,SqL K H a xs/\xs[i]?=some x,λi H x H'=>H'=H/\∀xs,SqL K H a xs->xs[i]?=some x,λi H=>∃xs,SqL K H a xs/\xs.length<=i⟩
noncomputable def Itt(K:PySem.W.Frag)(a:Addr):It:=
 ⟨λi H=>∃xs x,SqT K H a xs/\xs[i]?=some x,λi H x H'=>H'=H/\∀xs,SqT K H a xs->xs[i]?=some x,λi H=>∃xs,SqT K H a xs/\xs.length<=i⟩
noncomputable def Itr(lo:Int)(n:Nat):It:=⟨λi _=>i<n,λi H x H'=>H'=H/\x=.int (lo+i),λi _=>n<=i⟩
theorem y0p(a it:Addr):Turn P w K tg (Itl K a) [it] it (λi h=>h.IsListIter it a i) where
 mem:=by simp
 obj:=λi h st b hb=>by
  have e:b=it:=by simpa using hb
  subst e;obtain⟨o,e,c,d⟩:=st
  grind
 keep:=λi h h' st k=>st.at λo e=>k it (by simp) o e
 item:=by
  intro X hP hw hK hc i pins s σ H E I hf st hg;subst hP hw hK;obtain⟨xs,x,hq,hx⟩:=hg;obtain⟨its,rv,p,hz⟩:=I.list hq;obtain⟨u,hu,ru⟩:=rv.get hx;obtain⟨f0,f1,f2,f3,f4,f5⟩:=hf it (by simp);refine wpAny_pyNext_list_item st p.isList (x:=u) (by simpa using hu) λh' st' sb=>?_
  have I1:Inv X pins σ H {s with heap:=h'}:=I.turned (t':=s.toks) (λb o hb e=>(sb.2 b hb).trans e) f0 f1 f3 f4 f5
  obtain⟨o,e,c,d⟩:=id st';exact⟨u,rfl,x45 (s:={s with heap:=h'}) e c d (by decide) ⟨x,H,I1,ru,⟨rfl,λys hy=>by rw[I.list_inj hy hq];exact hx⟩,st',λb hb=>(hf b hb).1⟩⟩
 done:=by
  intro X hP hw hK hc i pins s σ H E I hf st hg;subst hP hw hK;obtain⟨xs,hq,hx⟩:=hg;obtain⟨its,rv,p,hz⟩:=I.list hq;obtain⟨f0,f1,f2,f3,f4,f5⟩:=hf it (by simp);have hl:=rv.length;exact wpAny_pyNext_list_end (I.ok.hd hc) st p.isList (by simp;omega) λh' eb=>⟨rfl,I.turned (t':=s.toks) (λb o hb e=>eb b o hb e) f0 f1 f3 f4 f5⟩
 self:=λ_ _ _ _ _ st h=>wpAny_pyIter_listiter st h
theorem x9d(a it:Addr):Turn P w K tg (Itt K a) [it] it (λi h=>h.IsTupleIter it a i) where
 mem:=by simp
 obj:=λi h st b hb=>by
  have e:b=it:=by simpa using hb
  subst e;obtain⟨o,e,c,d⟩:=st
  grind
 keep:=λi h h' st k=>st.at λo e=>k it (by simp) o e
 item:=by
  intro X hP hw hK hc i pins s σ H E I hf st hg;subst hP hw hK;obtain⟨xs,x,hq,hx⟩:=hg;obtain⟨its,rv,p,hz⟩:=I.tuple hq;obtain⟨u,hu,ru⟩:=rv.get hx;obtain⟨f0,f1,f2,f3,f4,f5⟩:=hf it (by simp);refine wpAny_pyNext_tuple_item st (show s.heap.IsTuple a its.toArray from p) (x:=u) (by simpa using hu) λh' st' sb=>?_
  have I1:Inv X pins σ H {s with heap:=h'}:=I.turned (t':=s.toks) (λb o hb e=>(sb.2 b hb).trans e) f0 f1 f3 f4 f5
  obtain⟨o,e,c,d⟩:=id st';exact⟨u,rfl,x45 (s:={s with heap:=h'}) e c d (by decide) ⟨x,H,I1,ru,⟨rfl,λys hy=>by rw[I.tuple_inj hy hq];exact hx⟩,st',λb hb=>(hf b hb).1⟩⟩
 done:=by
  intro X hP hw hK hc i pins s σ H E I hf st hg;subst hP hw hK;obtain⟨xs,hq,hx⟩:=hg;obtain⟨its,rv,p,hz⟩:=I.tuple hq;obtain⟨f0,f1,f2,f3,f4,f5⟩:=hf it (by simp);have hl:=rv.length;exact wpAny_pyNext_tuple_end (I.ok.hd hc) st (show s.heap.IsTuple a its.toArray from p) (by simp;omega) λh' eb=>⟨rfl,I.turned (t':=s.toks) (λb o hb e=>eb b o hb e) f0 f1 f3 f4 f5⟩
 self:=λ_ _ _ _ _ st h=>wpAny_pyIter_tupleiter st h
theorem x9e(it:Addr)(lo:Int)(n:Nat):Turn P w K tg (Itr lo n) [it] it (λi h=>IsRangeIter h it (lo+(i:Nat)*1) ((n:Int)-(i:Nat)) 1) where
 mem:=by simp
 obj:=λi h st b hb=>by
  grind
 keep:=λi h h' st k=>k it (by simp) _ st
 item:=by
  intro X hP hw hK hc i pins s σ H E I hf st hg;subst hP hw hK;obtain⟨f0,f1,f2,f3,f4,f5⟩:=hf it (by simp);have W:=Walks.range (prog:=X.prog) (w:=X.w) (I.ok.hd hc) it lo 1 n;refine W.item i s _ _ hg st λv h' tk hv st' kk=>?_
  obtain⟨t,rfl⟩:=hv;have I1:Inv X pins σ H {s with heap:=h',toks:=tk}:=I.turned (λb o hb e=>kk b o (by simpa using hb) e) f0 f1 f3 f4 f5
  refine⟨_,rfl,x45 (s:={s with heap:=h',toks:=tk}) (n:="range_iterator") st' rfl rfl (by decide) ⟨.int (lo+i),H,I1,⟨t,?_⟩,⟨rfl,rfl⟩,st',λb hb=>(hf b hb).1⟩⟩
  rw[Int.mul_one]
 done:=by
  intro X hP hw hK hc i pins s σ H E I hf st hg;subst hP hw hK;obtain⟨f0,f1,f2,f3,f4,f5⟩:=hf it (by simp);exact wpAny_pyNext_range_end (I.ok.hd hc) st (by have:n<=i:=hg;omega) λh' eb=>⟨rfl,I.turned (t':=s.toks) (λb o hb e=>eb b o hb e) f0 f1 f3 f4 f5⟩
 self:=λ_ _ _ _ _ st h=>wpAny_pyIter_rangeiter st h
theorem x5l{R:It->Hp->Prop}{lo hi:Int}{t u v:Tok}{tk:Nat}(I:Inv X pins σ H s)(h1:-(2^62)<=lo)(h2:lo<2^62)(h3:-(2^62)<=hi)(h4:hi<2^62)
  (q:R (Itr lo (hi-lo).toNat) H):wpAny (model X.prog X.w) X.A (pyIter (.ref s.heap.objs.size)) (PIE X pins σ tg R) E {s with heap:=s.heap.push {cls:=.type "range", data:=.fields #[.int lo t,.int hi u,.int 1 v]},toks:=tk}:=by
 refine wpAny_pyIter_range (IsRange.new ..) (small_one h1 h2 h3 h4) ?_;have I1:Inv X pins σ H {s with heap:=s.heap.push {cls:=.type "range", data:=.fields #[.int lo t,.int hi u,.int 1 v]},toks:=tk}:=I.kept λb o e=>Heap.get?_push_of_some _ e
 refine⟨(s.heap.push {cls:=.type "range", data:=.fields #[.int lo t,.int hi u,.int 1 v]}).objs.size,[(s.heap.push {cls:=.type "range", data:=.fields #[.int lo t,.int hi u,.int 1 v]}).objs.size],_,_,H,rfl,
  I1.kept (t':=tk) λb o e=>Heap.get?_push_of_some _ e,x9e _ lo (hi-lo).toNat,?_,λb hb=>?_,q⟩
 ·have e1:lo+((0:Nat):Int)*1=lo:=by simp
  have e2:(((hi-lo).toNat:Nat):Int)-((0:Nat):Int)=Builtin.Range.rangeSize lo hi 1:=by grind [rangeSize_one]
  show IsRangeIter _ _ (lo+((0:Nat):Int)*1) ((((hi-lo).toNat:Nat):Int)-((0:Nat):Int)) 1;rw[e1,e2];exact Heap.get?_push_size _ rfl
 ·have e:b=(s.heap.push {cls:=.type "range", data:=.fields #[.int lo t,.int hi u,.int 1 v]}).objs.size:=by simpa using hb
  subst e;exact I1.fpOk (w0a _) (I1.hok.fresh (w0a _))
noncomputable def iRng1(ta:TA):TI:=λσ H R=>ta σ H λvs H1=>∃j:Int,vs=[.int j]/\-(2^62)<=j/\j<2^62/\R (Itr 0 j.toNat) H1
noncomputable def iRng2(ta:TA):TI:=λσ H R=>ta σ H λvs H1=>∃i j:Int,vs=[.int i,.int j]/\(-(2^62)<=i/\i<2^62/\-(2^62)<=j/\j<2^62)/\R (Itr i (j-i).toNat) H1
theorem x3p{a:Expr}{ta:TA}(hg:Gl X "range")(hm:X.mg "range"=none)(ha:PA X [a] ta)(hs:starEach [a] X.env=[(false,eval a X.env)]:=by rfl):PI X tg (.Call (.Name "range" p) [a] [] pos) (iRng1 ta):=by
 intro pins s σ H R I h;refine Call_ (q3y I hg hm boot_range (PyProof.Rows.callWith_type1 (thn (ha pos pins s σ H _ I h) λus s1 ⟨vs,H1,I1,r1,q1⟩=>?_) hs rfl))
 obtain⟨j,e,q1,q2,q⟩:=q1;subst e;cases r1 with
 |cons r rr=>
  cases rr;obtain⟨t,rfl⟩:=r
  grind [call_range_1,x5l]
theorem y0q{a b:Expr}{ta:TA}(hg:Gl X "range")(hm:X.mg "range"=none)(ha:PA X [a,b] ta)(hs:starEach [a,b] X.env=[(false,eval a X.env),(false,eval b X.env)]:=by rfl)(hs2:starEach [b] X.env=[(false,eval b X.env)]:=by rfl):
  PI X tg (.Call (.Name "range" p) [a,b] [] pos) (iRng2 ta):=by
 intro pins s σ H R I h;refine Call_ (q3y I hg hm boot_range (PyProof.Rows.callWith_type1 (thn (ha pos pins s σ H _ I h) λus s1 ⟨vs,H1,I1,r1,q1⟩=>?_) (by rw[hs,hs2]) (by rw[hs2];rfl)))
 obtain⟨i,j,e,⟨q1,q2,q3,q4⟩,q⟩:=q1;subst e;cases r1 with
 |cons r rr=>
  cases rr with
  |cons r' rr=>
   cases rr;obtain⟨t,rfl⟩:=r;obtain⟨t',rfl⟩:=r'
   grind [call_range_2,x5l]
noncomputable def tFor(wi:TI)(g:TG)(tb:TS):TS:=λD σ H=>wi σ H λJ H1=>∃W:Nat->Nat->St->Hp->Prop,(∃m,W 0 m σ H1)/\∀i m σ H,W i m σ H ->
 (J.stop i H/\D.nx σ H)\/(J.go i H/\∃N:St->Hp->Prop,(∀σ' H',N σ' H'->∃m',m'<m/\W (i+1) m' σ' H')/\∀x H',J.yld i H x H'->g x σ H' λσ2 H2=>tb {D with nx:=N,ct:=N,bk:=D.nx} σ2 H2)
noncomputable def pinsAt(fp:List Addr)(h:Heap):List (Addr×Obj):=fp.filterMap λb=>(h.get? b).map λo=>(b,o)
theorem q2m{b:Addr}{o:Obj}(hb:b∈fp)(e:h.get? b=some o):(b,o)∈pinsAt fp h:=w4a.mpr ⟨b,hb,by rw[e];rfl⟩
theorem y0r{p:Addr×Obj}(hp:p∈pinsAt fp h):p.1∈fp/\h.get? p.1=some p.2:=by
 obtain⟨b,hb,e⟩:=w4a.mp hp;cases q:h.get? b with
 |none=>rw[q]at e;cases e
 |some o=>
  grind
theorem Inv.pinned(I:Inv X pins σ H s)(hf:∀b∈fp,FpOk X pins H b)(ho:∀b∈fp,∃o,s.heap.get? b=some o/\∀v,o.data≠.cell v):Inv X (pins++pinsAt fp s.heap) σ H s:=
 I.pins_of λp hp=>(w1f.mp hp).elim (λz=>I.pin p (w0c _ z)) λz=>by
  obtain⟨hb,e⟩:=y0r z;obtain⟨f0,f1,f2,_⟩:=hf p.1 hb
  grind
theorem Inv.unpinned{pl:List (Addr×Obj)}(I:Inv X (pins++pl) σ H s):Inv X pins σ H s:=I.pins_of λp hp=>I.pin p (w0c _ (w0p _ hp))
theorem x1v{iter:Expr}{body:List Stmt}{wi:TI}{g:TG}(hp:PassesOwn (model X.prog X.w) X.A X.env X.xe)(hc:X.calm=true)(hi:PI X tg iter wi)(hg:PG X tg g)(hb:PSs X body tb)
  (hs:∀x,foldedSetIterable iter X.env x=pure x:=by intro _;rfl):PS X (.For tg iter body [] pos) (tFor wi g tb):=by
 intro pins s σ H D I h;refine wpAny_For (thn (hi pins s σ H _ I h) λv s1 h1=>thn h1 λitv s2 h2=>?_) hs
 obtain⟨it,fp,tn,J,H2,e,I2,T,st2,f2,W,⟨m0,w0⟩,turn⟩:=h2;subst e;have stat:∀{H':Hp},(∀b∈fp,H' b=none)->∀b∈fp,FpOk X pins H' b:=λhn b hb=>⟨hn b hb,(f2 b hb).2⟩
 refine codeAny_forLoop_any (λn s'=>∃i σ' H',Inv X pins σ' H' s'/\tn i s'.heap/\(∀b∈fp,H' b=none)/\W i n σ' H') ?_ m0 ⟨0,σ,H2,I2,st2,λb hb=>(f2 b hb).1,w0⟩
 rintro n s3 ⟨i,σ3,H3,I3,st3,fr3,w3⟩;rcases turn i n σ3 H3 w3 with⟨stop,qn⟩|⟨go,N,hN,step⟩
 ·refine wpAny_passesOwn hp (thn (T.done X rfl rfl rfl hc i pins s3 σ3 H3 X.xe I3 (stat fr3) st3 stop) λr s4 ⟨hr,I4⟩=>?_)
  subst hr;exact wpAny_execs_nil ⟨σ3,H3,I4,qn⟩
 ·refine wpAny_passesOwn hp (thn (T.item X rfl rfl rfl hc i pins s3 σ3 H3 X.xe I3 (stat fr3) st3 go) λr s4 ⟨u,hr,h4⟩=>?_)
  subst hr;refine wpAny_passesOwn hp (thn h4 λ_ s5 ⟨x,H5,I5,r5,y5,st5,fr5⟩=>?_)
  have I5':=I5.pinned (stat fr5) (T.obj _ _ st5);refine wpAny_passesOwn hp (thn (hg _ s5 σ3 H5 x u _ I5' r5 (step x H5 y5)) λ_ s6 ⟨σ6,H6,I6,q6⟩=>?_)
  refine wpAny_passesOwn hp (thn (hb _ s6 σ6 H6 _ I6 q6) λf s7 q7=>?_)
  have again:∀{σ7:St}{H7:Hp},Inv X (pins++pinsAt fp s5.heap) σ7 H7 s7->N σ7 H7->∃m,m<n/\∃i σ' H',Inv X pins σ' H' s7/\tn i s7.heap/\(∀b∈fp,H' b=none)/\W i m σ' H':=λ{σ7 H7} I7 n7=>by
   obtain⟨m',hm,w7⟩:=hN σ7 H7 n7;refine⟨m',hm,i+1,σ7,H7,I7.unpinned,T.keep _ _ _ st5 λb hb o e=>(I7.pin (b,o) (w0c _ (w0c _ (q2m hb e)))).1,λb hb=>?_,w7⟩
   obtain⟨o,e,d⟩:=T.obj _ _ st5 b hb;exact(I7.pin (b,o) (w0c _ (w0c _ (q2m hb e)))).2.1
  cases f with
  |next=>obtain⟨σ7,H7,I7,n7⟩:=q7;exact again I7 n7
  |cont=>obtain⟨σ7,H7,I7,n7⟩:=q7;exact again I7 n7
  |brk=>obtain⟨σ7,H7,I7,q7⟩:=q7;exact⟨σ7,H7,I7.unpinned,q7⟩
  |ret v=>obtain⟨x7,σ7,H7,I7,r7,q7⟩:=q7;exact⟨x7,σ7,H7,I7.unpinned,r7,q7⟩
theorem y37{g:TG}{D:Ends}(Pv:Nat->St->Hp->Prop)(h0:Pv 0 σ H)(hl:∀i σ H,i<=xs.length->Pv i σ H->SqL K H a xs)
  (hs:∀i x σ H,xs[i]?=some x->Pv i σ H->g x σ H λσ2 H2=>tb {D with nx:=Pv (i+1),ct:=Pv (i+1),bk:=D.nx} σ2 H2)(hd:∀σ H,Pv xs.length σ H->D.nx σ H):
  ∃W:Nat->Nat->St->Hp->Prop,(∃m,W 0 m σ H)/\∀i m σ H,W i m σ H ->
   ((Itl K a).stop i H/\D.nx σ H)\/((Itl K a).go i H/\∃N:St->Hp->Prop,(∀σ' H',N σ' H'->∃m',m'<m/\W (i+1) m' σ' H')/\∀x H',(Itl K a).yld i H x H'->g x σ H' λσ2 H2=>tb {D with nx:=N,ct:=N,bk:=D.nx} σ2 H2):=by
 refine⟨λi m σ H=>m=xs.length-i/\i<=xs.length/\Pv i σ H,⟨xs.length,by simp,w1d _,h0⟩,?_⟩
 rintro i m σ H ⟨rfl,hi,p⟩;have q:=hl i σ H hi p
 by_cases hlt:i<xs.length
 ·refine .inr ⟨⟨xs,xs[i],q,by simp[hlt]⟩,Pv (i+1),λσ' H' p'=>⟨xs.length-(i+1),by omega,rfl,hlt,p'⟩,λx H' y=>?_⟩
  obtain⟨e,y⟩:=y
  grind
 ·have e:i=xs.length:=by omega
  subst e;exact .inl ⟨⟨xs,q,w0a _⟩,hd σ H p⟩
theorem y7x{g:TG}{D:Ends}(Pv:Nat->St->Hp->Prop)(h0:Pv 0 σ H)(hl:∀i σ H,i<=xs.length->Pv i σ H->SqT K H a xs)
  (hs:∀i x σ H,xs[i]?=some x->Pv i σ H->g x σ H λσ2 H2=>tb {D with nx:=Pv (i+1),ct:=Pv (i+1),bk:=D.nx} σ2 H2)(hd:∀σ H,Pv xs.length σ H->D.nx σ H):
  ∃W:Nat->Nat->St->Hp->Prop,(∃m,W 0 m σ H)/\∀i m σ H,W i m σ H ->
   ((Itt K a).stop i H/\D.nx σ H)\/((Itt K a).go i H/\∃N:St->Hp->Prop,(∀σ' H',N σ' H'->∃m',m'<m/\W (i+1) m' σ' H')/\∀x H',(Itt K a).yld i H x H'->g x σ H' λσ2 H2=>tb {D with nx:=N,ct:=N,bk:=D.nx} σ2 H2):=by
 refine⟨λi m σ H=>m=xs.length-i/\i<=xs.length/\Pv i σ H,⟨xs.length,by simp,w1d _,h0⟩,?_⟩
 rintro i m σ H ⟨rfl,hi,p⟩;have q:=hl i σ H hi p
 by_cases hlt:i<xs.length
 ·refine .inr ⟨⟨xs,xs[i],q,by simp[hlt]⟩,Pv (i+1),λσ' H' p'=>⟨xs.length-(i+1),by omega,rfl,hlt,p'⟩,λx H' y=>?_⟩
  obtain⟨e,y⟩:=y
  grind
 ·have e:i=xs.length:=by omega
  subst e;exact .inl ⟨⟨xs,q,w0a _⟩,hd σ H p⟩
theorem y0s{lo:Int}{n:Nat}{g:TG}{D:Ends}(Pv:Nat->St->Hp->Prop)(h0:Pv 0 σ H)
  (hs:∀i σ H,i<n->Pv i σ H->g (.int (lo+i)) σ H λσ2 H2=>tb {D with nx:=Pv (i+1),ct:=Pv (i+1),bk:=D.nx} σ2 H2)(hd:∀σ H,Pv n σ H->D.nx σ H):
  ∃W:Nat->Nat->St->Hp->Prop,(∃m,W 0 m σ H)/\∀i m σ H,W i m σ H ->
   ((Itr lo n).stop i H/\D.nx σ H)\/((Itr lo n).go i H/\∃N:St->Hp->Prop,(∀σ' H',N σ' H'->∃m',m'<m/\W (i+1) m' σ' H')/\∀x H',(Itr lo n).yld i H x H'->g x σ H' λσ2 H2=>tb {D with nx:=N,ct:=N,bk:=D.nx} σ2 H2):=by
 refine⟨λi m σ H=>m=n-i/\i<=n/\Pv i σ H,⟨n,by simp,w1d _,h0⟩,?_⟩
 rintro i m σ H ⟨rfl,hi,p⟩
 by_cases hlt:i<n
 ·refine .inr ⟨hlt,Pv (i+1),λσ' H' p'=>⟨n-(i+1),by omega,rfl,hlt,p'⟩,λx H' y=>?_⟩
  obtain⟨e,y⟩:=y
  grind
 ·have e:i=n:=by omega
  subst e;exact .inl ⟨w0a _,hd σ H p⟩
abbrev R2:=V->V->Hp->VK->Prop
variable{r:R2}
noncomputable def OpR(X:Cx)(f:Value->Value->Sem Value)(r:R2):Prop:=
 ∀(pins:List (Addr×Obj))(s:Shared)(σ:St)(H:Hp)(x y:V)(v u:Value)(Q:VK),Inv X pins σ H s->RelV x v->RelV y u->r x y H Q ->
  wpAny (model X.prog X.w) X.A (f v u) (EP X pins σ Q) X.xe s
noncomputable def UnR(X:Cx)(f:Value->Sem Value)(r:V->Hp->VK->Prop):Prop:=
 ∀(pins:List (Addr×Obj))(s:Shared)(σ:St)(H:Hp)(x:V)(v:Value)(Q:VK),Inv X pins σ H s->RelV x v->r x H Q ->
  wpAny (model X.prog X.w) X.A (f v) (EP X pins σ Q) X.xe s
noncomputable def CallR(X:Cx)(f:Value)(r:List V->Hp->VK->Prop):Prop:=
 ∀(pins:List (Addr×Obj))(s:Shared)(σ:St)(H:Hp)(xs:List V)(us:List Value)(Q:VK),Inv X pins σ H s->Vals xs us->r xs H Q ->
  wpAny (model X.prog X.w) X.A (call f us) (EP X pins σ Q) X.xe s
noncomputable def TruR(X:Cx)(r:V->Hp->(Bool->Hp->Prop)->Prop):Prop:=
 ∀(pins:List (Addr×Obj))(s:Shared)(σ:St)(H:Hp)(x:V)(v:Value)(Q:Bool->Hp->Prop),Inv X pins σ H s->RelV x v->r x H Q ->
  wpAny (model X.prog X.w) X.A (truthy v) (TP X pins σ Q) X.xe s
noncomputable def tOp(r:R2)(ta tb:TE):TE:=λσ H Q=>ta σ H λx H1=>tb σ H1 λy H2=>r x y H2 Q
noncomputable def tUn(r:V->Hp->VK->Prop)(ta:TE):TE:=λσ H Q=>ta σ H λx H1=>r x H1 Q
noncomputable def rI(C:Int->Int->Prop)(g:Int->Int->V):R2:=λx y H Q=>∃i j,x=.int i/\y=.int j/\C i j/\Q (g i j) H
noncomputable def rI0(g:Int->Int->V):R2:=λx y H Q=>∃i j,x=.int i/\y=.int j/\Q (g i j) H
noncomputable def rU(g:Int->V):V->Hp->VK->Prop:=λx H Q=>∃i,x=.int i/\Q (g i) H
section
variable{a b:Expr}{tb tc:TE}
theorem binT(ha:PE X a ta)(hb:PE X b tb){R:V->V->Hp->Prop}(I:Inv X pins σ H s)
  (h:ta σ H λx H1=>tb σ H1 λy H2=>R x y H2){Q:Value->Shared->Prop}
  (hf:∀v u s2 x y H2,Inv X pins σ H2 s2->RelV x v->RelV y u->R x y H2->wpAny (model X.prog X.w) X.A (f v u) Q X.xe s2):
  wpAny (model X.prog X.w) X.A (eval a X.env) (λv s₁=>wpAny (model X.prog X.w) X.A (eval b X.env) (λu s₂=>wpAny (model X.prog X.w) X.A (f v u) Q X.xe s₂) X.xe s₁) X.xe s:=by
 refine thn (ha pins s σ H _ I h) λv s1 ⟨x,H1,I1,r1,q1⟩=>?_
 refine thn (hb pins s1 σ H1 _ I1 q1) λu s2 ⟨y,H2,I2,r2,q2⟩=>?_
 grind
theorem z68{op:Operator}(ho:OpR X (binaryOp op) r)(ha:PE X a ta)(hb:PE X b tb):PE X (.BinOp a op b pos) (tOp r ta tb):=by
 intro pins s σ H Q I h;exact wpAny_BinOp (binT ha hb I h λv u s2 x y H2 I2 rx ry q=>ho pins s2 σ H2 x y v u Q I2 rx ry q)
theorem z69{op:UnaryOp}{r:V->Hp->VK->Prop}(ho:UnR X (unaryOp op) r)(ha:PE X a ta):PE X (.UnaryOp op a pos) (tUn r ta):=by
 intro pins s σ H Q I h;exact UnaryOp_ (thn (ha pins s σ H _ I h) λv s1 ⟨x,H1,I1,r1,q1⟩=>ho pins s1 σ H1 x v Q I1 r1 q1)
theorem opI{C:Int->Int->Prop}{g:Int->Int->Int}
  (rule:∀(i j:Int)(t u:Tok)(s:Shared)(Q:Value->Shared->Prop)(E:Value->Shared->Prop),C i j->Q (.int (g i j) s.toks) {s with toks:=s.toks+1}->wpAny (model X.prog X.w) X.A (f (.int i t) (.int j u)) Q E s):
  OpR X f (rI C λi j=>.int (g i j)):=by
 intro pins s σ H x y v u Q I rx ry h;obtain⟨i,j,rfl,rfl,hc,q⟩:=h;obtain⟨t,rfl⟩:=rx;obtain⟨t',rfl⟩:=ry;exact rule i j t t' s _ _ hc ⟨.int (g i j),H,I.tok _,⟨_,rfl⟩,q⟩
theorem opI0{g:Int->Int->Int}
  (rule:∀(i j:Int)(t u:Tok)(s:Shared)(Q:Value->Shared->Prop)(E:Value->Shared->Prop),Q (.int (g i j) s.toks) {s with toks:=s.toks+1}->wpAny (model X.prog X.w) X.A (f (.int i t) (.int j u)) Q E s):
  OpR X f (rI0 λi j=>.int (g i j)):=by
 intro pins s σ H x y v u Q I rx ry h;obtain⟨i,j,rfl,rfl,q⟩:=h;obtain⟨t,rfl⟩:=rx;obtain⟨t',rfl⟩:=ry;exact rule i j t t' s _ _ ⟨.int (g i j),H,I.tok _,⟨_,rfl⟩,q⟩
theorem opB0{g:Int->Int->Bool}
  (rule:∀(i j:Int)(t u:Tok)(s:Shared)(Q:Value->Shared->Prop)(E:Value->Shared->Prop),Q (.bool (g i j)) s->wpAny (model X.prog X.w) X.A (f (.int i t) (.int j u)) Q E s):
  OpR X f (rI0 λi j=>.bl (g i j)):=by
 intro pins s σ H x y v u Q I rx ry h;obtain⟨i,j,rfl,rfl,q⟩:=h;obtain⟨t,rfl⟩:=rx;obtain⟨t',rfl⟩:=ry;exact rule i j t t' s _ _ ⟨.bl (g i j),H,I,rfl,q⟩
noncomputable def CDiv(i j:Int):Prop:=0<j/\j<1073741824
noncomputable def CPow(i j:Int):Prop:=0<=j/\j<=1000000/\i.natAbs<2^64
noncomputable def CMul(i j:Int):Prop:=(-(2^64)<i/\i<2^64)\/(-(2^64)<j/\j<2^64)
theorem CMul.ok{i j:Int}(h:CMul i j):IntMulOk i j:=by
 rcases h with⟨h1,h2⟩|⟨h1,h2⟩
 all_goals grind [IntMulOk.of_left,intBits_le_64,IntMulOk.of_right]
theorem op_add:OpR X (binaryOp .Add) (rI0 λi j=>.int (i+j)):=opI0 λ_ _ _ _ _ _ _ q=>add_int q
theorem z2z:OpR X (binaryOp .Sub) (rI0 λi j=>.int (i-j)):=opI0 λ_ _ _ _ _ _ _ q=>sub_int q
theorem z20:OpR X (binaryOp .Mult) (rI CMul λi j=>.int (i*j)):=opI λ_ _ _ _ _ _ _ hc q=>mul_int q hc.ok
theorem y7y:OpR X (binaryOp .FloorDiv) (rI CDiv λi j=>.int (i / j)):=opI λi j _ _ _ _ _ hc q=>by
 have h1:(0:Int)<j:=hc.1;have h2:j<1073741824:=hc.2;exact floordiv_int (by omega) (by grind) (.inl (PyProof.noPylong_small (by omega)))
theorem z21:OpR X (binaryOp .Mod) (rI (λ_ j=>0<j) λi j=>.int (i%j)):=opI λi j _ _ _ _ _ hc q=>by
 have h1:(0:Int)<j:=hc;exact mod_int' (by omega) (by grind)
theorem z22:OpR X (binaryOp .Pow) (rI CPow λi j=>.int (i^j.toNat)):=opI λ_ _ _ _ _ _ _ hc q=>pow_int_small hc.1 hc.2.1 hc.2.2 q
theorem unI{f:Value->Sem Value}{g:Int->Int}
  (rule:∀(i:Int)(t:Tok)(s:Shared)(Q:Value->Shared->Prop)(E:Value->Shared->Prop),Q (.int (g i) s.toks) {s with toks:=s.toks+1}->wpAny (model X.prog X.w) X.A (f (.int i t)) Q E s):
  UnR X f (rU λi=>.int (g i)):=by
 intro pins s σ H x v Q I rx h;obtain⟨i,rfl,q⟩:=h;obtain⟨t,rfl⟩:=rx;exact rule i t s _ _ ⟨.int (g i),H,I.tok _,⟨_,rfl⟩,q⟩
theorem z23:UnR X (unaryOp .USub) (rU λi=>.int (-i)):=unI λ_ _ _ _ _ q=>neg_int q
end
section
variable{a b:Expr}{tb tc:TE}
theorem x5m{Q:VK}{k k':Bool}(I:Inv X pins σ H s)(q:Q (.bl k) H)(e:k=k'):EP X pins σ Q (.bool k') s:=by
 subst e;exact⟨.bl k,H,I,rfl,q⟩
theorem y67:OpR X (compareOp .Lt) (rI0 λi j=>.bl (decide (i<j))):=opB0 λ_ _ _ _ _ _ _ q=>lt_int q
theorem y68:OpR X (compareOp .Gt) (rI0 λi j=>.bl (decide (j<i))):=opB0 λ_ _ _ _ _ _ _ q=>gt_int q
theorem z7a:OpR X (compareOp .GtE) (rI0 λi j=>.bl (decide (j<=i))):=opB0 λ_ _ _ _ _ _ _ q=>ge_int q
theorem OpR.or{r':R2}(h:OpR X f r)(h':OpR X f r'):OpR X f (λx y H Q=>r x y H Q\/r' x y H Q):=by
 intro pins s σ H x y v u Q I rx ry q;rcases q with q|q
 ·exact h pins s σ H x y v u Q I rx ry q
 ·exact h' pins s σ H x y v u Q I rx ry q
theorem nomark(b:Expr)(h:op≠.In:=by decide)(h2:op≠.NotIn:=by decide):behindInMarks op b=false:=by
 have e1:(op==CmpOp.In)=false:=by grind
 have e2:(op==CmpOp.NotIn)=false:=by grind
 cases b<;>simp[behindInMarks,e1,e2]
theorem y7z(ho:OpR X (compareOp op) r)(ha:PE X a ta)(hb:PE X b tb)(hm:behindInMarks op b=false):PE X (.Compare a [op] [b] pos) (tOp r ta tb):=by
 intro pins s σ H Q I h;exact wpAny_Compare1 (binT ha hb I h λv u s2 x y H2 I2 rx ry q=>ho pins s2 σ H2 x y v u Q I2 rx ry q) hm
noncomputable def tTest(t:TE):TT:=λσ H Q=>t σ H λx H'=>∃k,x=.bl k/\Q k H'
theorem y70(ho:OpR X (compareOp op) r)(ha:PE X a ta)(hb:PE X b tb)(hm:behindInMarks op b=false):PT X (.Compare a [op] [b] pos) (tTest (tOp r ta tb)):=by
 intro pins s σ H Q I h
 refine wpAny_isTrue_Compare1 (thn (ha pins s σ H _ I h) λv s1 ⟨x,H1,I1,r1,q1⟩=>thn (hb pins s1 σ H1 _ I1 q1) λu s2 ⟨y,H2,I2,r2,q2⟩=>
  thn (ho pins s2 σ H2 x y v u _ I2 r1 r2 q2) λc s3 ⟨z,H3,I3,r3,k,e,q3⟩=>?_) hm
 subst e;cases r3;exact wpAny_truthy_bool ⟨H3,I3,q3⟩
noncomputable def TruV(K:PySem.W.Frag)(x:V)(H:Hp)(k:Bool):Prop:=
 match x with
 |.non=>k=false
 |.bl b=>k=b
 |.int i=>k=(i != 0)
 |.str y=>y.length<=sizeLine/\k=((y.length:Int) != 0)
 |.byt y=>y.size<=sizeLine/\k=((y.size:Int) != 0)
 |.ref p=>(∃xs,SqL K H p xs/\k=!xs.isEmpty)\/(∃xs,SqT K H p xs/\k=!xs.isEmpty)\/∃kvs,H p=some (.dK kvs)/\k=!kvs.isEmpty
 |_=>False
theorem x9f{κ:Type}{kvs:List (κ×V)}{vs:List (κ×Value)}(r:KV kvs vs):(!vs.isEmpty)=!kvs.isEmpty:=by
 cases r<;>rfl
theorem x1w{its:List Value}(r:Vals xs its):(!its.toArray.isEmpty)=!xs.isEmpty:=by
 cases r<;>simp
theorem line63:(sizeLine:Nat)<2^63:=by rw[sizeLine_eq];decide
theorem z24:TruR X (λx H Q=>∃k,TruV X.K x H k/\Q k H):=by
 intro pins s σ H x v Q I rx h;obtain⟨k,e,q⟩:=h;have hl:=line63;have hs:sizeLine=16777216:=sizeLine_eq;cases x with
 |non=>
  cases rx;have e':k=false:=e;subst e';exact truthy_none ⟨H,I,q⟩
 |bl b=>
  cases rx;have e':k=b:=e;subst e';exact wpAny_truthy_bool ⟨H,I,q⟩
 |int i=>
  obtain⟨t,rfl⟩:=rx;have e':k=(i != 0):=e;subst e';exact PySem.P.truthy_int ⟨H,I,q⟩
 |str y=>
  obtain⟨t,rfl⟩:=rx;obtain⟨hy,e'⟩:y.length<=sizeLine/\k=((y.length:Int) != 0):=e;subst e';exact PySem.P.truthy_str (by omega) ⟨H,I.tok _,q⟩
 |byt y=>
  obtain⟨t,rfl⟩:=rx;obtain⟨hy,e'⟩:y.size<=sizeLine/\k=((y.size:Int) != 0):=e;subst e';exact PySem.W.truthy_bytes (by omega) ⟨H,I.tok _,q⟩
 |ref p=>
  cases rx;have e':(∃xs,SqL X.K H p xs/\k=!xs.isEmpty)\/(∃xs,SqT X.K H p xs/\k=!xs.isEmpty)\/∃kvs,H p=some (.dK kvs)/\k=!kvs.isEmpty:=e;rcases e' with⟨xs,hx,e'⟩|⟨xs,hx,e'⟩|⟨kvs,hx,e'⟩
  ·subst e';obtain⟨its,r,pl,hz⟩:=I.list hx;have hlen:=r.length;exact wpAny_truthy_list pl.isList (by grind) ⟨H,I.tok _,by grind [x1w]⟩
  ·subst e';obtain⟨its,r,pl,hz⟩:=I.tuple hx;have hlen:=r.length;exact truthy_tuple pl (by grind) ⟨H,I.tok _,by grind [x1w]⟩
  ·subst e';obtain⟨hz,hS,vs,r,m⟩:kvs.length<=sizeLine/\(p==sysModules)=false/\∃vs,KV kvs vs/\s.heap.DictOf (mixKind X.prog X.w) p vs:=I.hok p _ hx;have hlen:kvs.length=vs.length:=Paired.length r;exact wpAny_truthy_dict hS m (by omega) ⟨H,I.tok _,by grind [x9f]⟩
 |_=>exact(show False from e).elim
theorem y38(ha:PE X a ta)(he:∀whole,isTrue a X.env whole=(do let v <- whole;standAt a.pos;holding [v] (truthy v))):
  PT X a (λσ H Q=>ta σ H λx H'=>∃k,TruV X.K x H' k/\Q k H'):=by
 intro pins s σ H Q I h;exact isTrue_plain (thn (ha pins s σ H _ I h) λv s1 ⟨x,H1,I1,r1,q1⟩=>z24 pins s1 σ H1 x v Q I1 r1 q1) (he _)
theorem op_add_str:OpR X (binaryOp .Add) (λx y H Q=>∃i j,x=.str i/\y=.str j/\i.length+j.length<=sizeLine/\Q (.str (i++j)) H):=by
 intro pins s σ H x y v u Q I rx ry h;obtain⟨i,j,rfl,rfl,hz,q⟩:=h;obtain⟨t,rfl⟩:=rx;obtain⟨t',rfl⟩:=ry;exact add_str (λt' tk=>⟨.str (i++j),H,I.tok _,⟨_,rfl⟩,q⟩) hz
theorem vals1{x:V}(r:Vals [x] us):∃u,us=[u]/\RelV x u:=by
 cases r with
 |cons r1 r2=>cases r2;exact⟨_,rfl,r1⟩
theorem vals2{x y:V}(r:Vals [x,y] us):∃u w',us=[u,w']/\RelV x u/\RelV y w':=by
 cases r with
 |cons r1 r2=>
  cases r2 with
  |cons r3 r4=>cases r4;grind
theorem y0t(hc:X.calm=true):CallR X (.builtin "max") (λxs H Q=>∃i j,xs=[.int i,.int j]/\Q (.int (if j>i then j else i)) H):=by
 intro pins s σ H xs us Q I r h;obtain⟨i,j,rfl,q⟩:=h;obtain⟨u,w',rfl,⟨t,rfl⟩,⟨t',rfl⟩⟩:=vals2 r;refine max_two_ints (I.ok.hd hc) λh' tk k=>⟨_,H,I.kept k,?_,q⟩
 by_cases hj:j>i
 ·rw[if_pos hj,if_pos hj];exact⟨_,rfl⟩
 ·rw[if_neg hj,if_neg hj];exact⟨_,rfl⟩
theorem y0u:CallR X (.type "int") (λxs H Q=>(∃i,xs=[.int i]/\Q (.int i) H)\/∃k,xs=[.bl k]/\Q (.int (if k then 1 else 0)) H):=by
 intro pins s σ H xs us Q I r h;rcases h with⟨i,rfl,q⟩|⟨k,rfl,q⟩
 ·obtain⟨u,rfl,t,rfl⟩:=vals1 r;exact call_int_int ⟨.int i,H,I,⟨_,rfl⟩,q⟩
 ·obtain⟨u,rfl,r1⟩:=vals1 r;cases r1;exact call_int_bool ⟨.int (if k then 1 else 0),H,I.tok _,⟨_,rfl⟩,q⟩
noncomputable def LenV(K:PySem.W.Frag)(x:V)(H:Hp)(n:Nat):Prop:=
 match x with
 |.str y=>y.length<=sizeLine/\n=y.length
 |.byt y=>y.size<=sizeLine/\n=y.size
 |.ref p=>(∃xs,SqL K H p xs/\n=xs.length)\/∃xs,SqT K H p xs/\n=xs.length
 |_=>False
theorem x5n:CallR X (.builtin "len") (λxs H Q=>∃x n,xs=[x]/\LenV X.K x H n/\Q (.int n) H):=by
 intro pins s σ H xs us Q I r h;obtain⟨x,n,rfl,e,q⟩:=h;obtain⟨u,rfl,rx⟩:=vals1 r;have hl:=line63;have hs:sizeLine=16777216:=sizeLine_eq;cases x with
 |str y=>
  obtain⟨t,rfl⟩:=rx;obtain⟨hy,e'⟩:y.length<=sizeLine/\n=y.length:=e;subst e';exact len_str (by omega) ⟨.int _,H,I.tok _,⟨_,rfl⟩,q⟩
 |byt y=>
  obtain⟨t,rfl⟩:=rx;obtain⟨hy,e'⟩:y.size<=sizeLine/\n=y.size:=e;subst e';exact PySem.W.len_bytes (by omega) ⟨.int _,H,I.tok _,⟨_,rfl⟩,q⟩
 |ref p=>
  cases rx;have e':(∃xs,SqL X.K H p xs/\n=xs.length)\/∃xs,SqT X.K H p xs/\n=xs.length:=e;rcases e' with⟨xs,hx,e'⟩|⟨xs,hx,e'⟩
  ·subst e';obtain⟨its,r',pl,hz⟩:=I.list hx;have hlen:=r'.length;exact Calls.call_len_list pl.isList (by grind) ⟨.int xs.length,H,I.tok _,⟨_,by simp only[w2c];rw[hlen]⟩,q⟩
  ·subst e';obtain⟨its,r',pl,hz⟩:=I.tuple hx;have hlen:=r'.length;exact len_tuple pl (by grind) ⟨.int xs.length,H,I.tok _,⟨_,by simp only[w2c];rw[hlen]⟩,q⟩
 |_=>exact(show False from e).elim
end
structure ObjM(h:Heap)(x dx C:Addr)(mA:Str->Option Value):Prop where
 obj:h.get? x=some (PySem.W.instObj C dx)
 ns:h.Ns1 dx mA
 ne:dx≠x
theorem RelO.some_of{v:V}{o:Option Value}(r:RelO (some v) o):∃u,o=some u/\RelV v u:=by
 cases o with
 |none=>exact(show False from r).elim
 |some u=>exact⟨u,rfl,r⟩
structure Cls(K:PySem.W.Frag)(C:Addr):Prop where
 pg:PySem.W.plainGet K C Str.empty=true
 hd:PySem.W.hasDictIn K C=true
 po:PySem.W.plainOver K C=true
 sa:findIn K (.ref C) "__setattr__"=some (some (.builtin "object.__setattr__"))
structure Con(K:PySem.W.Frag)(C:Addr)(f:Str)(v:V)(u:Value):Prop where
 at_:findIn K (.ref C) f=some (some u)
 rel:RelV v u
 get:specialIn K u "__get__"=some none
 cp:PySem.W.copiedNames.contains f=false
structure Meth(K:PySem.W.Frag)(C:Addr)(m:Str)(f:Addr):Prop where
 at_:findIn K (.ref C) m=some (some (.ref f))
 fn:PySem.W.isFn K (.ref f)=true
 kp:keepIn K (.ref f)=true
section
variable{Q:Value->Shared->Prop}{c:Value}{b:Bool}
inductive TyOf(K:PySem.W.Frag)(H:Hp):V->Value->Prop where
 |non:TyOf K H .non (.type "NoneType")
 |bl (x:Bool):TyOf K H (.bl x) (.type "bool")
 |int (i:Int):TyOf K H (.int i) (.type "int")
 |str (x:Str):TyOf K H (.str x) (.type "str")
 |flt (x:UInt64):TyOf K H (.flt x) (.type "float")
 |lst {a:Addr} {xs:List V} (e:H a=some (.lst xs)):TyOf K H (.ref a) (.type "list")
 |frz {a:Addr} {o:Obj} {xs:List V} (e:H a=some (.frz o (.lst xs))):TyOf K H (.ref a) (.type "list")
 |tup {a:Addr} {xs:List V} (e:H a=some (.tup xs)):TyOf K H (.ref a) (.type "tuple")
 |dK {a:Addr} {kvs:List (Key×V)} (e:H a=some (.dK kvs)):TyOf K H (.ref a) (.type "dict")
 |dT {a:Addr} {sh:Sh} {kvs:List (Kx×V)} {kas:List Addr} (e:H a=some (.dT sh kvs kas)):TyOf K H (.ref a) (.type "dict")
 |ins {a C dx:Addr} {fs:List (Str×V)} (e:H a=some (.ins C dx fs)) (cl:Cls K C) (ha:findIn K (.ref C) "__class__"=some (some (.builtin "object.__class__")))
   (hn:specialIn K (.builtin "object.__class__") "__get__"=some (some (.builtin "getset_descriptor.__get__"))) (htk:takesIn K (.builtin "object.__class__")=some true)
   (hm:PySem.W.mroIn K C (.type "object")=some true):TyOf K H (.ref a) (.ref C)
end
structure Room(k:Nat)(A:Around):Prop where
 hd:A.handled=none
 dp:A.depth+3*k+5<recursionLimit
 un:A.units+16*k+200<cLine
 gd:A.guards=some []
theorem Room.deeper{k:Nat}(r:Room (k+1) A)(env:Env):Room k (A.deeper env):=
 ⟨r.hd,by have:=r.dp;show A.depth+1+3*k+5<_;omega,by have:=r.un;show A.units+3+16*k+200<_;omega,r.gd⟩
theorem Room.depth{k:Nat}(r:Room k A):A.depth<recursionLimit:=by have:=r.dp;omega
noncomputable def tNil:TA:=λ_ H Q=>Q [] H
noncomputable def tCons(ta:TE)(tr:TA):TA:=λσ H Q=>ta σ H λx H1=>tr σ H1 λxs H2=>Q (x::xs) H2
theorem x1x:PA X [] tNil:=λ_ _ _ _ H Q I h=>Calls.spliced_nil ⟨[],H,I,.nil,h⟩
theorem q5c(ha:PE X e te)(hr:PA X es t)(hs:starEach (e::es) X.env=(false,eval e X.env)::starEach es X.env:=by rfl):PA X (e::es) (tCons te t):=by
 intro pos pins s σ H Q I h;rw[hs];show wpAny _ _ (spliced ((false,eval e X.env)::backTo pos (starEach es X.env))) _ _ s;refine Calls.spliced_cons (thn (ha pins s σ H _ I h) λu s1 ⟨x,H1,I1,r1,q1⟩=>?_)
 exact thn (hr pos pins s1 σ H1 _ I1 q1) λus s2 ⟨xs,H2,I2,r2,q2⟩=>⟨x::xs,H2,I2,.cons r1 r2,q2⟩
noncomputable def tTup(t:TA):TE:=λσ H Q=>t σ H λxs H1=>xs.length<=sizeLine/\∀p,H1 p=none->Q (.ref p) (upd H1 p (.tup xs))
noncomputable def tLst(t:TA):TE:=λσ H Q=>t σ H λxs H1=>xs.length<=sizeLine/\∀p,H1 p=none->Q (.ref p) (upd H1 p (.lst xs))
theorem z25{x1}(h:PA X es t):PE X (.Tuple es x1 pos) (tTup t):=by
 intro pins s σ H Q I hq;refine wpAny_Tuple_spliced (thn (h pos pins s σ H _ I hq) λus s1 ⟨xs,H1,I1,r,z,q⟩=>⟨by rw[<- r.length];exact z,?_⟩)
 have hf:H1 s1.heap.objs.size=none:=I1.hok.fresh (w0a _);refine⟨.ref s1.heap.objs.size,upd H1 s1.heap.objs.size (.tup xs),I1.laid (t':=s1.toks) (λb u e=>Heap.get?_push_of_some _ e) (w0a _) ?_,rfl,q _ hf⟩
 exact⟨z,us,r,⟨_,Heap.get?_push_size _ rfl,rfl,_,rfl⟩,⟨_,Heap.get?_push_size _ rfl,rfl⟩⟩
theorem z26(h:PA X es t):PE X (.List es pos) (tLst t):=by
 intro pins s σ H Q I hq;refine wpAny_List_spliced (thn (h pos pins s σ H _ I hq) λus s1 ⟨xs,H1,I1,r,z,q⟩=>⟨by rw[<- r.length];exact z,?_⟩)
 have hf:H1 s1.heap.objs.size=none:=I1.hok.fresh (w0a _);refine⟨.ref s1.heap.objs.size,upd H1 s1.heap.objs.size (.lst xs),I1.laid (t':=s1.toks) (λb u e=>Heap.get?_push_of_some _ e) (w0a _) ?_,rfl,q _ hf⟩
 exact⟨z,us,0,r,Heap.get?_push_size _ rfl⟩
abbrev Sp:=List V->Hp->VK->XK->Prop
variable{sp:Sp}
abbrev CXT:=List Env->Hp->Shared->XK->Value->Shared->Prop
variable{CX:CXT}
structure Env0(P:Program)(w:World)(K:PySem.W.Frag)(mg:Str->Option Value)(base:Heap)(A:Around)(outer:List Env)(s:Shared)(H:Hp):Prop where
 frames:A.frames=some outer
 mod:Mod K mg base
 bs:∀b o,base.get? b=some o->s.heap.get? b=some o/\H b=none
 bsz:base.objs.size<=s.heap.objs.size
 funs:s.heap.FunFrames base outer
 frf:∀b∈frs outer,H b=none
 hok:HOk P w H s.heap
 bare:AllBare s.gens
 tab:TabOk K H
noncomputable def CE(outer:List Env)(P:Program)(w:World)(H:Hp)(s:Shared)(Q:VK)(u:Value)(s':Shared):Prop:=
 ∃v H',s'.os=s.os/\AllBare s'.gens/\Un (frs outer) [] H H' s.heap s'.heap/\HOk P w H' s'.heap/\RelV v u/\Q v H'
noncomputable def CR(CX:CXT)(outer:List Env)(P:Program)(w:World)(H:Hp)(s:Shared)(Q:VK)(E:XK)(r:Result)(s':Shared):Prop:=
 match r with
 |.ok (.ret u)=>CE outer P w H s Q u s'
 |.ok _=>False
 |.error e=>CX outer H s E e s'
structure FnOk(P:Program)(w:World)(K:PySem.W.Frag)(mg:Str->Option Value)(base:Heap)(CX:CXT)(k:Nat)(f:Addr)(fd:FuncData)(ps:List Str)(sp:Sp):Prop where
 len:∀vs H Q E,sp vs H Q E->vs.length=ps.length
 run:∀(A:Around)(outer:List Env)(s:Shared)(H:Hp)(args:Args)(us:List Value)(vs:List V)(Q:VK)(E:XK),Room k A->Env0 P w K mg base A outer s H->BindsTo s fd args (ps.zip us)->Vals vs us->sp vs H Q E ->
  codeAny (model P w) A (.call (.ref f) args) (CR CX outer P w H s Q E) s
theorem FnOk.imp{k:Nat}{f:Addr}{sp':Sp}(F:FnOk P w K mg base CX k f fd ps sp)
  (h:∀vs H Q E,sp' vs H Q E->sp vs H Q E):FnOk P w K mg base CX k f fd ps sp':=
 ⟨λvs H Q E q=>F.len vs H Q E (h _ _ _ _ q),λA outer s H args us vs Q E hr he hb hv hs=>F.run A outer s H args us vs Q E hr he hb hv (h _ _ _ _ hs)⟩
section
variable{s':Shared}
theorem Inv.env0(I:Inv X pins σ H s):Env0 X.prog X.w X.K X.mg X.base X.A X.stack s H:=
 ⟨I.ok.frames,I.ok.mod,I.bs,w0s I.ok.bsz I.sz,I.stack,I.stkFree,I.hok,I.bare,I.ok.tab.un I.base⟩
theorem Inv.after{Q:VK}(I:Inv X pins σ H s)(h:CE X.stack X.prog X.w H s Q u s'):EP X pins σ Q u s':=by
 obtain⟨v,H',os,bare,un,hok,r,q⟩:=h;obtain⟨hh,g,d,t,os'⟩:=s';obtain rfl:os'=s.os:=os;exact⟨v,H',I.call (h':=hh) (g':=g) (d':=d) (t':=t) (ch:=[]) un hok bare (λb z=>absurd z (by simp)),r,q⟩
end
noncomputable def Binds(K:PySem.W.Frag)(fd:FuncData)(ps:List Str)(ds:List Value):Prop:=
 ∀(s:Shared)(us:List Value),K.In s.heap->(us++ds).length=ps.length->BindsTo s fd ⟨us,[]⟩ (ps.zip (us++ds))
theorem Binds.all(h:∀us:List Value,us.length=ps.length->bindArgs fd ⟨us,[]⟩=pure (ps.zip us)):Binds K fd ps []:=λs us _ hl=>by
 grind [BindsTo.of_eq]
section
variable{k:Nat}{f C:Addr}{dvs:List V}{ds:List Value}{E:XK}{m:Str}{apos:Pos}{o:Expr}
structure Mk(K:PySem.W.Frag)(C f:Addr):Prop where
 makes:PySem.W.makesIn K C=true
 init:findIn K (.ref C) "__init__"=some (some (.ref f))
 fn:PySem.W.isFn K (.ref f)=true
 kp:keepIn K (.ref C)=true
end
section
variable{k:Nat}{f C:Addr}{ks:List Str}{E:XK}{m:Str}{apos kpos:Pos}{o:Expr}{kws:List Keyword}{tk:TA}{nm:Option Str}
structure KBinds(K:PySem.W.Frag)(fd:FuncData)(ps ks:List Str)(g:List Value->List Value->List Value)(gV:List V->List V->List V):Prop where
 to:∀(s:Shared)(us ws:List Value),K.In s.heap->(g us ws).length=ps.length->BindsTo s fd ⟨us,ks.zip ws⟩ (ps.zip (g us ws))
 rel:∀{vs:List V}{us:List Value}{zs:List V}{ws:List Value},Vals vs us->Vals zs ws->Vals (gV vs zs) (g us ws)
variable{g:List Value->List Value->List Value}{gV:List V->List V->List V}
end
structure FnScope(N P:List Str)(sc:Scope):Prop where
 kind:sc.kind=.function
 co:sc.isCoroutine=false
 gen:sc.isGenerator=false
 nd:N.Nodup
 pre:N.take P.length=P
 par:∀x∈P,sc.names.lookup x=some .local\/sc.names.lookup x=some .cell
 nofree:∀y∈sc.names,y.2≠.free
theorem x3q{kindOf:Str->Option NameKind}:∀{binds:List (Str×Value)}{m:Str->Option Value},(∀v,(x,v)∉binds)->bindL kindOf binds m x=m x
 |[],_,_=>rfl
 |(n,v)::r,m,h=>by
  unfold bindL;rw[x3q λw hw=>h w (w0e _ hw)]
  split
  all_goals grind
theorem x3r{kindOf:Str->Option NameKind}:∀{binds:List (Str×Value)}{m:Str->Option Value},(∀v,(x,v)∉binds)->bindC kindOf binds m x=m x
 |[],_,_=>rfl
 |(n,v)::r,m,h=>by
  unfold bindC;rw[x3r λw hw=>h w (w0e _ hw)]
  split
  all_goals grind
theorem x3s{kindOf:Str->Option NameKind}{x:Str}{v:Value}:∀{P:List Str}{vs:List Value}{i:Nat}{m:Str->Option Value},P.Nodup->P[i]?=some x->vs[i]?=some v->kindOf x=some .local ->
  bindL kindOf (P.zip vs) m x=some v
 |[],_,_,_,_,h,_,_=>by simp at h
 |_::_,[],_,_,_,_,h,_=>by simp at h
 |p::P,w::vs,0,m,nd,h1,h2,hk=>by
  simp at h1 h2;subst h1;subst h2;show bindL kindOf ((p,w)::P.zip vs) m p=_;unfold bindL;rw[x3q λv hv=>(w1p.mp nd).1 (w3t hv).1,if_pos hk]
  simp
 |p::P,w::vs,i+1,m,nd,h1,h2,hk=>by
  show bindL kindOf ((p,w)::P.zip vs) m x=_;unfold bindL;exact x3s (i:=i) (w1p.mp nd).2 (by simpa using h1) (by simpa using h2) hk
theorem x3t{kindOf:Str->Option NameKind}{x:Str}{v:Value}:∀{P:List Str}{vs:List Value}{i:Nat}{m:Str->Option Value},P.Nodup->P[i]?=some x->vs[i]?=some v->kindOf x≠some .local ->
  bindC kindOf (P.zip vs) m x=some v
 |[],_,_,_,_,h,_,_=>by simp at h
 |_::_,[],_,_,_,_,h,_=>by simp at h
 |p::P,w::vs,0,m,nd,h1,h2,hk=>by
  simp at h1 h2;subst h1;subst h2;show bindC kindOf ((p,w)::P.zip vs) m p=_;unfold bindC;rw[x3r λv hv=>(w1p.mp nd).1 (w3t hv).1,if_neg hk]
  simp
 |p::P,w::vs,i+1,m,nd,h1,h2,hk=>by
  show bindC kindOf ((p,w)::P.zip vs) m x=_;unfold bindC;exact x3t (i:=i) (w1p.mp nd).2 (by simpa using h1) (by simpa using h2) hk
noncomputable def start(N:List Str)(vs:List V):St:=vs.map some++List.replicate (N.length-vs.length) none
noncomputable def cxOf(CX:CXT)(P:Program)(w:World)(K:PySem.W.Frag)(mg:Str->Option Value)(base:Heap)(N:List Str)(qual:Str)(scope:Scope)(f:Addr)(cd:Value)(A:Around)(outer:List Env)(s:Shared)(H:Hp)(E:XK):Cx where
 prog:=P
 w:=w
 K:=K
 mg:=mg
 base:=base
 A:=A.deeper (envOfC qual scope s.heap.objs.size f cd)
 N:=N
 s₀:=s
 H₀:=H
 env:=envOfC qual scope s.heap.objs.size f cd
 outer:=outer
 stack:=envOfC qual scope s.heap.objs.size f cd::outer
 ex:=[]
 calm:=true
 fn:=λ_=>true
 pn:=[]
 xe:=λe s'=>wpAny (model P w) (A.deeper (envOfC qual scope s.heap.objs.size f cd)) (leaving (envOfC qual scope s.heap.objs.size f cd) e) (λ_ s''=>CX outer H s E e s'') (λe' s''=>CX outer H s E e' s'') s'
theorem x5o{sc:Scope}{n:Nat}(h:sc.names.lookup x=some .cell):∃c,(cellsFrom n sc.names []).lookup x=some c:=by
 have q:=PySem.W.cellsFrom_some sc.names n [] (.inl h);exact w3c.mp q
theorem y0v{qual:Str}{scope:Scope}{f:Addr}{cd:Value}{outer:List Env}{s1:Shared}{E:XK}{vs:List V}
  (S:FnScope N ps scope)(hd:A.handled=none)(e0:Env0 P w K mg base A outer s H)(hl:vs.length=ps.length)(r:Vals vs us)
  (x:InCallC s s.heap.objs.size (bindL (envOfC qual scope s.heap.objs.size f cd).kindOf (ps.zip us) λ_=>none) (cellsFrom (s.heap.objs.size+1) scope.names []) (bindC (envOfC qual scope s.heap.objs.size f cd).kindOf (ps.zip us) λ_=>none) s1):
  Inv (cxOf CX P w K mg base N qual scope f cd A outer s H E) [] (start N vs) H s1:=by
 have hpl:ps.length<=N.length:=by have:=congrArg List.length S.pre;grind
 obtain⟨h1,tk,rfl,hk⟩:=x.done;have noA:∀b:Addr,b∉(cxOf CX P w K mg base N qual scope f cd A outer s H E).ex:=λb z=>absurd (show b∈([]:List Addr)from z) (by simp)
 refine⟨⟨e0.mod,S.kind,rfl,rfl,w0a _,λy z c h1 h2=>?_,λy hy=>?_,λy c _ h=>?_,λ_=>hd,Around.frames_deeper e0.frames,.inr ⟨rfl,rfl⟩,λb z=>absurd z (noA b),e0.bs,e0.bsz,λb _ _=>noA b,λb z=>absurd z (noA b),e0.funs,e0.frf,e0.tab⟩,
  rfl,e0.bare,Un.kept hk,⟨_,x.toInCall.ns,λi y v h1 h2 h3=>?_⟩,λy c h=>⟨_,x.cell y c h⟩,e0.hok.fresh (w0a _),λy c h=>?_,λp hp=>absurd (show p∈([]:List (Addr×Obj))from hp) (by simp),e0.hok.kept hk,?_⟩
 ·exact name_of_addr x.apart (PySem.mem_of_lookup h1) (PySem.mem_of_lookup h2)
 ·have hy:scope.names.lookup y=some .cell\/scope.names.lookup y=some .free:=hy;rcases hy with hy|hy
  ·exact x5o hy
  ·exact absurd rfl (S.nofree _ (PySem.mem_of_lookup hy))
 ·exact w5e (x.above y c (PySem.mem_of_lookup h))
 ·have hi:i<vs.length:=by
   grind [start]
  have ha:vs[i]?=some v:=by
   grind [start]
  obtain⟨u,hu,rv⟩:=r.get ha
  have hp:ps[i]?=some y:=by
   rw[<- S.pre,List.getElem?_take_of_lt (by omega)];exact h1
  have ndP:ps.Nodup:=by rw[<- S.pre];exact S.nd.sublist (List.take_sublist _ _)
  refine⟨u,rv,?_⟩;rcases S.par y (w1o hp)with k|k
  ·exact .inl ⟨k,x3s ndP hp hu k⟩
  ·obtain⟨c,e⟩:=x5o (n:=s.heap.objs.size+1) k;refine .inr ⟨.inl k,c,e,?_⟩;have q:=x.cell y c e;rw[x3t ndP hp hu (by show scope.names.lookup y≠_;rw[k];decide)]at q;exact q
 ·exact e0.hok.fresh (w5e (x.above y c (PySem.mem_of_lookup h)))
 ·unfold start;show _=N.length
  grind
theorem z7b{k:Nat}{f:Addr}{name qual:Str}{params:Arguments}{body:List Stmt}{scope:Scope}{dV kV doc pm cdv ct oc:Value}{an od:Option Addr}
  {osl:Array (Option Value)}(lk:K.lookup f=some ⟨oc,od,.func (PySem.W.fnOf name qual params body scope dV kV doc pm an cdv ct),osl⟩)(hcd:PySem.W.codeIn K cdv qual=true)(S:FnScope N ps scope)
  (len:∀vs H Q E,sp vs H Q E->vs.length=ps.length)
  (hbody:∀(A:Around)(outer:List Env)(s:Shared)(H:Hp)(vs:List V)(Q:VK)(E:XK),Room k (A.deeper (envOfC qual scope s.heap.objs.size f cdv))->sp vs H Q E ->
   ∃t,PSs (cxOf CX P w K mg base N qual scope f cdv A outer s H E) body t/\t {nx:=λ_ H'=>Q .non H',rt:=Q} (start N vs) H):
  FnOk P w K mg base CX (k+1) f (PySem.W.fnOf name qual params body scope dV kV doc pm an cdv ct) ps sp:=by
 refine⟨len,λA outer s H args us vs Q E hr e0 hb r hsp=>?_⟩
 have hl:=len _ _ _ _ hsp;have KX:K.In s.heap:=e0.mod.kin.keeps λb o e=>(e0.bs b o e).1
 have lim:s.heap.NoLimit:=e0.mod.nolimit.keeps λb o e=>(e0.bs b o e).1
 have hkind:∀y∈ps.zip us,scope.names.lookup y.1=some .local\/(scope.names.lookup y.1=some .cell/\((cellsFrom (s.heap.objs.size+1) scope.names []).lookup y.1).isSome=true):=fun⟨n,v⟩ hy=>by
  rcases S.par n (w3t hy).1 with q|q
  all_goals grind [W.cellsFrom_some]
 refine codeAny_call_function hr.depth (KX _ _ lk) rfl S.co S.gen rfl (PySem.W.codeRec_of KX hcd) (hb _ _ _ _ ?_)
 refine wpAny_newFunctionEnv_cells S.kind hkind λenv he s1 x=>?_
 subst he;refine⟨lim.keeps x.toInCall.keep,codeAny_func ?_⟩
 obtain⟨t,ht,hq⟩:=hbody A outer s H vs Q E (hr.deeper _) hsp;have I:Inv (cxOf CX P w K mg base N qual scope f cdv A outer s H E) [] (start N vs) H s1:=y0v S hr.hd e0 hl r x;refine wpAny_mono (ht [] s1 (start N vs) H _ I hq) (λfl s' hs=>?_) λe s' hs=>hs
 have fin:∀{σ':St}{H':Hp}{v:V}{u:Value},Inv (cxOf CX P w K mg base N qual scope f cdv A outer s H E) [] σ' H' s'->RelV v u->Q v H'->CE outer P w H s Q u s':=
  λ{σ' H' v u} J rv q=>⟨v,H',J.os,J.bare,J.base,J.hok,rv,q⟩
 cases fl with
 |ret u=>
  obtain⟨v,σ',H',J,rv,q⟩:=hs;exact fin J rv q
 |next=>
  obtain⟨σ',H',J,q⟩:=hs;exact fin (v:=V.non) (u:=Value.none) J rfl q
 |brk=>
  obtain⟨_,_,_,q⟩:=hs;exact False.elim q
 |cont=>
  obtain⟨_,_,_,q⟩:=hs;exact False.elim q
section
variable{id T:String}{r:List V->Hp->VK->Prop}
noncomputable def tCB(r:List V->Hp->VK->Prop)(t:TA):TE:=λσ H Q=>t σ H λvs H1=>r vs H1 Q
theorem x1b(hc:CallR X (.builtin id) r)(hg:Gl X x)(hm:X.mg x=none)(hv:bootBuiltins x=some (.builtin id))(ha:PA X (e::es) t)(hn:x≠"__name__":=by decide)(hdb:(x==("__debug__":Str))=false:=by decide)
  (he:starEach (e::es) X.env=(false,eval e X.env)::starEach es X.env:=by rfl)(hpl:(backTo pos (starEach es X.env)).any (·.1)=false:=by rfl):PE X (.Call (.Name x p) (e::es) [] pos) (tCB r t):=by
 intro pins s σ H Q I h;refine wpAny_Call_Name_kw (q3y I hg hm hv ?_ hn hdb);exact PyProof.Rows.callWith_builtin1 (thn (ha pos pins s σ H _ I h) λus s1 ⟨vs,H1,I1,r1,q1⟩=>hc pins s1 σ H1 vs us Q I1 r1 q1) he hpl
theorem x3u(hc:CallR X (.type T) r)(hg:Gl X x)(hm:X.mg x=none)(hv:bootBuiltins x=some (.type T))(ha:PA X (e::es) t)(hn:x≠"__name__":=by decide)(hdb:(x==("__debug__":Str))=false:=by decide)
  (he:starEach (e::es) X.env=(false,eval e X.env)::starEach es X.env:=by rfl)(hpl:(backTo pos (starEach es X.env)).any (·.1)=false:=by rfl):PE X (.Call (.Name x p) (e::es) [] pos) (tCB r t):=by
 intro pins s σ H Q I h;refine wpAny_Call_Name_kw (q3y I hg hm hv ?_ hn hdb);exact PyProof.Rows.callWith_type1 (thn (ha pos pins s σ H _ I h) λus s1 ⟨vs,H1,I1,r1,q1⟩=>hc pins s1 σ H1 vs us Q I1 r1 q1) he hpl
end
end L2
namespace HT
open PySem PyProof.Rows
section
variable{prog:Program}{w:World}{A:Around}{E:Value->Shared->Prop}{s:Shared}
theorem cat_tup{t b:Addr}{vs ws:List Value}{Q:Value->Shared->Prop}(ht:IsTup s.heap t vs.toArray)(hb:IsTup s.heap b ws.toArray)(hv:vs≠[])
  (h1:ws=[]->Q (.ref t) s)(h2:ws≠[]->Q (.ref s.heap.objs.size) {s with heap:=s.heap.push {cls:=.type "tuple", data:=.seq (vs++ws).toArray}})
  (hsz:vs.length+ws.length<=sizeLine):wpAny (model prog w) A (binaryOp .Add (.ref t) (.ref b)) Q E s:=by
 obtain⟨⟨cls,dd,data,sl⟩,ho,hc,n,hd⟩:=id ht;obtain⟨⟨cls2,dd2,data2,sl2⟩,ho2,hc2,n2,hd2⟩:=id hb;simp only at hc hd hc2 hd2;subst hc hd hc2 hd2;have e:vs.toArray++ws.toArray=(vs++ws).toArray:=by simp
 by_cases hw:ws=[]
 ·exact concat_meets ⟨_,ho,rfl⟩ ⟨_,ho2,rfl⟩ noFill_tuple_add seq_tuple_add PySem.F.slot_tuple_add PySem.F.entry_tuple_add (PySem.F.args_tuple_add_2 _ _)
   (tuple_addW1 t b vs.toArray ws.toArray n n2 dd dd2 sl sl2 (by simpa using hv) (by simp[hw])) ⟨ho,ho2,h1 hw⟩
 ·refine concat_meets ⟨_,ho,rfl⟩ ⟨_,ho2,rfl⟩ noFill_tuple_add seq_tuple_add PySem.F.slot_tuple_add PySem.F.entry_tuple_add (PySem.F.args_tuple_add_2 _ _)
   (tuple_addW2 t b vs.toArray ws.toArray n n2 dd dd2 sl sl2 (by simpa using hv) (by simpa using hw) (by grind)) ⟨ho,ho2,?_⟩
  rw[e];exact h2 hw
noncomputable def sIx(n d:Nat):Option Int->Nat
 |none=>d
 |some v=>if v<0 then(v+(n:Int)).toNat else min v.toNat n
theorem sIx_none(n d:Nat):sIx n d none=d:=rfl
theorem sIx_nat(n d k:Nat):sIx n d (some (k:Int))=min k n:=by
 show(if(k:Int)<0 then((k:Int)+(n:Int)).toNat else min (k:Int).toNat n)=min k n
 grind
theorem z27(n d:Nat)(hd:d<=n)(o:Option Int):sIx n d o<=n:=by
 cases o with
 |none=>exact hd
 |some v=>
  show(if v<0 then(v+(n:Int)).toNat else min v.toNat n)<=n
  grind
theorem x74(v:Int)(n d:Nat):(if v<0 then max (v+(n:Int)) 0 else min v (n:Int))=((sIx n d (some v):Nat):Int):=by
 show(if v<0 then max (v+(n:Int)) 0 else min v (n:Int))=(((if v<0 then(v+(n:Int)).toNat else min v.toNat n):Nat):Int)
 grind
theorem x9g(lo hi:Option Int)(n:Nat):Builtin.Slice.sliceAdjust lo hi 1 (n:Int)=(((sIx n 0 lo:Nat):Int),((sIx n n hi:Nat):Int)):=by
 have h1:¬((1:Int)<0):=by omega
 unfold Builtin.Slice.sliceAdjust;simp only[h1,if_false];refine Prod.ext ?_ ?_
 ·cases lo with
  |none=>rfl
  |some v=>exact x74 v n 0
 ·cases hi with
  |none=>rfl
  |some v=>exact x74 v n n
theorem x9h(i j:Nat):Builtin.Slice.slicePlaces (i:Int) (j:Int) 1=j-i:=by
 unfold Builtin.Slice.slicePlaces
 grind
theorem x9i{v:Value}{o:Option Int}{Q:Option Int->Shared->Prop}(p:IsPart v o)(h:Q o s):wpAny (model prog w) A (Builtin.Slice.slicePartIndex v) Q E s:=by
 cases p with
 |none=>exact slicePart_none h
 |int i t=>exact slicePart_int h
theorem q6r{sl:Addr}{vl vu:Value}{lo hi:Option Int}{n:Nat}{Q:Int×Int×Nat->Shared->Prop}(hs:s.heap.IsSliceOf sl vl vu .none)(pl:IsPart vl lo)(pu:IsPart vu hi)
  (h:Q (((sIx n 0 lo:Nat):Int),1,sIx n n hi-sIx n 0 lo) s):wpAny (model prog w) A (Builtin.Slice.sliceApplied (.ref sl) (pure (n:Int))) Q E s:=by
 obtain⟨os,hos,hcs,hds⟩:=id hs;unfold Builtin.Slice.sliceApplied Builtin.Slice.sliceFields;refine wpAny_bind (wpAny_bind (wpAny_field hos hds (x:=vl) rfl (wpAny_bind (wpAny_field hos hds (x:=vu) rfl (wpAny_bind (wpAny_field hos hds (x:=.none) rfl (wpAny_pure ?_)))))));refine wpAny_bind (slicePart_none ?_);show wpAny _ _ (if((1:Int)==0)=true then _ else _) _ _ s;rw[if_neg (by decide)]
 grind [wpAny_bind,x9i,wpAny_pure,x9g,x9h]
theorem y39(xs:Array Value)(i k:Nat):((List.range k).filterMap fun(m:Nat)=>xs[((i:Int)+(m:Int)*1).toNat]?).toArray=((xs.toList.drop i).take k).toArray:=by
 have e:(fun(m:Nat)=>xs[((i:Int)+(m:Int)*1).toNat]?)=λm=>xs[i+m]?:=by
  grind
 rw[e];have:=pick_run xs i k;rw[List.filterMap_map]at this;have e2:((λx=>xs[x]?) ∘ λx=>i+x)=λm=>xs[i+m]?:=rfl
 grind
theorem getItem_tuple_cut{t sl:Addr}{items:Array Value}{vl vu:Value}{lo hi:Option Int}{Q:Value->Shared->Prop}(ht:IsTup s.heap t items)(hs:s.heap.IsSliceOf sl vl vu .none)(pl:IsPart vl lo)(pu:IsPart vu hi)
  (hw:¬(sIx items.size 0 lo=0/\sIx items.size items.size hi=items.size))
  (h:Q (.ref s.heap.objs.size) {s with heap:=s.heap.push {cls:=.type "tuple", data:=.seq ((items.toList.drop (sIx items.size 0 lo)).take (sIx items.size items.size hi-sIx items.size 0 lo)).toArray}})
  (hsz:items.size<=sizeLine):wpAny (model prog w) A (getItem (.ref t) (.ref sl)) Q E s:=by
 have htake:sizeOk (.seq ((items.toList.drop (sIx items.size 0 lo)).take (sIx items.size items.size hi-sIx items.size 0 lo)).toArray):=by
  show((items.toList.drop (sIx items.size 0 lo)).take (sIx items.size items.size hi-sIx items.size 0 lo)).toArray.size<=sizeLine
  grind
 have hj:sIx items.size items.size hi<=items.size:=z27 _ _ (w0a _) hi;obtain⟨os,hos,hcs,hds⟩:=id hs;have hTs:s.TypeIs (.ref sl) "slice":=⟨os,hos,hcs⟩;unfold getItem;try with_reducible refine wpAny_holding ?_
 first|refine wpAny_bind (wpAny_pure ?_)|skip
 refine wpAny_bind (wpAny_sequenceKey ht.typeIs (by decide) ?_)
 refine wpAny_bind (wpAny_callSpecial?_slot (name:=Str.ofString "__getitem__") ht.typeIs PyProof.Rows.slot_tuple_getitem
  (wpAny_call_entry PyProof.Rows.slot_tuple_getitem ht.typeIs entry_tuple_getitem ?_ (args_tuple_getitem _ _)))
 show wpAny _ _ (Builtin.Tuple.tupleItemsOf (.ref t) >>= _) _ _ s;refine wpAny_bind (tupleItemsOf_ ht ?_);refine wpAny_bind (wpAny_typeOf hTs ?_);rw[if_pos (by decide)];refine wpAny_bind (q6r hs pl pu ?_)
 have hno:¬((((sIx items.size 0 lo:Nat):Int)==0&&(1:Int)==1&&(sIx items.size items.size hi-sIx items.size 0 lo)==items.size)=true):=by
  grind
 show wpAny _ _ (if(((sIx items.size 0 lo:Nat):Int)==0&&(1:Int)==1&&(sIx items.size items.size hi-sIx items.size 0 lo)==items.size)=true then _ else _) _ _ s;rw[if_neg hno,y39]
 first
  |exact wpAny_bind (m:=Builtin.Tuple.tupleExact _) (wpAny_newObj_type (wpAny_pure ⟨_,rfl,wpAny_pure h⟩) htake)
  |exact wpAny_bind (m:=Builtin.Tuple.tupleExact _) (wpAny_newObj_type (wpAny_bind (wpAny_pure (wpAny_pure ⟨_,rfl,wpAny_pure h⟩))) htake)
  |exact wpAny_bind (wpAny_bind (m:=Builtin.Tuple.tupleExact _) (wpAny_newObj_type (wpAny_pure (wpAny_pure ⟨_,rfl,wpAny_pure h⟩)) htake))
  |exact wpAny_bind (wpAny_bind (m:=Builtin.Tuple.tupleExact _) (wpAny_newObj_type (wpAny_pure ⟨_,rfl,wpAny_pure h⟩) htake))
end
end HT
namespace L2
open PySem PySem.Spec PyProof.Rows
variable{A:Around}{X:Cx}{H:Hp}{pins:List (Addr×Obj)}{xs:List V}{its us:List Value}{n:Nat}{s:Shared}{σ:St}{α:Type}{x:V}{v:Value}
abbrev TO:=St->Hp->(Option Int->Hp->Prop)->Prop
noncomputable def PO(X:Cx)(e:Option Expr)(t:TO):Prop:=
 ∀(pins:List (Addr×Obj))(s:Shared)(σ:St)(H:Hp)(Q:Option Int->Hp->Prop),Inv X pins σ H s->t σ H Q ->
  wpAny (model X.prog X.w) X.A (evalPart e X.env) (λu s'=>∃o H',Inv X pins σ H' s'/\IsPart u o/\Q o H') X.xe s
noncomputable def tNoPart:TO:=λ_ H Q=>Q none H
noncomputable def tPart(t:TE):TO:=λσ H Q=>t σ H λx H1=>∃i,x=.int i/\Q (some i) H1
section
variable{e:Expr}{te:TE}{lo hi:Option Expr}{tl th:TO}{pos p2:Pos}
theorem y71:PO X none tNoPart:=by
 intro pins s σ H Q I h;rw[evalPart_none];exact wpAny_pure ⟨none,H,I,.none,h⟩
theorem y72(h:PE X e te):PO X (some e) (tPart te):=by
 intro pins s σ H Q I hw;rw[evalPart_some];refine thn (h pins s σ H _ I hw) λu s1 ⟨x,H1,I1,r1,q1⟩=>?_
 obtain⟨i,rfl,q⟩:=q1;obtain⟨t,rfl⟩:=r1;exact⟨some i,H1,I1,.int i t,q⟩
noncomputable def SlR(X:Cx)(r:V->Option Int->Option Int->Hp->VK->Prop):Prop:=
 ∀(pins:List (Addr×Obj))(s:Shared)(σ:St)(H:Hp)(x:V)(v vl vu:Value)(lo hi:Option Int)(sl:Addr)(Q:VK),Inv X pins σ H s->RelV x v->s.heap.IsSliceOf sl vl vu .none->IsPart vl lo->IsPart vu hi->r x lo hi H Q ->
  ∃T id,typeLookup (.type T) "__getitem__"=pure (some (.builtin id))/\s.TypeIs v T/\wpAny (model X.prog X.w) X.A (getItem v (.ref sl)) (EP X pins σ Q) X.xe s
theorem SlR.or{r r':V->Option Int->Option Int->Hp->VK->Prop}(h:SlR X r)(h':SlR X r'):SlR X (λx lo hi H Q=>r x lo hi H Q\/r' x lo hi H Q):=by
 intro pins s σ H x v vl vu lo hi sl Q I rx hs pl pu q;rcases q with q|q
 ·exact h pins s σ H x v vl vu lo hi sl Q I rx hs pl pu q
 ·exact h' pins s σ H x v vl vu lo hi sl Q I rx hs pl pu q
noncomputable def tSl(r:V->Option Int->Option Int->Hp->VK->Prop)(te:TE)(tl th:TO):TE:=λσ H Q=>te σ H λx H1=>tl σ H1 λl H2=>th σ H2 λu H3=>r x l u H3 Q
theorem y4a{r:V->Option Int->Option Int->Hp->VK->Prop}(hr:SlR X r)(he:PE X e te)(hl:PO X lo tl)(hu:PO X hi th):PE X (.Subscript e (.Slice lo hi none p2) pos) (tSl r te tl th):=by
 intro pins s σ H Q I h;refine Subscript_ (thn (he pins s σ H _ I h) λv s1 ⟨x,H1,I1,r1,q1⟩=>?_)
 refine wpAny_Slice (thn (hl pins s1 σ H1 _ I1 q1) λvl s2 ⟨l,H2,I2,pl,q2⟩=>thn (hu pins s2 σ H2 _ I2 q2) λvu s3 ⟨u,H3,I3,pu,q3⟩=>?_)
 rw[evalPart_none];refine wpAny_pure ?_;have I4:Inv X pins σ H3 {s3 with heap:=s3.heap.push {cls:=.type "slice", data:=.fields #[vl,vu,.none]}}:=I3.kept (t':=s3.toks) λb ob q=>Heap.get?_push_of_some _ q
 obtain⟨T,id,hT,ht,hg⟩:=hr pins {s3 with heap:=s3.heap.push {cls:=.type "slice", data:=.fields #[vl,vu,.none]}} σ H3 x v vl vu l u s3.heap.objs.size Q I4 r1 (Heap.IsSliceOf.new ..) pl pu q3;show wpAny (model X.prog X.w) X.A (subscriptTail e (.Slice lo hi none p2) v (.ref s3.heap.objs.size)) (EP X pins σ Q) X.xe {s3 with heap:=s3.heap.push {cls:=.type "slice", data:=.fields #[vl,vu,.none]}};exact tail_any (ops:=[.ref s3.heap.objs.size,v]) ht hT hg (by with_unfolding_all rfl)
noncomputable def cutV(xs:List V)(lo hi:Option Int):List V:=(xs.drop (HT.sIx xs.length 0 lo)).take (HT.sIx xs.length xs.length hi-HT.sIx xs.length 0 lo)
theorem x0v(xs:List V)(lo hi:Option Int):(cutV xs lo hi).length<=xs.length:=by
 grind [cutV]
noncomputable def rSlT(K:PySem.W.Frag):V->Option Int->Option Int->Hp->VK->Prop:=λx lo hi H Q=>∃a xs,x=.ref a/\SqT K H a xs /\
 ¬(HT.sIx xs.length 0 lo=0/\HT.sIx xs.length xs.length hi=xs.length)/\∀p,H p=none->Q (.ref p) (upd H p (.tup (cutV xs lo hi)))
theorem z28:SlR X (rSlT X.K):=by
 intro pins s σ H x v vl vu lo hi sl Q I rx hs pl pu h;obtain⟨a,xs,rfl,hx,hw,q⟩:=h;cases rx;obtain⟨its,r,ht,hz⟩:=I.tuple hx;have hlen:its.toArray.size=xs.length:=by rw[w2c];exact r.length.symm
 refine⟨"tuple", _,PyProof.Rows.slot_tuple_getitem.lookup,ht.typeIs,?_⟩;refine HT.getItem_tuple_cut ht hs pl pu (by rw[hlen];exact hw) ?_ (by rw[hlen];exact hz);rw[hlen];refine⟨.ref s.heap.objs.size,_,I.laid (t':=s.toks) (o:=.tup (cutV xs lo hi)) (λb ob q=>Heap.get?_push_of_some _ q) (w0a _) ?_,rfl,q _ (I.hok.fresh (w0a _))⟩
 exact⟨w0s (x0v xs lo hi) hz,_,(r.drop (HT.sIx xs.length 0 lo)).take (HT.sIx xs.length xs.length hi-HT.sIx xs.length 0 lo),IsTup.new _ _,_,Heap.get?_push_size _ rfl,rfl⟩
noncomputable def rCatT(K:PySem.W.Frag):R2:=λx y H Q=>∃a b xs ys,x=.ref a/\y=.ref b/\SqT K H a xs/\SqT K H b ys/\xs≠[]/\xs.length+ys.length<=sizeLine /\
 (ys=[]->Q (.ref a) H)/\(ys≠[]->∀p,H p=none->Q (.ref p) (upd H p (.tup (xs++ys))))
theorem Vals.nil_iff(r:Vals xs us):us=[]↔xs=[]:=by
 cases r with
 |nil=>simp
 |cons _ _=>simp
theorem op_catT:OpR X (binaryOp .Add) (rCatT X.K):=by
 intro pins s σ H x y v u Q I rx ry h;obtain⟨a,b,xs,ys,rfl,rfl,ha,hb,hx,hz,q1,q2⟩:=h;cases rx;cases ry;obtain⟨its,r1,p1,_⟩:=I.tuple ha;obtain⟨its2,r2,p2,_⟩:=I.tuple hb;refine HT.cat_tup p1 p2 (λz=>hx (r1.nil_iff.mp z)) (λz=>⟨.ref a,H,I,rfl,q1 (r2.nil_iff.mp z)⟩) (λz=>?_) (by grind [Vals.length])
 refine⟨.ref s.heap.objs.size,_,I.laid (t':=s.toks) (o:=.tup (xs++ys)) (λb ob q=>Heap.get?_push_of_some _ q) (w0a _) ?_,rfl,q2 (λw=>z (r2.nil_iff.mpr w)) _ (I.hok.fresh (w0a _))⟩
 exact⟨by grind,_,r1.append r2,IsTup.new _ _,_,Heap.get?_push_size _ rfl,rfl⟩
end
noncomputable def ixN(n:Nat)(i:Int):Option Nat:=if 0<=i then(if i<n then some i.toNat else none)else if -(n:Int)<=i then some (i+n).toNat else none
noncomputable def atI(xs:List α)(i:Int):Option α:=(ixN xs.length i).bind λj=>xs[j]?
theorem x75{i:Int}{j:Nat}(h:ixN n i=some j):seqIndex? i n=some j/\j<n/\-(n:Int)<=i/\i<n:=by
 unfold ixN at h
 by_cases h0:0<=i
 ·rw[if_pos h0]at h
  by_cases h1:i<n
  ·rw[if_pos h1]at h
   grind [seqIndex_of]
  grind
 ·rw[if_neg h0]at h
  by_cases h1:-(n:Int)<=i
  ·rw[if_pos h1]at h
   grind [seqIndex_neg]
  grind
theorem x23{xs:List α}{i:Int}{v:α}(h:atI xs i=some v):∃j,seqIndex? i xs.length=some j/\xs[j]?=some v/\j<xs.length/\-(xs.length:Int)<=i/\i<xs.length:=by
 grind [atI,ixN,x75]
theorem q4j{xs:List α}{j:Nat}{v:α}(h:xs[j]?=some v):atI xs (j:Int)=some v:=by
 have hj:j<xs.length:=(w0m.mp h).1
 simp_all [ixN,atI]
noncomputable def PlainIx(b:Expr):Prop:=∀o i,subscripted b false o i=operate [o,i] (getItem o i)
noncomputable def IxR(X:Cx)(r:R2):Prop:=
 ∀(value slice:Expr)(pins:List (Addr×Obj))(s:Shared)(σ:St)(H:Hp)(x y:V)(v u:Value)(Q:VK),Inv X pins σ H s->RelV x v->RelV y u->r x y H Q ->
  subscripted slice false v u=operate [v,u] (getItem v u)->wpAny (model X.prog X.w) X.A (subscriptTail value slice v u) (EP X pins σ Q) X.xe s
noncomputable def MtR(X:Cx)(id:String)(r:V->List V->Hp->VK->Prop):Prop:=
 ∀(pins:List (Addr×Obj))(s:Shared)(σ:St)(H:Hp)(x:V)(xs:List V)(v:Value)(us:List Value)(Q:VK),Inv X pins σ H s->RelV x v->Vals xs us->r x xs H Q ->
  wpAny (model X.prog X.w) X.A (call (.builtin id) (v::us)) (EP X pins σ Q) X.xe s
section
variable{a b:Expr}{ta tb:TE}{pos:Pos}
theorem IxR.or{r r':R2}(h:IxR X r)(h':IxR X r'):IxR X (λx y H Q=>r x y H Q\/r' x y H Q):=by
 intro value slice pins s σ H x y v u Q I rx ry q hs;rcases q with q|q
 ·exact h value slice pins s σ H x y v u Q I rx ry q hs
 ·exact h' value slice pins s σ H x y v u Q I rx ry q hs
theorem x46{r:R2}(hr:IxR X r)(ha:PE X a ta)(hb:PE X b tb)(hs:PlainIx b):PE X (.Subscript a b pos) (tOp r ta tb):=by
 intro pins s σ H Q I h;exact Subscript_ (binT ha hb I h λv u s2 x y H2 I2 rx ry q=>hr a b pins s2 σ H2 x y v u Q I2 rx ry q (hs _ _))
noncomputable def rIxL(K:PySem.W.Frag):R2:=λx y H Q=>∃p xs i v,x=.ref p/\y=.int i/\SqL K H p xs/\atI xs i=some v/\Q v H
noncomputable def rIxT(K:PySem.W.Frag):R2:=λx y H Q=>∃p xs i v,x=.ref p/\y=.int i/\SqT K H p xs/\atI xs i=some v/\Q v H
noncomputable def rIxS:R2:=λx y H Q=>∃z i c,x=.str z/\y=.int i/\z.length<=sizeLine/\atI z.cps.toList i=some c/\Q (.str ⟨#[c]⟩) H
theorem ix_list:IxR X (rIxL X.K):=by
 intro value slice pins s σ H x y v u Q I rx ry h hs;obtain⟨p,xs,i,z,rfl,rfl,hq,he,q⟩:=h;cases rx;obtain⟨t,rfl⟩:=ry;obtain⟨its,r,pl,hz⟩:=I.list hq;obtain⟨j,h1,h2,h3,h4,h5⟩:=x23 he;obtain⟨w,ew,rw'⟩:=r.get h2;have hl:=r.length;have hn:=line63;have fin:EP X pins σ Q w s:=⟨z,H,I,rw',q⟩
 by_cases h0:0<=i
 ·have hj:i.toNat=j:=by
   grind [seqIndex_of]
  exact item_listR pl.isList h0 (by omega) (by rw[hj];simpa using ew) fin hs
 ·have hj:(i+(its.toArray.size:Int)).toNat=j:=by
   grind [seqIndex_neg]
  exact subscriptTail_builtinR (x:=w) pl.isList.typeIs slot_list_getitem.lookup
   (wpAny_getItem_list_neg (Q:=λr s'=>r=w/\EP X pins σ Q r s') pl.isList (by omega) (by grind) (by omega) (by rw[hj];simpa using ew) ⟨rfl,fin⟩) hs
theorem ix_tup:IxR X (rIxT X.K):=by
 intro value slice pins s σ H x y v u Q I rx ry h hs;obtain⟨p,xs,i,z,rfl,rfl,hq,he,q⟩:=h;cases rx;obtain⟨t,rfl⟩:=ry;obtain⟨its,r,pl,hz⟩:=I.tuple hq;obtain⟨j,h1,h2,h3,h4,h5⟩:=x23 he;obtain⟨w,ew,rw'⟩:=r.get h2;have hl:=r.length;have hn:=line63;have fin:EP X pins σ Q w s:=⟨z,H,I,rw',q⟩
 exact subscriptTail_builtinR (x:=w) pl.typeIs slot_tuple_getitem.lookup
  (getItem_tuple (j:=j) (Q:=λr s'=>r=w/\EP X pins σ Q r s') pl (by omega) (by omega) (by grind) (by simpa using ew) ⟨rfl,fin⟩) hs
theorem z29:IxR X rIxS:=by
 intro value slice pins s σ H x y v u Q I rx ry h hs;obtain⟨z,i,c,rfl,rfl,hz,he,q⟩:=h;obtain⟨t,rfl⟩:=rx;obtain⟨t',rfl⟩:=ry;obtain⟨j,h1,h2,h3,h4,h5⟩:=x23 he;have hl:z.cps.toList.length=z.length:=by simp[Str.length]
 rw[hl]at h1 h4 h5;have hn:=line63
 exact tail_any (typeIs_str s z t) slot_str_getitem.lookup (getItem_str (c:=c) (by
  grind) (by rw[h1];simpa using h2) ⟨.str ⟨#[c]⟩,H,I.tok _,⟨_,rfl⟩,q⟩) hs
noncomputable def rIx(K:PySem.W.Frag):R2:=λx y H Q=>rIxL K x y H Q\/rIxT K x y H Q\/rIxS x y H Q
theorem y0w:IxR X (rIx X.K):=ix_list.or (ix_tup.or z29)
theorem x9j(its:List Value)(n j:Nat)(u:Value):Obj.mapSeq (·.setIfInBounds j u) {cls:=.type "list", data:=.seq its.toArray n}={cls:=.type "list", data:=.seq (its.set j u).toArray n}:=by
 simp[Obj.mapSeq]
theorem Inv.lst{p:Addr}(I:Inv X pins σ H s)(h:H p=some (.lst xs)):
  ∃(its:List Value)(n:Nat),Vals xs its/\s.heap.get? p=some {cls:=.type "list", data:=.seq its.toArray n}/\xs.length<=sizeLine:=by
 obtain⟨z,its,n,r,e⟩:=I.hok p _ h
 grind
theorem Inv.lstUpd{p:Addr}{ys:List V}{its':List Value}{n':Nat}{f:Obj->Obj}(I:Inv X pins σ H s)(h:H p=some (.lst xs))
  (ho:s.heap.get? p=some {cls:=.type "list", data:=.seq its.toArray n})(hf:f {cls:=.type "list", data:=.seq its.toArray n}={cls:=.type "list", data:=.seq its'.toArray n'})(r:Vals ys its')(hz:ys.length<=sizeLine)(t:Nat):
  Inv X pins σ (upd H p (.lst ys)) {s with heap:=s.heap.update p f,toks:=t}:=by
 have e:(s.heap.update p f).get? p=some {cls:=.type "list", data:=.seq its'.toArray n'}:=by
  rw[Heap.get?_update_self f ho (by rw[hf]<;>rfl),hf]
 refine I.write (x:=p) (e:=p) (by rw[h];trivial) (.inl rfl) (λb u hb q=>(Heap.get?_update_other _ _ (Ne.symm hb)).trans q) ⟨_,e⟩ ?_
 exact⟨hz,its',n',r,e⟩
noncomputable def rSetL:V->V->V->Hp->(Hp->Prop)->Prop:=λo i v H Q=>∃p xs k j,o=.ref p/\i=.int k/\H p=some (.lst xs)/\ixN xs.length k=some j/\Q (upd H p (.lst (xs.set j v)))
theorem y4b:PSet X rSetL:=by
 intro pins s σ H o i v ov iv u Q I ro ri rv h;obtain⟨p,xs,k,j,rfl,rfl,hp,hj,q⟩:=h;cases ro;obtain⟨t,rfl⟩:=ri;obtain⟨its,n,r,ho,hz⟩:=I.lst hp;obtain⟨h1,h2,h3,h4⟩:=x75 hj;have hl:=r.length;have hn:=line63
 have I':Inv X pins σ (upd H p (.lst (xs.set j v))) {s with heap:=s.heap.update p (Obj.mapSeq (·.setIfInBounds j u))}:=
  I.lstUpd hp ho (x9j its n j u) (r.set rv j) (by grind) s.toks
 grind [seqIndex_of,W.ki_setAt,seqIndex_neg,W.ki_setBack]
theorem x5p(lo hi:Option Int)(n:Nat):(sliceBounds lo hi none n).1=((HT.sIx n 0 lo:Nat):Int)/\(sliceBounds lo hi none n).2.1=((HT.sIx n n hi:Nat):Int)/\(sliceBounds lo hi none n).2.2=1:=by
 refine⟨?_,?_,rfl⟩
 ·cases lo with
  |none=>simp[sliceBounds,HT.sIx]
  |some i=>
   simp only[sliceBounds,HT.sIx,Option.getD_none,show(1:Int)>0 by decide,if_true]
   grind
 ·cases hi with
  |none=>simp[sliceBounds,HT.sIx]
  |some i=>
   simp only[sliceBounds,HT.sIx,Option.getD_none,show(1:Int)>0 by decide,if_true]
   grind
theorem x4t(its:List Value)(lo hi:Option Int):slicePick its.toArray lo hi none=((its.drop (HT.sIx its.length 0 lo)).take (HT.sIx its.length its.length hi-HT.sIx its.length 0 lo)).toArray:=by
 obtain⟨h1,h2,h3⟩:=x5p lo hi its.toArray.size;unfold slicePick;rw[h1,h2,h3];simp only[sliceRange_one,pick_run,w2c]<;>rfl
noncomputable def rSlL(K:PySem.W.Frag):V->Option Int->Option Int->Hp->VK->Prop:=λx lo hi H Q=>∃a xs,x=.ref a/\SqL K H a xs/\∀p,H p=none->Q (.ref p) (upd H p (.lst (cutV xs lo hi)))
theorem sl_list:SlR X (rSlL X.K):=by
 intro pins s σ H x v vl vu lo hi sl Q I rx hs pl pu h;obtain⟨a,xs,rfl,hx,q⟩:=h;cases rx;obtain⟨its,r,ht,hz⟩:=I.list hx;have hlen:=r.length;refine⟨"list", _,slot_list_getitem.lookup,ht.isList.typeIs,?_⟩;refine wpAny_getItem_list_slice ht.isList hs pl pu .none (by simp) ?_ (by grind);rw[x4t,<- hlen];refine⟨.ref s.heap.objs.size,_,I.laid (t':=s.toks) (o:=.lst (cutV xs lo hi)) (λb ob q=>Heap.get?_push_of_some _ q) (w0a _) ?_,rfl,q _ (I.hok.fresh (w0a _))⟩
 exact⟨w0s (x0v xs lo hi) hz,_,0,(r.drop (HT.sIx xs.length 0 lo)).take (HT.sIx xs.length xs.length hi-HT.sIx xs.length 0 lo),Heap.get?_push_size _ rfl⟩
noncomputable def flatV:V->Bool
 |.non=>true
 |.bl _=>true
 |.int _=>true
 |.str _=>true
 |_=>false
noncomputable def eqV:V->V->Bool
 |.non,.non=>true
 |.bl a,.bl b=>a==b
 |.bl a,.int b=>(if a then 1 else 0)==b
 |.int a,.bl b=>a==(if b then 1 else 0)
 |.int a,.int b=>a==b
 |.str a,.str b=>a==b
 |_,_=>false
theorem z3a{y:V}{u:Value}(ry:RelV y u)(rx:RelV x v)(fy:flatV y=true)(fx:flatV x=true):SeqAt.EqAt A s u v (eqV y x):=by
 cases y with
 |non=>
  cases ry;cases x with
  |non=>cases rx;exact SeqAt.EqAt.same _
  |bl b=>cases rx;exact SeqAt.EqAt.none_bool b
  |int b=>obtain⟨t,rfl⟩:=rx;exact SeqAt.EqAt.none_int b t
  |str b=>obtain⟨t,rfl⟩:=rx;exact SeqAt.EqAt.none_str b t
  |_=>exact absurd (show false=true from fx) w1i
 |bl a=>
  cases ry;cases x with
  |non=>cases rx;exact SeqAt.EqAt.bool_none a
  |bl b=>cases rx;exact SeqAt.EqAt.bool_bool a b
  |int b=>obtain⟨t,rfl⟩:=rx;exact SeqAt.EqAt.bool_int a b t
  |str b=>obtain⟨t,rfl⟩:=rx;exact SeqAt.EqAt.bool_str a b t
  |_=>exact absurd (show false=true from fx) w1i
 |int a=>
  obtain⟨t',rfl⟩:=ry;cases x with
  |non=>cases rx;exact SeqAt.EqAt.int_none a t'
  |bl b=>cases rx;exact SeqAt.EqAt.int_bool a t' b
  |int b=>obtain⟨t,rfl⟩:=rx;exact SeqAt.EqAt.int_int a t' b t
  |str b=>obtain⟨t,rfl⟩:=rx;exact SeqAt.EqAt.int_str a t' b t
  |_=>exact absurd (show false=true from fx) w1i
 |str a=>
  obtain⟨t',rfl⟩:=ry;cases x with
  |non=>cases rx;exact SeqAt.EqAt.str_none a t'
  |bl b=>cases rx;exact SeqAt.EqAt.str_bool a t' b
  |int b=>obtain⟨t,rfl⟩:=rx;exact SeqAt.EqAt.str_int a t' b t
  |str b=>obtain⟨t,rfl⟩:=rx;exact SeqAt.EqAt.str_str a t' b t
  |_=>exact absurd (show false=true from fx) w1i
 |_=>exact absurd (show false=true from fy) w1i
noncomputable def eqU(x:V)(u:Value):Bool:=match u with
 |.none=>eqV .non x
 |.bool b=>eqV (.bl b) x
 |.int i _=>eqV (.int i) x
 |.str z _=>eqV (.str z) x
 |_=>false
theorem y0x{y:V}{u:Value}(r:RelV y u)(f:flatV y=true):eqU x u=eqV y x:=by
 cases y with
 |non=>cases r;rfl
 |bl b=>cases r;rfl
 |int i=>obtain⟨t,rfl⟩:=r;rfl
 |str z=>obtain⟨t,rfl⟩:=r;rfl
 |_=>exact absurd (show false=true from f) w1i
theorem q7t:∀{xs:List V}{us:List Value},Vals xs us->xs.all flatV=true->us.any (eqU x)=xs.any λy=>eqV y x
 |_,_,.nil,_=>rfl
 |y::xs,u::us,.cons r t,f=>by
  rw[w2h,w0l]at f;rw[w4g,w4g,y0x r f.1,q7t t f.2]
theorem q6s(rx:RelV x v)(fx:flatV x=true):∀{xs:List V}{us:List Value},Vals xs us->xs.all flatV=true->∀u∈us,SeqAt.EqAt A s u v (eqU x u)
 |_,_,.nil,_=>λu hu=>by cases hu
 |y::xs,u::us,.cons r t,f=>λu' hu=>by
  rw[w2h,w0l]at f;rcases w0d.mp hu with rfl|hu
  ·rw[y0x r f.1];exact z3a r rx f.1 fx
  ·exact q6s rx fx t f.2 u' hu
noncomputable def inV(x:V)(xs:List V):Bool:=xs.any λy=>eqV y x
noncomputable def rIn(K:PySem.W.Frag)(neg:Bool):R2:=λx y H Q=>∃p xs,y=.ref p/\(SqL K H p xs\/SqT K H p xs)/\flatV x=true/\xs.all flatV=true/\Q (.bl (if neg then !inV x xs else inV x xs)) H
theorem x3v:OpR X (compareOp .In) (rIn X.K false):=by
 intro pins s σ H x y v u Q I rx ry h;obtain⟨p,xs,rfl,hq,fx,fs,q⟩:=h;cases ry;rcases hq with hq|hq
 ·obtain⟨its,r,pl,hz⟩:=I.list hq;refine SeqAt.in_listAt (eqU x) pl.isList (λw hw=>q6s rx fx r fs w (by simpa using hw)) ⟨.bl _,H,I,rfl,?_⟩
  rw[show its.toArray.any (eqU x)=its.any (eqU x) by simp,q7t r fs];exact q
 ·obtain⟨its,r,pl,hz⟩:=I.tuple hq;refine SeqAt.in_tupleAt (eqU x) pl (λw hw=>q6s rx fx r fs w (by simpa using hw)) ⟨.bl _,H,I,rfl,?_⟩
  rw[show its.toArray.any (eqU x)=its.any (eqU x) by simp,q7t r fs];exact q
theorem x5q:OpR X (compareOp .NotIn) (rIn X.K true):=by
 intro pins s σ H x y v u Q I rx ry h;obtain⟨p,xs,rfl,hq,fx,fs,q⟩:=h;cases ry;rcases hq with hq|hq
 ·obtain⟨its,r,pl,hz⟩:=I.list hq;refine SeqAt.notIn_listAt (eqU x) pl.isList (λw hw=>q6s rx fx r fs w (by simpa using hw)) ⟨.bl _,H,I,rfl,?_⟩
  rw[show its.toArray.any (eqU x)=its.any (eqU x) by simp,q7t r fs];exact q
 ·obtain⟨its,r,pl,hz⟩:=I.tuple hq;refine SeqAt.notIn_tupleAt (eqU x) pl (λw hw=>q6s rx fx r fs w (by simpa using hw)) ⟨.bl _,H,I,rfl,?_⟩
  rw[show its.toArray.any (eqU x)=its.any (eqU x) by simp,q7t r fs];exact q
theorem x5r:CallR X (.type "list") (λxs H Q=>∃p ys,xs=[.ref p]/\(SqL X.K H p ys\/SqT X.K H p ys)/\∀l,H l=none->Q (.ref l) (upd H l (.lst ys))):=by
 intro pins s σ H xs us Q I r h;obtain⟨p,ys,rfl,hq,q⟩:=h;obtain⟨u,rfl,rx⟩:=vals1 r;cases rx
 have fin:∀(its:List Value),Vals ys its->ys.length<=sizeLine->∀(h':Heap)(c':Nat),(∀b o',s.heap.get? b=some o'->h'.get? b=some o') ->
   h'.get? s.heap.objs.size=some {cls:=.type "list", dict:=none,data:=.seq its.toArray c',slots:=#[]}->EP X pins σ Q (.ref s.heap.objs.size) {s with heap:=h'}:=λits r' hz h' c' kp e=>
  ⟨.ref s.heap.objs.size,_,I.laid (t':=s.toks) kp (w0a _) (show ObjOk X.prog X.w _ h' _ (.lst ys)from⟨hz,its,c',r',e⟩),rfl,q _ (I.hok.fresh (w0a _))⟩
 rcases hq with hq|hq
 ·obtain⟨its,r',pl,hz⟩:=I.list hq;have hlen:=r'.length;obtain⟨o,ho,hc,n,hd⟩:=pl.isList
  grind [call_list_seq]
 ·obtain⟨its,r',pl,hz⟩:=I.tuple hq;have hlen:=r'.length;obtain⟨o,ho,hc,n,hd⟩:=pl
  grind [call_list_seq]
theorem x4u:CallR X (.type "tuple") (λxs H Q=>∃p ys,xs=[.ref p]/\((SqL X.K H p ys/\∀l,H l=none->Q (.ref l) (upd H l (.tup ys)))\/(SqT X.K H p ys/\Q (.ref p) H))):=by
 intro pins s σ H xs us Q I r h;obtain⟨p,ys,rfl,h⟩:=h;obtain⟨u,rfl,rx⟩:=vals1 r;cases rx;rcases h with⟨hq,q⟩|⟨hq,q⟩
 ·obtain⟨its,r',pl,hz⟩:=I.list hq;have hlen:=r'.length;refine call_tuple_list pl.isList (λh' kp=>?_) (by grind)
  have I1:Inv X pins σ H {s with heap:=h'}:=I.kept (t':=s.toks) kp
  have I2:Inv X pins σ (upd H h'.objs.size (.tup ys)) {s with heap:=h'.push {cls:=.type "tuple", data:=.seq its.toArray}}:=
   I1.laid (t':=s.toks) (λb o e=>Heap.get?_push_of_some _ e) (w0a _) (show ObjOk X.prog X.w _ _ _ (.tup ys)from⟨hz,its,r',IsTup.new _ _,_,Heap.get?_push_size _ rfl,rfl⟩)
  exact⟨.ref h'.objs.size,_,I2,rfl,q _ (I1.hok.fresh (w0a _))⟩
 ·obtain⟨its,r',pl,hz⟩:=I.tuple hq;exact call_tuple_same pl ⟨.ref p,H,I,rfl,q⟩
noncomputable def tyV(K:PySem.W.Frag)(T:String)(x:V)(H:Hp):Prop:=match x with
 |.str _=>T="str"
 |.int _=>T="int"
 |.ref p=>(T="list" /\ ∃xs,SqL K H p xs)\/(T="tuple" /\ ∃o,K.lookup p=some o/\o.cls=.type "tuple" /\ o.dict=none) \/
   (T="dict" /\ ((∃kvs,H p=some (.dK kvs))\/∃sh kvs kas,H p=some (.dT sh kvs kas)))\/(T="set" /\ ∃S n,H p=some (.set S n))
 |_=>False
theorem y0y{T:String}(I:Inv X pins σ H s)(r:RelV x v)(ty:tyV X.K T x H):
  s.TypeIs v T/\∀a,v=.ref a->∃ob,s.heap.get? a=some ob/\ob.dict=none:=by
 cases x with
 |str z=>
  obtain⟨t,rfl⟩:=r;cases(show T="str" from ty)
  grind [typeIs_str]
 |int i=>
  obtain⟨t,rfl⟩:=r;cases(show T="int" from ty)
  grind [typeIs_int]
 |ref p=>
  cases r;rcases ty with⟨rfl,xs,hq⟩|⟨rfl,o,hk,hc,hd⟩|⟨rfl,hk⟩|⟨rfl,S,n,hk⟩
  ·obtain⟨its,_,pl,_⟩:=I.list hq;refine⟨pl.isList.typeIs,λa e=>?_⟩
   cases e;obtain⟨o,n,e,c,hd,_⟩:=pl;exact⟨o,e,hd⟩
  ·refine⟨⟨o,I.kIn p o hk,hc⟩,λa e=>?_⟩
   cases e;exact⟨o,I.kIn _ o hk,hd⟩
  ·have z:∃o,s.heap.get? p=some o/\o.ExactDict:=by
    rcases hk with⟨kvs,hk⟩|⟨sh,kvs,kas,hk⟩
    ·obtain⟨_,_,_,_,o,_,_,e,ex,_⟩:=I.hok p _ hk;exact⟨o,e,ex⟩
    ·obtain⟨_,_,_,_,_,o,_,_,e,ex,_⟩:=I.hok p _ hk;exact⟨o,e,ex⟩
   obtain⟨o,e,ex⟩:=z;refine⟨⟨o,e,ex.1⟩,λa e2=>?_⟩
   cases e2;exact⟨o,e,ex.2.1⟩
  ·obtain⟨o,_,_,_,e,ex,_⟩:=I.hok p _ hk;refine⟨⟨o,e,ex.1⟩,λa e2=>?_⟩
   cases e2;exact⟨o,e,ex.2.1⟩
 |_=>exact False.elim ty
noncomputable def tBM0(K:PySem.W.Frag)(T:String)(r:V->List V->Hp->VK->Prop)(to:TE):TE:=λσ H Q=>to σ H λx H1=>tyV K T x H1/\r x [] H1 Q
noncomputable def tBM(K:PySem.W.Frag)(T:String)(r:V->List V->Hp->VK->Prop)(to:TE)(t:TA):TE:=λσ H Q=>to σ H λx H1=>tyV K T x H1/\t σ H1 λxs H2=>r x xs H2 Q
variable{o e:Expr}{es:List Expr}{to:TE}{t:TA}{name:Str}{apos cpos:Pos}{T id:String}{r:V->List V->Hp->VK->Prop}
theorem z3b(pa:PlainAttrs T)(slot:Slot T name id)(hty:typeOf (.builtin id)=pure (.type "method_descriptor"))(hm:MtR X id r)(ho:PE X o to)
  (hbase:attributeBase o name X.env (eval o X.env)=eval o X.env:=by rfl)(hline:(apos.endLine==cpos.line)=true:=by rfl):PE X (.Call (.Attribute o name apos) [] [] cpos) (tBM0 X.K T r to):=by
 intro pins s σ H Q I h;refine wpAny_Call_method0_late hbase hline (thn (ho pins s σ H _ I h) λv s1 ⟨x,H1,I1,r1,ty,q1⟩=>?_)
 obtain⟨h1,h2⟩:=y0y I1 r1 ty;exact⟨T,id,pa,slot,hty,h1,h2,Calls.callWith_builtin rfl (PySem.evalArgs_none (hm pins s1 σ H1 x [] v [] Q I1 r1 .nil q1))⟩
theorem x47(pa:PlainAttrs T)(slot:Slot T name id)(hty:typeOf (.builtin id)=pure (.type "method_descriptor"))(hm:MtR X id r)(ho:PE X o to)(ha:PA X (e::es) t)
  (hbase:attributeBase o name X.env (eval o X.env)=eval o X.env:=by rfl)
  (hfew:((backTo cpos (starEach (e::es) X.env)).all (λx=>!x.1)&&(backToKw cpos (keywordEach [] X.env)).all (λx=>x.1.isSome)
   && decide ((e::es).length+([]:List Keyword).length+(if([]:List Keyword).isEmpty then 0 else 1)<30))=true:=by rfl)
  (hline:(apos.endLine==cpos.line)=true:=by rfl)(hs:starEach (e::es) X.env=(false,eval e X.env)::starEach es X.env:=by rfl)(hplain:(backTo cpos (starEach es X.env)).any (·.1)=false:=by rfl):
  PE X (.Call (.Attribute o name apos) (e::es) [] cpos) (tBM X.K T r to t):=by
 intro pins s σ H Q I h;refine wpAny_Call_method_late hbase hfew hline rfl (thn (ho pins s σ H _ I h) λv s1 ⟨x,H1,I1,r1,ty,q1⟩=>?_)
 obtain⟨h1,h2⟩:=y0y I1 r1 ty;refine⟨T,id,pa,slot,hty,h1,h2,?_⟩;have hA:=ha cpos pins s1 σ H1 _ I1 q1;rw[hs]at hA |-
 refine Calls.callWith_builtin (by grind) (Calls.evalArgs_plain ?_);exact thn hA λus s2 ⟨vs,H2,I2,r2,q2⟩=>hm pins s2 σ H2 x vs v us Q I2 r1 r2 q2
/- xs.append(e),list.index on a module's tuple .. are MtR facts of 06m -/
end
noncomputable def MtM(X:Cx)(id:String)(r:V->List V->Hp->VK->Prop):Prop:=
 ∀(pins:List (Addr×Obj))(s:Shared)(σ:St)(H:Hp)(x:V)(xs:List V)(v:Value)(us:List Value)(Q:VK),Inv X pins σ H s->RelV x v->Vals xs us->r x xs H Q ->
  wpAny (model X.prog X.w) X.A (call (.builtin id) (v::us)) (EP X pins σ Q) X.xe s
theorem Vals.one(h:Vals [x] us):∃u,us=[u]/\RelV x u:=vals1 h
theorem Vals.two{y:V}(h:Vals [x,y] us):∃u v,us=[u,v]/\RelV x u/\RelV y v:=vals2 h
theorem Vals.zero:∀{us:List Value},Vals [] us->us=[]
 |_,.nil=>rfl
theorem Vals.dropLast(h:Vals xs us):Vals xs.dropLast us.dropLast:=by
 induction h with
 |nil=>exact .nil
 |cons r t ih=>
  cases t with
  |nil=>exact .nil
  |cons q t'=>exact .cons r ih
theorem Vals.rep(h:Vals xs us):∀k:Nat,Vals (List.replicate k xs).flatten (List.replicate k us).flatten
 |0=>.nil
 |k+1=>by
  rw[w2i,w2i,w3h,w3h];exact Vals.append h (Vals.rep h k)
theorem x3w(its:List Value):∀(k:Nat)(acc:List Value),
  List.foldl (λx1 x2=>x1++x2) acc.toArray (List.replicate k its.toArray)=(acc++(List.replicate k its).flatten).toArray
 |0,acc=>by simp
 |k+1,acc=>by
  have e:acc.toArray++its.toArray=(acc++its).toArray:=by simp
  have e2:(acc++its)++(List.replicate k its).flatten=acc++(List.replicate (k+1) its).flatten:=by
   grind
  rw[<- e2,<- x3w its k (acc++its),<- e,w2i,w1l]
section
variable{l b:Addr}{ys zs:List V}
theorem Inv.lset{its':List Value}{f:Array Value->Array Value}{t':Nat}(I:Inv X pins σ H s)(hH:H l=some (.lst xs))
  (e:s.heap.get? l=some {cls:=.type "list", data:=.seq its.toArray n})(hf:f its.toArray=its'.toArray)(hv:Vals ys its')(hz:ys.length<=sizeLine):
  Inv X pins σ (upd H l (.lst ys)) {s with heap:=s.heap.update l (Obj.mapSeq f),toks:=t'}:=by
 have q:=PySem.IsL.update e f;rw[hf]at q;refine I.write (x:=l) (e:=l) (by rw[hH];exact trivial) (.inl rfl) (λb' u hb hu=>(Heap.get?_update_other s.heap (Obj.mapSeq f) (Ne.symm hb)).trans hu) ⟨_,q⟩ ?_
 exact⟨hz,its',_,hv,q⟩
theorem Inv.lnew{t':Nat}(I:Inv X pins σ H s)(hv:Vals ys its)(hz:ys.length<=sizeLine):
  Inv X pins σ (upd H s.heap.objs.size (.lst ys)) {s with heap:=s.heap.push {cls:=.type "list", data:=.seq its.toArray},toks:=t'}:=
 I.laid (λ_ _ q=>Heap.get?_push_of_some _ q) (w0a _) ⟨hz,its,0,hv,Heap.get?_push_size _ rfl⟩
theorem Inv.fresh(I:Inv X pins σ H s):H s.heap.objs.size=none:=I.hok.fresh (w0a _)
theorem Inv.lstM(I:Inv X pins σ H s)(hH:H l=some (.lst xs)):xs.length<=sizeLine/\∃(its:List Value)(n:Nat),Vals xs its/\xs.length=its.length/\s.heap.get? l=some {cls:=.type "list", data:=.seq its.toArray n}:=by
 obtain⟨z,its,n,r,e⟩:=I.hok l _ hH
 grind [Vals.length]
theorem notLongL(h:n<=sizeLine):Builtin.List.listTooLong n=false:=by
 grind [Builtin.List.listTooLong]
end
noncomputable def rAppend:V->List V->Hp->VK->Prop:=λx vs H Q=>∃l xs y,x=.ref l/\vs=[y]/\H l=some (.lst xs)/\xs.length<sizeLine/\Q .non (upd H l (.lst (xs++[y])))
theorem q8y:MtM X "list.append" rAppend:=by
 intro pins s σ H x vs v us Q I rx rv h;obtain⟨l,xs,y,rfl,rfl,hH,hz,q⟩:=h;cases rx;obtain⟨u,rfl,ru⟩:=rv.one;obtain⟨z,its,n,r,hl,e⟩:=I.lstM hH;refine call_meets F.slot_list_append ⟨_,e,rfl⟩ F.entry_list_append (F.args_list_append_2 _ _) (PySem.list_append l its.toArray n u (by grind)) ⟨e,?_⟩;refine⟨.non,_,I.lset (its':=its++[u]) hH e (by simp) (r.append (.cons ru .nil)) ?_,rfl,q⟩
 grind
noncomputable def rPop:V->List V->Hp->VK->Prop:=λx vs H Q=>∃l xs y,x=.ref l/\vs=[]/\H l=some (.lst xs)/\xs[xs.length-1]?=some y/\Q y (upd H l (.lst xs.dropLast))
theorem z3c:MtM X "list.pop" rPop:=by
 intro pins s σ H x vs v us Q I rx rv h;obtain⟨l,xs,y,rfl,rfl,hH,hy,q⟩:=h;cases rx;have hus:=rv.zero;subst hus;obtain⟨z,its,n,r,hl,e⟩:=I.lstM hH;obtain⟨u,hu,ru⟩:=r.get hy
 have hy':its.toArray[its.toArray.size-1]?=some u:=by
  grind
 refine call_meets F.slot_list_pop ⟨_,e,rfl⟩ F.entry_list_pop (F.args_list_pop_1 _) (MeetsSeq.list_pop_last l its.toArray n u hy' (by grind)) ⟨e,?_⟩;refine⟨y,_,I.lset (its':=its.dropLast) hH e ?_ r.dropLast ?_,ru,q⟩
 all_goals grind
theorem y73(xs:List α)(k:Nat):(List.replicate k xs).flatten.length=k*xs.length:=by
 simp_all
end L2
namespace Att
open PySem PySem.W PySem.Calls PyProof.Rows
theorem x1y{P:Params}{h:Heap}:∀(ns:List Int)(vs:List Value),WellAll P h vs (ns.map WData.int)->IntsAre vs ns:=by
 intro ns
 induction ns with
 |nil=>
  intro vs w;rw[w1v]at w;cases w;exact .nil
 |cons n ns ih=>
  intro vs w;rw[w0g]at w;cases w with
  |cons a b=>
   cases a;exact .cons _ _ (ih _ b)
theorem y0z{l:OpenLaw}{n:Nat}(hn:l.most=some n){P:Params}{h:Heap}{args:List WData}{vals:List Value}
  (hpre:l.row.toRowW.claim.pre args=true)(hwl:WellAll P h vals args):
  ∃a vs ns,vals=[Value.ref a]/\args=[WData.list (ns.map WData.int)]/\h.get? a=some {cls:=.type "list", data:=.seq vs.toArray}/\IntsAre vs ns/\ns.length<=n:=by
 have hsh:WShape.hasAll [] args [.list .int]=true:=(pre_splitW hpre).1;have hc:l.pre.holds [] {args:=args}=true:=(pre_splitW hpre).2;obtain⟨d,r,rfl,h1,h2⟩:=hasAllW_cons hsh;obtain rfl:=hasAllW_nil h2;obtain⟨xs,rfl,h3⟩:=hasW_list h1;obtain⟨ns,rfl⟩:=items_int h3
 have hlen:ns.length<=n:=by
  unfold OpenLaw.pre at hc
  have h4:(WTm.not (.lt (.lit (.int (n:Int))) (.len (.arg 0)))).holds [] {args:=[.list (ns.map .int)]}=true:=by
   have h4:=(holds_andW hc).1
   grind
  have h5:=condW_of h4 (w_not (w_lt w_lit (w_len_list (w_arg rfl))))
  grind
 cases hwl with
 |cons w1 w2=>
  cases w2;cases w1 with
  |list ho hall=>grind [x1y]
theorem y00(l:OpenLaw)(args:List WData):l.row.toRowW.claim.post args (.bool true) args=true:=
 postW_of (r:=l.row.toRowW) (X:=(true==true))
  (show WShape.has [] (.bool true) .bool=true by first|rfl|decide|simp[WShape.has,WShape.arms,WShape.armsAll])
  (show(WTm.eq .res (.lit (.bool true))).value [] {args:=args,res:=some (.bool true),after:=args}=some (.bool (true==true))from w_eq_bool (w_res rfl) w_lit) rfl
theorem attach_call{l:OpenLaw}{n:Nat}{q:Program}{loose:List Str}{XP:(Str->Option Value)->Heap->Prop}{YP:World->Heap->Prop}{d:DefRec}
  (hn:l.most=some n)(hdf:d.params.defaults=[])
  (call:∀(w:World)(s₀ s₁:Shared)(mg mb:Str->Option Value)(fa:Addr)(o:Obj)(pm cd doc:Value)(a:Addr)(vs:List Value)(ns:List Int),
   Ground q loose [] XP w s₀ mg mb s₁.heap->YP w s₁.heap ->
   s₁.heap.get? fa=some o->o.data=.func (docDef d.name d.params d.body d.scope pm cd doc)->s₁.heap.CodeRec cd d.name->mg d.name=some (.ref fa) ->
   s₁.heap.get? a=some {cls:=.type "list", data:=.seq vs.toArray}->IntsAre vs ns->ns.length<=n->s₁.gens=#[] ->
   codeAny (model l.prog w) callerA (.call (.ref fa) ⟨[.ref a],[]⟩) (λr s'=>r=.ok (.ret (.bool true))/\OldK s₁.heap s'.heap/\s'.os=s₁.os/\AllBare s'.gens) s₁):
  WalkO q loose XP YP l.row.toRowW d [] (λf vs=>PySem.call f vs):=by
 intro w s₀ s₁ mg mb G Y fa o pm cd doc dV kV ho hd hcd hD hmg hg args vals as hpre hlay hrd hwl hlo;obtain rfl:dV=.none:=Dflts.none hD hdf;obtain rfl:kV=.none:=Dflts.noKw hD;obtain⟨a,vs,ns,rfl,rfl,hobj,hints,hlen⟩:=y0z hn hpre hwl;refine enter_call (codeAny_mono (call w s₀ s₁ mg mb fa o pm cd doc a vs ns G Y ho (fd_plain hd) hcd hmg hobj hints hlen hg) λr s' hq=>?_)
 obtain⟨rfl,h2,h3,h4⟩:=hq;exact⟨.inl ⟨.bool true,.bool true,[],rfl,λ_=>rfl,.bool true,y00 l _,λ_=>⟨List.Pairwise.nil,λ_ hm=>(nomatch hm)⟩⟩,h2,h3,h4⟩
section
variable{prog:Program}{w:World}{A:Around}{E:Value->Shared->Prop}{s:Shared}{K:Frag}
noncomputable def ledger(h:Heap)(L d:Addr):List (Addr×Obj):=(List.range h.objs.size).filterMap λa=>if a=L\/a=d then none else(h.get? a).map λo=>(a,o)
end
end Att
namespace L2
open PySem PySem.Spec PyProof.Rows
theorem x3x:∀{vs:List Value}{ns:List Int},IntsAre vs ns->Vals (ns.map V.int) vs
 |_,_,.nil=>.nil
 |_,_,.cons n t h=>.cons ⟨t,rfl⟩ (x3x h)
noncomputable def Only(H:Hp):Prop:=∀b,H b=none\/∃o xs,H b=some (.frz o (.lst xs))
theorem y4c{P:Program}{w:World}{K:PySem.W.Frag}{mg mb:Str->Option Value}{CX:CXT}{k:Nat}{fa a:Addr}{fd:FuncData}{x:Str}{sp:Sp}{s₁:Shared}{vs:List Value}{ns:List Int}
  (KX:K.In s₁.heap)(hns:s₁.heap.Ns mainGlobals mg)(hb:s₁.heap.Ns builtinsNs mb)(hbb:∀x:Str,x≠"__name__"->mb x=bootBuiltins x)(hlim:s₁.heap.NoLimit)(hg:s₁.gens=#[])
  (ha:s₁.heap.get? a=some {cls:=.type "list", data:=.seq vs.toArray})(hi:IntsAre vs ns)(hl:ns.length<=sizeLine)(hr:Room k callerA)
  (F:∀base:Heap,K.In base->base.Ns mainGlobals mg->FnOk P w K mg base CX k fa fd [x] sp)(hbind:∀(s:Shared)(u:Value),BindsTo s fd ⟨[u],[]⟩ [(x,u)])
  (hsp:∀H:Hp,Only H->SqL K H a (ns.map V.int)->sp [.ref a] H (λv _=>v=.bl true) λ_ _ _=>False)
  (hCX:∀H e s',CX [] H s₁ (λ_ _ _=>False) e s'->False)(hNM:noMark K=true):
  codeAny (model P w) callerA (.call (.ref fa) ⟨[.ref a],[]⟩) (λr s'=>r=.ok (.ret (.bool true))/\OldK s₁.heap s'.heap/\s'.os=s₁.os/\AllBare s'.gens) s₁:=by
 have rv:=x3x hi;have lenV:=hi.length
 have core:∀H:Hp,Only H->SqL K H a (ns.map V.int)->HOk P w H s₁.heap->(∀b,H b≠none->b=a)->(H a≠none->K.lookup a=none) ->
   codeAny (model P w) callerA (.call (.ref fa) ⟨[.ref a],[]⟩) (λr s'=>r=.ok (.ret (.bool true))/\OldK s₁.heap s'.heap/\s'.os=s₁.os/\AllBare s'.gens) s₁:=by
  intro H hO hS hok hA hK;have base_of:∀{b:Addr}{o:Obj},s₁.heap.get? b=some o->H b=none->(hidT s₁.heap H).get? b=some o:=λe n=>y33 e n
  have noA:∀{b:Addr}{o:Obj}{es:Array DictEntry}{ep:Nat},s₁.heap.get? b=some o->o.data=.dict es ep->H b=none:=λ{b o es ep} e d=>by
   grind
  have nsK:∀{b:Addr}{m:Str->Option Value},s₁.heap.Ns b m->(hidT s₁.heap H).Ns b m:=λ{b m} ⟨o,es,ep,e,d,r⟩=>⟨o,es,ep,base_of e (noA e d),d,r⟩
  have hKb:K.In (hidT s₁.heap H):=λb o e=>base_of (KX b o e) (by
   grind)
  have hM:Mod K mg (hidT s₁.heap H):=⟨hKb,nsK hns,⟨mb,nsK hb,hbb⟩,let ⟨mc,h1,h2⟩:=hlim;⟨mc,nsK h1,h2⟩⟩;have e0:Env0 P w K mg (hidT s₁.heap H) callerA [] s₁ H:=⟨rfl,hM,λb o e=>y7q e,Nat.le_of_eq (y0m _ _),trivial,λb hb=>absurd (show b∈([]:List Addr)from hb) (by simp),hok,.of_eq hg,.vac hNM⟩
  refine codeAny_mono ((F _ hKb (nsK hns)).run callerA [] s₁ H ⟨[.ref a],[]⟩ [.ref a] [.ref a] _ _ hr e0 (hbind s₁ (.ref a)) (.cons rfl .nil) (hsp H hO hS)) λr s' h=>?_
  cases r with
  |error e=>exact(hCX H e s' h).elim
  |ok fl=>
   cases fl with
   |next=>exact False.elim h
   |brk=>exact False.elim h
   |cont=>exact False.elim h
   |ret u=>
    obtain⟨v,H',os,bare,un,hok',r',q⟩:=h;have q':v=.bl true:=q;subst q';obtain rfl:u=Value.bool true:=r';refine⟨rfl,OldK.of_keep λb o e=>?_,os,bare⟩
    cases q:H b with
    |none=>exact un.keep b o e q (by intro z;exact absurd (show b∈([]:List Addr)from z) (by simp)) (by simp)
    |some u=>
     rcases hO b with z|⟨ob,xs,z⟩
     ·rw[q]at z;cases z
     ·have z2:=un.frzs b ob _ z;obtain⟨e1,_⟩:=hok b _ z;obtain⟨e2,_⟩:=hok' b _ z2
      grind
 cases hk:K.lookup a with
 |some o=>
  have e:=KX a o hk;rw[ha]at e;cases e;refine core (λ_=>none) (λ_=>.inl rfl) (.inr ⟨_,vs.toArray,_,hk,rfl,rfl,rfl,by grind,by simpa using rv⟩) (λb u z=>by grind) (λb z=>absurd rfl z) λz=>absurd rfl z
 |none=>
  refine core (λb=>if b=a then some (.frz {cls:=.type "list", data:=.seq vs.toArray} (.lst (ns.map V.int)))else none) (λb=>?_) (.inl (.inr ⟨{cls:=.type "list", data:=.seq vs.toArray},if_pos rfl⟩)) (λb u z=>?_) (λb z=>?_) λ_=>hk
  ·grind
  ·by_cases hb:b=a
   ·have z':=(if_pos hb).symm.trans z;cases z';subst hb;exact⟨ha,by grind,vs,_,rv,ha⟩
   grind
  grind
noncomputable abbrev KOf{K:PySem.W.Frag}{h:Heap}(_:K.In h):PySem.W.Frag:=K
theorem x76{l:PySem.W.OpenLaw}{n k:Nat}{q:Program}{loose:List Str}{XP:(Str->Option Value)->Heap->Prop}{YP:World->Heap->Prop}{d:DefRec}{K:Params->PySem.W.Frag}{CX:World->CXT}{sp:World->Sp}{x:Str}
  (hn:l.most=some n)(hn2:n<=sizeLine)(hdf:d.params.defaults=[])(hr:Room k callerA)
  (hY:∀(w:World)(h:Heap),YP w h->(K w.params).In h)
  (F:∀(w:World)(mg:Str->Option Value)(fa:Addr)(h:Heap),(K w.params).In h->h.Ns mainGlobals mg->mg d.name=some (.ref fa) ->
   ∃fd:FuncData,(∀(s:Shared)(u:Value),BindsTo s fd ⟨[u],[]⟩ [(x,u)]) /\
    ∀base:Heap,(K w.params).In base->base.Ns mainGlobals mg->FnOk l.prog w (K w.params) mg base (CX w) k fa fd [x] (sp w))
  (hsp:∀(w:World)(H:Hp)(a:Addr)(ns:List Int),ns.length<=n->Only H->SqL (K w.params) H a (ns.map V.int)->sp w [.ref a] H (λv _=>v=.bl true) λ_ _ _=>False)
  (hCX:∀(w:World)(H:Hp)(s:Shared)(e:Value)(s':Shared),CX w [] H s (λ_ _ _=>False) e s'->False)(hNM:∀w:World,noMark (K w.params)=true):
  PySem.W.WalkO q loose XP YP l.row.toRowW d [] (λf vs=>PySem.call f vs):=by
 refine Att.attach_call hn hdf λw s₀ s₁ mg mb fa o pm cd doc a vs ns G Y ho hd hcd hmg hobj hints hlen hg=>?_
 have KX:=hY w _ Y;obtain⟨fd,hb,hF⟩:=F w mg fa _ KX G.T.g hmg;exact y4c KX G.T.g G.T.b G.T.builtins G.T.nolimit hg hobj hints (w0s hlen hn2) hr hF hb (λH hO hS=>hsp w H a ns hlen hO hS) (λH e s'=>hCX w H s₁ e s') (hNM w)
end L2
/- THE LAST THEOREM (shape; LID, My.* are yours):
   My.Adr: a structure of the addresses that your layer names (classes, functions); My.Txt K t: a structure (Prop) of the equations over K;
   My.txt_mk : {K} {implicit addresses ..} (e1 : nsIn K mainGlobals "law" = some (some (.ref f))) (e2 : K.lookup f = some ⟨oc, od, .func (fnOf "law" "law" params body scope dV kV doc pm an cdv ct), sl⟩) (e3 : codeIn K cdv "law" = true) .. : ∃ t, My.Txt K t
set_option maxRecDepth 100000 in
set_option maxHeartbeats 0 in
theorem PySem.Challenge.cw_LID_holds : PySem.Challenge.rw_LID.Holds := by
 w_on; o_law; k_head; (case hw => w_witness2)
 k_fill
 refine L2.x76 (l := PySem.Challenge.rw_LID) (n := 63) (k := 40) (x := "script") (CX := λw => ..) (sp := λ_ => My.sp_law) rfl (by decide) rfl ⟨rfl, by decide, by decide⟩ (λw h Y => PySem.W.kIn_of Y) ?F ?S ?C
 case F =>
  intro w mg fa h KX G hmg
  have T : ∃ t, My.Txt (L2.KOf KX) t := by
   dsimp only [L2.KOf]                          -- K must stand as «<heap const> w.params» for k_is;refine' My.txt_mk ?e1 ?e2 ?e3 ..
   (case e1 => PySem.W.k_is)                    -- in the order: a name -> its address -> its object -> its parts
   (case e2 => PySem.W.k_is)
   ..
  obtain ⟨t, T⟩ := T;have e0 := hmg.symm.trans (PySem.W.mg_of KX G T.law);cases e0                                       -- fa is the law's own address;exact ⟨_, λs u => .of_eq rfl, λbase kb nb => My.law_fn T kb nb⟩     -- if «.of_eq rfl» comes too early: refine' ⟨_, ?b, λbase kb nb => My.law_fn T kb nb⟩; exact λs u => .of_eq rfl
 case S => exact λw H a ns hl hO hS => ..
 case C => exact ..
(the tactic k_is has no namespace: write k_is) -/
namespace L2
open PySem PySem.Spec PyProof.Rows
variable{f:Addr}{X:Cx}{fd:FuncData}{h1:Heap}{H H':Hp}{l:List Env}{es ifs:List Expr}{ps:List Str}{pos:Pos}{P:Program}{K:PySem.W.Frag}{σ:St}{st:Stmt}{x:Str}{cls:Value}{w:World}
noncomputable def defArgs(s:Stmt):Arguments:=match s with
 |.FunctionDef _ a _ _ _ _ _ _ _ _=>a
 |_=>{posonlyargs:=[],args:=[],vararg:=none,kwonlyargs:=[],kw_defaults:=[],kwarg:=none,defaults:=[]}
noncomputable def defBody(s:Stmt):List Stmt:=match s with
 |.FunctionDef _ _ b _ _ _ _ _ _ _=>b
 |_=>[]
noncomputable def defScope(s:Stmt):Scope:=match s with
 |.FunctionDef _ _ _ _ _ _ sc _ _ _=>sc
 |_=>{kind:=.function,names:=[],isGenerator:=false,isCoroutine:=false}
noncomputable abbrev CX0:CXT:=λ_ _ _ _ _ _=>False
noncomputable abbrev E0:XK:=λ_ _ _=>False
structure Fun(K:PySem.W.Frag)(x qual:Str)(st:Stmt)(f:Addr)(fd:FuncData):Prop where
 ex:∃(oc:Value)(od:Option Addr)(kV doc pm:Value)(an:Option Addr)(cdv ct:Value)(osl:Array (Option Value)),
  fd=PySem.W.fnOf x qual (defArgs st) (defBody st) (defScope st) .none kV doc pm an cdv ct/\K.lookup f=some ⟨oc,od,.func fd,osl⟩/\PySem.W.codeIn K cdv qual=true
 kp:keepIn K (.ref f)=true
section
variable{mg:Str->Option Value}{base:Heap}
theorem Fun.binds{qual:Str}(F:Fun K x qual st f fd)
  (h:∀(kV doc pm:Value)(an:Option Addr)(cdv ct:Value)(us:List Value),us.length=ps.length->bindArgs (PySem.W.fnOf x qual (defArgs st) (defBody st) (defScope st) .none kV doc pm an cdv ct) ⟨us,[]⟩=pure (ps.zip us)):Binds K fd ps []:=by
 grind [ex,Binds.all]
theorem y01{qual:Str}{oc:Value}{od an:Option Addr}{osl:Array (Option Value)}{kV doc pm cdv ct:Value}(l:K.lookup f=some ⟨oc,od,.func (PySem.W.fnOf x qual (defArgs st) (defBody st) (defScope st) .none kV doc pm an cdv ct),osl⟩)
  (c:PySem.W.codeIn K cdv qual=true)(k:keepIn K (.ref f)=true):Fun K x qual st f (PySem.W.fnOf x qual (defArgs st) (defBody st) (defScope st) .none kV doc pm an cdv ct):=⟨⟨oc,od,kV,doc,pm,an,cdv,ct,osl,rfl,l,c⟩,k⟩
end
theorem pv(i:Nat)(hN:X.N[i]?=some x:=by rfl)(hv:Vis X.env.scope x:=by walk_at "1")(hd:(x==("__debug__":Str))=false:=by decide)
  (hcd:(x==("__classdict__":Str))=false:=by decide):PE X (.Name x pos) (tVar i):=z2l hN hv hd hcd
noncomputable def Same(H H':Hp):Prop:=∀b o,H b=some o->H' b=some o
theorem Same.refl(H:Hp):Same H H:=λ_ _ h=>h
theorem Same.trans{H1 H2:Hp}(a:Same H H1)(b:Same H1 H2):Same H H2:=λc o h=>b c o (a c o h)
theorem Same.free(e:Same H H'){l:Addr}(h:H' l=Option.none):H l=Option.none:=by
 cases q:H l with
 |none=>rfl
 |some o=>
  rw[e l o q]at h;cases h
theorem Same.seq{a:Addr}{xs:List V}(e:Same H H')(h:SqL K H a xs):SqL K H' a xs:=by
 rcases h with(h|⟨o,h⟩)|h
 ·exact .inl (.inl (e _ _ h))
 ·exact .inl (.inr ⟨o,e _ _ h⟩)
 ·exact .inr h
set_option maxHeartbeats 4000000
theorem ObjOk.get(x:ObjOk P w H h a o):∃ob,h.get? a=some ob:=by
 cases o with
 |lst xs=>obtain⟨_,_,_,_,e⟩:=x;exact⟨_,e⟩
 |tup xs=>obtain⟨_,_,_,p,_⟩:=x;obtain⟨o,e,_⟩:=p;exact⟨o,e⟩
 |dK kvs=>obtain⟨_,_,_,_,o,_,_,e,_⟩:=x;exact⟨_,e⟩
 |dT sh kvs kas=>obtain⟨_,_,_,_,_,o,_,_,e,_⟩:=x;exact⟨_,e⟩
 |set S n=>obtain⟨o,_,_,_,e,_⟩:=x;exact⟨_,e⟩
 |ins C dx fs=>obtain⟨_,_,_,e,_⟩:=x;exact⟨_,e⟩
 |own y=>obtain⟨_,e⟩:=x;exact⟨_,e⟩
 |xd fs=>obtain⟨_,⟨_,_,_,e,_⟩,_⟩:=x;exact⟨_,e⟩
 |rng lo hi=>obtain⟨_,_,_,e⟩:=x;exact⟨_,e⟩
 |frz ob u=>obtain⟨e,_⟩:=x;exact⟨_,e⟩
 |tbl ps=>rcases x with⟨_,_,_,_,e,_⟩|⟨_,_,_,_,_,_,_,_,_,_,_,_,e⟩<;>exact⟨_,e⟩
 |met f y=>exact⟨_,(show h.get? a=some _ from x)⟩
 |ext φ=>obtain⟨_,⟨_,e⟩,_⟩:=x;exact⟨_,e⟩
structure Fly(outer:List Env)(H H':Hp)(h h':Heap)(e:Addr)(cls:Value)(B:Heap):Prop where
 fl:∃a0,Heap.FlyingW B outer e cls a0 h'
 old:∀b o,h.get? b=some o->H b=none->b∉frs outer->B.get? b=some o
 trk:∀b u o,H' b=some u->h'.get? b=some o->B.get? b=some o
 all:∀b o,h.get? b=some o->b∈frs outer\/∃o',B.get? b=some o'
 new:h.get? e=none
noncomputable def CX1(P:Program)(w:World):CXT:=λouter H s E ev s'=>∃(e:Addr)(cls:Value)(H':Hp)(B:Heap),
 ev=.ref e/\s'.os=s.os/\AllBare s'.gens/\Un (frs outer) [] H H' s.heap s'.heap/\HOk P w H' s'.heap/\Fly outer H H' s.heap s'.heap e cls B/\E cls none H'
noncomputable def PassX(CX:CXT)(X:Cx)(EE:L2.St->XK):Prop:=∀(pins:List (Addr×Obj))(σ:St)(H:Hp)(s:Shared)(e:Value)(s':Shared),Inv X pins σ H s->CX X.stack H s (EE σ) e s'->X.xe e s'
noncomputable def RaisX(X:Cx)(EE:L2.St->XK):Prop:=∀(pins:List (Addr×Obj))(σ:St)(H:Hp)(s:Shared)(e:Addr)(cls:Value)(vs:List Value)(h':Heap),Inv X pins σ H s->Heap.MadeExcOf s.heap h' e cls vs->EE σ cls none H->X.xe (.ref e) {s with heap:=h'}
theorem x77
  (I:Inv (cxOf CX P w K mg base N qual scope f cd A outer s₀ H₀ E) pins σ H s)(J:Inv (cxOf CX P w K mg base N qual scope f cd A outer s₀ H₀ E) pins σ H' s')
  (old:∀b o,s.heap.get? b=some o->H b=none->b∉frs (envOfC qual scope s₀.heap.objs.size f cd::outer)->B.get? b=some o)
  (trk:∀b u o,H' b=some u->s'.heap.get? b=some o->B.get? b=some o)
  (all:∀b o,s.heap.get? b=some o->b∈frs (envOfC qual scope s₀.heap.objs.size f cd::outer)\/∃o',B.get? b=some o')
  (new:s.heap.get? e=none)
  (fl:Heap.FlyingW B outer e cls a0 h'')(up:s'.heap.UpToSlots h'')(hE:E cls none H'):
  CX1 P w outer H₀ s₀ E (.ref e) {s' with heap:=h''}:=by
 have neL:∀b o,s₀.heap.get? b=some o->b∉frs outer->b∉frs (envOfC qual scope s₀.heap.objs.size f cd::outer):=λb o q nb hb=>by
  rcases w0d.mp (show b∈s₀.heap.objs.size::frs outer from hb)with z|z
  ·exact absurd (Heap.lt_size q) (by grind)
  ·exact nb z
 have ex0:∀b:Addr,b∉([]:List Addr):=λb z=>nomatch z
 have slot:∀b o,s₀.heap.get? b=some o->b∈frs outer->∃sl,h''.get? b=some {o with slots:=sl}:=λb o q hb=>by
  obtain⟨sl,e1⟩:=J.base.slot b o q (J.ok.frf b hb) hb (ex0 b);obtain⟨_,o2,e2,nd⟩:=J.funs.mem hb
  rw[e1]at e2;cases e2;obtain⟨sl',e3⟩:=up b _ e1 nd;exact⟨sl',e3⟩
 refine⟨e,cls,H',B,rfl,J.os,J.bare,⟨λb o q n hb hx=>?_,λb o q n hb hx=>slot b o q hb,λb o q n hx=>J.base.free b o q n hx,λb o q hx=>?_,J.base.tups,J.base.frzs,J.base.tbls⟩,λa o q=>?_,⟨⟨a0,fl⟩,λb o q n hb=>?_,λb u o q z=>?_,λb o q=>?_,?_⟩,hE⟩
 ·exact fl.1 b o (old b o (I.base.keep b o q n hb hx) (I.base.free b o q n hx) (neL b o q hb))
 ·by_cases hb:b∈frs outer
  ·grind
  ·obtain⟨o1,e1⟩:=I.base.there b o q hx;rcases all b o1 e1 with z|⟨o',z⟩
   ·grind
   ·exact⟨o',fl.1 b o' z⟩
 ·refine(J.hok a o q).stay (λb u hb z=>?_) (λ_ z=>z) λ_ _ _ z=>z
  rcases hb with rfl|hb
  ·exact fl.1 _ _ (trk b o u q z)
  ·exact fl.1 _ _ (trk b _ u hb z)
 ·exact old b o (I.base.keep b o q n hb (ex0 b)) (I.base.free b o q n (ex0 b)) (neL b o q hb)
 ·obtain⟨o1,e1⟩:=(J.hok b u q).get;have e2:=trk b u o1 q e1;have e3:=fl.1 b o1 e2
  grind
 ·obtain⟨o1,e1⟩:=I.base.there b o q (ex0 b)
  grind
 ·cases q:s₀.heap.get? e with
  |none=>rfl
  |some o=>
   obtain⟨o1,e1⟩:=I.base.there e o q (ex0 e)
   grind
theorem pass1:PassX (CX1 P w) (cxOf (CX1 P w) P w K mg base N qual scope f cd A outer s₀ H₀ E) (λ_=>E):=by
 intro pins σ H s ev s' I hx;obtain⟨e,cls,H',B,rfl,hos,hg,un,hok,fly,hE⟩:=hx;have J:=I.call' (ch:=[]) hos un hok hg (λb hb=>nomatch hb)
 obtain⟨a0,fl⟩:=fly.fl;refine wpAny_leaves_onW (base:=B) I.ok.frames rfl fl λh'' fl2 up=>?_
 exact x77 I J fly.old fly.trk fly.all fly.new fl2 up hE
theorem rais1:RaisX (cxOf (CX1 P w) P w K mg base N qual scope f cd A outer s₀ H₀ E) (λ_=>E):=by
 intro pins σ H s e cls vs h' I hx hE;have J:Inv (cxOf (CX1 P w) P w K mg base N qual scope f cd A outer s₀ H₀ E) pins σ H {s with heap:=h'}:=I.kept (t':=s.toks) hx.keeps;have hin:∀env∈(envOfC qual scope s₀.heap.objs.size f cd::outer),∀b,env.frame=some b->b∈frs (envOfC qual scope s₀.heap.objs.size f cd::outer):=λenv he b hb=>w4a.mpr ⟨env,he,hb⟩
 refine wpAny_leaves_madeW (base:=PySem.W.hideAll s.heap (frs (envOfC qual scope s₀.heap.objs.size f cd::outer))) (h:=s.heap) I.ok.frames rfl (λb o q=>PySem.W.of_hideAll _ q) (PySem.W.funFrames_hide I.stack hin) hx λh'' t fl _ _ up=>?_
 refine x77 I J (λb o q _ nb=>hideAll_get _ q nb) (λb u o q z=>?_) (λb o q=>?_) hx.new fl up hE
 ·obtain⟨o1,e1⟩:=(I.hok b u q).get;have e2:=hx.keeps b o1 e1;have z':h'.get? b=some o:=z;rw[e2]at z';cases z';refine hideAll_get _ e1 λhb=>?_
  rw[I.stkFree b hb]at q;cases q
 grind [W.hideAll_get]
theorem passE:PassX (CX1 P w) X (λ_=>E0):=λ_ _ _ _ _ _ _ h=>by
 obtain⟨_,_,_,_,_,_,_,_,_,_,z⟩:=h;exact False.elim z
noncomputable def tCallX(sp:Sp)(dvs:List V)(EE:L2.St->XK)(t:TA):TE:=λσ H Q=>t σ H λvs H1=>sp (vs++dvs) H1 Q (EE σ)
section
variable{CX:CXT}{k:Nat}{C:Addr}{sp:Sp}{dvs:List V}{ds:List Value}{EE:L2.St->XK}{m:Str}{p:Pos}{e o:Expr}{ta:TE}{t:TA}
theorem y74(F:FnOk X.prog X.w X.K X.mg X.base CX k f fd ps sp)(hr:Room k X.A)(hb:Binds X.K fd ps ds)(hd:Vals dvs ds)(hx:PassX CX X EE)
  (I:Inv X pins σ H s)(r:Vals vs us)(h:sp (vs++dvs) H Q (EE σ)):wpAny (model X.prog X.w) X.A (call (.ref f) us) (EP X pins σ Q) X.xe s:=by
 have r2:Vals (vs++dvs) (us++ds):=r.append hd;have hl:(us++ds).length=ps.length:=by rw[<- r2.length];exact F.len _ _ _ _ h
 refine wpAny_call (codeAny_mono (F.run X.A X.stack s H ⟨us,[]⟩ (us++ds) (vs++dvs) Q (EE σ) hr I.env0 (hb s us I.kIn hl) r2 h) λr s' hq=>?_)
 cases r with
 |error e=>exact hx pins σ H s e s' I hq
 |ok fl=>
  cases fl with
  |ret u=>exact I.after hq
  |next=>exact False.elim hq
  |brk=>exact False.elim hq
  |cont=>exact False.elim hq
theorem y4d(F:FnOk X.prog X.w X.K X.mg X.base CX k f fd ps sp)(hr:Room k X.A)(hg:Gl X x)(hm:X.mg x=some (.ref f))(hk:keepIn X.K (.ref f)=true)(hb:Binds X.K fd ps ds)(hd:Vals dvs ds)(hx:PassX CX X EE)
  (ha:PA X (e::es) t)(hdb:(x==("__debug__":Str))=false:=by decide)(he:starEach (e::es) X.env=(false,eval e X.env)::starEach es X.env:=by rfl)(hpl:(backTo pos (starEach es X.env)).any (·.1)=false:=by rfl):
  PE X (.Call (.Name x p) (e::es) [] pos) (tCallX sp dvs EE t):=by
 intro pins s σ H Q I h;refine wpAny_Call_Name_kw (q92 I hg hm ?_ hdb);refine PySem.W.callWith_K (h₀:=X.base) I.ok.mod.kin hk (thn (ha pos pins s σ H _ I h) λus s1 ⟨vs,H1,I1,r,q⟩=>⟨I1.kIn,?_⟩) he hpl
 grind [y74]
end
theorem Fun.okX(F:Fun K x qual st f fd)(S:FnScope N ps (defScope st))(len:∀vs H Q E,sp vs H Q E->vs.length=ps.length)
  (hbody:∀(cdv:Value)(A:Around)(outer:List Env)(s:Shared)(H:Hp)(vs:List V)(Q:VK)(E:XK),Room k (A.deeper (envOfC qual (defScope st) s.heap.objs.size f cdv))->sp vs H Q E ->
   ∃t,PSs (cxOf (CX1 P w) P w K mg base N qual (defScope st) f cdv A outer s H E) (defBody st) t/\t {nx:=λ_ H'=>Q .non H',rt:=Q} (start N vs) H):FnOk P w K mg base (CX1 P w) (k+1) f fd ps sp:=by
 obtain⟨oc,od,kV,doc,pm,an,cdv,ct,osl,rfl,lk,hcd⟩:=F.ex;exact z7b lk hcd S len λA outer s H vs Q E hr hsp=>hbody cdv A outer s H vs Q E hr hsp
noncomputable def strKeysIn(K:PySem.W.Frag)(a:Addr):Bool:=match K.lookup a with
 |some ⟨_,_,.dict es _,_⟩=>es.toList.all λe=>match e.key with|.str _ _=>true|_=>false
 |_=>false
noncomputable def noInitIn(K:PySem.W.Frag)(a:Addr):Bool:=strKeysIn K a&&PySem.W.nsIn K a "__init__"==some none
noncomputable abbrev veMro:List Value:=[.type "ValueError", .type "Exception", .type "BaseException", .type "object"]
noncomputable def excIn(K:PySem.W.Frag)(C A:Addr):Bool:=match K.lookup C,K.lookup A with
 |some ⟨.type "type", _,.cls cd,sl⟩,some ⟨_,_,.cls ca,_⟩=>(match sl.toList with
   |[_,_,_,_,some (.builtin n),_]=>n=="ValueError.__new__"&&cd.mro==(.ref C::.ref A::veMro)&&!cd.hasDel&&noInitIn K cd.ns&&noInitIn K ca.ns
   |_=>false)
 |_,_=>false
theorem x3y(X:K.In h)(q:noInitIn K a=true):∃m,h.Ns a m/\m "__init__"=none:=by
 unfold noInitIn at q;rw[w0l]at q;obtain⟨q1,q2⟩:=q;unfold strKeysIn at q1;split at q1
 ·rename_i c d es n sl hl
  have hs:StrKeys es:=λe he=>by
   grind
  refine⟨nsFind es,⟨_,es,n,X _ _ hl,rfl,hs,λ_=>rfl⟩,?_⟩
  have q2:=beq_iff_eq.mp q2
  grind [W.nsIn,nsFind,findBy]
 ·cases q1
theorem q8z(X:K.In h)(q:excIn K C A=true):
  ∃nm qn N bs hdct sn sub ab col dd k0 k1 k2 k3 k5 mN,h.get? C=some (excClassObj nm qn C N bs (.ref A::veMro) hdct sn sub ab col dd k0 k1 k2 k3 k5 "ValueError.__new__")/\h.Ns N mN/\mN "__init__"=none/\OwnTail h veMro (.ref A::veMro):=by
 unfold excIn at q;split at q
 ·rename_i dd cd sl ca0 cad ca csl hC hA;split at q
  ·rename_i k0 k1 k2 k3 n k5 hs;simp only[w0l,beq_iff_eq,w3i]at q;obtain⟨⟨⟨⟨rfl,hm⟩,hdel⟩,hn⟩,hna⟩:=q;obtain⟨nm,bs,mro,ns,qn,hd,sn,sub,ab,col,del⟩:=cd;dsimp only at hm hdel hn;subst hm hdel
   have hsl:sl=#[k0,k1,k2,k3,some (.builtin "ValueError.__new__"),k5]:=by
    grind
   subst hsl;obtain⟨mN,hN,hi⟩:=x3y X hn;obtain⟨mA,hNA,hiA⟩:=x3y X hna;exact⟨nm,qn,ns,bs,hd,sn,sub,ab,col,dd,k0,k1,k2,k3,k5,mN,X _ _ hC,hN,hi,.own (X _ _ hA) hNA hiA .base⟩
  ·cases q
 ·cases q
noncomputable def tRaise(C:Addr)(EE:L2.St->XK)(t:TA):TS:=λ_ σ H=>t σ H λvs H1=>vs.length<=sizeLine/\EE σ (.ref C) none H1
section
variable{C Ac:Addr}{EE:L2.St->XK}{np cpos:Pos}{e:Expr}{t:TA}
theorem y4e(hx:RaisX X EE)(hc:X.calm=true)(hg:Gl X x)(hm:X.mg x=some (.ref C))(hC:excIn X.K C Ac=true)(ha:PA X (e::es) t)
  (hdb:(x==("__debug__":Str))=false:=by decide)(he:starEach (e::es) X.env=(false,eval e X.env)::starEach es X.env:=by rfl)(hpl:(backTo cpos (starEach es X.env)).any (·.1)=false:=by rfl):
  PS X (.Raise (some (.Call (.Name x np) (e::es) [] cpos)) none pos) (tRaise C EE t):=by
 intro pins s σ H D I h;obtain⟨nm,qn,N,bs,hdct,sn,sub,ab,col,dd,k0,k1,k2,k3,k5,mN,hC1,hN,hi,T⟩:=q8z I.kIn hC
 have hpl2:(backTo cpos (starEach (e::es) X.env)).any (·.1)=false:=by
  simp_all [backTo]
 refine wpAny_Raise_call_subT (C:=C) (nm:=nm) (q:=qn) (N:=N) (bs:=bs) (bm:=.ref Ac::veMro) (hdct:=hdct) (sn:=sn) (sub:=sub) (ab:=ab) (col:=col) (dd:=dd) (k0:=k0) (k1:=k1) (k2:=k2) (k3:=k3) (k5:=k5)
  PySem.F.excBase_ValueError (mN:=mN) (by rfl) (I.ok.hd hc) hpl2 hi (q92 I hg hm ⟨rfl,?_⟩ hdb)
 have key:=ha cpos pins s σ H _ I h;rw[he]at key |-
 refine Calls.evalArgs_plain (wpAny_mono key (λus s1 ⟨vs,H1,I1,r,hz,q⟩=>?_) λ_ _ y=>y)
 obtain⟨nm',qn',N',bs',hdct',sn',sub',ab',col',dd',k0',k1',k2',k3',k5',mN',hC1',hN',hi',T'⟩:=q8z I1.kIn hC;have kk:∀b o,X.base.get? b=some o->s1.heap.get? b=some o:=I1.bk
 have hCb:X.base.get? C=s1.heap.get? C:=by
  obtain⟨_,_,_,_,_,_,_,_,_,_,_,_,_,_,_,_,z,_⟩:=q8z I.ok.mod.kin hC
  grind
 have hCs:s.heap.get? C=s1.heap.get? C:=by
  obtain⟨_,_,_,_,_,_,_,_,_,_,_,_,_,_,_,_,z,_⟩:=q8z I.ok.mod.kin hC;rw[I.bk _ _ z];exact(kk _ _ z).symm
 have hC2:s1.heap.get? C=some (excClassObj nm qn C N bs (.ref Ac::veMro) hdct sn sub ab col dd k0 k1 k2 k3 k5 "ValueError.__new__"):=hCs ▸ hC1;rw[hC2]at hC1';cases hC1';have em:mN' "__init__"=none:=hi'
 have hN2:s1.heap.Ns N mN:=by
  obtain⟨o1,es1,ep1,a1,a2,a3,a4⟩:=hN;obtain⟨_,_,N3,_,_,_,_,_,_,_,_,_,_,_,_,m3,z3,n3,_,_⟩:=q8z I.ok.mod.kin hC;have z4:=I.bk _ _ z3;rw[hC1]at z4;cases z4;obtain⟨o5,es5,ep5,b1,b2,b3,b4⟩:=n3;have c1:=I.bk _ _ b1;rw[a1]at c1;cases c1;exact⟨_,es1,ep1,I1.bk _ _ b1,a2,a3,a4⟩
 exact⟨rfl,by grind [Vals.length],hC2,hN2,T',λh' ea hme=>hx pins σ H1 s1 ea (.ref C) us h' I1 hme q⟩
end
noncomputable def excO(e:Addr)(cls:Value):HO:=.ext λh=>∃o vs,h.get? e=some o/\o.cls=cls/\o.data=.fields vs
theorem y75{h:Heap}{e:Addr}(x:∃o vs,h.get? e=some o/\o.cls=cls/\o.data=.fields vs):ObjOk P w H h e (excO e cls):=by
 obtain⟨o,vs,h1,h2,h3⟩:=x;refine⟨⟨o,vs,h1,h2,h3⟩,⟨o,h1⟩,λg1 g2 ⟨o',vs',q1,q2,q3⟩ k=>⟨o',vs',k o' q1,q2,q3⟩⟩
noncomputable abbrev Cx.tr(X:Cx)(pn:List (Addr×Obj))(xe:Value->Shared->Prop):Cx:={X with pn:=pn,xe:=xe}
noncomputable abbrev Cx.hn(X:Cx)(e:Addr):Cx:={X with A:=X.A.mark (some (.ref e)),calm:=false,xe:=λ_ _=>False}
section
variable{pins pins':List (Addr×Obj)}{s:Shared}{xe:Value->Shared->Prop}{e:Addr}
theorem Cx.Ok.tr(ok:X.Ok)(pn:List (Addr×Obj))(xe:Value->Shared->Prop):(X.tr pn xe).Ok:=
 ⟨ok.mod,ok.kind,ok.glob,ok.blt,ok.above,ok.inj,ok.has,ok.cab,ok.hd,ok.frames,ok.stk,ok.exf,ok.bs,ok.bsz,ok.noex,ok.exfs,ok.funs,ok.frf,ok.tab⟩
theorem Cx.Ok.untr{pn:List (Addr×Obj)}(ok:(X.tr pn xe).Ok):X.Ok:=
 ⟨ok.mod,ok.kind,ok.glob,ok.blt,ok.above,ok.inj,ok.has,ok.cab,ok.hd,ok.frames,ok.stk,ok.exf,ok.bs,ok.bsz,ok.noex,ok.exfs,ok.funs,ok.frf,ok.tab⟩
theorem Cx.Ok.hn(ok:X.Ok)(e:Addr):(X.hn e).Ok:=
 ⟨ok.mod,ok.kind,ok.glob,ok.blt,ok.above,ok.inj,ok.has,ok.cab,(λz=>nomatch z),ok.frames,ok.stk,ok.exf,ok.bs,ok.bsz,ok.noex,ok.exfs,ok.funs,ok.frf,ok.tab⟩
theorem Inv.tr(I:Inv X pins σ H s)(xe:Value->Shared->Prop):Inv (X.tr (X.pn++pins) xe) [] σ H s:=
 ⟨I.ok.tr _ xe,I.os,I.bare,I.base,I.loc,I.cell,I.free,I.freeC,λp hp=>I.pin p (by simpa using hp),I.hok,I.len⟩
theorem Inv.untr(I:Inv (X.tr (X.pn++pins) xe) pins' σ H s):Inv X pins σ H s:=
 ⟨I.ok.untr,I.os,I.bare,I.base,I.loc,I.cell,I.free,I.freeC,λp hp=>I.pin p (w0p _ hp),I.hok,I.len⟩
theorem Inv.hn(I:Inv X pins σ H s)(e:Addr):Inv (X.hn e) pins σ H s:=
 ⟨I.ok.hn e,I.os,I.bare,I.base,I.loc,I.cell,I.free,I.freeC,I.pin,I.hok,I.len⟩
theorem Inv.unhn(ok:X.Ok)(I:Inv (X.hn e) pins σ H s):Inv X pins σ H s:=
 ⟨ok,I.os,I.bare,I.base,I.loc,I.cell,I.free,I.freeC,I.pin,I.hok,I.len⟩
theorem Fly.un{h2 h3:Heap}{B:Heap}{a0:Value}(un:Un (frs l) [] H H' h1 h2)(fly:Fly l H H' h1 h2 e cls B)(fl:Heap.FlyingW B l e cls a0 h3)(up:h2.UpToSlots h3):Un (frs l) [] H H' h1 h3:=by
 obtain⟨a1,fl1⟩:=fly.fl;have ex0:∀b:Addr,b∉([]:List Addr):=λb z=>nomatch z
 have slot:∀b o,h1.get? b=some o->H b=none->b∈frs l->∃sl,h3.get? b=some {o with slots:=sl}:=λb o q n hb=>by
  obtain⟨sl,e1⟩:=un.slot b o q n hb (ex0 b);obtain⟨_,o2,e2,nd⟩:=fl1.2.2.1.mem hb;rw[e1]at e2;cases e2;obtain⟨sl',e3⟩:=up b _ e1 nd;exact⟨sl',e3⟩
 refine⟨λb o q n hb hx=>fl.1 b o (fly.old b o q n hb),λb o q n hb hx=>slot b o q n hb,un.free,λb o q hx=>?_,un.tups,un.frzs,un.tbls⟩
 rcases fly.all b o q with hb|⟨o',z⟩
 ·obtain⟨_,o2,e2,nd⟩:=fl.2.2.1.mem hb;exact⟨o2,e2⟩
 ·exact⟨o',fl.1 b o' z⟩
theorem Fly.hok{h2 h3:Heap}{B:Heap}{a0:Value}(hok:HOk P w H' h2)(fly:Fly l H H' h1 h2 e cls B)(fl:Heap.FlyingW B l e cls a0 h3):HOk P w H' h3:=λa o q=>by
 refine(hok a o q).stay (λb u hb z=>?_) (λ_ z=>z) λ_ _ _ z=>z
 rcases hb with rfl|hb
 ·exact fl.1 _ _ (fly.trk b o u q z)
 ·exact fl.1 _ _ (fly.trk b _ u hb z)
theorem Fly.free{h2:Heap}{B:Heap}(hok:HOk P w H' h2)(fly:Fly l H H' h1 h2 e cls B):H' e=none:=by
 obtain⟨a0,fl⟩:=fly.fl;cases q:H' e with
 |none=>rfl
 |some u=>
  obtain⟨o,z⟩:=(hok e u q).get;have:=fly.trk e u o q z;rw[fl.2.1]at this;cases this
theorem Un.taken{fs:List Addr}{h3:Heap}{o:HO}(un:Un fs [] H H' h1 h3)(new:h1.get? e=none)(fr:H' e=none):Un fs [] H (upd H' e o) h1 h3:=by
 refine⟨un.keep,un.slot,λb ob q n hx=>?_,un.there,λb xs q=>?_,λb ob u q=>?_,λb ps q=>?_⟩
 ·have:b≠e:=λz=>by grind
  rw[q0g this];exact un.free b ob q n hx
 ·have z:=un.tups b xs q;rw[q0g (q0p z fr)];exact z
 ·have z:=un.frzs b ob u q;rw[q0g (q0p z fr)];exact z
 ·obtain⟨more,z⟩:=un.tbls b ps q;exact⟨more,by rw[q0g (q0p z fr)];exact z⟩
theorem HOk.taken{h:Heap}{o:HO}(hok:HOk P w H' h)(fr:H' e=none)(new:ObjOk P w (upd H' e o) h e o):HOk P w (upd H' e o) h:=λb u q=>by
 by_cases hb:b=e
 ·grind [q0k]
 ·rw[q0g hb]at q;exact(hok b u q).stay (λ_ _ _ z=>z) (λc z=>by rw[q0g (q0p z fr)];exact z) λc xs _ z=>by rw[q0g (q0p z fr)];exact z
end
structure RoomH(k:Nat)(A:Around):Prop where
 dp:A.depth+3*k+5<recursionLimit
 un:A.units+16*k+200<cLine
 gd:A.guards=some []
structure FnOkH(P:Program)(w:World)(K:PySem.W.Frag)(mg:Str->Option Value)(base:Heap)(k:Nat)(f:Addr)(fd:FuncData)(ps:List Str)(sp:Sp):Prop where
 len:∀vs H Q E,sp vs H Q E->vs.length=ps.length
 run:∀(A:Around)(outer:List Env)(s:Shared)(H:Hp)(args:Args)(us:List Value)(vs:List V)(Q:VK),RoomH k A->Env0 P w K mg base A outer s H->BindsTo s fd args (ps.zip us)->Vals vs us->sp vs H Q E0 ->
  codeAny (model P w) A (.call (.ref f) args) (CR CX0 outer P w H s Q E0) s
noncomputable abbrev Cx.cp(X:Cx)(Nc:List Str)(scope:Scope)(cl:List (Str×Addr))(C:Addr)(s₀:Shared)(H₀:Hp)(ex:List Addr):Cx:=
 {X with N:=Nc,s₀:=s₀,H₀:=H₀,env:=compEnvC scope cl C X.env,outer:=X.stack,ex:=ex,fn:=λ_=>false,pn:=[],xe:=λ_ _=>False}
theorem q6t:∀(names:List (Str×NameKind))(acc:List (Str×Addr)),(∀x∈names,x.2=.free->∃c,env.cells.lookup x.1=some c) ->
  ∃cl,(forIn names acc fun(x:Str×NameKind) (r:List (Str×Addr))=>(if(x.2==NameKind.free)=true then(cellOf env x.1 >>= λa=>pure (ForInStep.yield ((x.1,a)::r)))else pure (ForInStep.yield r):Sem (ForInStep (List (Str×Addr)))))=pure cl /\
   (∀x c,cl.lookup x=some c->acc.lookup x=some c\/env.cells.lookup x=some c)/\(∀x,((x,NameKind.free)∈names\/(acc.lookup x).isSome=true)->(cl.lookup x).isSome=true)
 |[],acc,_=>⟨acc,rfl,λx c h=>.inl h,λx h=>h.elim (λz=>nomatch z) id⟩
 |(n,k)::r,acc,h=>by
  by_cases hk:k=.free
  ·subst hk;obtain⟨c,hc⟩:=h (n,.free) w0h rfl;obtain⟨cl,e1,e2,e3⟩:=q6t r ((n,c)::acc) λx hx=>h x (w0e _ hx)
   refine⟨cl,?_,λx d hd=>?_,λx hx=>?_⟩
   ·rw[w2b];have:cellOf env n=pure c:=by unfold cellOf;rw[hc]
    grind
   all_goals grind
  ·obtain⟨cl,e1,e2,e3⟩:=q6t r acc λx hx=>h x (w0e _ hx)
   grind
theorem x1z(h:∀x∈scope.names,x.2=.free->∃c,env.cells.lookup x.1=some c):
  ∃cl,closureFor scope env=pure cl/\(∀x c,cl.lookup x=some c->env.cells.lookup x=some c)/\∀x,(x,NameKind.free)∈scope.names->∃c,cl.lookup x=some c:=by
 obtain⟨cl,e1,e2,e3⟩:=q6t scope.names [] h
 grind [Option.isSome_iff_exists,closureFor]
theorem q80{env : Env} : ∀ {names : List (Str × NameKind)} {x : Str}, (∀ y ∈ names, y.2 ≠ .cell) ->
    ((names.map λ(n, k) => if (k == NameKind.free && env.scope.kind == .function && env.kindOf n == some .cell) then (n, NameKind.cell) else (n, k)).lookup x = some .cell \/
     (names.map λ(n, k) => if (k == NameKind.free && env.scope.kind == .function && env.kindOf n == some .cell) then (n, NameKind.cell) else (n, k)).lookup x = some .free) -> (x, NameKind.free) ∈ names
  | [], x, _, h => by grind
  | (n, k) :: r, x, hc, h => by
    have ih := @q80 env r x λy hy => hc y (w0e _ hy)
    grind
theorem x3z{prog:Program}{A:Around}{R:Result->Shared->Prop}{s:Shared}{elt target iter:Expr}{scope:Scope}{it acc:Value}{env:Env}(I:Nat->Shared->Prop)
  (turn:∀n s,I n s->wpAny (model prog w) A (pyNext it) (λr s1=>match r with
   |none=>R (.ok .next) s1
   |some v=>wpAny (model prog w) A (letOwnedTupleGo target it v) (λ_ s2=>wpAny (model prog w) A (assign target env v) (λ_ s3=>
     wpAny (model prog w) A (forIn ifs true λc r=>if r=true then do let ok <- isTrue c env (eval c env);pure (ForInStep.yield ok)else pure (ForInStep.yield r)) (λok s4=>
      if ok=true then wpAny (model prog w) A (eval elt env) (λx s5=>wpAny (model prog w) A (call (.builtin "list.append") [acc,x]) (λ_ s6=>∃m,m<n/\I m s6) (λ_ _=>False) s5) (λ_ _=>False) s4
      else ∃m,m<n/\I m s4) (λ_ _=>False) s3) (λ_ _=>False) s2) (λ_ _=>False) s1) (λ_ _=>False) s)
  (n:Nat)(h:I n s):codeAny (model prog w) A (.compLoop (.ListComp elt [⟨target,iter,ifs,0⟩] scope pos) 0 it acc env) R s:=by
 refine codeAny_loop rfl I (λn s hI=>?_) n h
 show wpAny _ A ((compTurn (.ListComp elt [⟨target,iter,ifs,0⟩] scope pos) 0 it acc env).onRaise (λx=>do noteFrame x env;theTreesLotGoes x)) _ _ s
 refine wpAny_noted ?_;rw[compTurn_list];refine wpAny_bind (wpAny_standAt (wpAny_bind (wpAny_mono (turn n s hI) (λr s1 h1=>?_) λ_ _ z=>z.elim)))
 cases r with
 |none=>exact wpAny_pure h1
 |some v=>
  refine wpAny_bind (wpAny_mono h1 (λ_ s2 h2=>?_) λ_ _ z=>z.elim)
  refine wpAny_bind (wpAny_mono h2 (λ_ s3 h3=>?_) λ_ _ z=>z.elim)
  refine wpAny_bind (wpAny_mono h3 (λok s4 h4=>?_) λ_ _ z=>z.elim)
  cases ok with
  |false=>exact wpAny_pure ⟨rfl,h4⟩
  |true=>exact wpAny_bind (wpAny_bind (wpAny_mono h4 (λx s5 h5=>wpAny_bind (wpAny_mono h5 (λ_ s6 h6=>wpAny_pure (wpAny_pure ⟨rfl,h6⟩)) λ_ _ z=>z.elim)) λ_ _ z=>z.elim))
noncomputable def pj(js:List Nat)(σ:St):St:=js.map λj=>(σ[j]?).getD none
theorem z3d{i:Nat}(h:(pj js σ)[i]?=some (some v)):∃j,js[i]?=some j/\σ[j]?=some (some v):=by
 grind [pj]
noncomputable def PTs(X:Cx)(ifs:List Expr)(t:TT):Prop:=
 ∀(pins:List (Addr×Obj))(s:Shared)(σ:St)(H:Hp)(Q:Bool->Hp->Prop),Inv X pins σ H s->t σ H Q ->
  wpAny (model X.prog X.w) X.A (forIn ifs true λc r=>if r=true then do let ok <- isTrue c X.env (eval c X.env);pure (ForInStep.yield ok)else pure (ForInStep.yield r)) (TP X pins σ Q) X.xe s
noncomputable def tYes:TT:=λ_ H Q=>Q true H
theorem y76:PTs X [] tYes:=λpins s σ H Q I h=>wpAny_tests_nil ⟨H,I,h⟩
theorem y77(h:PT X c t):PTs X [c] t:=λpins s σ H Q I hq=>wpAny_tests_one (h pins s σ H Q I hq)
noncomputable def Kp(σ σ':St):Prop:=∀(i:Nat) v,σ[i]?=some (some v)->σ'[i]?=some (some v)
theorem Kp.one:Kp (List.replicate 1 none++σ) (some v::σ):=λi u h=>by
 grind
noncomputable def tComp(wi:TI)(nl:Nat)(js:List Nat)(g:TG)(tc:TT)(te:TE):TE:=λσ H Q=>wi σ H λJ H1=>∀D,H1 D=none->∃W:Nat->Nat->Hp->Prop,(∃m,W 0 m (upd H1 D (.lst [])))/\∀i m H2,W i m H2 ->
 (J.stop i H2/\Q (.ref D) H2)\/(J.go i H2/\∀x H3,J.yld i H2 x H3->g x (List.replicate nl none++pj js σ) H3 λσ4 H4=>Kp (List.replicate nl none++pj js σ) σ4/\tc σ4 H4 λb H5=>
  if b=true then te σ4 H5 λy H6=>∃ys,H6 D=some (.lst ys)/\ys.length<sizeLine/\∃m',m'<m/\W (i+1) m' (upd H6 D (.lst (ys++[y])))else ∃m',m'<m/\W (i+1) m' H5)
section
variable{elt target iter:Expr}{scope:Scope}{wi:TI}{g:TG}{tc:TT}{te:TE}
theorem x5s
  (I:Inv X pins σ H s)(hfp:∀b∈fp,FpOk X pins H b)(hob:∀b∈fp,∃o,s.heap.get? b=some o/\∀v,o.data≠.cell v)
  (hk:scope.kind=.function)(hcell:∀y∈scope.names,y.2≠.cell)(hcl:∀x c,cl.lookup x=some c->X.env.cells.lookup x=some c)(hcf:∀x,(x,NameKind.free)∈scope.names->∃c,cl.lookup x=some c)
  (hj:∀(i j:Nat) y,Nf[i]?=some y->js[i]?=some j->X.N[j]?=some y)(hlen:js.length=Nf.length)
  (hNf:∀y∈Nf,(y,NameKind.free)∈scope.names/\Vis X.env.scope y/\X.env.kindOf y≠some .local)
  (hvis:∀y∈Nf,(relabel scope X.env).names.lookup y=some .cell\/(relabel scope X.env).names.lookup y=some .free)
  (hn:h1.Ns (s.heap.objs.size+1) mC)(hs:Heap.SameBut (s.heap.objs.size+1) ((s.heap.push {cls:=.type "list", dict:=none,data:=.seq ([]:List Value).toArray}).push {cls:=.type "dict", data:=.dict #[]}) h1):
  Inv (X.cp (Nl++Nf) scope cl (s.heap.objs.size+1) {s with heap:=s.heap.push {cls:=.type "list", dict:=none,data:=.seq ([]:List Value).toArray}} (upd H s.heap.objs.size (.lst [])) fp) [] (List.replicate Nl.length none++pj js σ) (upd H s.heap.objs.size (.lst [])) {s with heap:=h1,toks:=tk}:=by
 have fD:H s.heap.objs.size=none:=I.hok.fresh (w0a _);have up1:∀b u,s.heap.get? b=some u->(s.heap.push {cls:=.type "list", dict:=none,data:=.seq ([]:List Value).toArray}).get? b=some u:=λb u q=>Heap.get?_push_of_some _ q
 have szp:(s.heap.push {cls:=.type "list", dict:=none,data:=.seq ([]:List Value).toArray}).objs.size=s.heap.objs.size+1:=Heap.size_push ..
 have up2:∀b u,(s.heap.push {cls:=.type "list", dict:=none,data:=.seq ([]:List Value).toArray}).get? b=some u->h1.get? b=some u:=λb u q=>by
  have hlt:=Heap.lt_size q;rw[szp]at hlt;exact(hs.2 b (w0t hlt)).trans (Heap.get?_push_of_some _ q)
 have up:∀b u,s.heap.get? b=some u->h1.get? b=some u:=λb u q=>up2 b u (up1 b u q)
 have ltOf:∀b o,s.heap.get? b=some o->b≠s.heap.objs.size:=λb o q=>w0t (Heap.lt_size q)
 have fr0:∀b o,s.heap.get? b=some o->H b=none->upd H s.heap.objs.size (.lst []) b=none:=λb o q n=>by grind [q0g]
 have hasC:∀x,((relabel scope X.env).names.lookup x=some .cell\/(relabel scope X.env).names.lookup x=some .free)->∃c,cl.lookup x=some c:=λx hx=>hcf x (q80 hcell hx)
 have hokD:HOk X.prog X.w (upd H s.heap.objs.size (.lst [])) (s.heap.push {cls:=.type "list", dict:=none,data:=.seq ([]:List Value).toArray}):=
  I.hok.laid up1 (w0a _) ⟨w1d _,[],_,.nil,Heap.get?_push_size _ rfl⟩
 have cellK:∀x c,cl.lookup x=some c->∃v,s.heap.IsCell c v:=λx c e=>I.cell x c (hcl x c e)
 have cellUp:∀c v,s.heap.IsCell c v->h1.IsCell c v:=λc v ⟨o,q,r⟩=>⟨o,up _ _ q,r⟩
 refine⟨⟨I.ok.mod,hk,I.ok.glob,I.ok.blt,(by show(s.heap.push _).objs.size<=_;rw[szp];exact w0a _),λx y c e1 e2=>I.ok.inj x y c (hcl x c e1) (hcl y c e2),λx hx=>hasC x hx,(λx c z=>nomatch z),I.ok.hd,I.ok.frames,.inl rfl,λb hb=>⟨?_,λx c e=>?_⟩,λb o q=>?_,?_,λb o q hb=>?_,λb hb hb2=>?_,?_,λb hb=>?_,(I.ok.tab.un I.base).laid fD⟩,
  rfl,I.bare,Un.kept up2,⟨mC,hn,λi y v e1 e2 e3=>?_⟩,λx c e=>?_,?_,λx c e=>?_,λp hp=>(by cases hp),hokD.kept up2,?_⟩
 ·obtain⟨o,q,_⟩:=hob b hb;exact w0t (w1n (Heap.lt_size q))
 ·exact(hfp b hb).2.2.2.2.1 x c (hcl x c e)
 ·obtain⟨q1,q2⟩:=I.bs b o q
  grind
 ·show X.base.objs.size<=(s.heap.push _).objs.size;rw[szp];exact Nat.le_succ_of_le (w0s I.ok.bsz I.sz)
 ·rcases(hfp b hb).2.2.2.1 with z|z
  ·exact I.ok.noex b o q z
  ·obtain⟨q1,_⟩:=I.ok.bs b o q;exact absurd (Heap.lt_size q1) (w4f.mpr z)
 ·rcases w0d.mp (I.stkSub b hb2)with z|z
  ·exact(hfp b hb).2.1 z
  ·exact(hfp b hb).2.2.1 z
 ·exact I.stack.of_keeps λb o q _=>⟨o,up1 _ _ q,rfl⟩
 ·obtain⟨_,o,q,_⟩:=I.stack.mem hb;exact fr0 b o q (I.stkFree b hb)
 ·-- the names
  have e2':(List.replicate Nl.length none++pj js σ)[i]?=some (some v):=e2;have e1':(Nl++Nf)[i]?=some y:=e1
  by_cases hi:i<Nl.length
  ·grind
  ·have hi':Nl.length<=i:=w4f.mp hi;rw[w1j (by simpa using hi')]at e2';rw[w1j hi']at e1';rw[List.length_replicate]at e2';obtain⟨j,ej,eσ⟩:=z3d e2';have hNy:=hj _ _ _ e1' ej;obtain⟨hfr,hv,hnl⟩:=hNf y (w1o e1');obtain⟨m,hm,hl⟩:=I.loc;obtain⟨u,r,l⟩:=hl j y v hNy eσ hv;refine⟨u,r,?_⟩;rcases l with⟨k,_⟩|⟨k,c,ec,z⟩
   ·exact absurd k hnl
   ·obtain⟨c',ec'⟩:=hcf y hfr;have:=hcl y c' ec';rw[ec]at this;cases this;exact .inr ⟨hvis y (w1o e1'),c,ec',cellUp _ _ z⟩
 ·obtain⟨v,z⟩:=cellK x c e
  grind
 ·show upd H s.heap.objs.size (.lst []) (s.heap.objs.size+1)=none;rw[q0g (w4k _)];exact I.hok.fresh (w5i _)
 ·obtain⟨v,o,q,_⟩:=cellK x c e;exact fr0 c o q (I.freeC x c (hcl x c e))
 grind [pj]
theorem y02{σ':St}
  (I:Inv X pins σ H s)(hfp:∀b∈fp,FpOk X pins H b)
  (J:Inv (X.cp Nc scope cl (s.heap.objs.size+1) {s with heap:=s.heap.push {cls:=.type "list", dict:=none,data:=.seq ([]:List Value).toArray}} (upd H s.heap.objs.size (.lst [])) fp) [] σ' H' s')
  (hs:Heap.SameBut (s.heap.objs.size+1) s'.heap h'):Inv X pins σ H' {s' with heap:=h'}:=by
 have fD:H s.heap.objs.size=none:=I.hok.fresh (w0a _);have up1:∀b u,s.heap.get? b=some u->(s.heap.push {cls:=.type "list", dict:=none,data:=.seq ([]:List Value).toArray}).get? b=some u:=λb u q=>Heap.get?_push_of_some _ q
 have neC:∀b o,s.heap.get? b=some o->b≠s.heap.objs.size+1:=λb o q=>w0t (w1n (Heap.lt_size q))
 have fr0:∀b o,s.heap.get? b=some o->H b=none->upd H s.heap.objs.size (.lst []) b=none:=λb o q n=>by rw[q0g (w0t (Heap.lt_size q))];exact n
 have old:∀b u,H b=some u->upd H s.heap.objs.size (.lst []) b=some u:=λb u q=>by rw[q0g (q0p q fD)];exact q
 have B:Un (frs X.stack) fp (upd H s.heap.objs.size (.lst [])) H' (s.heap.push {cls:=.type "list", dict:=none,data:=.seq ([]:List Value).toArray}) s'.heap:=J.base;have hC:H' (s.heap.objs.size+1)=none:=J.free;refine I.call' (s':={s' with heap:=h'}) (ch:=fp) (J.os.trans rfl) ⟨λb o q n hb hx=>?_,λb o q n hb hx=>?_,λb o q n hx=>B.free b o (up1 _ _ q) (fr0 b o q n) hx,λb o q hx=>?_,λb xs q=>B.tups b xs (old _ _ q),λb o u q=>B.frzs b o u (old _ _ q),λb ps q=>B.tbls b ps (old _ _ q)⟩ (λa o q=>?_) J.bare λb hb=>?_
 ·exact(hs.2 b (neC b o q)).trans (B.keep b o (up1 _ _ q) (fr0 b o q n) hb hx)
 ·obtain⟨sl,z⟩:=B.slot b o (up1 _ _ q) (fr0 b o q n) hb hx;exact⟨sl,(hs.2 b (neC b o q)).trans z⟩
 ·obtain⟨o',z⟩:=B.there b o (up1 _ _ q) hx;exact⟨o',(hs.2 b (neC b o q)).trans z⟩
 ·refine(J.hok a o q).stay (λc v hc z=>(hs.2 c ?_).trans z) (λ_ z=>z) λ_ _ _ z=>z
  grind
 ·obtain⟨_,f1,f2,f3,f4,f5⟩:=hfp b hb
  grind
theorem y78{Nl Nf:List Str}{js:List Nat}(hc:X.calm=true)(hi:PI X target iter wi)
  (hk:scope.kind=.function)(hcell:∀y∈scope.names,y.2≠.cell)(hnames:∀x∈scope.names,x.2=.local->scope.names.lookup x.1=some .local)
  (hfree:∀x∈scope.names,x.2=.free->X.env.kindOf x.1=some .cell\/X.env.kindOf x.1=some .free)
  (hj:∀(i j:Nat) y,Nf[i]?=some y->js[i]?=some j->X.N[j]?=some y)(hlen:js.length=Nf.length)
  (hNf:∀y∈Nf,(y,NameKind.free)∈scope.names/\Vis X.env.scope y/\X.env.kindOf y≠some .local)
  (hvis:∀y∈Nf,(relabel scope X.env).names.lookup y=some .cell\/(relabel scope X.env).names.lookup y=some .free)
  (hg:∀cl C s₀ H₀ ex,PG (X.cp (Nl++Nf) scope cl C s₀ H₀ ex) target g)(ht:∀cl C s₀ H₀ ex,PTs (X.cp (Nl++Nf) scope cl C s₀ H₀ ex) ifs tc)(he:∀cl C s₀ H₀ ex,PE (X.cp (Nl++Nf) scope cl C s₀ H₀ ex) elt te)
  (hs:∀x,foldedSetIterable iter X.env x=pure x:=by intro _;rfl):
  PE X (.ListComp elt [⟨target,iter,ifs,0⟩] scope pos) (tComp wi Nl.length js g tc te):=by
 intro pins s σ H Q I h;obtain⟨cl,hclos,hcl,hcf⟩:=x1z (scope:=scope) (env:=X.env) λx hx hf=>I.ok.has x.1 (hfree x hx hf)
 rw[eval_ListComp];refine wpAny_comprehension_free (use:=none) rfl hs hclos hk hnames (thn (hi pins s σ H _ I h) λv s1 h1=>thn h1 λitv s2 h2=>?_)
 obtain⟨it,fp,tn,J,H2,e,I2,T,st2,f2,rd⟩:=h2;subst e;refine wpAny_newObj_type (wpAny_newFunctionEnv hcell (by intro y hy;simp at hy) (λh₁ hns₁ hsb₁=>?_) hk)
 dsimp only at hns₁ hsb₁ |-
 have szp:(s2.heap.push {cls:=.type "list", dict:=none,data:=.seq ([]:List Value).toArray}).objs.size=s2.heap.objs.size+1:=Heap.size_push ..;rw[szp]at hns₁ hsb₁ |-
 have fD:H2 s2.heap.objs.size=none:=I2.hok.fresh (w0a _);obtain⟨W,⟨m0,w0⟩,turn⟩:=rd s2.heap.objs.size fD;have obj2:=T.obj 0 s2.heap st2;have IS:=x5s (Nl:=Nl) (Nf:=Nf) (js:=js) (cl:=cl) (tk:=s2.toks+([]:List (Str×Value)).length) I2 f2 obj2 hk hcell hcl hcf hj hlen hNf hvis hns₁ hsb₁
 have upS:∀b u,s2.heap.get? b=some u->h₁.get? b=some u:=λb u q=>by
  have hlt:=Heap.lt_size q;exact(hsb₁.2 b (w0t (w1n hlt))).trans (Heap.get?_push_of_some _ (Heap.get?_push_of_some _ q))
 have stS:tn 0 h₁:=T.keep 0 s2.heap h₁ st2 λb hb o q=>upS b o q
 have noD:∀b∈fp,upd H2 s2.heap.objs.size (.lst []) b=none:=λb hb=>by
  obtain⟨o,q,_⟩:=obj2 b hb;rw[q0g (w0t (Heap.lt_size q))];exact(f2 b hb).1
 have stat:∀{H':Hp},(∀b∈fp,H' b=none)->∀b∈fp,FpOk (X.cp (Nl++Nf) scope cl (s2.heap.objs.size+1) {s2 with heap:=s2.heap.push {cls:=.type "list", dict:=none,data:=.seq ([]:List Value).toArray}} (upd H2 s2.heap.objs.size (.lst [])) fp) [] H' b:=λhn b hb=>by
  refine⟨hn b hb,(IS.ok.exf b hb).1,IS.ok.exfs b hb,.inl hb,(IS.ok.exf b hb).2,λp hp=>(by cases hp)⟩
 have loop:∀s4:Shared,s4={s2 with heap:=h₁,toks:=s2.toks+([]:List (Str×Value)).length} ->
   codeAny (model X.prog X.w) X.A (.compLoop (.ListComp elt [⟨target,iter,ifs,0⟩] scope pos) 0 (.ref it) (.ref s2.heap.objs.size) (compEnvC scope cl (s2.heap.objs.size+1) X.env))
    (compPost (model X.prog X.w) X.A X.xe none (EP X pins σ Q) (.ref s2.heap.objs.size) (s2.heap.objs.size+1)) s4:=by
  rintro s4 rfl;refine x3z (λn s'=>∃i H',Inv (X.cp (Nl++Nf) scope cl (s2.heap.objs.size+1) {s2 with heap:=s2.heap.push {cls:=.type "list", dict:=none,data:=.seq ([]:List Value).toArray}} (upd H2 s2.heap.objs.size (.lst [])) fp) [] (List.replicate Nl.length none++pj js σ) H' s'/\tn i s'.heap/\(∀b∈fp,H' b=none)/\W i n H') ?_ m0 ⟨0,_,IS,stS,noD,w0⟩
  rintro n s3 ⟨i,H3,I3,st3,fr3,w3⟩;rcases turn i n H3 w3 with⟨stop,qn⟩|⟨go,step⟩
  ·refine thn (T.done (X.cp (Nl++Nf) scope cl (s2.heap.objs.size+1) {s2 with heap:=s2.heap.push {cls:=.type "list", dict:=none,data:=.seq ([]:List Value).toArray}} (upd H2 s2.heap.objs.size (.lst [])) fp) rfl rfl rfl hc i [] s3 _ H3 _ I3 (stat fr3) st3 stop) λr s5 ⟨hr,I5⟩=>?_
   subst hr;obtain⟨m5,hn5,_⟩:=I5.loc;refine⟨m5,hn5,λh' hs'=>⟨.ref s2.heap.objs.size,H3,y02 I2 f2 I5 hs',rfl,qn⟩⟩
  ·refine thn (T.item (X.cp (Nl++Nf) scope cl (s2.heap.objs.size+1) {s2 with heap:=s2.heap.push {cls:=.type "list", dict:=none,data:=.seq ([]:List Value).toArray}} (upd H2 s2.heap.objs.size (.lst [])) fp) rfl rfl rfl hc i [] s3 _ H3 _ I3 (stat fr3) st3 go) λr s5 ⟨u,hr,h5⟩=>?_
   subst hr;refine thn h5 λ_ s6 ⟨x,H6,I6,r6,y6,st6,fr6⟩=>?_
   have I6':=I6.pinned (stat fr6) (T.obj _ _ st6);refine thn (hg _ _ _ _ _ _ s6 _ H6 x u _ I6' r6 (step x H6 y6)) λ_ s7 ⟨σ7,H7,I7,kp,q7⟩=>?_
   refine thn (ht _ _ _ _ _ _ s7 σ7 H7 _ I7 q7) λok s8 ⟨H8,I8,q8⟩=>?_
   have again:∀{σ9:St}{H9:Hp}{s9:Shared},Inv (X.cp (Nl++Nf) scope cl (s2.heap.objs.size+1) {s2 with heap:=s2.heap.push {cls:=.type "list", dict:=none,data:=.seq ([]:List Value).toArray}} (upd H2 s2.heap.objs.size (.lst [])) fp) ([]++pinsAt fp s6.heap) σ9 H9 s9 ->
     Kp (List.replicate Nl.length none++pj js σ) σ9->(∃m',m'<n/\W (i+1) m' H9)->∃m,m<n/\∃i H',Inv (X.cp (Nl++Nf) scope cl (s2.heap.objs.size+1) {s2 with heap:=s2.heap.push {cls:=.type "list", dict:=none,data:=.seq ([]:List Value).toArray}} (upd H2 s2.heap.objs.size (.lst [])) fp) [] (List.replicate Nl.length none++pj js σ) H' s9/\tn i s9.heap/\(∀b∈fp,H' b=none)/\W i m H':=λ{σ9 H9 s9} I9 hw ⟨m',hm,w9⟩=>by
    refine⟨m',hm,i+1,H9,I9.unpinned.weak (by rw[I9.len,<- IS.len]) hw,T.keep _ _ _ st6 λb hb o q=>(I9.pin (b,o) (w0c _ (w0c _ (q2m hb q)))).1,λb hb=>?_,w9⟩
    obtain⟨o,q,d⟩:=T.obj _ _ st6 b hb;exact(I9.pin (b,o) (w0c _ (w0c _ (q2m hb q)))).2.1
   cases ok with
   |false=>exact again I8 kp (by simpa using q8)
   |true=>
    have q8':=by simpa only[if_true]using q8
    refine thn (he _ _ _ _ _ _ s8 σ7 H8 _ I8 q8') λy s9 ⟨yv,H9,I9,r9,ys,hD,hz,q9⟩=>?_
    refine thn (q8y _ s9 σ7 H9 (.ref s2.heap.objs.size) [yv] (.ref s2.heap.objs.size) [y] (λv H'=>v=.non/\H'=upd H9 s2.heap.objs.size (.lst (ys++[yv]))) I9 rfl (.cons r9 .nil) ⟨_,ys,yv,rfl,rfl,hD,hz,rfl,rfl⟩) λ_ s10 ⟨_,H10,I10,_,_,e10⟩=>?_
    subst e10;exact again I10 kp q9
 exact codeAny_compStart_list (loop _ rfl) (T.self X.A 0 _ _ _ stS (loop _ rfl))
end
theorem q6u{env:Env}:∀{names:List (Str×NameKind)}{x:Str},names.lookup x=some .free ->
  (names.map fun(n,k)=>if(k==NameKind.free&&env.scope.kind==.function&&env.kindOf n==some .cell)then(n,NameKind.cell)else(n,k)).lookup x=some .cell \/
  (names.map fun(n,k)=>if(k==NameKind.free&&env.scope.kind==.function&&env.kindOf n==some .cell)then(n,NameKind.cell)else(n,k)).lookup x=some .free
 |[],x,h=>by cases h
 |(n,k)::r,x,h=>by
  have ih:=@q6u env r x
  grind
noncomputable def compOk(sc scope:Scope)(N Nf:List Str)(js:List Nat):Bool:=
 scope.kind==.function&&scope.names.all (λy=>y.2 != .cell)&&scope.names.all (λy=>y.2 != .local||scope.names.lookup y.1==some .local) &&
 scope.names.all (λy=>y.2 != .free||sc.names.lookup y.1==some .cell||sc.names.lookup y.1==some .free)&&js.length==Nf.length &&
 (List.range js.length).all (λi=>match js[i]?,Nf[i]? with|some j,some y=>N[j]?==some y|_,_=>true) &&
 Nf.all (λy=>scope.names.lookup y==some .free&&(sc.names.lookup y==some .cell||sc.names.lookup y==some .free))
theorem x5t{elt target iter:Expr}{scope sc:Scope}{wi:TI}{g:TG}{tc:TT}{te:TE}{Nl Nf N:List Str}{js:List Nat}(hc:X.calm=true)(hi:PI X target iter wi)
  (ok:compOk sc scope N Nf js=true)
  (hg:∀cl C s₀ H₀ ex,PG (X.cp (Nl++Nf) scope cl C s₀ H₀ ex) target g)(ht:∀cl C s₀ H₀ ex,PTs (X.cp (Nl++Nf) scope cl C s₀ H₀ ex) ifs tc)(he:∀cl C s₀ H₀ ex,PE (X.cp (Nl++Nf) scope cl C s₀ H₀ ex) elt te)
  (hsc:X.env.scope=sc:=by rfl)(hN:X.N=N:=by rfl)(hs:∀x,foldedSetIterable iter X.env x=pure x:=by intro _;rfl):
  PE X (.ListComp elt [⟨target,iter,ifs,0⟩] scope pos) (tComp wi Nl.length js g tc te):=by
 unfold compOk at ok;simp only[w0l,w0y,beq_iff_eq,bne_iff_ne,w4n,w1h]at ok;obtain⟨⟨⟨⟨⟨⟨k1,k2⟩,k3⟩,k4⟩,k5⟩,k6⟩,k7⟩:=ok;have kind:∀x,X.env.kindOf x=sc.names.lookup x:=λx=>by rw[<- hsc];rfl
 refine y78 hc hi k1 k2 (λx hx hl=>(k3 x hx).resolve_left λz=>z hl) (λx hx hf=>?_) (λi j y e1 e2=>?_) k5 (λy hy=>?_) (λy hy=>?_) hg ht he hs
 ·grind
 ·grind
 ·obtain⟨z1,z2⟩:=k7 y hy;refine⟨PySem.mem_of_lookup z1,?_,?_⟩
  ·rw[hsc];rcases z2 with z|z
   ·exact .inr (.inl z)
   ·exact .inr (.inr z)
  grind
 ·exact q6u (k7 y hy).1
abbrev TF:=Str->St->Hp->(Str->Hp->Prop)->Prop
noncomputable def PF(X:Cx)(es:List Expr)(t:TF):Prop:=∀(acc:Str)(pins:List (Addr×Obj))(s:Shared)(σ:St)(H:Hp)(Q:Str->Hp->Prop),Inv X pins σ H s->t acc σ H Q ->
 Joins (model X.prog X.w) X.A X.xe (evalEach es X.env) acc (λout s'=>out.length<=sizeLine/\∃H',Inv X pins σ H' s'/\Q out H') s
noncomputable def FmtV:V->Str->Prop
 |.int i,y=>i.natAbs.log2<1920/\y=Str.ofString (toString i)
 |.str z,y=>z.length<=sizeLine/\y=z
 |_,_=>False
theorem z3e:PF X [] (λacc _ H Q=>acc.length<=sizeLine/\Q acc H):=λacc pins s σ H Q I h=>⟨h.1,H,I,h.2⟩
theorem z3f{j pos}(r:PF X es t):PF X (.Constant (.str x) j pos::es) (λacc σ H Q=>(acc++x).length<=sizeLine/\t (acc++x) σ H Q):=by
 intro acc pins s σ H Q I h;show wpAny _ _ (eval (.Constant (.str x) j pos) X.env) _ _ s;exact Calls.Constant_str ⟨x,_,rfl,h.1,r _ pins _ σ H Q (I.tok _) h.2⟩
theorem z3g(he:PE X e te)(r:PF X es t):PF X (.FormattedValue e (-1) none pos::es) (λacc σ H Q=>te σ H λv H1=>∃y,FmtV v y/\(acc++y).length<=sizeLine/\t (acc++y) σ H1 Q):=by
 intro acc pins s σ H Q I h;show wpAny _ _ (eval (.FormattedValue e (-1) none pos) X.env) _ _ s;refine wpAny_FormattedValue_plain (thn (he pins s σ H _ I h) λu s1 ⟨v,H1,I1,rv,y,hf,hz,q⟩=>?_)
 cases v with
 |int i=>
  obtain⟨tk,e1⟩:=rv;subst e1;obtain⟨hd,e2⟩:=hf;subst e2;exact wpAny_formatField_int hd ⟨_,_,rfl,hz,r _ pins _ σ H1 Q (I1.tok _) q⟩
 |str z=>
  obtain⟨tk,e1⟩:=rv;subst e1;obtain⟨hd,e2⟩:=hf;subst e2;exact wpAny_formatField_str ⟨_,_,rfl,hz,r _ pins _ σ H1 Q I1 q⟩ ⟨_,_,rfl,hz,r _ pins _ σ H1 Q (I1.tok _) q⟩ hd
 |_=>exact hf.elim
theorem y79{rest:List Expr}(h:PF X (v1::v2::rest) t):PE X (.JoinedStr (v1::v2::rest) pos) (λσ H Q=>t Str.empty σ H λout H'=>Q (.str out) H'):=by
 intro pins s σ H Q I hq;refine wpAny_JoinedStr ?_;have key:=h Str.empty pins s σ H _ I hq
 have mono:∀(l:List (Sem Value))(acc:Str)(R R':Str->Shared->Prop)(s:Shared),(∀o s,R o s->R' o s)->Joins (model X.prog X.w) X.A X.xe l acc R s->Joins (model X.prog X.w) X.A X.xe l acc R' s:=by
  intro l
  induction l with
  |nil=>intro acc R R' s hr h;exact hr _ _ h
  |cons x r ih=>intro acc R R' s hr h;exact wpAny_mono h (λv s1 ⟨y,tk,e,hz,q⟩=>⟨y,tk,e,hz,ih _ _ _ _ hr q⟩) λ_ _ z=>z
 exact mono _ _ _ _ _ (λo s1 ⟨hz,H',I',q⟩=>⟨hz,.str o,H',I'.tok _,⟨_,rfl⟩,q⟩) key
theorem y4f(hc:X.calm=true):CallR X (.builtin "all") (λxs H Q=>∃p ys,xs=[.ref p]/\SqL X.K H p ys/\(∀y∈ys,∃b,y=.bl b)/\Q (.bl (ys.all λy=>decide (y=.bl true))) H):=by
 intro pins s σ H xs us Q I r h;obtain⟨p,ys,rfl,hq,hb,q⟩:=h;obtain⟨u,rfl,rx⟩:=vals1 r;cases rx;obtain⟨its,r',pl,hz⟩:=I.list hq;have hl:=pl.isList;have hlt:p<s.heap.objs.size:=by obtain⟨_,e,_⟩:=hl;exact Heap.lt_size e
 have hh:X.A.in1.handled=none:=I.ok.hd hc;refine call_all_walk (wpAny_pyIter_list hl ⟨s.heap.objs.size,[s.heap.objs.size,p],[s.heap.objs.size],_,_,_,λi=>decide (ys[i]?=some (.bl true)),rfl,Walks.list hh s.heap.objs.size p (w0t hlt) its.toArray,⟨⟨_,Heap.get?_push_size _ rfl,rfl,rfl⟩,hl.push _⟩,?_,λh' tk kp=>?_⟩)
 ·intro i v s1 Q1 E1 hv hQ;have hv':its[i]?=some v:=by simpa using hv
  have hi:i<ys.length:=by grind [Vals.length]
  obtain⟨u,hu,ru⟩:=r'.get (w0b hi);rw[hv']at hu;cases hu;obtain⟨b,eb⟩:=hb ys[i] (w1s hi);rw[eb]at ru;cases ru;refine wpAny_truthy_bool ?_
  simp_all
 ·have e:(List.range its.toArray.size).all (λi=>decide (ys[i]?=some (V.bl true)))=ys.all λy=>decide (y=.bl true):=by
   rw[w2o,w0y,w0y];constructor
   ·intro hA y hy;obtain⟨i,hi,rfl⟩:=w3u hy;have z:=hA i (by grind [Vals.length])
    grind
   grind [Vals.length,List.getElem_mem]
  refine⟨.bl _,H,I.kept (t':=tk) λb o hbo=>kp b o (λz=>?_) (Heap.get?_push_of_some _ hbo),rfl,e ▸ q⟩
  rw[w1k]at z;exact absurd (Heap.lt_size hbo) (by grind)
namespace RevT
open AutoSeq1 (wpAny_loadPart')
end RevT
open PySem PySem.Spec PyProof.Rows
variable{X:Cx}{e:Expr}{EE:L2.St->XK}{es:List Expr}{K:PySem.W.Frag}{t:TA}
structure ExcCls(K:PySem.W.Frag)(D:Addr):Prop where
 ga:findIn K (.ref D) "__getattribute__"=some (some (.builtin "BaseException.__getattribute__"))
 gt:findIn K (.ref D) "__getattr__"=some none
 cl:findIn K (.ref D) "__class__"=some (some (.builtin "object.__class__"))
 gs:specialIn K (.builtin "object.__class__") "__get__"=some (some (.builtin "getset_descriptor.__get__"))
 tk:takesIn K (.builtin "object.__class__")=some true
 mo:PySem.W.mroIn K D (.type "object")=some true
 mb:PySem.W.mroIn K D (.type "BaseException")=some true
 cd:(PySem.W.clsIn K D).isSome=true
noncomputable def excClsIn(K:PySem.W.Frag)(D:Addr):Bool:=
 findIn K (.ref D) "__getattribute__"==some (some (.builtin "BaseException.__getattribute__"))&&findIn K (.ref D) "__getattr__"==some none &&
 findIn K (.ref D) "__class__"==some (some (.builtin "object.__class__"))&&specialIn K (.builtin "object.__class__") "__get__"==some (some (.builtin "getset_descriptor.__get__")) &&
 takesIn K (.builtin "object.__class__")==some true&&PySem.W.mroIn K D (.type "object")==some true&&PySem.W.mroIn K D (.type "BaseException")==some true&&(PySem.W.clsIn K D).isSome
theorem ExcCls.of(h:excClsIn K D=true):ExcCls K D:=by
 unfold excClsIn at h;simp only[w0l,beq_iff_eq]at h;obtain⟨⟨⟨⟨⟨⟨⟨h1,h2⟩,h3⟩,h4⟩,h5⟩,h6⟩,h7⟩,h8⟩:=h;exact⟨h1,h2,h3,h4,h5,h6,h7,h8⟩
noncomputable def ExcAt(e D:Addr)(h:Heap):Prop:=∃o vs,h.get? e=some o/\o.cls=.ref D/\o.data=.fields vs
section
variable{A:Around}{s:Shared}{e:Addr}
open PySem.W Builtin Builtin.ObjectAttr Builtin.Getset_descriptor
theorem x10(p:ExcAt e D h):Looks M h (typeOf (.ref e)) (.ref D):=by
 obtain⟨o,vs,h1,h2,h3⟩:=p;exact h2 ▸ (Looks.ld h1).andThen .now
theorem y4g(X:K.In h)(C:ExcCls K D):Looks M h (find (.ref e) (.ref D) "__class__") (.bind (.builtin "getset_descriptor.__get__") (.builtin "object.__class__")):=by
 have L1:=looks_findIn (M:=M) X C.cl;have L2:Looks M h (getOf (some (.builtin "object.__class__"))) (some (.builtin "getset_descriptor.__get__")):=looks_specialIn X C.gs;have L3:=looks_takesIn (M:=M) X C.tk;refine L1.andThen (L2.andThen ?_);exact(show Looks M h (dataDescriptor? (some (.builtin "object.__class__")) (some (.builtin "getset_descriptor.__get__"))) (some (.builtin "getset_descriptor.__get__", .builtin "object.__class__"))from L3.andThen .now).andThen (Looks.tag .now)
theorem y8a(X:K.In s.heap)(p:ExcAt e D s.heap)(hm:mroIn K D (.type "object")=some true)
  (h:R (.ok (.ret (.ref D))) s):codeAny (model prog w) A (.call (.builtin "getset_descriptor.__get__") ⟨[.builtin "object.__class__", .ref e,tp],[]⟩) R s:=by
 obtain⟨hh,g,dr,t,os⟩:=s;have L0:=x10 (M:=model prog w) p;have L1:=looks_mroIn (M:=model prog w) X hm;refine codeAny_call_builtin KF.slot_gs.plain KF.entry_gs (KF.slot_gs.check _ _ _ _ _ _ _ _ KF.type_class (KF.args_gs _ _ _) ?_);unfold Builtin.«getset_descriptor.__get__» descrGet;rw[dga_obj];refine wpAny_bind (wpAny_pure ?_);unfold descrGetter descrCheckInstance descrNameAndClass isInstance;simp only[KF.owner_class]
 repeat lk
 refine⟨Code.quiet_builtin _ (by decide +kernel),codeAny_builtin KF.entry_class ?_⟩;unfold Builtin.«object.__class__» shownTypeOf
 repeat lk
 exact h
theorem y03{t:Nat}{os:OsState}(X:K.In h)(p:ExcAt e D h)(hm:mroIn K D (.type "BaseException")=some true)(hq:Q () ⟨h,g,d,t,os⟩):
  wpAny M A (checkBuiltinCall "BaseException.__getattribute__" ⟨[.ref e,nameV],[]⟩) Q E ⟨h,g,d,t,os⟩:=by
 have hk:builtinKind "BaseException.__getattribute__"=some .slot:=by decide +kernel
 have hsplit:splitId "BaseException.__getattribute__"=some ("BaseException", "__getattribute__"):=by decide +kernel
 have L0:=x10 (M:=M) p;have L1:=looks_mroIn (M:=M) X hm;have LI:Looks M h (isInstance (.ref e) (.type "BaseException")) true:=L0.andThen L1;have ha:=PySem.F.args_bexc_ga (.ref e) nameV;simp only[checkBuiltinCall,hk,hsplit];refine wpAny_bind (LI.at ?_);rw[if_neg (by decide)];unfold argsOk at ha
 grind [wpAny_pure]
theorem y04(X:K.In s.heap)(p:ExcAt e D s.heap)(C:ExcCls K D)(h:Q (some (.ref D)) {s with toks:=s.toks+1}):wpAny (model prog w) A (getAttr? (.ref e) "__class__") Q E s:=by
 obtain⟨hh,g,d,t,os⟩:=s;have L0:=x10 (M:=model prog w) p;have L1:=looks_findIn (M:=model prog w) X C.ga;have L2:=looks_findIn (M:=model prog w) X C.gt;have L3:=y4g (M:=model prog w) (e:=e) X C;unfold getAttr? getAttrBy? getAttrBy;refine wpAny_bind (wpAny_mkText (wpAny_bind (wpAny_attempt (wpAny_holding (wpAny_bind (L0.at (wpAny_bind (L1.at ?_))))))));have hx2:(Value.builtin "BaseException.__getattribute__"==Value.builtin "object.__getattribute__")=false:=by decide +kernel
 have hx1:(onTheHeap (Value.ref D)&&Value.builtin "BaseException.__getattribute__"==Value.builtin "object.__getattribute__")=false:=by rw[hx2];rfl
 dsimp only;rw[if_neg (by rw[hx1];decide)];unfold getAttrByItsOwn hookBefore;rw[if_pos (by rfl)];refine wpAny_bind (L2.at ?_);refine wpAny_bind (wpAny_attempt (wpAny_holding ?_));unfold callGetattribute;rw[if_neg (by decide)];unfold boundAndCalled;have f3:=PySem.F.excAttr_ValueError.ga.bind (.ref e);refine wpAny_bind (wpAny_of_eq f3 ?_);refine wpAny_call (codeAny_call_builtin PySem.F.excAttr_ValueError.ga.plain F.entry_bexc_ga (y03 (K:=K) (D:=D) X p C.mb ?_));unfold Builtin.«object.__getattribute__»;refine wpAny_bind (wpAny_of_eq (a:=(Value.ref e,[Value.str (Str.ofString "__class__") t])) (by rfl) ?_);dsimp only;refine wpAny_bind (wpAny_of_eq (a:=Str.ofString "__class__") (by rfl) ?_);refine wpAny_bind (L0.at (wpAny_bind (L3.at ?_)));dsimp only;unfold bindTo;refine wpAny_bind (wpAny_holding (wpAny_call (y8a (K:=K) (D:=D) X p C.mo ?_)));dsimp only;refine wpAny_pure ?_;dsimp only;refine wpAny_of_eq (a:=Value.ref D) (by rfl) ?_;exact wpAny_pure h
theorem y4h(C:ExcCls K D):KitX K (.ref e) (.ref D) (ExcAt e D) where
 ty:=λ_ _ _ p=>x10 p
 it:=λM h X p=>by
  have hcD:=C.cd;unfold clsIn at hcD;split at hcD
  ·rename_i c' d' cd' sl' ho;intro A' Q' E' s' k q;unfold isType loadHead;exact wpAny_bind (wpAny_loadPart (k _ _ (X _ _ ho)) (wpAny_pure q))
  ·cases hcD
 ne:=λh tp dd its n sl X htp=>by
  refine w3g.mpr λq=>?_
  have e1:D=tp:=Value.ref.inj (beq_iff_eq.mp q);subst e1;have hcD:=C.cd;unfold clsIn at hcD;split at hcD
  ·rename_i c' d' cd' sl' ho;have z:=(X _ _ ho).symm.trans htp;cases z
  ·cases hcD
 ca:=λX p k=>y04 X p C k
end
noncomputable def ClsV:V->Value->Prop
 |.ty n,c=>c=.type n
 |.ref a,c=>c=.ref a
 |_,_=>False
structure Cal(P:Program)(w:World)(K:PySem.W.Frag)(mg:Str->Option Value)(base:Heap)(k:Nat)(x:Str)(ps:List Str)(sp:Sp):Prop where
 ex:∃f fd,FnOk P w K mg base (CX1 P w) k f fd ps sp/\mg x=some (.ref f)/\keepIn K (.ref f)=true/\Binds K fd ps []
structure CalH(P:Program)(w:World)(K:PySem.W.Frag)(mg:Str->Option Value)(base:Heap)(k:Nat)(x:Str)(ps:List Str)(sp:Sp):Prop where
 ex:∃f fd,FnOkH P w K mg base k f fd ps sp/\mg x=some (.ref f)/\keepIn K (.ref f)=true/\Binds K fd ps []
structure At(K:PySem.W.Frag)(mg:Str->Option Value)(x:Str)(st:Stmt)(ps:List Str):Prop where
 ex:∃f fd,Fun K x x st f fd/\mg x=some (.ref f)/\Binds K fd ps []
theorem At.cal{st:Stmt}(F:At K mg x st ps)(S:FnScope N ps (defScope st))(len:∀vs H Q E,sp vs H Q E->vs.length=ps.length)
  (hbody:∀(f:Addr)(cdv:Value)(A:Around)(outer:List Env)(s:Shared)(H:Hp)(vs:List V)(Q:VK)(E:XK),Room k (A.deeper (envOfC x (defScope st) s.heap.objs.size f cdv))->sp vs H Q E ->
   ∃t,PSs (cxOf (CX1 P w) P w K mg base N x (defScope st) f cdv A outer s H E) (defBody st) t/\t {nx:=λ_ H'=>Q .non H',rt:=Q} (start N vs) H):Cal P w K mg base (k+1) x ps sp:=by
 obtain⟨f,fd,F,m,b⟩:=F.ex;exact⟨f,fd,F.okX S len (hbody f),m,F.kp,b⟩
section
variable{k:Nat}{ps:List Str}{sp:Sp}{x:Str}{p pos:Pos}
theorem x5u(C:Cal X.prog X.w X.K X.mg X.base k x ps sp)(hr:Room k X.A)(hx:PassX (CX1 X.prog X.w) X EE)(ha:PA X (e::es) t)(hg:Gl X x:=by rfl)
  (hdb:(x==("__debug__":Str))=false:=by decide)(he:starEach (e::es) X.env=(false,eval e X.env)::starEach es X.env:=by rfl)(hpl:(backTo pos (starEach es X.env)).any (·.1)=false:=by rfl):
  PE X (.Call (.Name x p) (e::es) [] pos) (tCallX sp [] EE t):=by
 obtain⟨f,fd,F,m,kp,b⟩:=C.ex;exact y4d F hr hg m kp b .nil hx ha hdb he hpl
end
section
variable{te:TE}{pos pos' p:Pos}{x:Str}
theorem x11(i:Nat)(hN:X.N.Nodup)(he:PE X e te)(hi:X.N[i]?=some x:=by rfl)(hx:Loc X.env.scope x:=by walk_at "3")(hs:swapsWith e (some (.Name x pos')) pos.line X.env=pure false:=by rfl)(hf:X.fn x=true\/X.env.scope.names.lookup x=some .local:=by walk_at "2"):
  PS X (.Assign [.Name x pos'] e pos) (tAsg te (gName i)):=z2y hN hi hx he hs hf
theorem q15(i:Nat)(hN:X.N.Nodup)(hi:X.N[i]?=some x:=by rfl)(hx:Loc X.env.scope x:=by walk_at "3")(hf:X.fn x=true\/X.env.scope.names.lookup x=some .local:=by walk_at "2"):PG X (.Name x pos) (gName i):=y7v hN hi hx hf
theorem z3h{o:Expr}{to:TE}{apos:Pos}(ho:PE X o to)(ha:PA X (e::es) t)(hbase:attributeBase o "append" X.env (eval o X.env)=eval o X.env:=by rfl)
  (hfew:((backTo pos (starEach (e::es) X.env)).all (λx=>!x.1)&&(backToKw pos (keywordEach [] X.env)).all (λx=>x.1.isSome)&&decide ((e::es).length+([]:List Keyword).length+(if([]:List Keyword).isEmpty then 0 else 1)<30))=true:=by rfl)
  (hline:(apos.endLine==pos.line)=true:=by rfl)(hs:starEach (e::es) X.env=(false,eval e X.env)::starEach es X.env:=by rfl)(hplain:(backTo pos (starEach es X.env)).any (·.1)=false:=by rfl):
  PE X (.Call (.Attribute o "append" apos) (e::es) [] pos) (tBM X.K "list" rAppend to t):=x47 PySem.F.plainAttrs_list PySem.F.slot_list_append PySem.F.type_list_append q8y ho ha hbase hfew hline hs hplain
end
theorem q28(h:H p=none)(o):Same H (upd H p o):=λb u q=>by rw[q0g (q0p q h)];exact q
theorem Same.tup(e:Same H H')(h:SqT K H a xs):SqT K H' a xs:=by
 rcases h with(h|⟨o,h⟩)|h
 ·exact .inl (.inl (e _ _ h))
 ·exact .inl (.inr ⟨o,e _ _ h⟩)
 ·exact .inr h
noncomputable abbrev Cs:=List (Addr×Obj)
structure LamScope(ps Nf:List Str)(sc:Scope):Prop where
 kind:sc.kind=.function
 co:sc.isCoroutine=false
 gen:sc.isGenerator=false
 nd:ps.Nodup
 nocell:∀y∈sc.names,y.2≠.cell
 par:∀x∈ps,sc.names.lookup x=some .local
 fr:∀y∈Nf,sc.names.lookup y=some .free
structure LamCells(cl:List (Str×Addr))(Nf:List Str)(sc:Scope)(zs:List V)(h:Heap)(cs:Cs):Prop where
 inj:∀x y c,cl.lookup x=some c->cl.lookup y=some c->x=y
 has:∀x,(x,NameKind.free)∈sc.names->∃c,cl.lookup x=some c
 all:∀x c,cl.lookup x=some c->∃o,cs.lookup c=some o
 cel:∀c o,cs.lookup c=some o->h.get? c=some o/\∃v,o.data=.cell v
 val:∀(i:Nat) y z,Nf[i]?=some y->zs[i]?=some z->∃c o u,cl.lookup y=some c/\cs.lookup c=some o/\o.data=.cell (some u)/\RelV z u
noncomputable def BMain(h:Heap)(mg:Str->Option Value):Prop:=∃bm ob,mg "__builtins__"=some (.ref bm)/\bm≠builtinsNs/\h.get? bm=some ob/\ob.cls=.type "module" /\ ob.dict=some builtinsNs/\ob.data=.plain
structure Maker(X:Cx):Prop where
 ex:∃c P a,X.env.code=.ref c/\PySem.W.codeHdIn X.K c P=true/\(a,markO P (X.env.qual++"<lambda>"))∈X.K
 bm:BMain X.base X.mg
structure CellsOf(clos:List (Str×Addr))(Nf:List Str)(scope:Scope)(js:List Nat)(σ:St)(H:Hp)(cs:Cs):Prop where
 inj:∀x y c,clos.lookup x=some c->clos.lookup y=some c->x=y
 has:∀x,(x,NameKind.free)∈scope.names->∃c,clos.lookup x=some c
 all:∀x c,clos.lookup x=some c->∃o,cs.lookup c=some o
 cel:∀c o,cs.lookup c=some o->H c=none/\∃v,o.data=.cell v
 val:∀(i:Nat) y j z,Nf[i]?=some y->js[i]?=some j->σ[j]?=some (some z)->∃c o u,clos.lookup y=some c/\cs.lookup c=some o/\o.data=.cell (some u)/\RelV z u
set_option maxHeartbeats 1000000
noncomputable def Sh.isN:Sh->Bool
 |.many .int=>true
 |_=>false
noncomputable def Sh.isI:Sh->Bool
 |.int=>true
 |.str=>true
 |_=>false
end L2
namespace D
open PySem L2
variable{G H:Hp}{EE:L2.St->XK}{es:List Expr}{pos pos':Pos}{K:PySem.W.Frag}{σ:St}{x:Str}
noncomputable abbrev Sv:=Int ⊕ Bool
inductive Dd where
 |k (kvs:List (Key×Sv))
set_option genInjectivity true in
inductive W where
 |non|bl (b:Bool)|int (i:Int)|str (x:Str)|tup (xs:List W)|lst (xs:List W)|exc (c:Value)|dic (kvs:Dd)|dw (fz:Bool) (sh:Sh) (ks:List Kx) (ws:List W)
inductive S where
 |no|fr (w:W)|own (io:Option Nat) (ws:List W)|dic (kvs:Dd)|dw (sh:Sh) (ks:List Kx) (ws:List W)
noncomputable def sV:Sv->V
 |.inl i=>.int i
 |.inr b=>.bl b
noncomputable def kvV{κ:Type}(kvs:List (κ×Sv)):List (κ×V):=kvs.map λp=>(p.1,sV p.2)
noncomputable def dO:Dd->HO
 |.k kvs=>.dK (kvV kvs)
noncomputable def isDic:HO->Bool
 |.dK _=>true
 |_=>false
theorem q78(h:isDic u=false):dO d≠u:=λz=>by
 subst z;cases d<;>cases h
noncomputable def KeysG(G:Hp):List Kx->List Addr->Prop
 |[],[]=>True
 |k::ks,b::bs=>KRep G k (.ref b)/\KeysG G ks bs
 |[],_::_=>False
 |_::_,[]=>False
theorem KeysG.mono(e:Same G G'):∀{ks:List Kx}{bs:List Addr},KeysG G ks bs->KeysG G' ks bs
 |[],[],_=>trivial
 |k::ks,b::bs,h=>⟨KRep.keeps (λ_ _ _ z=>e _ _ z) k h.1,KeysG.mono e h.2⟩
 |[],_::_,h=>h.elim
 |_::_,[],h=>h.elim
noncomputable def kxK:Kx->Key
 |.int i=>.inl i
 |.str x=>.inr x
 |_=>.inl 0
noncomputable def keyI:Sh->Kx->Prop
 |.int,k=>∃i,k=.int i
 |.str,k=>∃x,k=.str x
 |_,_=>False
noncomputable def dwO(sh:Sh)(kvs:List (Kx×V))(kas:List Addr):HO:=if sh.isI=true then .dK (kvs.map λp=>(kxK p.1,p.2))else .dT sh kvs kas
noncomputable def isDT:HO->Bool
 |.dK _=>true
 |.dT _ _ _=>true
 |_=>false
theorem q81(h:isDT u=false):dwO sh kvs kas≠u:=λz=>by
 subst z;unfold dwO at h;split at h<;>cases h
theorem z7c(h:sh.isI=false):dwO sh kvs kas=.dT sh kvs kas:=if_neg (by grind)
noncomputable def KeysS(sh:Sh)(G:Hp)(ks:List Kx)(kas:List Addr):Prop:=if sh.isI=true then ∀k∈ks,keyI sh k else KeysG G ks kas
theorem KeysS.mono(e:Same G G')(h:KeysS sh G ks bs):KeysS sh G' ks bs:=by
 unfold KeysS at h |-
 split at h
 ·grind
 ·rename_i hi;rw[if_neg hi];exact h.mono e
noncomputable def DAt(fz:Bool)(G:Hp)(a:Addr)(sh:Sh)(kvs:List (Kx×V))(kas:List Addr):Prop:=if fz=true then ∃o,G a=some (.frz o (dwO sh kvs kas))else G a=some (dwO sh kvs kas)
theorem DAt.ex(h:DAt fz G a sh kvs kas):∃o,G a=some o:=by
 grind [DAt]
theorem DAt.mono(e:Same G G')(h:DAt fz G a sh kvs kas):DAt fz G' a sh kvs kas:=by
 cases fz with
 |true=>obtain⟨o,h⟩:=h;exact⟨o,e _ _ h⟩
 |false=>exact e _ _ h
inductive RefTo(v:V)(P Q:Addr->List V->Prop):Prop where
 |mk (a:Addr) (xs:List V) (h:v=.ref a) (p:P a xs) (q:Q a xs):RefTo v P Q
inductive ConsOf(xs:List V)(P:V->Prop)(Q:List V->Prop):Prop where
 |mk (x:V) (r:List V) (h:xs=x::r) (p:P x) (q:Q r):ConsOf xs P Q
mutual
noncomputable def Rep(K:PySem.W.Frag)(G:Hp):W->V->Prop
 |.non,v=>v=.non
 |.bl b,v=>v=.bl b
 |.int i,v=>v=.int i
 |.str x,v=>v=.str x
 |.tup ws,v=>RefTo v (SqT K G) λ_ xs=>Reps K G ws xs
 |.lst ws,v=>RefTo v (SqL K G) λ_ xs=>Reps K G ws xs
 |.exc c,v=>∃e,v=.ref e/\G e=some (excO e c)
 |.dic kvs,v=>∃e,v=.ref e/\G e=some (dO kvs)
 |.dw fz sh ks ws,v=>∃a kvs kas,v=.ref a/\DAt fz G a sh kvs kas/\kvs.map (·.1)=ks/\KeysS sh G ks kas/\Reps K G ws (kvs.map (·.2))
noncomputable def Reps(K:PySem.W.Frag)(G:Hp):List W->List V->Prop
 |[],xs=>xs=[]
 |w::ws,xs=>ConsOf xs (Rep K G w) (Reps K G ws)
end
mutual
theorem Rep.mono{K:PySem.W.Frag}{G G':Hp}(e:Same G G'):∀(w:W){v:V},Rep K G w v->Rep K G' w v
 |.non,v,h=>h
 |.bl b,v,h=>h
 |.int i,v,h=>h
 |.str x,v,h=>h
 |.tup ws,v,h=>by
  obtain⟨a,xs,rfl,q,r⟩:=h;exact⟨a,xs,rfl,e.tup q,Reps.mono e ws r⟩
 |.lst ws,v,h=>by
  obtain⟨a,xs,rfl,q,r⟩:=h;exact⟨a,xs,rfl,e.seq q,Reps.mono e ws r⟩
 |.exc c,v,h=>by
  obtain⟨a,rfl,q⟩:=h;exact⟨a,rfl,e _ _ q⟩
 |.dic kvs,v,h=>by
  obtain⟨a,rfl,q⟩:=h;exact⟨a,rfl,e _ _ q⟩
 |.dw fz sh ks ws,v,h=>by
  obtain⟨a,kvs,kas,rfl,h1,h2,h3,h4⟩:=h;exact⟨a,kvs,kas,rfl,h1.mono e,h2,h3.mono e,Reps.mono e ws h4⟩
theorem Reps.mono{K:PySem.W.Frag}{G G':Hp}(e:Same G G'):∀(ws:List W){xs:List V},Reps K G ws xs->Reps K G' ws xs
 |[],xs,h=>h
 |w::ws,xs,h=>by
  obtain⟨x,r,rfl,h1,h2⟩:=h;exact⟨x,r,rfl,Rep.mono e w h1,Reps.mono e ws h2⟩
end
theorem Reps.length:∀{ws:List W}{xs:List V},Reps K G ws xs->xs.length=ws.length
 |[],xs,h=>by cases h;rfl
 |w::ws,xs,h=>by
  obtain⟨x,r,rfl,_,h2⟩:=h;simp[Reps.length h2]
theorem Reps.get:∀{ws:List W}{xs:List V}{i:Nat}{w:W},Reps K G ws xs->ws[i]?=some w->∃x,xs[i]?=some x/\Rep K G w x
 |[],xs,i,w,h,e=>by simp at e
 |w'::ws,xs,0,w,h,e=>by
  obtain⟨x,r,rfl,h1,h2⟩:=h
  grind
 |w'::ws,xs,i+1,w,h,e=>by
  obtain⟨x,r,rfl,h1,h2⟩:=h;obtain⟨y,e1,e2⟩:=Reps.get (i:=i) h2 (by simpa using e)
  grind
theorem Reps.getV:∀{ws:List W}{xs:List V}{i:Nat}{x:V},Reps K G ws xs->xs[i]?=some x->∃w,ws[i]?=some w/\Rep K G w x:=λ{ws xs i x} h e=>by
 have hl:=h.length;have hi:i<xs.length:=(w0m.mp e).1;have e2:ws[i]?=some ws[i]:=w0b (by omega);obtain⟨y,e3,r⟩:=h.get e2
 grind
theorem Reps.append:∀{ws ws':List W}{xs xs':List V},Reps K G ws xs->Reps K G ws' xs'->Reps K G (ws++ws') (xs++xs')
 |[],ws',xs,xs',h,h'=>by cases h;exact h'
 |w::ws,ws',xs,xs',h,h'=>by
  obtain⟨x,r,rfl,h1,h2⟩:=h;exact⟨x,r++xs',rfl,h1,Reps.append h2 h'⟩
theorem Reps.one{x:L2.V}(h:Rep K G w x):Reps K G [w] [x]:=⟨x,[],rfl,h,rfl⟩
theorem Reps.take:∀(n:Nat){ws:List W}{xs:List V},Reps K G ws xs->Reps K G (ws.take n) (xs.take n)
 |0,_,_,_=>rfl
 |n+1,[],_,h=>by cases h;rfl
 |n+1,w::ws,_,h=>by
  obtain⟨x,r,rfl,h1,h2⟩:=h;exact⟨x,r.take n,rfl,h1,Reps.take n h2⟩
theorem Reps.drop:∀(n:Nat){ws:List W}{xs:List V},Reps K G ws xs->Reps K G (ws.drop n) (xs.drop n)
 |0,_,_,h=>h
 |n+1,[],_,h=>by cases h;rfl
 |n+1,w::ws,_,h=>by
  obtain⟨x,r,rfl,h1,h2⟩:=h;exact Reps.drop n h2
theorem Reps.dropLast(h:Reps K G ws xs):Reps K G ws.dropLast xs.dropLast:=by
 rw[w4o,w4o,h.length];exact h.take _
theorem Reps.set:∀(i:Nat){ws:List W}{xs:List V}{w:W}{x:V},Reps K G ws xs->Rep K G w x->Reps K G (ws.set i w) (xs.set i x)
 |_,[],_,_,_,h,_=>by cases h;rfl
 |0,w'::ws,_,w,x,h,q=>by
  obtain⟨y,r,rfl,h1,h2⟩:=h;exact⟨x,r,rfl,q,h2⟩
 |i+1,w'::ws,_,w,x,h,q=>by
  obtain⟨y,r,rfl,h1,h2⟩:=h;exact⟨y,r.set i x,rfl,h1,Reps.set i h2 q⟩
structure Zt where
 H:Hp
 G:Hp
 io:List Addr
variable{Z:Zt}
noncomputable def RepsX(K:PySem.W.Frag)(Z:Zt)(G:Hp)(sh:Sh)(ws:List W)(vs:List V):Prop:=Reps K G ws vs
theorem RepsX.reps(h:RepsX K Z G sh ws vs):Reps K G ws vs:=h
theorem RepsX.of(hs:sh.isN=false)(h:Reps K G ws vs):RepsX K Z G sh ws vs:=h
theorem RepsX.move(h:RepsX K Z G sh ws vs)(sg:Same G G')(hz:∀a o,G a=some o->Z.H a=none->Z'.H a=none):RepsX K Z' G' sh ws vs:=Reps.mono sg ws h
inductive DwOk(K:PySem.W.Frag)(Z:Zt)(G H:Hp)(sh:Sh)(ks:List Kx)(ws:List W)(v:Option V):Prop where
 |mk (a:Addr) (kvs:List (Kx×V)) (kas:List Addr) (h1:v=some (.ref a)) (h2:H a=some (dwO sh kvs kas)) (h3:G a=none) (h4:Z.H a=none) (h5:kvs.map (·.1)=ks) (h6:KeysS sh G ks kas) (h7:RepsX K Z G sh ws (kvs.map (·.2))):DwOk K Z G H sh ks ws v
theorem DwOk.move{Z':Zt}{G' H':Hp}{sh:Sh}{ks:List Kx}{ws:List W}{v:Option V}(q:DwOk K Z G H sh ks ws v)(sg:Same G G')(hf:∀a kvs kas,H a=some (dwO sh kvs kas)->G a=none->Z.H a=none->H' a=some (dwO sh kvs kas)/\G' a=none/\Z'.H a=none)(hz:∀a o,G a=some o->Z.H a=none->Z'.H a=none:=by intro _ _ _ z;exact z):DwOk K Z' G' H' sh ks ws v:=by
 obtain⟨a,kvs,kas,h1,h2,h3,h4,h5,h6,h7⟩:=q;obtain⟨k1,k2,k3⟩:=hf a kvs kas h2 h3 h4;exact⟨a,kvs,kas,h1,k1,k2,k3,h5,h6.mono sg,h7.move sg hz⟩
noncomputable def IoOk(Z:Zt):Option Nat->Addr->Prop
 |none,a=>Z.H a=none
 |some j,a=>Z.io[j]?=some a
theorem IoOk.io(h:IoOk Z b a):a∈Z.io\/Z.H a=none:=by
 cases b with
 |none=>exact .inr h
 |some j=>exact .inl (w1o h)
inductive OwnOk(K:PySem.W.Frag)(Z:Zt)(G H:Hp)(b:Option Nat)(ws:List W)(v:Option V):Prop where
 |mk (a:Addr) (xs:List V) (h1:v=some (.ref a)) (h2:H a=some (.lst xs)) (h3:G a=none) (h4:IoOk Z b a) (h5:Reps K G ws xs):OwnOk K Z G H b ws v
inductive DicOk(Z:Zt)(G H:Hp)(kvs:Dd)(v:Option V):Prop where
 |mk (a:Addr) (h1:v=some (.ref a)) (h2:H a=some (dO kvs)) (h3:G a=none) (h4:Z.H a=none):DicOk Z G H kvs v
noncomputable def SlotOk(K:PySem.W.Frag)(Z:Zt)(G H:Hp):S->Option V->Prop
 |.no,_=>True
 |.fr w,v=>∃u,v=some u/\Rep K G w u
 |.own b ws,v=>OwnOk K Z G H b ws v
 |.dic kvs,v=>DicOk Z G H kvs v
 |.dw sh ks ws,v=>DwOk K Z G H sh ks ws v
structure Rel(K:PySem.W.Frag)(Z:Zt)(G:Hp)(σ:St)(H:Hp)(e:List S):Prop where
 sub:Same G H
 slot:∀(i:Nat)(s:S),e[i]?=some s->SlotOk K Z G H s (σ[i]?.getD none)
 len:e.length=σ.length
 dis:∀(i j:Nat)(b b':Option Nat)(ws ws':List W)(a:Addr),e[i]?=some (.own b ws)->e[j]?=some (.own b' ws')->σ[i]?=some (some (.ref a))->σ[j]?=some (some (.ref a))->i=j
 ent:∀a o,Z.H a=some o->a∉Z.io->H a=some o
 ion:∀a∈Z.io,H a≠none
 gen:∀a,Z.H a≠none->G a=Z.G a
inductive AtG(K:PySem.W.Frag)(Z:Zt)(σ:St)(H:Hp)(P:Hp->List S->Prop):Prop where
 |mk (G:Hp) (e:List S) (r:Rel K Z G σ H e) (h:P G e):AtG K Z σ H P
structure Grow(G H G' H':Hp):Prop where
 hh:Same H H'
 gg:Same G G'
 sub:Same G' H'
 new:∀a,H a≠none->G' a=G a
theorem Grow.refl(s:Same G H):Grow G H G H:=⟨.refl _,.refl _,s,λ_ _=>rfl⟩
theorem Grow.trans(x:Grow G H G1 H1)(y:Grow G1 H1 G2 H2):Grow G H G2 H2:=
 ⟨x.hh.trans y.hh,x.gg.trans y.gg,y.sub,λa h=>by
  rw[y.new a,x.new a h];cases q:H a with
  |none=>exact absurd q h
  |some o=>rw[x.hh a o q];simp⟩
theorem y05(e:Same H H')(h:H a≠none):H' a≠none:=by
 cases q:H a with
 |none=>exact absurd q h
 |some o=>rw[e a o q];simp
theorem Grow.laid(s:Same G H)(h:H D=none)(o):Grow G H (upd G D o) (upd H D o) where
 hh:=q28 h o
 gg:=q28 (s.free h) o
 sub:=λb u e=>by
  by_cases hb:b=D
  ·grind [q0k]
  ·rw[q0g hb]at e |-;exact s b u e
 new:=λa ha=>by grind [q0g]
theorem Grow.hid(s:Same G H)(h:H D=none)(o):Grow G H G (upd H D o) where
 hh:=q28 h o
 gg:=.refl _
 sub:=λb u e=>by
  have:=s b u e;rw[q0g (q0p this h)];exact this
 new:=λa ha=>rfl
theorem Rel.grow(r:Rel K Z G σ H e)(g:Grow G H G' H'):Rel K Z G' σ H' e where
 sub:=g.sub
 slot:=λi s h=>by
  have q:=r.slot i s h;cases s with
  |no=>trivial
  |fr w=>
   obtain⟨u,h1,h2⟩:=q;exact⟨u,h1,Rep.mono g.gg w h2⟩
  |own b ws=>
   obtain⟨a,xs,h1,h2,h3,h4,h5⟩:=q;exact⟨a,xs,h1,g.hh _ _ h2,by rw[g.new a (by rw[h2];simp)];exact h3,h4,Reps.mono g.gg ws h5⟩
  |dic kvs=>
   obtain⟨a,h1,h2,h3,h4⟩:=q;exact⟨a,h1,g.hh _ _ h2,by rw[g.new a (by rw[h2];simp)];exact h3,h4⟩
  |dw sh ks ws=>exact DwOk.move q g.gg λl o ys h1 h2 h3=>⟨g.hh _ _ h1,by rw[g.new l (by rw[h1];simp)];exact h2,h3⟩
 len:=r.len
 dis:=r.dis
 ent:=λa o h n=>g.hh _ _ (r.ent a o h n)
 ion:=λa h=>y05 g.hh (r.ion a h)
 gen:=λa h=>by
  have:H a≠none:=by
   cases q:Z.H a with
   |none=>exact absurd q h
   |some o=>
    by_cases hi:a∈Z.io
    ·exact r.ion a hi
    ·rw[r.ent a o q hi];simp
  rw[g.new a this];exact r.gen a h
theorem Rel.own(r:Rel K Z G σ H e){i:Nat}(h:e[i]?=some (.own b ws)):∃a xs,σ[i]?=some (some (.ref a))/\H a=some (.lst xs)/\G a=none/\(IoOk Z b a)/\Reps K G ws xs:=by
 obtain⟨a,xs,h1,h2,h3,h4,h5⟩:=r.slot i _ h
 grind
theorem Rel.fr(r:Rel K Z G σ H e){i:Nat}(h:e[i]?=some (.fr w)):∃v,σ[i]?=some (some v)/\Rep K G w v:=by
 obtain⟨v,h1,h2⟩:=r.slot i _ h
 grind
theorem Rel.at(r:Rel K Z G σ H e){i:Nat}(h:e[i]?=some s)(hs:SlotOk K Z G H s (σ[i]?.getD none)->σ[i]?.getD none=some v):σ[i]?=some (some v):=by
 have h1:=hs (r.slot i _ h)
 grind
theorem Rel.mut(r:Rel K Z G σ H e)(h:e[i]?=some (.own b ws))(ha:σ[i]?=some (some (.ref a)))(q:Reps K G ws' xs'):Rel K Z G σ (upd H a (.lst xs')) (e.set i (.own b ws')):=by
 obtain⟨a',xs,h1,h2,h3,h4,h5⟩:=r.own h;rw[ha]at h1;cases h1;have hi:i<e.length:=(w0m.mp h).1;refine⟨λc o z=>?_,λj s z=>?_,by simpa using r.len,λj k b1 b2 w1 w2 c z1 z2 z3 z4=>?_,λc o z n=>?_,λc z=>?_,r.gen⟩
 ·rw[q0g (q0p z h3)];exact r.sub c o z
 ·by_cases hj:j=i
  ·subst hj;rw[w0n hi]at z;cases z;exact⟨a,xs',by rw[ha];rfl,q0k,h3,h4,q⟩
  ·rw[w0f (λz=>hj z.symm)]at z
   have y:=r.slot j s z;cases s with
   |no=>trivial
   |fr w=>exact y
   |own b2 w2=>
    obtain⟨c,ys,y1,y2,y3,y4,y5⟩:=y;refine⟨c,ys,y1,?_,y3,y4,y5⟩;rw[q0g];exact y2;rintro rfl;obtain⟨c',_,z1,_⟩:=r.own z;rw[z1]at y1;cases y1;exact hj (r.dis j i _ _ _ _ _ z h z1 ha)
   |dic kvs=>
    obtain⟨c,y1,y2,y3,y4⟩:=y;refine⟨c,y1,?_,y3,y4⟩;rw[q0g (q3o y2 h2 (q78 rfl))];exact y2
   |dw sh ks ws=>exact DwOk.move y (.refl _) λl o ys k1 k2 k3=>⟨by rw[q0g (q3o k1 h2 (q81 rfl))];exact k1,k2,k3⟩
 ·have old:∀(k:Nat)(bb:Option Nat)(ww:List W),(e.set i (S.own b ws'))[k]?=some (.own bb ww)->∃b' w',e[k]?=some (.own b' w'):=λk bb ww z=>by
   grind
  obtain⟨_,_,q1⟩:=old _ _ _ z1;obtain⟨_,_,q2⟩:=old _ _ _ z2;exact r.dis _ _ _ _ _ _ _ q1 q2 z3 z4
 ·by_cases hc:c=a
  ·grind [IoOk.io]
  ·rw[q0g hc];exact r.ent c o z n
 ·by_cases hc:c=a
  ·grind [q0k]
  ·rw[q0g hc];exact r.ion c z
theorem Rel.freeze(r:Rel K Z G σ H e)(h:e[i]?=some (.own none ws)):∃v G',σ[i]?=some (some v)/\Same G G'/\Rep K G' (.lst ws) v/\Rel K Z G' σ H (e.set i (.fr (.lst ws))):=by
 obtain⟨a,xs,h1,h2,h3,h4,h5⟩:=r.own h;have h4:Z.H a=none:=h4;have sg:Same G (upd G a (.lst xs)):=q28 h3 _;have hi:i<e.length:=(w0m.mp h).1;have rp:Rep K (upd G a (.lst xs)) (.lst ws) (.ref a):=⟨a,xs,rfl,SqL.of q0k,Reps.mono sg ws h5⟩;refine⟨.ref a,upd G a (.lst xs),h1,sg,rp,⟨λc o z=>?_,λj s z=>?_,by simpa using r.len,λj k b1 b2 w1 w2 c z1 z2 z3 z4=>?_,r.ent,r.ion,λc z=>?_⟩⟩
 ·by_cases hc:c=a
  ·grind [q0k]
  ·rw[q0g hc]at z;exact r.sub c o z
 ·by_cases hj:j=i
  ·subst hj;rw[w0n hi]at z;cases z;exact⟨.ref a,by rw[h1];rfl,rp⟩
  ·rw[w0f (λz=>hj z.symm)]at z
   have y:=r.slot j s z;cases s with
   |no=>trivial
   |fr w=>
    obtain⟨u,y1,y2⟩:=y;exact⟨u,y1,Rep.mono sg w y2⟩
   |own b2 w2=>
    obtain⟨c,ys,y1,y2,y3,y4,y5⟩:=y;refine⟨c,ys,y1,y2,?_,y4,Reps.mono sg w2 y5⟩;rw[q0g];exact y3;rintro rfl;obtain⟨c',_,z1,_⟩:=r.own z;rw[z1]at y1;cases y1;exact hj (r.dis j i _ _ _ _ _ z h z1 h1)
   |dic kvs=>
    obtain⟨c,y1,y2,y3,y4⟩:=y;refine⟨c,y1,y2,?_,y4⟩;rw[q0g (q3o y2 h2 (q78 rfl))];exact y3
   |dw sh ks ws=>exact DwOk.move y sg λl o ys k1 k2 k3=>⟨k1,by rw[q0g (q3o k1 h2 (q81 rfl))];exact k2,k3⟩
 ·have old:∀(k:Nat)(bb:Option Nat)(ww:List W),(e.set i (S.fr (W.lst ws)))[k]?=some (.own bb ww)->e[k]?=some (.own bb ww):=λk bb ww z=>by
   grind
  exact r.dis _ _ _ _ _ _ _ (old _ _ _ z1) (old _ _ _ z2) z3 z4
 ·by_cases hc:c=a
  ·grind
  ·rw[q0g hc];exact r.gen c z
noncomputable def Free(σ:St)(e:List S)(a:Addr):Prop:=∀(j:Nat)(b:Option Nat)(ws:List W),e[j]?=some (.own b ws)->σ[j]?≠some (some (.ref a))
theorem Rel.set(r:Rel K Z G σ H e)(q:Rep K G w v):Rel K Z G (σ.set i (some v)) H (e.set i (.fr w)):=by
 refine⟨r.sub,λj s z=>?_,by simpa using r.len,λj k b1 b2 w1 w2 c z1 z2 z3 z4=>?_,r.ent,r.ion,r.gen⟩
 ·by_cases hj:j=i
  ·subst hj
   have hi:j<e.length:=by
    grind
   rw[w0n hi]at z;cases z;rw[w0n (by rw[<- r.len];exact hi)];exact⟨v,rfl,q⟩
  ·rw[w0f (λz=>hj z.symm)]at z |-
   exact r.slot j s z
 ·have old:∀(k:Nat)(bb:Option Nat)(ww:List W),(e.set i (S.fr w))[k]?=some (.own bb ww)->k≠i/\e[k]?=some (.own bb ww):=λk bb ww z=>by
   grind
  obtain⟨n1,q1⟩:=old _ _ _ z1;obtain⟨n2,q2⟩:=old _ _ _ z2;rw[w0f (λz=>n1 z.symm)]at z3
  rw[w0f (λz=>n2 z.symm)]at z4
  exact r.dis _ _ _ _ _ _ _ q1 q2 z3 z4
theorem Rel.setOwn(r:Rel K Z G σ H e)(h2:H a=some (.lst xs))(h3:G a=none)(h4:Z.H a=none)(hf:Free σ e a)(q:Reps K G ws xs):Rel K Z G (σ.set i (some (.ref a))) H (e.set i (.own none ws)):=by
 refine⟨r.sub,λj s z=>?_,by simpa using r.len,λj k b1 b2 w1 w2 c z1 z2 z3 z4=>?_,r.ent,r.ion,r.gen⟩
 ·by_cases hj:j=i
  ·subst hj
   have hi:j<e.length:=by
    grind
   rw[w0n hi]at z;cases z;rw[w0n (by rw[<- r.len];exact hi)];exact⟨a,xs,rfl,h2,h3,h4,q⟩
  ·rw[w0f (λz=>hj z.symm)]at z |-
   exact r.slot j s z
 ·have both:∀(k:Nat)(bb:Option Nat)(ww:List W),(e.set i (S.own none ws))[k]?=some (.own bb ww)->(σ.set i (some (.ref a)))[k]?=some (some (.ref c))->(k=i/\c=a)\/(k≠i/\e[k]?=some (.own bb ww)/\σ[k]?=some (some (.ref c))/\c≠a):=λk bb ww z y=>by
   by_cases hk:k=i
   ·grind
   ·rw[w0f (λz=>hk z.symm)]at z y
    exact .inr ⟨hk,z,y,λe=>hf k bb ww z (by rw[y,e])⟩
  rcases both _ _ _ z1 z3 with⟨e1,c1⟩|⟨n1,q1,p1,c1⟩<;>rcases both _ _ _ z2 z4 with⟨e2,c2⟩|⟨n2,q2,p2,c2⟩
  ·rw[e1,e2]
  ·exact absurd c1 c2
  ·exact absurd c2 c1
  ·exact r.dis _ _ _ _ _ _ _ q1 q2 p1 p2
inductive R(α:Type) where
 |ok (a:α) (e:List S)|ex (c:Value) (e:List S)|no
noncomputable abbrev Den(α:Type):=List S->R α
variable{dA:Den (List W)}
noncomputable def R.bind{α β:Type}:R α->(α->List S->R β)->R β
 |.ok a e,k=>k a e
 |.ex c e,_=>.ex c e
 |.no,_=>.no
noncomputable def R.holds(r:R α)(P:α->List S->Prop)(E:Value->List S->Prop):Prop:=match r with
 |.ok a e=>P a e
 |.ex c e=>E c e
 |.no=>False
theorem R.holds_bind{r:R α}{P:β->List S->Prop}:(r.bind k).holds P E↔r.holds (λa e=>(k a e).holds P E) E:=by
 cases r<;>rfl
theorem R.holds.imp{r:R α}(h:r.holds P E)(p:∀a e,P a e->P' a e)(x:∀c e,E c e->E' c e):r.holds P' E':=by
 cases r with
 |ok a e=>exact p a e h
 |ex c e=>exact x c e h
 |no=>exact h
noncomputable def ofOpt(o:Option α)(e:List S):R α:=match o with
 |some a=>.ok a e
 |none=>.no
theorem ofOpt_holds{P:α->List S->Prop}:(ofOpt o e).holds P E↔∃a,o=some a/\P a e:=by
 cases o with
 |none=>exact⟨λh=>h.elim,fun⟨_,h,_⟩=>nomatch h⟩
 |some a=>exact⟨λh=>⟨a,rfl,h⟩,fun⟨_,h,q⟩=>by cases h;exact q⟩
inductive SR where
 |nx (e:List S)|rt (s:S) (e:List S)|bk (e:List S)|ct (e:List S)|ex (c:Value) (e:List S)|no
section
variable(K:PySem.W.Frag)(Z:Zt)(EE:L2.St->XK)
abbrev XH(σ:St)(G:Hp):Value->List S->Prop:=λc e'=>∀G' H',Rel K Z G' σ H' e'->Same G G'->EE σ c none H'
noncomputable def liftE(d:Den W):TE:=λσ H Q=>AtG K Z σ H λG e=>(d e).holds (λw e'=>∀G' v H',Rel K Z G' σ H' e'->Same G G'->Rep K G' w v->Q v H') (XH K Z EE σ G)
noncomputable def liftA(d:Den (List W)):TA:=λσ H Q=>AtG K Z σ H λG e=>(d e).holds (λws e'=>∀G' vs H',Rel K Z G' σ H' e'->Same G G'->Reps K G' ws vs->Q vs H') (XH K Z EE σ G)
noncomputable def liftT(d:Den Bool):TT:=λσ H Q=>AtG K Z σ H λG e=>(d e).holds (λb e'=>∀G' H',Rel K Z G' σ H' e'->Same G G'->Q b H') (XH K Z EE σ G)
noncomputable def liftF(d:Den (List W)):TE:=λσ H Q=>AtG K Z σ H λG e=>(d e).holds (λws e'=>∀G' a xs H',Rel K Z G' σ H' e'->Same G G'->H' a=some (.lst xs)->G' a=none->Z.H a=none->Free σ e' a->Reps K G' ws xs->Q (.ref a) H') (XH K Z EE σ G)
noncomputable def PostS(D:Ends)(G:Hp):SR->Prop
 |.nx e'=>∀G' σ' H',Rel K Z G' σ' H' e'->Same G G'->D.nx σ' H'
 |.bk e'=>∀G' σ' H',Rel K Z G' σ' H' e'->Same G G'->D.bk σ' H'
 |.ct e'=>∀G' σ' H',Rel K Z G' σ' H' e'->Same G G'->D.ct σ' H'
 |.rt s e'=>∀G' σ' v H',Rel K Z G' σ' H' e'->Same G G'->SlotOk K Z G' H' s (some v)->D.rt v H'
 |.ex c e'=>∀G' σ' H',Rel K Z G' σ' H' e'->Same G G'->EE σ' c none H'
 |.no=>False
noncomputable def liftS(d:List S->SR):TS:=λD σ H=>AtG K Z σ H λG e=>PostS K Z EE D G (d e)
end
section
variable(Z:Zt)(X:Cx)(EE:L2.St->XK)
noncomputable def DE(e:Expr)(d:Den W):Prop:=PE X e (liftE X.K Z EE d)
noncomputable def DF(e:Expr)(d:Den (List W)):Prop:=PE X e (liftF X.K Z EE d)
noncomputable def DT(e:Expr)(d:Den Bool):Prop:=PT X e (liftT X.K Z EE d)
noncomputable def DW(e:Expr)(d:Den Bool):Prop:=PW X e (liftT X.K Z EE d)
noncomputable def DA(es:List Expr)(d:Den (List W)):Prop:=PA X es (liftA X.K Z EE d)
noncomputable def DS(st:Stmt)(d:List S->SR):Prop:=PS X st (liftS X.K Z EE d)
noncomputable def DSs(sts:List Stmt)(d:List S->SR):Prop:=PSs X sts (liftS X.K Z EE d)
end
theorem PE.mono(h:PE X e t)(i:∀σ H Q,t' σ H Q->t σ H Q):PE X e t':=λpins s σ H Q I q=>h pins s σ H Q I (i σ H Q q)
theorem PT.mono(h:PT X e t)(i:∀σ H Q,t' σ H Q->t σ H Q):PT X e t':=λpins s σ H Q I q=>h pins s σ H Q I (i σ H Q q)
theorem PW.mono(h:PW X e t)(i:∀σ H Q,t' σ H Q->t σ H Q):PW X e t':=λwh pins s σ H Q I q=>h wh pins s σ H Q I (i σ H Q q)
theorem PA.mono(h:PA X es t)(i:∀σ H Q,t' σ H Q->t σ H Q):PA X es t':=λp pins s σ H Q I q=>h p pins s σ H Q I (i σ H Q q)
theorem PS.mono(h:PS X st t)(i:∀D σ H,t' D σ H->t D σ H):PS X st t':=λpins s σ H D I q=>h pins s σ H D I (i D σ H q)
theorem PSs.mono(h:PSs X st t)(i:∀D σ H,t' D σ H->t D σ H):PSs X st t':=λpins s σ H D I q=>h pins s σ H D I (i D σ H q)
section
variable(K:PySem.W.Frag)
noncomputable def Op2(r:R2)(f:W->W->Option W):Prop:=∀(G H:Hp)(x y:V)(wx wy w:W)(Q:VK),Same G H->Rep K G wx x->Rep K G wy y->f wx wy=some w->(∀G' v H',Grow G H G' H'->Rep K G' w v->Q v H')->r x y H Q
noncomputable def Op1(r:V->Hp->VK->Prop)(f:W->Option W):Prop:=∀(G H:Hp)(x:V)(wx w:W)(Q:VK),Same G H->Rep K G wx x->f wx=some w->(∀G' v H',Grow G H G' H'->Rep K G' w v->Q v H')->r x H Q
noncomputable def OpN(r:List V->Hp->VK->Prop)(f:List W->Option W):Prop:=∀(G H:Hp)(xs:List V)(ws:List W)(w:W)(Q:VK),Same G H->Reps K G ws xs->f ws=some w->(∀G' v H',Grow G H G' H'->Rep K G' w v->Q v H')->r xs H Q
end
noncomputable def dC(w:W):Den W:=λe=>.ok w e
noncomputable def dVar(i:Nat):Den W:=λe=>match e[i]? with
 |some (.fr w)=>.ok w e
 |some (.own none ws)=>.ok (.lst ws) (e.set i (.fr (.lst ws)))
 |_=>.no
noncomputable def dOp(f:W->W->Option W)(da db:Den W):Den W:=λe=>(da e).bind λx e1=>(db e1).bind λy e2=>ofOpt (f x y) e2
noncomputable def dUn(f:W->Option W)(da:Den W):Den W:=λe=>(da e).bind λx e1=>ofOpt (f x) e1
noncomputable def dTest(da:Den W):Den Bool:=λe=>(da e).bind λx e1=>match x with
 |.bl k=>.ok k e1
 |_=>.no
noncomputable def truW:W->Option Bool
 |.non=>some false
 |.bl b=>some b
 |.int i=>some (i != 0)
 |.str x=>if x.length<=16777216 then some ((x.length:Int) != 0)else none
 |.tup xs=>some (!xs.isEmpty)
 |.lst xs=>some (!xs.isEmpty)
 |.exc _=>none
 |.dic _=>none
 |.dw _ _ _ _=>none
noncomputable def dTru(da:Den W):Den Bool:=λe=>(da e).bind λx e1=>ofOpt (truW x) e1
noncomputable def dAnd(a b:Den Bool):Den Bool:=λe=>(a e).bind λx e1=>if x=true then b e1 else .ok false e1
noncomputable def dOr(a b:Den Bool):Den Bool:=λe=>(a e).bind λx e1=>if x=true then .ok true e1 else b e1
noncomputable def dNot(a:Den Bool):Den Bool:=λe=>(a e).bind λx e1=>.ok (!x) e1
noncomputable def dAndV(a b:Den W):Den W:=λe=>(a e).bind λx e1=>match x with
 |.bl true=>b e1
 |.bl false=>.ok (.bl false) e1
 |_=>.no
noncomputable def dOrV(a b:Den W):Den W:=λe=>(a e).bind λx e1=>match x with
 |.bl true=>.ok (.bl true) e1
 |.bl false=>b e1
 |_=>.no
noncomputable def dIf(c:Den Bool)(a b:Den W):Den W:=λe=>(c e).bind λx e1=>if x=true then a e1 else b e1
noncomputable def dNil:Den (List W):=λe=>.ok [] e
noncomputable def dCons(a:Den W)(r:Den (List W)):Den (List W):=λe=>(a e).bind λx e1=>(r e1).bind λxs e2=>.ok (x::xs) e2
noncomputable def dTup(a:Den (List W)):Den W:=λe=>(a e).bind λxs e1=>if xs.length<=16777216 then .ok (.tup xs) e1 else .no
noncomputable def dLst(a:Den (List W)):Den (List W):=λe=>(a e).bind λxs e1=>if xs.length<=16777216 then .ok xs e1 else .no
noncomputable def dFz(a:Den (List W)):Den W:=λe=>(a e).bind λxs e1=>.ok (.lst xs) e1
noncomputable def dFn(f:List W->Option W)(a:Den (List W)):Den W:=λe=>(a e).bind λxs e1=>ofOpt (f xs) e1
section
variable{X:Cx}{a b c e:Expr}{da db:Den W}{ta:Den Bool}
theorem XH.trans{G1:Hp}(s:Same G G1){c:Value}{e:List S}(h:XH K Z EE σ G c e):XH K Z EE σ G1 c e:=λG' H' r q=>h G' H' r (s.trans q)
theorem q0c{j pos}:DE Z X EE (.Constant (.int i) j pos) (dC (.int i)):=PE.mono z2m λσ H Q ⟨G,e,r,h⟩=>h G (.int i) H r (.refl _) rfl
theorem q6b{j pos}:DE Z X EE (.Constant (.bool i) j pos) (dC (.bl i)):=PE.mono z64 λσ H Q ⟨G,e,r,h⟩=>h G (.bl i) H r (.refl _) rfl
theorem q3z{j pos}:DE Z X EE (.Constant .none j pos) (dC .non):=PE.mono z2n λσ H Q ⟨G,e,r,h⟩=>h G .non H r (.refl _) rfl
theorem q0f{j pos}:DE Z X EE (.Constant (.str i) j pos) (dC (.str i)):=PE.mono y0o λσ H Q ⟨G,e,r,h⟩=>h G (.str i) H r (.refl _) rfl
theorem y4i:∀σ H Q,liftE K Z EE (dVar i) σ H Q->tVar i σ H Q:=by
 rintro σ H Q ⟨G,e,r,h⟩;unfold dVar at h;split at h
 ·rename_i w hw;obtain⟨v,h1,h2⟩:=r.fr hw;exact⟨v,h1,h G v H r (.refl _) h2⟩
 ·rename_i ws hw;obtain⟨v,G',h1,h2,h3,h4⟩:=r.freeze hw;exact⟨v,h1,h G' v H h4 h2 h3⟩
 ·exact h.elim
theorem dv(i:Nat)(hN:X.N[i]?=some x:=by rfl)(hv:Vis X.env.scope x:=by walk_at "1")(hd:(x==("__debug__":Str))=false:=by decide)
  (hcd:(x==("__classdict__":Str))=false:=by decide):DE Z X EE (.Name x pos) (dVar i):=PE.mono (pv i hN hv hd hcd) y4i
theorem q4k(hf:Op2 K r f):∀σ H Q,liftE K Z EE (dOp f da db) σ H Q->tOp r (liftE K Z EE da) (liftE K Z EE db) σ H Q:=by
 rintro σ H Q ⟨G,e,rel,h⟩;simp only[dOp,R.holds_bind,ofOpt_holds]at h;refine⟨G,e,rel,h.imp (λx e1 h G1 v1 H1 r1 s1 p1=>?_) λ_ _ h=>h⟩
 refine⟨G1,e1,r1,h.imp (λy e2 h G2 v2 H2 r2 s2 p2=>?_) λ_ _ h=>XH.trans s1 h⟩
 obtain⟨w,hw,h⟩:=h;exact hf G2 H2 v1 v2 x y w Q r2.sub (Rep.mono s2 x p1) p2 hw λG' v H' g p=>h G' v H' (r2.grow g) ((s1.trans s2).trans g.gg) p
theorem q7f(ho:OpR X (binaryOp op) r)(hf:Op2 X.K r f)(ha:DE Z X EE a da)(hb:DE Z X EE b db):DE Z X EE (.BinOp a op b pos) (dOp f da db):=PE.mono (z68 ho ha hb) (q4k hf)
theorem q82(ho:OpR X (compareOp op) r)(hf:Op2 X.K r f)(ha:DE Z X EE a da)(hb:DE Z X EE b db)(hm:behindInMarks op b=false):DE Z X EE (.Compare a [op] [b] pos) (dOp f da db):=PE.mono (y7z ho ha hb hm) (q4k hf)
theorem x30(h:liftT K Z EE (dTest da) σ H Q):liftE K Z EE da σ H (λx H'=>∃k,x=.bl k/\Q k H'):=by
 obtain⟨G,e,rel,h⟩:=h;simp only[dTest,R.holds_bind]at h;refine⟨G,e,rel,h.imp (λx e1 h G1 v1 H1 r1 s1 p1=>?_) λ_ _ h=>h⟩
 cases x with
 |bl k=>
  cases(show v1=V.bl k from p1);exact⟨k,rfl,h G1 H1 r1 s1⟩
 |_=>exact h.elim
theorem q4u(ho:OpR X (compareOp op) r)(hf:Op2 X.K r f)(ha:DE Z X EE a da)(hb:DE Z X EE b db)(hm:behindInMarks op b=false):DT Z X EE (.Compare a [op] [b] pos) (dTest (dOp f da db)):=
 PT.mono (y70 ho ha hb hm) λσ H Q h=>q4k hf σ H _ (x30 h)
theorem y8b(hf:Op1 K r f):∀σ H Q,liftE K Z EE (dUn f da) σ H Q->tUn r (liftE K Z EE da) σ H Q:=by
 rintro σ H Q ⟨G,e,rel,h⟩;simp only[dUn,R.holds_bind,ofOpt_holds]at h;refine⟨G,e,rel,h.imp (λx e1 h G1 v1 H1 r1 s1 p1=>?_) λ_ _ h=>h⟩
 obtain⟨w,hw,h⟩:=h;exact hf G1 H1 v1 x w Q r1.sub p1 hw λG' v H' g p=>h G' v H' (r1.grow g) (s1.trans g.gg) p
theorem z7d(ho:UnR X (unaryOp op) r)(hf:Op1 X.K r f)(ha:DE Z X EE a da):DE Z X EE (.UnaryOp op a pos) (dUn f da):=PE.mono (z69 ho ha) (y8b hf)
theorem z3i(s:Same G H)(h:Rep K G w v)(e:truW w=some k):TruV K v H k:=by
 cases w with
 |non=>cases(show v=.non from h);cases e;rfl
 |bl b=>cases(show v=.bl b from h);cases e;rfl
 |int i=>cases(show v=.int i from h);cases e;rfl
 |str x=>
  cases(show v=.str x from h);simp only[truW]at e;split at e
  ·cases e;exact⟨by grind [sizeLine_eq],rfl⟩
  ·cases e
 |tup ws=>
  obtain⟨p,xs,rfl,q,r⟩:=h;cases e;refine .inr (.inl ⟨xs,s.tup q,?_⟩);have:=r.length
  grind
 |lst ws=>
  obtain⟨p,xs,rfl,q,r⟩:=h;cases e;refine .inl ⟨xs,s.seq q,?_⟩;have:=r.length
  grind
 |exc _=>cases e
 |dic _=>cases e
 |dw _ _ _ _=>cases e
theorem q29(ha:DE Z X EE a da)(he:∀whole,isTrue a X.env whole=(do let v <- whole;standAt a.pos;holding [v] (truthy v)):=by intro _;rfl):DT Z X EE a (dTru da):=by
 refine PT.mono (y38 ha he) ?_;rintro σ H Q ⟨G,e,rel,h⟩;simp only[dTru,R.holds_bind,ofOpt_holds]at h;refine⟨G,e,rel,h.imp (λx e1 h G1 v1 H1 r1 s1 p1=>?_) λ_ _ h=>h⟩
 obtain⟨k,hk,h⟩:=h;exact⟨k,z3i r1.sub p1 hk,h G1 H1 r1 s1⟩
theorem y4j:∀σ H Q,liftT K Z EE (dAnd ta tb) σ H Q->tAnd (liftT K Z EE ta) (liftT K Z EE tb) σ H Q:=by
 rintro σ H Q ⟨G,e,rel,h⟩;simp only[dAnd,R.holds_bind]at h;refine⟨G,e,rel,h.imp (λx e1 h G1 H1 r1 s1=>?_) λ_ _ h=>h⟩
 cases x with
 |true=>exact⟨G1,e1,r1,R.holds.imp (show(tb e1).holds _ _ from h) (λy e2 h G2 H2 r2 s2=>h G2 H2 r2 (s1.trans s2)) λ_ _ h=>XH.trans s1 h⟩
 |false=>exact(show ∀G' H',_->_->Q false H' from h) G1 H1 r1 s1
theorem y8c:∀σ H Q,liftT K Z EE (dOr ta tb) σ H Q->tOr (liftT K Z EE ta) (liftT K Z EE tb) σ H Q:=by
 rintro σ H Q ⟨G,e,rel,h⟩;simp only[dOr,R.holds_bind]at h;refine⟨G,e,rel,h.imp (λx e1 h G1 H1 r1 s1=>?_) λ_ _ h=>h⟩
 cases x with
 |false=>exact⟨G1,e1,r1,R.holds.imp (show(tb e1).holds _ _ from h) (λy e2 h G2 H2 r2 s2=>h G2 H2 r2 (s1.trans s2)) λ_ _ h=>XH.trans s1 h⟩
 |true=>exact(show ∀G' H',_->_->Q true H' from h) G1 H1 r1 s1
theorem q2w(ha:DT Z X EE a ta):DW Z X EE (.BoolOp .And [a] pos) ta:=y7s ha
theorem q6v(ha:DT Z X EE a ta):DW Z X EE (.BoolOp .Or [a] pos) ta:=z2q ha
theorem q1z{rest:List Expr}(ha:DT Z X EE a ta)(hb:DW Z X EE (.BoolOp .And (b::rest) pos) tb):DW Z X EE (.BoolOp .And (a::b::rest) pos) (dAnd ta tb):=PW.mono (z2r ha hb) y4j
theorem q6c{rest:List Expr}(ha:DT Z X EE a ta)(hb:DW Z X EE (.BoolOp .Or (b::rest) pos) tb):DW Z X EE (.BoolOp .Or (a::b::rest) pos) (dOr ta tb):=PW.mono (z65 ha hb) y8c
theorem dt_w(h:DW Z X EE a ta):DT Z X EE a ta:=PW.pt h
theorem q83(ha:DT Z X EE a ta):DT Z X EE (.UnaryOp .Not a pos) (dNot ta):=by
 refine PT.mono (z2s ha) ?_;rintro σ H Q ⟨G,e,rel,h⟩;simp only[dNot,R.holds_bind]at h;exact⟨G,e,rel,h.imp (λx e1 h G1 H1 r1 s1=>h G1 H1 r1 s1) λ_ _ h=>h⟩
theorem x12{op}(h:DE Z X EE a da):DE Z X EE (.BoolOp op [a] pos) da:=z2t h
theorem x5v{rest:List Expr}(ha:DE Z X EE a da)(hb:DE Z X EE (.BoolOp .And (b::rest) pos) db):DE Z X EE (.BoolOp .And (a::b::rest) pos) (dAndV da db):=by
 refine PE.mono (z2u ha hb) ?_;rintro σ H Q ⟨G,e,rel,h⟩;simp only[dAndV,R.holds_bind]at h;refine⟨G,e,rel,h.imp (λx e1 h G1 v1 H1 r1 s1 p1=>?_) λ_ _ h=>h⟩
 cases x with
 |bl k=>
  cases(show v1=V.bl k from p1);cases k with
  |true=>exact⟨true,rfl,⟨G1,e1,r1,R.holds.imp (show(db e1).holds _ _ from h) (λy e2 h G2 v2 H2 r2 s2 p2=>h G2 v2 H2 r2 (s1.trans s2) p2) λ_ _ h=>XH.trans s1 h⟩⟩
  |false=>exact⟨false,rfl,(show ∀G' v H',_->_->v=V.bl false->Q v H' from h) G1 _ H1 r1 s1 rfl⟩
 |_=>exact h.elim
theorem y69{rest:List Expr}(ha:DE Z X EE a da)(hb:DE Z X EE (.BoolOp .Or (b::rest) pos) db):DE Z X EE (.BoolOp .Or (a::b::rest) pos) (dOrV da db):=by
 refine PE.mono (z66 ha hb) ?_;rintro σ H Q ⟨G,e,rel,h⟩;simp only[dOrV,R.holds_bind]at h;refine⟨G,e,rel,h.imp (λx e1 h G1 v1 H1 r1 s1 p1=>?_) λ_ _ h=>h⟩
 cases x with
 |bl k=>
  cases(show v1=V.bl k from p1);cases k with
  |false=>exact⟨false,rfl,⟨G1,e1,r1,R.holds.imp (show(db e1).holds _ _ from h) (λy e2 h G2 v2 H2 r2 s2 p2=>h G2 v2 H2 r2 (s1.trans s2) p2) λ_ _ h=>XH.trans s1 h⟩⟩
  |true=>exact⟨true,rfl,(show ∀G' v H',_->_->v=V.bl true->Q v H' from h) G1 _ H1 r1 s1 rfl⟩
 |_=>exact h.elim
theorem x48(hc:DT Z X EE c dc)(ha:DE Z X EE a da)(hb:DE Z X EE b db):DE Z X EE (.IfExp c a b pos) (dIf dc da db):=by
 refine PE.mono (y34 hc ha hb) ?_;rintro σ H Q ⟨G,e,rel,h⟩;simp only[dIf,R.holds_bind]at h;refine⟨G,e,rel,h.imp (λx e1 h G1 H1 r1 s1=>?_) λ_ _ h=>h⟩
 cases x with
 |true=>exact⟨G1,e1,r1,R.holds.imp (show(da e1).holds _ _ from h) (λy e2 h G2 v2 H2 r2 s2 p2=>h G2 v2 H2 r2 (s1.trans s2) p2) λ_ _ h=>XH.trans s1 h⟩
 |false=>exact⟨G1,e1,r1,R.holds.imp (show(db e1).holds _ _ from h) (λy e2 h G2 v2 H2 r2 s2 p2=>h G2 v2 H2 r2 (s1.trans s2) p2) λ_ _ h=>XH.trans s1 h⟩
theorem q0b:DA Z X EE [] dNil:=PA.mono x1x λσ H Q ⟨G,e,r,h⟩=>h G [] H r (.refl _) rfl
theorem q0a(ha:DE Z X EE e da)(hr:DA Z X EE es dA)(hs:starEach (e::es) X.env=(false,eval e X.env)::starEach es X.env:=by rfl):DA Z X EE (e::es) (dCons da dA):=by
 refine PA.mono (q5c ha hr hs) ?_;rintro σ H Q ⟨G,e,rel,h⟩;simp only[dCons,R.holds_bind]at h;refine⟨G,e,rel,h.imp (λx e1 h G1 v1 H1 r1 s1 p1=>?_) λ_ _ h=>h⟩
 refine⟨G1,e1,r1,h.imp (λxs e2 h G2 vs H2 r2 s2 p2=>?_) λ_ _ h=>XH.trans s1 h⟩
 exact h G2 (v1::vs) H2 r2 (s1.trans s2) ⟨v1,vs,rfl,Rep.mono s2 x p1,p2⟩
theorem q0r{x1}(h:DA Z X EE es dA):DE Z X EE (.Tuple es x1 pos) (dTup dA):=by
 refine PE.mono (z25 h) ?_;rintro σ H Q ⟨G,e,rel,h⟩;simp only[dTup,R.holds_bind]at h;refine⟨G,e,rel,h.imp (λws e1 h G1 vs H1 r1 s1 p1=>?_) λ_ _ h=>h⟩
 split at h
 ·rename_i hl;refine⟨by rw[p1.length,sizeLine_eq];exact hl,λp hp=>?_⟩
  have g:=Grow.laid r1.sub hp (.tup vs);exact(show ∀G' v H',_->_->Rep X.K G' (.tup ws) v->Q v H' from h) _ (.ref p) _ (r1.grow g) (s1.trans g.gg) ⟨p,vs,rfl,SqT.of q0k,Reps.mono g.gg ws p1⟩
 ·exact h.elim
theorem x1c{e:List S}(r:Rel K Z G σ H e){p:Addr}(hp:H p=none):Free σ e p:=λj b ws h q=>by
 obtain⟨a,xs,h1,h2,_⟩:=r.own h;rw[q]at h1;cases h1;rw[hp]at h2;cases h2
theorem q7u{e:List S}(r:Rel K Z G σ H e){p:Addr}(hp:H p=none):Z.H p=none:=by
 cases q:Z.H p with
 |none=>rfl
 |some o=>
  by_cases hi:p∈Z.io
  ·exact absurd hp (r.ion p hi)
  ·rw[r.ent p o q hi]at hp;cases hp
theorem x1d{e:List S}{ws:List W}{vs:List V}{Q:VK}{G0:Hp}(r:Rel K Z G σ H e)(s:Same G0 G)(p1:Reps K G ws vs)
  (h:∀G' a xs H',Rel K Z G' σ H' e->Same G0 G'->H' a=some (.lst xs)->G' a=none->Z.H a=none->Free σ e a->Reps K G' ws xs->Q (.ref a) H'):∀p,H p=none->Q (.ref p) (upd H p (.lst vs)):=λp hp=>by
 have g:=Grow.hid r.sub hp (.lst vs);exact h G p vs _ (r.grow g) s q0k (r.sub.free hp) (q7u r hp) (x1c r hp) p1
theorem q00(h:DA Z X EE es dA):DF Z X EE (.List es pos) (dLst dA):=by
 refine PE.mono (z26 h) ?_;rintro σ H Q ⟨G,e,rel,h⟩;simp only[dLst,R.holds_bind]at h;refine⟨G,e,rel,h.imp (λws e1 h G1 vs H1 r1 s1 p1=>?_) λ_ _ h=>h⟩
 split at h
 ·rename_i hl;exact⟨by rw[p1.length,sizeLine_eq];exact hl,x1d r1 s1 p1 h⟩
 ·exact h.elim
theorem Rel.seen{e:List S}(r:Rel K Z G σ H e){a:Addr}{xs:List V}(h:H a=some (.lst xs))(hg:G a=none)(hz:Z.H a=none)(hf:Free σ e a):Same G (upd G a (.lst xs))/\Rel K Z (upd G a (.lst xs)) σ H e:=by
 have sg:Same G (upd G a (.lst xs)):=q28 hg _;refine⟨sg,⟨λc o z=>?_,λj s z=>?_,r.len,r.dis,r.ent,r.ion,λc z=>?_⟩⟩
 ·by_cases hc:c=a
  ·subst hc;rw[q0k]at z;cases z;exact h
  ·rw[q0g hc]at z;exact r.sub c o z
 ·have y:=r.slot j s z;cases s with
  |no=>trivial
  |fr w=>
   obtain⟨u,y1,y2⟩:=y;exact⟨u,y1,Rep.mono sg w y2⟩
  |own b2 w2=>
   obtain⟨c,ys,y1,y2,y3,y4,y5⟩:=y;refine⟨c,ys,y1,y2,?_,y4,Reps.mono sg w2 y5⟩;rw[q0g];exact y3;rintro rfl;obtain⟨c',_,z1,_⟩:=r.own z;rw[z1]at y1;cases y1;exact hf j b2 w2 z z1
  |dic kvs=>
   obtain⟨c,y1,y2,y3,y4⟩:=y;refine⟨c,y1,y2,?_,y4⟩;rw[q0g (q3o y2 h (q78 rfl))];exact y3
  |dw sh ks ws=>exact DwOk.move y sg λl o ys k1 k2 k3=>⟨k1,by rw[q0g (q3o k1 h (q81 rfl))];exact k2,k3⟩
 ·by_cases hc:c=a
  ·subst hc;exact absurd hz z
  ·rw[q0g hc];exact r.gen c z
theorem q10(h:DF Z X EE e dA):DE Z X EE e (dFz dA):=by
 refine PE.mono h ?_;rintro σ H Q ⟨G,e,rel,h⟩;simp only[dFz,R.holds_bind]at h;refine⟨G,e,rel,h.imp (λws e1 h G1 a xs H1 r1 s1 q1 q2 q3 q4 p1=>?_) λ_ _ h=>h⟩
 obtain⟨sg,rg⟩:=r1.seen q1 q2 q3 q4;exact(show ∀G' v H',_->_->Rep X.K G' (.lst ws) v->Q v H' from h) _ (.ref a) _ rg (s1.trans sg) ⟨a,xs,rfl,SqL.of q0k,Reps.mono sg ws p1⟩
theorem x78(hf:OpN K r f):∀σ H Q,liftE K Z EE (dFn f dA) σ H Q->tCB r (liftA K Z EE dA) σ H Q:=by
 rintro σ H Q ⟨G,e,rel,h⟩;simp only[dFn,R.holds_bind,ofOpt_holds]at h;refine⟨G,e,rel,h.imp (λws e1 h G1 vs H1 r1 s1 p1=>?_) λ_ _ h=>h⟩
 obtain⟨w,hw,h⟩:=h;exact hf G1 H1 vs ws w Q r1.sub p1 hw λG' v H' g p=>h G' v H' (r1.grow g) (s1.trans g.gg) p
theorem x5w{id:String}{p:Pos}{r:List V->Hp->VK->Prop}{f:List W->Option W}(hc:CallR X (.builtin id) r)(hf:OpN X.K r f)(hv:bootBuiltins x=some (.builtin id))(hm:X.mg x=none)(ha:DA Z X EE (e::es) dA)(hg:Gl X x:=by rfl)(hn:x≠"__name__":=by decide)(hdb:(x==("__debug__":Str))=false:=by decide)
  (he:starEach (e::es) X.env=(false,eval e X.env)::starEach es X.env:=by rfl)(hpl:(backTo pos (starEach es X.env)).any (·.1)=false:=by rfl):DE Z X EE (.Call (.Name x p) (e::es) [] pos) (dFn f dA):=
 PE.mono (x1b hc hg hm hv ha hn hdb he hpl) (x78 hf)
theorem y06{T:String}{p:Pos}{r:List V->Hp->VK->Prop}{f:List W->Option W}(hc:CallR X (.type T) r)(hf:OpN X.K r f)(hv:bootBuiltins x=some (.type T))(hm:X.mg x=none)(ha:DA Z X EE (e::es) dA)(hg:Gl X x:=by rfl)(hn:x≠"__name__":=by decide)(hdb:(x==("__debug__":Str))=false:=by decide)
  (he:starEach (e::es) X.env=(false,eval e X.env)::starEach es X.env:=by rfl)(hpl:(backTo pos (starEach es X.env)).any (·.1)=false:=by rfl):DE Z X EE (.Call (.Name x p) (e::es) [] pos) (dFn f dA):=
 PE.mono (x3u hc hg hm hv ha hn hdb he hpl) (x78 hf)
end
noncomputable def dNx:List S->SR:=λe=>.nx e
noncomputable def dSeq(a b:List S->SR):List S->SR:=λe=>match a e with
 |.nx e'=>b e'
 |r=>r
noncomputable def R.stm(r:R α)(k:α->List S->SR):SR:=match r with
 |.ok a e=>k a e
 |.ex c e=>.ex c e
 |.no=>.no
noncomputable def dDrop(d:Den W):List S->SR:=λe=>(d e).stm λ_ e'=>.nx e'
noncomputable def dRet(d:Den W):List S->SR:=λe=>(d e).stm λw e'=>.rt (.fr w) e'
noncomputable def dRetF(d:Den (List W)):List S->SR:=λe=>(d e).stm λws e'=>.rt (.own none ws) e'
noncomputable def dRetO(i:Nat):List S->SR:=λe=>match e[i]? with
 |some (.own none ws)=>.rt (.own none ws) e
 |some (.fr w)=>.rt (.fr w) e
 |_=>.no
noncomputable def dIfS(c:Den Bool)(a b:List S->SR):List S->SR:=λe=>(c e).stm λx e1=>if x=true then a e1 else b e1
noncomputable def dSet(i:Nat)(d:Den W):List S->SR:=λe=>(d e).stm λw e'=>.nx (e'.set i (.fr w))
noncomputable def dSetO(i:Nat)(d:Den (List W)):List S->SR:=λe=>(d e).stm λws e'=>.nx (e'.set i (.own none ws))
noncomputable def forD(i:Nat)(b:List S->SR):List W->List S->SR
 |[],e=>.nx e
 |w::ws,e=>match b (e.set i (.fr w))with
  |.nx e'=>forD i b ws e'
  |.ct e'=>forD i b ws e'
  |.bk e'=>.nx e'
  |.rt s e'=>.rt s e'
  |.ex c e'=>.ex c e'
  |.no=>.no
noncomputable def whileD(c:Den Bool)(b:List S->SR):Nat->List S->SR
 |0,_=>.no
 |n+1,e=>(c e).stm λx e1=>if x=true then(match b e1 with
  |.nx e'=>whileD c b n e'
  |.ct e'=>whileD c b n e'
  |.bk e'=>.nx e'
  |.rt s e'=>.rt s e'
  |.ex c e'=>.ex c e'
  |.no=>.no)else .nx e1
noncomputable def seqW:W->Option (List W)
 |.tup ws=>some ws
 |.lst ws=>some ws
 |_=>none
noncomputable def dFor(i:Nat)(d:Den W)(b:List S->SR):List S->SR:=λe=>(d e).stm λw e1=>match seqW w with
 |some ws=>forD i b ws e1
 |none=>.no
noncomputable def rangeW(lo hi:Int):List W:=(List.range (hi-lo).toNat).map λk=>.int (lo+(k:Nat))
noncomputable def okI(j:Int):Bool:=Nat.ble j.natAbs 4611686018427387903
theorem q4v(h:okI j=true):-(2^62)<=j/\j<2^62:=by
 have z:j.natAbs<=4611686018427387903:=w3m h
 grind
theorem q30(h1:-1000000000<=j)(h2:j<=1000000000):okI j=true:=w4p (by omega)
noncomputable def rng1:List W->Option (List W)
 |[.int j]=>if okI j=true then some (rangeW 0 j)else none
 |_=>none
noncomputable def rng2:List W->Option (List W)
 |[.int i,.int j]=>if okI i=true/\okI j=true then some (rangeW i j)else none
 |_=>none
noncomputable def dForR(i:Nat)(g:List W->Option (List W))(d:Den (List W))(b:List S->SR):List S->SR:=λe=>(d e).stm λw e1=>match g w with
 |some ws=>forD i b ws e1
 |none=>.no
section
variable{X:Cx}{a c e:Expr}{st:Stmt}{rest body:List Stmt}{d:Den W}{s1 s2:List S->SR}
theorem PostS.trans(s:Same G G1):∀{r:SR},PostS K Z EE D G r->PostS K Z EE D G1 r
 |.nx e',h=>λG' σ' H' r q=>h G' σ' H' r (s.trans q)
 |.bk e',h=>λG' σ' H' r q=>h G' σ' H' r (s.trans q)
 |.ct e',h=>λG' σ' H' r q=>h G' σ' H' r (s.trans q)
 |.rt w e',h=>λG' σ' v H' r q=>h G' σ' v H' r (s.trans q)
 |.ex c e',h=>λG' σ' H' r q=>h G' σ' H' r (s.trans q)
 |.no,h=>h
theorem q0w{r:R α}(h:PostS K Z EE D G (r.stm k)):r.holds (λa e'=>PostS K Z EE D G (k a e')) (XH K Z EE σ G):=by
 cases r with
 |ok a e=>exact h
 |ex c e=>exact λG' H' r q=>h G' σ H' r q
 |no=>exact h
theorem q0o:DSs Z X EE [] dNx:=PSs.mono y7t λD σ H ⟨G,e,r,h⟩=>h G σ H r (.refl _)
theorem y4k:∀D σ H,liftS K Z EE (dSeq s1 s2) D σ H->tSeq (liftS K Z EE s1) (liftS K Z EE s2) D σ H:=by
 rintro D σ H ⟨G,e,rel,h⟩;refine⟨G,e,rel,?_⟩;unfold dSeq at h;cases q:s1 e with
 |nx e'=>rw[q]at h;exact λG' σ' H' r s=>⟨G',e',r,PostS.trans s h⟩
 |bk e'=>rw[q]at h;exact h
 |ct e'=>rw[q]at h;exact h
 |rt w e'=>rw[q]at h;exact h
 |ex c e'=>rw[q]at h;exact h
 |no=>rw[q]at h;exact h
theorem q0d(h1:DS Z X EE st s1)(h2:DSs Z X EE rest s2):DSs Z X EE (st::rest) (dSeq s1 s2):=PSs.mono (y35 h1 h2) y4k
theorem q0e(h1:DS Z X EE st s1):DSs Z X EE [st] s1:=y7u h1
theorem x24(he:DE Z X EE e d)(hs:swapsWith e none pos.line X.env=pure false:=by rfl):DS Z X EE (.Expr e pos) (dDrop d):=by
 refine PS.mono (q7s he hs) ?_;rintro D σ H ⟨G,e,rel,h⟩;exact⟨G,e,rel,(q0w h).imp (λw e1 h G1 v1 H1 r1 s1 p1=>h G1 σ H1 r1 s1) λ_ _ h=>h⟩
theorem q0n(he:DE Z X EE e d):DS Z X EE (.Return (some e) pos) (dRet d):=by
 refine PS.mono (q8x he) ?_;rintro D σ H ⟨G,e,rel,h⟩;exact⟨G,e,rel,(q0w h).imp (λw e1 h G1 v1 H1 r1 s1 p1=>h G1 σ v1 H1 r1 s1 ⟨v1,rfl,p1⟩) λ_ _ h=>h⟩
theorem y8d(he:DF Z X EE e dA):DS Z X EE (.Return (some e) pos) (dRetF dA):=by
 refine PS.mono (q8x he) ?_;rintro D σ H ⟨G,e,rel,h⟩;exact⟨G,e,rel,(q0w h).imp (λw e1 h G1 a xs H1 r1 s1 q1 q2 q3 q4 p1=>h G1 σ (.ref a) H1 r1 s1 ⟨a,xs,rfl,q1,q2,q3,p1⟩) λ_ _ h=>h⟩
theorem x79(i:Nat){p:Pos}(hN:X.N[i]?=some x:=by rfl)(hv:Vis X.env.scope x:=by walk_at "1")(hd:(x==("__debug__":Str))=false:=by decide)
  (hcd:(x==("__classdict__":Str))=false:=by decide):DS Z X EE (.Return (some (.Name x p)) pos) (dRetO i):=by
 refine PS.mono (q8x (pv i hN hv hd hcd)) ?_;rintro D σ H ⟨G,e,rel,h⟩;unfold dRetO at h;split at h
 ·rename_i ws hw;obtain⟨a,xs,h1,h2,h3,h4,h5⟩:=rel.own hw;exact⟨.ref a,h1,h G σ _ H rel (.refl _) ⟨a,xs,rfl,h2,h3,h4,h5⟩⟩
 ·rename_i w hw;obtain⟨v,h1,h2⟩:=rel.fr hw;exact⟨v,h1,h G σ _ H rel (.refl _) ⟨v,rfl,h2⟩⟩
 ·exact h.elim
theorem y4l:∀D σ H,liftS K Z EE (dIfS dc s1 s2) D σ H->tIfS (liftT K Z EE dc) (liftS K Z EE s1) (liftS K Z EE s2) D σ H:=by
 rintro D σ H ⟨G,e,rel,h⟩;refine⟨G,e,rel,(q0w h).imp (λx e1 h G1 H1 r1 q1=>?_) λ_ _ h=>h⟩
 cases x with
 |true=>exact⟨G1,e1,r1,PostS.trans q1 h⟩
 |false=>exact⟨G1,e1,r1,PostS.trans q1 h⟩
theorem q0q(hc:DT Z X EE c dc)(ha:DSs Z X EE p s1)(hb:DSs Z X EE q s2):DS Z X EE (.If c p q pos) (dIfS dc s1 s2):=PS.mono (z67 hc ha hb) y4l
theorem q0i(i:Nat)(hN:X.N.Nodup)(he:DE Z X EE e d)(hi:X.N[i]?=some x:=by rfl)(hx:Loc X.env.scope x:=by walk_at "3")(hs:swapsWith e (some (.Name x pos')) pos.line X.env=pure false:=by rfl)(hf:X.fn x=true\/X.env.scope.names.lookup x=some .local:=by walk_at "2"):
  DS Z X EE (.Assign [.Name x pos'] e pos) (dSet i d):=by
 refine PS.mono (x11 i hN he hi hx hs hf) ?_;rintro D σ H ⟨G,e,rel,h⟩;exact⟨G,e,rel,(q0w h).imp (λw e1 h G1 v1 H1 r1 q1 p1=>h G1 _ H1 (r1.set p1) q1) λ_ _ h=>h⟩
theorem q31(i:Nat)(hN:X.N.Nodup)(he:DF Z X EE e dA)(hi:X.N[i]?=some x:=by rfl)(hx:Loc X.env.scope x:=by walk_at "3")(hs:swapsWith e (some (.Name x pos')) pos.line X.env=pure false:=by rfl)(hf:X.fn x=true\/X.env.scope.names.lookup x=some .local:=by walk_at "2"):
  DS Z X EE (.Assign [.Name x pos'] e pos) (dSetO i dA):=by
 refine PS.mono (x11 i hN he hi hx hs hf) ?_;rintro D σ H ⟨G,e,rel,h⟩;exact⟨G,e,rel,(q0w h).imp (λw e1 h G1 a xs H1 r1 s1 q1 q2 q3 q4 p1=>h G1 _ H1 (r1.setOwn q1 q2 q3 q4 p1) s1) λ_ _ h=>h⟩
theorem x1e(n)(hp:PassesOwn (model X.prog X.w) X.A X.env X.xe)(hc:DT Z X EE c dc)(hb:DSs Z X EE body s1):DS Z X EE (.While c body [] pos) (whileD dc s1 n):=by
 refine PS.mono (y36 hp hc hb) ?_;rintro D σ H ⟨G,e,rel,h⟩;refine⟨λm σ' H'=>∃G' e',Rel X.K Z G' σ' H' e'/\Same G G'/\PostS X.K Z EE D G (whileD dc s1 m e'),⟨n,G,e,rel,.refl _,h⟩,?_⟩
 rintro m σ1 H1 ⟨G1,e1,r1,q1,h⟩;cases m with
 |zero=>exact h.elim
 |succ m=>
  refine⟨G1,e1,r1,(q0w (σ:=σ1) h).imp (λx e2 h G2 H2 r2 q2=>?_) λ_ _ h=>XH.trans q1 h⟩
  cases x with
  |false=>exact h G2 σ1 H2 r2 (q1.trans q2)
  |true=>
   refine⟨λσ' H'=>∃G' e',Rel X.K Z G' σ' H' e'/\Same G G'/\PostS X.K Z EE D G (whileD dc s1 m e'),λσ' H' q=>⟨m,Nat.lt_succ_self _,q⟩,⟨G2,e2,r2,?_⟩⟩
   have sg:=q1.trans q2;have h:PostS X.K Z EE D G (match s1 e2 with|.nx e'=>whileD dc s1 m e'|.ct e'=>whileD dc s1 m e'|.bk e'=>.nx e'|.rt s e'=>.rt s e'|.ex c e'=>.ex c e'|.no=>.no):=h;cases q:s1 e2 with
   |nx e'=>rw[q]at h;exact λG' σ' H' r s=>⟨G',e',r,sg.trans s,h⟩
   |ct e'=>rw[q]at h;exact λG' σ' H' r s=>⟨G',e',r,sg.trans s,h⟩
   |bk e'=>rw[q]at h;exact λG' σ' H' r s=>h G' σ' H' r (sg.trans s)
   |rt w e'=>rw[q]at h;exact λG' σ' v H' r s=>h G' σ' v H' r (sg.trans s)
   |ex c e'=>rw[q]at h;exact λG' σ' H' r s=>h G' σ' H' r (sg.trans s)
   |no=>rw[q]at h;exact h
theorem y4m{x:L2.V}(r1:Rel K Z G1 σ H e1)(q1:Same G G1)(p:Rep K G1 w x)(h:PostS K Z EE D G (forD i s1 (w::ws) e1))
  (hN:∀G' σ' H' e',Rel K Z G' σ' H' e'->Same G G'->PostS K Z EE D G (forD i s1 ws e')->N σ' H'):gName i x σ H λσ2 H2=>liftS K Z EE s1 {D with nx:=N,ct:=N,bk:=D.nx} σ2 H2:=by
 refine⟨G1,e1.set i (.fr w),r1.set p,?_⟩;unfold forD at h;cases q:s1 (e1.set i (.fr w))with
 |nx e'=>rw[q]at h;exact λG' σ' H' r s=>hN G' σ' H' e' r (q1.trans s) h
 |ct e'=>rw[q]at h;exact λG' σ' H' r s=>hN G' σ' H' e' r (q1.trans s) h
 |bk e'=>rw[q]at h;exact λG' σ' H' r s=>h G' σ' H' r (q1.trans s)
 |rt w e'=>rw[q]at h;exact λG' σ' v H' r s=>h G' σ' v H' r (q1.trans s)
 |ex c e'=>rw[q]at h;exact λG' σ' H' r s=>h G' σ' H' r (q1.trans s)
 |no=>rw[q]at h;exact h
noncomputable def iSeq(K:PySem.W.Frag)(tl:TE):TI:=λσ H R=>tl σ H λx H1=>∃a,x=.ref a/\(((∃xs,SqL K H1 a xs)/\R (Itl K a) H1)\/((∃xs,SqT K H1 a xs)/\R (Itt K a) H1))
theorem x13(hl:PE X l tl):PI X tg l (iSeq X.K tl):=by
 intro pins s σ H R I h;refine thn (hl pins s σ H _ I h) λv s1 ⟨x,H1,I1,r1,q1⟩=>?_
 obtain⟨a,e,q⟩:=q1;subst e;cases r1;rcases q with⟨⟨xs,hq⟩,q⟩|⟨⟨xs,hq⟩,q⟩
 ·obtain⟨its,rv,p,hz⟩:=I1.list hq;refine wpAny_pyIter_list p.isList ?_;refine⟨s1.heap.objs.size,[s1.heap.objs.size],_,_,H1,rfl,I1.kept (t':=s1.toks) λb o e=>Heap.get?_push_of_some _ e,y0p a _,⟨_,Heap.get?_push_size _ rfl,rfl,rfl⟩,λb hb=>?_,q⟩
  have e:b=s1.heap.objs.size:=by simpa using hb
  subst e;exact I1.fpOk (w0a _) (I1.hok.fresh (w0a _))
 ·obtain⟨its,rv,p,hz⟩:=I1.tuple hq;refine wpAny_pyIter_tuple (show s1.heap.IsTuple a its.toArray from p) ?_;refine⟨s1.heap.objs.size,[s1.heap.objs.size],_,_,H1,rfl,I1.kept (t':=s1.toks) λb o e=>Heap.get?_push_of_some _ e,x9d a _,⟨_,Heap.get?_push_size _ rfl,rfl,rfl⟩,λb hb=>?_,q⟩
  have e:b=s1.heap.objs.size:=by simpa using hb
  subst e;exact I1.fpOk (w0a _) (I1.hok.fresh (w0a _))
theorem x31{α:Type}{ws:List α}{w:α}(h:ws[k]?=some w):ws.drop k=w::ws.drop (k+1):=by
 grind [List.drop_eq_getElem_cons]
theorem x8a(r1:Rel K Z G1 σ H1 e1)(rp:Reps K G1 ws xs)(h:PostS K Z EE D G1 (forD i s1 ws e1))(SQ:Hp->Prop)(hSQ:∀G' H',Same G1 G'->Same G' H'->SQ H'):
  ∃Pv:Nat->St->Hp->Prop,Pv 0 σ H1/\(∀j σ H,j<=xs.length->Pv j σ H->SQ H)/\(∀(j:Nat) x σ H,xs[j]?=some x->Pv j σ H->gName i x σ H λσ2 H2=>liftS K Z EE s1 {D with nx:=Pv (j+1),ct:=Pv (j+1),bk:=D.nx} σ2 H2)/\∀σ H,Pv xs.length σ H->D.nx σ H:=by
 refine⟨λj σ' H'=>∃G' e',Rel K Z G' σ' H' e'/\Same G1 G'/\PostS K Z EE D G1 (forD i s1 (ws.drop j) e'),⟨G1,e1,r1,.refl _,h⟩,?_,?_,?_⟩
 ·rintro j σ' H' _ ⟨G',e',r',s',_⟩;exact hSQ G' H' s' r'.sub
 ·rintro j x σ' H' hx ⟨G',e',r',s',h⟩;obtain⟨w,hw,pw⟩:=rp.getV hx;rw[x31 hw]at h;exact y4m r' s' (Rep.mono s' w pw) h λG'' σ'' H'' e'' r'' s'' h''=>⟨G'',e'',r'',s'',h''⟩
 ·rintro σ' H' ⟨G',e',r',s',h⟩;rw[rp.length,w3p]at h;exact h G' σ' H' r' s'
theorem q84(i:Nat)(hN:X.N.Nodup)(hp:PassesOwn (model X.prog X.w) X.A X.env X.xe)(hc:X.calm=true)(hl:DE Z X EE e d)(hb:DSs Z X EE body s1)
  (hi:X.N[i]?=some x:=by rfl)(hx:Loc X.env.scope x:=by walk_at "3")(hf:X.fn x=true\/X.env.scope.names.lookup x=some .local:=by walk_at "2")(hs:∀x,foldedSetIterable e X.env x=pure x:=by intro _;rfl):
  DS Z X EE (.For (.Name x pos') e body [] pos) (dFor i d s1):=by
 refine PS.mono (x1v hp hc (x13 hl) (q15 i hN hi hx hf) hb hs) ?_;rintro D σ H ⟨G,e,rel,h⟩;refine⟨G,e,rel,(q0w h).imp (λw e1 h G1 v1 H1 r1 q1 p1=>?_) λ_ _ h=>h⟩
 have key:=λws xs (rp:Reps X.K G1 ws xs) (h:PostS X.K Z EE D G (forD i s1 ws e1))=>x8a (i:=i) (D:=D) r1 rp (PostS.trans q1 h)
 cases w with
 |tup ws=>
  obtain⟨a,xs,rfl,hq,rp⟩:=p1;refine⟨a,rfl,.inr ⟨⟨xs,r1.sub.tup hq⟩,?_⟩⟩;obtain⟨Pv,h0,h1,h2,h3⟩:=key ws xs rp h (λH'=>SqT X.K H' a xs) (λG' H' s s'=>Same.tup s' (Same.tup s hq))
  exact y7x Pv h0 h1 h2 h3
 |lst ws=>
  obtain⟨a,xs,rfl,hq,rp⟩:=p1;refine⟨a,rfl,.inl ⟨⟨xs,r1.sub.seq hq⟩,?_⟩⟩;obtain⟨Pv,h0,h1,h2,h3⟩:=key ws xs rp h (λH'=>SqL X.K H' a xs) (λG' H' s s'=>Same.seq s' (Same.seq s hq))
  exact y37 Pv h0 h1 h2 h3
 |_=>exact h.elim
theorem x14:Reps K G (rangeW lo hi) ((List.range (hi-lo).toNat).map λk=>V.int (lo+(k:Nat))):=by
 unfold rangeW;generalize List.range (hi-lo).toNat=l
 induction l with
 |nil=>rfl
 |cons k l ih=>exact⟨_,_,rfl,rfl,ih⟩
theorem x8b(r1:Rel K Z G1 σ H1 e1)(h:PostS K Z EE D G1 (forD i s1 (rangeW lo hi) e1)):
  ∃W:Nat->Nat->St->Hp->Prop,(∃m,W 0 m σ H1)/\∀j m σ H,W j m σ H ->
   ((Itr lo (hi-lo).toNat).stop j H/\D.nx σ H)\/((Itr lo (hi-lo).toNat).go j H/\∃N:St->Hp->Prop,(∀σ' H',N σ' H'->∃m',m'<m/\W (j+1) m' σ' H')/\∀x H',(Itr lo (hi-lo).toNat).yld j H x H'->gName i x σ H' λσ2 H2=>liftS K Z EE s1 {D with nx:=N,ct:=N,bk:=D.nx} σ2 H2):=by
 obtain⟨Pv,h0,h1,h2,h3⟩:=x8a (i:=i) (D:=D) r1 (x14 (lo:=lo) (hi:=hi)) h (λ_=>True) (λ_ _ _ _=>trivial)
 refine y0s Pv h0 (λj σ' H' hj p=>h2 j _ σ' H' ?_ p) (λσ' H' p=>h3 σ' H' (by simpa using p))
 simp[hj]
theorem q93(i:Nat){p p1 p2:Pos}(hN:X.N.Nodup)(hp:PassesOwn (model X.prog X.w) X.A X.env X.xe)(hc:X.calm=true)(hm:X.mg "range"=none)(ha:DA Z X EE [a] dA)(hb:DSs Z X EE body s1)
  (hi:X.N[i]?=some x:=by rfl)(hx:Loc X.env.scope x:=by walk_at "3")(hf:X.fn x=true\/X.env.scope.names.lookup x=some .local:=by walk_at "2")(hg:Gl X "range":=by rfl)(hs1:starEach [a] X.env=[(false,eval a X.env)]:=by rfl)(hs:∀x,foldedSetIterable (.Call (.Name "range" p1) [a] [] p2) X.env x=pure x:=by intro _;rfl):
  DS Z X EE (.For (.Name x p) (.Call (.Name "range" p1) [a] [] p2) body [] pos) (dForR i rng1 dA s1):=by
 refine PS.mono (x1v hp hc (x3p hg hm ha hs1) (q15 i hN hi hx hf) hb hs) ?_;rintro D σ H ⟨G,e,rel,h⟩;refine⟨G,e,rel,(q0w h).imp (λws e1 h G1 vs H1 r1 q1 p1=>?_) λ_ _ h=>h⟩
 unfold rng1 at h;split at h
 ·rename_i hh;split at hh
  ·rename_i j;split at hh
   ·rename_i hj;cases hh;obtain⟨y,r,rfl,e1,e2⟩:=p1;cases(show y=V.int j from e1);cases(show r=[]from e2);refine⟨j,rfl,(q4v hj).1,(q4v hj).2,?_⟩;have z:=x8b (i:=i) (D:=D) r1 (PostS.trans q1 h)
    rwa [Int.sub_zero]at z
   ·cases hh
  ·cases hh
 ·exact h.elim
theorem y8e(i:Nat){p p1 p2:Pos}(hN:X.N.Nodup)(hp:PassesOwn (model X.prog X.w) X.A X.env X.xe)(hc:X.calm=true)(hm:X.mg "range"=none)(ha:DA Z X EE [a,c] dA)(hb:DSs Z X EE body s1)
  (hi:X.N[i]?=some x:=by rfl)(hx:Loc X.env.scope x:=by walk_at "3")(hf:X.fn x=true\/X.env.scope.names.lookup x=some .local:=by walk_at "2")(hg:Gl X "range":=by rfl)(hs1:starEach [a,c] X.env=[(false,eval a X.env),(false,eval c X.env)]:=by rfl)(hs2:starEach [c] X.env=[(false,eval c X.env)]:=by rfl)(hs:∀x,foldedSetIterable (.Call (.Name "range" p1) [a,c] [] p2) X.env x=pure x:=by intro _;rfl):
  DS Z X EE (.For (.Name x p) (.Call (.Name "range" p1) [a,c] [] p2) body [] pos) (dForR i rng2 dA s1):=by
 refine PS.mono (x1v hp hc (y0q hg hm ha hs1 hs2) (q15 i hN hi hx hf) hb hs) ?_;rintro D σ H ⟨G,e,rel,h⟩;refine⟨G,e,rel,(q0w h).imp (λws e1 h G1 vs H1 r1 q1 p1=>?_) λ_ _ h=>h⟩
 unfold rng2 at h;split at h
 ·rename_i hh;split at hh
  ·rename_i j k;split at hh
   ·rename_i hj;cases hh;obtain⟨y,r,rfl,e1,y2,r2,rfl,e2,e3⟩:=p1;cases(show y=V.int j from e1);cases(show y2=V.int k from e2);cases(show r2=[]from e3);exact⟨j,k,rfl,⟨(q4v hj.1).1,(q4v hj.1).2,(q4v hj.2).1,(q4v hj.2).2⟩,x8b (i:=i) (D:=D) r1 (PostS.trans q1 h)⟩
   ·cases hh
  ·cases hh
 ·exact h.elim
end
open PyProof.Rows (envOfC)
inductive FR where
 |ok (s:S)|ex (c:Value)|no
noncomputable def spF(K:PySem.W.Frag)(F:List W->FR):Sp:=λvs H Q E=>∃G ws,Same G H/\Reps K G ws vs/\match F ws with
 |.ok s=>∀G' H' v,Grow G H G' H'->SlotOk K ⟨H,G,[]⟩ G' H' s (some v)->Q v H'
 |.ex c=>∀H',Same H H'->E c none H'
 |.no=>False
noncomputable def SR.fn:SR->FR
 |.nx _=>.ok (.fr .non)
 |.rt s _=>.ok s
 |.ex c _=>.ex c
 |_=>.no
noncomputable def init(n:Nat)(ws:List W):List S:=ws.map .fr++List.replicate (n-ws.length) .no
theorem x5x(s:Same G H)(r:Reps K G ws vs):Rel K ⟨H,G,[]⟩ G (L2.start N vs) H (init N.length ws):=by
 have hl:=r.length
 have hfr:∀(i:Nat)(s:S),(init N.length ws)[i]?=some s->(s=.no)\/∃w,s=.fr w/\ws[i]?=some w:=λi s h=>by
  grind [init]
 refine⟨s,λi t h=>?_,?_,λi j b b' w1 w2 a h1 h2 _ _=>?_,λa o h _=>h,(λa h=>nomatch h),λa _=>rfl⟩
 ·rcases hfr i t h with rfl|⟨w,rfl,h1⟩
  ·trivial
  ·obtain⟨v,h2,h3⟩:=r.get h1;refine⟨v,?_,h3⟩
   grind [L2.start]
 all_goals grind [init,L2.start]
theorem Rel.toGrow(r:Rel K ⟨H,G,[]⟩ G' σ H' e)(s:Same G G'):Grow G H G' H':=
 ⟨λa o h=>r.ent a o h (by simp),s,r.sub,λa h=>r.gen a h⟩
theorem x5y(h:spF K F vs H Q E):∃G ws,F ws≠.no/\Reps K G ws vs:=by
 obtain⟨G,ws,_,r,h⟩:=h
 grind
theorem x8c{F:List W->FR}(he:r.fn=F ws)(h:match F ws with
  |.ok s=>∀G' H' v,Grow G H G' H'->SlotOk K ⟨H,G,[]⟩ G' H' s (some v)->Q v H'
  |.ex c=>∀H',Same H H'->E c none H'
  |.no=>False):PostS K ⟨H,G,[]⟩ (λ_=>E) {nx:=λ_ H'=>Q .non H',rt:=Q} G r:=by
 rw[<- he]at h;cases r with
 |nx e=>exact λG' σ' H' r s=>h G' H' .non (r.toGrow s) ⟨.non,rfl,rfl⟩
 |rt s e=>exact λG' σ' v H' r q p=>h G' H' v (r.toGrow q) p
 |ex c e=>exact λG' σ' H' r s=>h H' (r.toGrow s).hh
 |bk e=>exact h.elim
 |ct e=>exact h.elim
 |no=>exact h.elim
theorem con(A:At K mg x st ps)(sc:FnScope N ps (defScope st))(len:∀ws,F ws≠.no->ws.length=ps.length)
  (hb:∀ws,F ws≠.no->∀(f:Addr)(cdv:Value)(A:Around)(outer:List Env)(s:Shared)(H:Hp)(E:XK)(Z:Zt),Room k (A.deeper (envOfC x (defScope st) s.heap.objs.size f cdv)) ->
   ∃d,DSs Z (cxOf (CX1 P w) P w K mg base N x (defScope st) f cdv A outer s H E) (λ_=>E) (defBody st) d/\(d (init N.length ws)).fn=F ws):Cal P w K mg base (k+1) x ps (spF K F):=by
 refine A.cal sc (λvs H Q E h=>?_) (λf cdv A outer s H vs Q E hr h=>?_)
 ·grind [x5y,Reps.length]
 ·have hn0:=h;obtain⟨G,ws,sg,rp,h⟩:=h;have hn:F ws≠.no:=λz=>by rw[z]at h;exact h
  obtain⟨d,hd,he⟩:=hb ws hn f cdv A outer s H E ⟨H,G,[]⟩ hr;exact⟨_,hd,G,init N.length ws,x5x sg rp,x8c he h⟩
noncomputable def dCall(F:List W->FR)(dA:Den (List W)):Den W:=λe=>(dA e).bind λws e1=>match F ws with
 |.ok (.fr w)=>.ok w e1
 |.ok (.own none ws')=>.ok (.lst ws') e1
 |.ok (.dic kvs)=>.ok (.dic kvs) e1
 |.ex c=>.ex c e1
 |_=>.no
section
variable{X:Cx}{e:Expr}{p:Pos}{k:Nat}{ps:List Str}{F:List W->FR}
theorem x5z(r1:Rel K Z G1 σ H1 e1)(g:Grow G1 H1 G' H')(q:SlotOk K ⟨H1,G1,[]⟩ G' H' s (some v))(hs:s=.fr w\/∃ws,s=.own none ws/\w=.lst ws):
  ∃G'',Rel K Z G'' σ H' e1/\Same G1 G''/\Rep K G'' w v:=by
 rcases hs with rfl|⟨ws,rfl,rfl⟩
 ·obtain⟨u,h1,h2⟩:=q;cases h1;exact⟨G',r1.grow g,g.gg,h2⟩
 ·obtain⟨a,xs,h1,h2,h3,h4,h5⟩:=q;cases h1;have hn:H1 a=none:=h4;obtain⟨sg,rg⟩:=(r1.grow g).seen h2 h3 (q7u r1 hn) (x1c r1 hn);exact⟨_,rg,g.gg.trans sg,⟨a,xs,rfl,SqL.of q0k,Reps.mono sg ws h5⟩⟩
theorem y07(r1:Rel K Z G1 σ H1 e1)(g:Grow G1 H1 G' H')(q:SlotOk K ⟨H1,G1,[]⟩ G' H' (.dic kvs) (some v)):
  ∃G'',Rel K Z G'' σ H' e1/\Same G1 G''/\Rep K G'' (.dic kvs) v:=by
 obtain⟨a,h1,h2,h3,h4⟩:=q;cases h1;have hn:H1 a=none:=h4;have r:=r1.grow g;have sg:Same G' (upd G' a (dO kvs)):=q28 h3 _;refine⟨upd G' a (dO kvs),⟨λc o z=>?_,λj s z=>?_,r.len,r.dis,r.ent,r.ion,λc z=>?_⟩,g.gg.trans sg,⟨a,rfl,q0k⟩⟩
 ·by_cases hc:c=a
  ·grind [q0k]
  ·rw[q0g hc]at z;exact r.sub c o z
 ·have y:=r.slot j s z;have y1:=r1.slot j s z;cases s with
  |no=>trivial
  |fr w=>
   obtain⟨u,y1,y2⟩:=y;exact⟨u,y1,Rep.mono sg w y2⟩
  |own b2 w2=>
   obtain⟨c,ys,x1,x2,x3,x4,x5⟩:=y;refine⟨c,ys,x1,x2,?_,x4,Reps.mono sg w2 x5⟩;rw[q0g (q3o x2 h2 (λz=>q78 rfl z.symm))];exact x3
  |dic kv=>
   obtain⟨c,x1,x2,x3,x4⟩:=y;obtain⟨c',w1,w2,_⟩:=y1;rw[x1]at w1;cases w1;refine⟨c,x1,x2,?_,x4⟩;rw[q0g (q0p w2 hn)];exact x3
  |dw sh ks ws=>
   obtain⟨c,kv,ka,x1,x2,x3,x4,x5,x6,x7⟩:=y;obtain⟨c',kv',ka',w1,w2,_⟩:=y1;rw[x1]at w1;cases w1;refine⟨c,kv,ka,x1,x2,?_,x4,x5,x6.mono sg,x7.move sg λ_ _ _ z=>z⟩
   rw[q0g (q0p w2 hn)];exact x3
 ·by_cases hc:c=a
  ·grind [q7u]
  ·rw[q0g hc];exact r.gen c z
theorem z7e(r1:Rel K Z G1 σ H1 e1)(s1:Same G G1)(h:XH K Z EE σ G c e1):∀H',Same H1 H'->EE σ c none H':=λH' sh=>
 h G1 H' (r1.grow ⟨sh,.refl _,r1.sub.trans sh,λ_ _=>rfl⟩) s1
theorem q0l(C:Cal X.prog X.w X.K X.mg X.base k x ps (spF X.K F))(hr:Room k X.A)(hx:PassX (CX1 X.prog X.w) X EE)(ha:DA Z X EE (e::es) dA)(hg:Gl X x:=by rfl)
  (hdb:(x==("__debug__":Str))=false:=by decide)(he:starEach (e::es) X.env=(false,eval e X.env)::starEach es X.env:=by rfl)(hpl:(backTo pos (starEach es X.env)).any (·.1)=false:=by rfl):
  DE Z X EE (.Call (.Name x p) (e::es) [] pos) (dCall F dA):=by
 refine PE.mono (x5u C hr hx ha hg hdb he hpl) ?_;rintro σ H Q ⟨G,e,rel,h⟩;simp only[dCall,R.holds_bind]at h;refine⟨G,e,rel,h.imp (λws e1 h G1 vs H1 r1 s1 p1=>?_) λ_ _ h=>h⟩
 refine⟨G1,ws,r1.sub,by grind,?_⟩;cases q:F ws with
 |ok s=>
  rw[q]at h;intro G' H' v g sl;cases s with
  |no=>exact h.elim
  |fr w=>
   obtain⟨G'',r2,s2,p2⟩:=x5z r1 g sl (.inl rfl);exact(show ∀G' v H',_->_->Rep X.K G' w v->Q v H' from h) G'' v H' r2 (s1.trans s2) p2
  |own b ws'=>
   cases b with
   |some _=>exact h.elim
   |none=>
    obtain⟨G'',r2,s2,p2⟩:=x5z r1 g sl (.inr ⟨ws',rfl,rfl⟩);exact(show ∀G' v H',_->_->Rep X.K G' (.lst ws') v->Q v H' from h) G'' v H' r2 (s1.trans s2) p2
  |dic kvs=>
   obtain⟨G'',r2,s2,p2⟩:=y07 r1 g sl;exact(show ∀G' v H',_->_->Rep X.K G' (.dic kvs) v->Q v H' from h) G'' v H' r2 (s1.trans s2) p2
  |dw _ _ _=>exact h.elim
 |ex c=>
  rw[q]at h;exact z7e r1 s1 h
 |no=>rw[q]at h;exact h.elim
noncomputable def dRaise(C:Addr)(d:Den (List W)):List S->SR:=λe=>(d e).stm λws e1=>if ws.length<=16777216 then .ex (.ref C) e1 else .no
theorem q6w{C Ac:Addr}{np cpos:Pos}(hx:RaisX X EE)(hC:excIn X.K C Ac=true)(hm:X.mg x=some (.ref C))(hc:X.calm=true)(ha:DA Z X EE (e::es) dA)(hg:Gl X x:=by rfl)
  (hdb:(x==("__debug__":Str))=false:=by decide)(he:starEach (e::es) X.env=(false,eval e X.env)::starEach es X.env:=by rfl)(hpl:(backTo cpos (starEach es X.env)).any (·.1)=false:=by rfl):
  DS Z X EE (.Raise (some (.Call (.Name x np) (e::es) [] cpos)) none pos) (dRaise C dA):=by
 refine PS.mono (y4e hx hc hg hm hC ha hdb he hpl) ?_;rintro D σ H ⟨G,e,rel,h⟩;refine⟨G,e,rel,(q0w h).imp (λws e1 h G1 vs H1 r1 s1 p1=>?_) λ_ _ h=>h⟩
 split at h
 ·rename_i hl;exact⟨by rw[p1.length,sizeLine_eq];exact hl,h G1 σ H1 r1 s1⟩
 ·exact h.elim
end
end D
namespace L2
open PySem PySem.Spec PyProof.Rows
section
variable{X:Cx}{elt target iter:Expr}{ifs:List Expr}{scope:Scope}{pos:Pos}{wi:TI}{g:TG}{tc:TT}{te:TE}
theorem y4n{Nl Nf:List Str}{js:List Nat}{y:Str}{py spos:Pos}{gy:TG}(hc:X.calm=true)(hi:PI X target iter wi)
  (hk:scope.kind=.function)(hcell:∀y∈scope.names,y.2≠.cell)(hnames:∀x∈scope.names,x.2=.local->scope.names.lookup x.1=some .local)
  (hfree:∀x∈scope.names,x.2=.free->X.env.kindOf x.1=some .cell\/X.env.kindOf x.1=some .free)
  (hj:∀(i j:Nat) y,Nf[i]?=some y->js[i]?=some j->X.N[j]?=some y)(hlen:js.length=Nf.length)
  (hNf:∀y∈Nf,(y,NameKind.free)∈scope.names/\Vis X.env.scope y/\X.env.kindOf y≠some .local)
  (hvis:∀y∈Nf,(relabel scope X.env).names.lookup y=some .cell\/(relabel scope X.env).names.lookup y=some .free)
  (hg:∀cl C s₀ H₀ ex,PG (X.cp (Nl++Nf) scope cl C s₀ H₀ ex) target g)(ht:∀cl C s₀ H₀ ex,PTs (X.cp (Nl++Nf) scope cl C s₀ H₀ ex) ifs tc)(he:∀cl C s₀ H₀ ex,PE (X.cp (Nl++Nf) scope cl C s₀ H₀ ex) elt te)
  (hgy:PG X (.Name y py) gy)(hsw:swapsWith (.ListComp elt [⟨target,iter,ifs,0⟩] scope pos) (some (.Name y py)) spos.line X.env=pure true)
  (hs:∀x,foldedSetIterable iter X.env x=pure x:=by intro _;rfl):
  PS X (.Assign [.Name y py] (.ListComp elt [⟨target,iter,ifs,0⟩] scope pos) spos) (tAsg (tComp wi Nl.length js g tc te) gy):=by
 intro pins s σ H D I h;obtain⟨cl,hclos,hcl,hcf⟩:=x1z (scope:=scope) (env:=X.env) λx hx hf=>I.ok.has x.1 (hfree x hx hf)
 rw[exec_Assign_Name_used _ _ _ _ hsw];refine wpAny_bind (wpAny_standAt (wpAny_bind ?_));show wpAny _ _ (do let _ <- comprehension _ _ _ _ _ _ _ _) _ _ _;refine wpAny_bind (wpAny_comprehension_free (Q:=λ_ s''=>wpAny (model X.prog X.w) X.A (pure ()) (λ_ s3=>wpAny (model X.prog X.w) X.A (pure Flow.next) (SP X pins D) X.xe s3) X.xe s'') (use:=some (assign (.Name y py) X.env)) rfl hs hclos hk hnames (thn (hi pins s σ H _ I h) λv s1 h1=>thn h1 λitv s2 h2=>?_))
 obtain⟨it,fp,tn,J,H2,e,I2,T,st2,f2,rd⟩:=h2;subst e;refine wpAny_newObj_type (wpAny_newFunctionEnv hcell (by intro y hy;simp at hy) (λh₁ hns₁ hsb₁=>?_) hk)
 dsimp only at hns₁ hsb₁ |-
 have szp:(s2.heap.push {cls:=.type "list", dict:=none,data:=.seq ([]:List Value).toArray}).objs.size=s2.heap.objs.size+1:=Heap.size_push ..;rw[szp]at hns₁ hsb₁ |-
 have fD:H2 s2.heap.objs.size=none:=I2.hok.fresh (w0a _);obtain⟨W,⟨m0,w0⟩,turn⟩:=rd s2.heap.objs.size fD;have obj2:=T.obj 0 s2.heap st2;have IS:=x5s (Nl:=Nl) (Nf:=Nf) (js:=js) (cl:=cl) (tk:=s2.toks+([]:List (Str×Value)).length) I2 f2 obj2 hk hcell hcl hcf hj hlen hNf hvis hns₁ hsb₁
 have upS:∀b u,s2.heap.get? b=some u->h₁.get? b=some u:=λb u q=>by
  have hlt:=Heap.lt_size q;exact(hsb₁.2 b (w0t (w1n hlt))).trans (Heap.get?_push_of_some _ (Heap.get?_push_of_some _ q))
 have stS:tn 0 h₁:=T.keep 0 s2.heap h₁ st2 λb hb o q=>upS b o q
 have noD:∀b∈fp,upd H2 s2.heap.objs.size (.lst []) b=none:=λb hb=>by
  obtain⟨o,q,_⟩:=obj2 b hb;rw[q0g (w0t (Heap.lt_size q))];exact(f2 b hb).1
 have stat:∀{H':Hp},(∀b∈fp,H' b=none)->∀b∈fp,FpOk (X.cp (Nl++Nf) scope cl (s2.heap.objs.size+1) {s2 with heap:=s2.heap.push {cls:=.type "list", dict:=none,data:=.seq ([]:List Value).toArray}} (upd H2 s2.heap.objs.size (.lst [])) fp) [] H' b:=λhn b hb=>by
  refine⟨hn b hb,(IS.ok.exf b hb).1,IS.ok.exfs b hb,.inl hb,(IS.ok.exf b hb).2,λp hp=>(by cases hp)⟩
 have loop:∀s4:Shared,s4={s2 with heap:=h₁,toks:=s2.toks+([]:List (Str×Value)).length} ->
   codeAny (model X.prog X.w) X.A (.compLoop (.ListComp elt [⟨target,iter,ifs,0⟩] scope pos) 0 (.ref it) (.ref s2.heap.objs.size) (compEnvC scope cl (s2.heap.objs.size+1) X.env))
    (compPost (model X.prog X.w) X.A X.xe (some (assign (.Name y py) X.env)) (λ_ s''=>wpAny (model X.prog X.w) X.A (pure ()) (λ_ s3=>wpAny (model X.prog X.w) X.A (pure Flow.next) (SP X pins D) X.xe s3) X.xe s'') (.ref s2.heap.objs.size) (s2.heap.objs.size+1)) s4:=by
  rintro s4 rfl;refine x3z (λn s'=>∃i H',Inv (X.cp (Nl++Nf) scope cl (s2.heap.objs.size+1) {s2 with heap:=s2.heap.push {cls:=.type "list", dict:=none,data:=.seq ([]:List Value).toArray}} (upd H2 s2.heap.objs.size (.lst [])) fp) [] (List.replicate Nl.length none++pj js σ) H' s'/\tn i s'.heap/\(∀b∈fp,H' b=none)/\W i n H') ?_ m0 ⟨0,_,IS,stS,noD,w0⟩
  rintro n s3 ⟨i,H3,I3,st3,fr3,w3⟩;rcases turn i n H3 w3 with⟨stop,qn⟩|⟨go,step⟩
  ·refine thn (T.done (X.cp (Nl++Nf) scope cl (s2.heap.objs.size+1) {s2 with heap:=s2.heap.push {cls:=.type "list", dict:=none,data:=.seq ([]:List Value).toArray}} (upd H2 s2.heap.objs.size (.lst [])) fp) rfl rfl rfl hc i [] s3 _ H3 _ I3 (stat fr3) st3 stop) λr s5 ⟨hr,I5⟩=>?_
   subst hr;obtain⟨m5,hn5,_⟩:=I5.loc;obtain⟨o5,es5,ep5,ho5,hd5,hk5,hf5⟩:=id hn5;have J5:Inv X pins σ H3 s5:=y02 I2 f2 I5 (h':=s5.heap) ⟨rfl,λ_ _=>rfl⟩
   have fC:FpOk X pins H3 (s2.heap.objs.size+1):=I2.fpOk (w5i _) I5.free;have f1:∀b∈[s2.heap.objs.size+1],FpOk X pins H3 b:=λb hb=>by grind
   have J6:=J5.pinned f1 (λb hb=>by rw[w1k.mp hb];exact⟨o5,ho5,λv z=>by rw[hd5]at z;cases z⟩)
   refine thn (hgy _ s5 σ H3 (.ref s2.heap.objs.size) _ _ J6 rfl qn) λ_ s6 ⟨σ6,H6,I6,q6⟩=>?_
   have pC:=I6.pin (s2.heap.objs.size+1,o5) (w0c _ (w0c _ (q2m (w1k.mpr rfl) ho5)));refine⟨m5,⟨o5,es5,ep5,pC.1,hd5,hk5,hf5⟩,λh' hs'=>wpAny_pure (wpAny_pure ⟨σ6,H6,?_,q6⟩)⟩
   obtain⟨g0,g1,g2,g3,g4,g5⟩:=fC;exact I6.unpinned.turned (t':=s6.toks) (λb o hb e=>(hs'.2 b hb).trans e) pC.2.1 g1 g3 g4 g5
  ·refine thn (T.item (X.cp (Nl++Nf) scope cl (s2.heap.objs.size+1) {s2 with heap:=s2.heap.push {cls:=.type "list", dict:=none,data:=.seq ([]:List Value).toArray}} (upd H2 s2.heap.objs.size (.lst [])) fp) rfl rfl rfl hc i [] s3 _ H3 _ I3 (stat fr3) st3 go) λr s5 ⟨u,hr,h5⟩=>?_
   subst hr;refine thn h5 λ_ s6 ⟨x,H6,I6,r6,y6,st6,fr6⟩=>?_
   have I6':=I6.pinned (stat fr6) (T.obj _ _ st6);refine thn (hg _ _ _ _ _ _ s6 _ H6 x u _ I6' r6 (step x H6 y6)) λ_ s7 ⟨σ7,H7,I7,kp,q7⟩=>?_
   refine thn (ht _ _ _ _ _ _ s7 σ7 H7 _ I7 q7) λok s8 ⟨H8,I8,q8⟩=>?_
   have again:∀{σ9:St}{H9:Hp}{s9:Shared},Inv (X.cp (Nl++Nf) scope cl (s2.heap.objs.size+1) {s2 with heap:=s2.heap.push {cls:=.type "list", dict:=none,data:=.seq ([]:List Value).toArray}} (upd H2 s2.heap.objs.size (.lst [])) fp) ([]++pinsAt fp s6.heap) σ9 H9 s9 ->
     Kp (List.replicate Nl.length none++pj js σ) σ9->(∃m',m'<n/\W (i+1) m' H9)->∃m,m<n/\∃i H',Inv (X.cp (Nl++Nf) scope cl (s2.heap.objs.size+1) {s2 with heap:=s2.heap.push {cls:=.type "list", dict:=none,data:=.seq ([]:List Value).toArray}} (upd H2 s2.heap.objs.size (.lst [])) fp) [] (List.replicate Nl.length none++pj js σ) H' s9/\tn i s9.heap/\(∀b∈fp,H' b=none)/\W i m H':=λ{σ9 H9 s9} I9 hw ⟨m',hm,w9⟩=>by
    refine⟨m',hm,i+1,H9,I9.unpinned.weak (by rw[I9.len,<- IS.len]) hw,T.keep _ _ _ st6 λb hb o q=>(I9.pin (b,o) (w0c _ (w0c _ (q2m hb q)))).1,λb hb=>?_,w9⟩
    obtain⟨o,q,d⟩:=T.obj _ _ st6 b hb;exact(I9.pin (b,o) (w0c _ (w0c _ (q2m hb q)))).2.1
   cases ok with
   |false=>exact again I8 kp (by simpa using q8)
   |true=>
    have q8':=by simpa only[if_true]using q8
    refine thn (he _ _ _ _ _ _ s8 σ7 H8 _ I8 q8') λy s9 ⟨yv,H9,I9,r9,ys,hD,hz,q9⟩=>?_
    refine thn (q8y _ s9 σ7 H9 (.ref s2.heap.objs.size) [yv] (.ref s2.heap.objs.size) [y] (λv H'=>v=.non/\H'=upd H9 s2.heap.objs.size (.lst (ys++[yv]))) I9 rfl (.cons r9 .nil) ⟨_,ys,yv,rfl,rfl,hD,hz,rfl,rfl⟩) λ_ s10 ⟨_,H10,I10,_,_,e10⟩=>?_
    subst e10;exact again I10 kp q9
 exact codeAny_compStart_list (loop _ rfl) (T.self X.A 0 _ _ _ stS (loop _ rfl))
end
theorem x32{X:Cx}{y:Str}{py spos:Pos}{gy:TG}{elt target iter:Expr}{ifs:List Expr}{scope sc:Scope}{pos:Pos}{wi:TI}{g:TG}{tc:TT}{te:TE}{Nl Nf N:List Str}{js:List Nat}(hc:X.calm=true)(hi:PI X target iter wi)
  (ok:compOk sc scope N Nf js=true)
  (hg:∀cl C s₀ H₀ ex,PG (X.cp (Nl++Nf) scope cl C s₀ H₀ ex) target g)(ht:∀cl C s₀ H₀ ex,PTs (X.cp (Nl++Nf) scope cl C s₀ H₀ ex) ifs tc)(he:∀cl C s₀ H₀ ex,PE (X.cp (Nl++Nf) scope cl C s₀ H₀ ex) elt te)
  (hgy:PG X (.Name y py) gy)(hsw:swapsWith (.ListComp elt [⟨target,iter,ifs,0⟩] scope pos) (some (.Name y py)) spos.line X.env=pure true)
  (hsc:X.env.scope=sc:=by rfl)(hN:X.N=N:=by rfl)(hs:∀x,foldedSetIterable iter X.env x=pure x:=by intro _;rfl):
  PS X (.Assign [.Name y py] (.ListComp elt [⟨target,iter,ifs,0⟩] scope pos) spos) (tAsg (tComp wi Nl.length js g tc te) gy):=by
 unfold compOk at ok;simp only[w0l,w0y,beq_iff_eq,bne_iff_ne,w4n,w1h]at ok;obtain⟨⟨⟨⟨⟨⟨k1,k2⟩,k3⟩,k4⟩,k5⟩,k6⟩,k7⟩:=ok;have kind:∀x,X.env.kindOf x=sc.names.lookup x:=λx=>by rw[<- hsc];rfl
 refine y4n hc hi k1 k2 (λx hx hl=>(k3 x hx).resolve_left λz=>z hl) (λx hx hf=>?_) (λi j y e1 e2=>?_) k5 (λy hy=>?_) (λy hy=>?_) hg ht he hgy hsw hs
 ·grind
 ·grind
 ·obtain⟨z1,z2⟩:=k7 y hy;refine⟨PySem.mem_of_lookup z1,?_,?_⟩
  ·rw[hsc];rcases z2 with z|z
   ·exact .inr (.inl z)
   ·exact .inr (.inr z)
  grind
 ·exact q6u (k7 y hy).1
noncomputable def rCatS(K:PySem.W.Frag):R2:=λx y H Q=>∃l b xs zs,x=.ref l/\y=.ref b/\SqL K H l xs/\SqL K H b zs/\xs.length+zs.length<=sizeLine/\∀p,H p=none->Q (.ref p) (upd H p (.lst (xs++zs)))
theorem y8f:OpR X (binaryOp .Add) (rCatS X.K):=by
 intro pins s σ H x y v u Q I rx ry h;obtain⟨l,b,xs,zs,rfl,rfl,h1,h2,hz,q⟩:=h;cases rx;cases ry;obtain⟨its,r1,p1,_⟩:=I.list h1;obtain⟨its2,r2,p2,_⟩:=I.list h2;obtain⟨⟨cls,dd,data,sl⟩,ho,hc,n,hd⟩:=id p1.isList;obtain⟨⟨cls2,dd2,data2,sl2⟩,ho2,hc2,n2,hd2⟩:=id p2.isList;simp only at hc hd hc2 hd2;subst hc hd hc2 hd2;have l1:=r1.length;have l2:=r2.length;refine concat_meets ⟨_,ho,rfl⟩ ⟨_,ho2,rfl⟩ noFill_list_add seq_list_add PySem.F.slot_list_add PySem.F.entry_list_add (PySem.F.args_list_add_2 _ _) (list_addW l b its.toArray its2.toArray n n2 dd dd2 sl sl2 (by grind)) ⟨ho,ho2,?_⟩;have ea:its.toArray++its2.toArray=(its++its2).toArray:=by simp
 rw[ea];exact⟨.ref _,_,I.lnew (t':=s.toks) (r1.append r2) (by grind),rfl,q _ I.fresh⟩
end L2
namespace D
open PySem L2
variable{A:Around}{X:Cx}{dA:Den (List W)}{cc:Den Bool}{da db:Den W}{G H:Hp}{EE:L2.St->XK}{elts es:List Expr}{js:List Nat}{e:List S}{q:List S->SR}{ws:List W}{i kt:Nat}{apos cpos p1 p2 pn pos:Pos}{K:PySem.W.Frag}{s:Shared}{σ:St}{T:String}{α:Type}{cv:Value}{Z:Zt}
noncomputable def addW:W->W->Option W
 |.int i,.int j=>some (.int (i+j))
 |.str x,.str y=>if x.length+y.length<=16777216 then some (.str (x++y))else none
 |.tup xs,.tup ys=>if xs≠[]/\xs.length+ys.length<=16777216 then some (.tup (xs++ys))else none
 |.lst xs,.lst ys=>if xs.length+ys.length<=16777216 then some (.lst (xs++ys))else none
 |_,_=>none
noncomputable def subW:W->W->Option W
 |.int i,.int j=>some (.int (i-j))
 |_,_=>none
noncomputable def mulW:W->W->Option W
 |.int i,.int j=>if(-(2^64)<i/\i<2^64)\/(-(2^64)<j/\j<2^64)then some (.int (i*j))else none
 |_,_=>none
noncomputable def fdivW:W->W->Option W
 |.int i,.int j=>if 0<j/\j<1073741824 then some (.int (i / j))else none
 |_,_=>none
noncomputable def modW:W->W->Option W
 |.int i,.int j=>if 0<j then some (.int (i%j))else none
 |_,_=>none
noncomputable def powW:W->W->Option W
 |.int i,.int j=>if 0<=j/\j<=1000000/\i.natAbs<2^64 then some (.int (i^j.toNat))else none
 |_,_=>none
noncomputable def ltW:W->W->Option W
 |.int i,.int j=>some (.bl (decide (i<j)))
 |_,_=>none
noncomputable def gtW:W->W->Option W
 |.int i,.int j=>some (.bl (decide (j<i)))
 |_,_=>none
noncomputable def geW:W->W->Option W
 |.int i,.int j=>some (.bl (decide (j<=i)))
 |_,_=>none
noncomputable def negW:W->Option W
 |.int i=>some (.int (-i))
 |_=>none
theorem y08:Op2 K (λx y H Q=>rI0 (λi j=>.int (i+j)) x y H Q\/((∃i j,x=.str i/\y=.str j/\i.length+j.length<=sizeLine/\Q (.str (i++j)) H)\/(rCatT K x y H Q\/rCatS K x y H Q))) addW:=by
 intro G H x y wx wy w Q s px py hf h;unfold addW at hf;split at hf
 ·cases hf;cases px;cases py;exact .inl ⟨_,_,rfl,rfl,h G _ H (.refl s) rfl⟩
 ·split at hf
  ·rename_i hl;cases hf;cases px;cases py;exact .inr (.inl ⟨_,_,rfl,rfl,by grind [sizeLine_eq],h G _ H (.refl s) rfl⟩)
  ·cases hf
 ·rename_i us ws;split at hf
  ·rename_i hl;cases hf;obtain⟨a,xs,rfl,ha,ra⟩:=px;obtain⟨b,ys,rfl,hb,rb⟩:=py;have l1:=ra.length;have l2:=rb.length;refine .inr (.inr (.inl ⟨a,b,xs,ys,rfl,rfl,s.tup ha,s.tup hb,λz=>hl.1 ?_,by rw[l1,l2,sizeLine_eq];exact hl.2,λz=>?_,λz p hp=>?_⟩))
   ·grind
   ·subst z;have:ws=[]:=by grind
    subst this;exact h G _ H (.refl s) ⟨a,xs,rfl,ha,by simpa using ra⟩
   ·have g:=Grow.laid s hp (.tup (xs++ys));exact h _ _ _ g ⟨p,_,rfl,SqT.of q0k,Reps.append (Reps.mono g.gg _ ra) (Reps.mono g.gg _ rb)⟩
  ·cases hf
 ·split at hf
  ·rename_i hl;cases hf;obtain⟨a,xs,rfl,ha,ra⟩:=px;obtain⟨b,ys,rfl,hb,rb⟩:=py;have l1:=ra.length;have l2:=rb.length;refine .inr (.inr (.inr ⟨a,b,xs,ys,rfl,rfl,s.seq ha,s.seq hb,by grind [sizeLine_eq],λp hp=>?_⟩))
   have g:=Grow.laid s hp (.lst (xs++ys));exact h _ _ _ g ⟨p,_,rfl,SqL.of q0k,Reps.append (Reps.mono g.gg _ ra) (Reps.mono g.gg _ rb)⟩
  ·cases hf
 ·cases hf
theorem z3j:Op2 K (rI0 λi j=>.int (i-j)) subW:=by
 intro G H x y wx wy w Q s px py hf h;unfold subW at hf;split at hf
 ·cases hf;cases px;cases py;exact⟨_,_,rfl,rfl,h G _ H (.refl s) rfl⟩
 ·cases hf
theorem z3k:Op2 K (rI CMul λi j=>.int (i*j)) mulW:=by
 intro G H x y wx wy w Q s px py hf h;unfold mulW at hf;split at hf
 ·split at hf
  ·rename_i hc;cases hf;cases px;cases py;exact⟨_,_,rfl,rfl,hc,h G _ H (.refl s) rfl⟩
  ·cases hf
 ·cases hf
theorem y8g:Op2 K (rI CDiv λi j=>.int (i / j)) fdivW:=by
 intro G H x y wx wy w Q s px py hf h;unfold fdivW at hf;split at hf
 ·split at hf
  ·rename_i hc;cases hf;cases px;cases py;exact⟨_,_,rfl,rfl,hc,h G _ H (.refl s) rfl⟩
  ·cases hf
 ·cases hf
theorem z3l:Op2 K (rI (λ_ j=>0<j) λi j=>.int (i%j)) modW:=by
 intro G H x y wx wy w Q s px py hf h;unfold modW at hf;split at hf
 ·split at hf
  ·rename_i hc;cases hf;cases px;cases py;exact⟨_,_,rfl,rfl,hc,h G _ H (.refl s) rfl⟩
  ·cases hf
 ·cases hf
theorem z3m:Op2 K (rI CPow λi j=>.int (i^j.toNat)) powW:=by
 intro G H x y wx wy w Q s px py hf h;unfold powW at hf;split at hf
 ·split at hf
  ·rename_i hc;cases hf;cases px;cases py;exact⟨_,_,rfl,rfl,hc,h G _ H (.refl s) rfl⟩
  ·cases hf
 ·cases hf
theorem y7a:Op2 K (rI0 λi j=>.bl (decide (i<j))) ltW:=by
 intro G H x y wx wy w Q s px py hf h;unfold ltW at hf;split at hf
 ·cases hf;cases px;cases py;exact⟨_,_,rfl,rfl,h G _ H (.refl s) rfl⟩
 ·cases hf
theorem y7b:Op2 K (rI0 λi j=>.bl (decide (j<i))) gtW:=by
 intro G H x y wx wy w Q s px py hf h;unfold gtW at hf;split at hf
 ·cases hf;cases px;cases py;exact⟨_,_,rfl,rfl,h G _ H (.refl s) rfl⟩
 ·cases hf
theorem z7f:Op2 K (rI0 λi j=>.bl (decide (j<=i))) geW:=by
 intro G H x y wx wy w Q s px py hf h;unfold geW at hf;split at hf
 ·cases hf;cases px;cases py;exact⟨_,_,rfl,rfl,h G _ H (.refl s) rfl⟩
 ·cases hf
theorem z3n:Op1 K (rU λi=>.int (-i)) negW:=by
 intro G H x wx w Q s px hf h;unfold negW at hf;split at hf
 ·cases hf;cases px;exact⟨_,rfl,h G _ H (.refl s) rfl⟩
 ·cases hf
mutual
noncomputable def eqW:W->W->Option Bool
 |.non,.non=>some true
 |.non,.bl _=>some false|.non,.int _=>some false|.non,.str _=>some false|.non,.tup _=>some false|.non,.lst _=>some false
 |.bl a,.bl b=>some (a==b)
 |.bl a,.int b=>some ((if a then 1 else 0)==b)
 |.bl _,.non=>some false|.bl _,.str _=>some false|.bl _,.tup _=>some false|.bl _,.lst _=>some false
 |.int a,.int b=>some (a==b)
 |.int a,.bl b=>some (a==(if b then 1 else 0))
 |.int _,.non=>some false|.int _,.str _=>some false|.int _,.tup _=>some false|.int _,.lst _=>some false
 |.str a,.str b=>some (a==b)
 |.str _,.non=>some false|.str _,.bl _=>some false|.str _,.int _=>some false|.str _,.tup _=>some false|.str _,.lst _=>some false
 |.tup _,.non=>some false|.tup _,.bl _=>some false|.tup _,.int _=>some false|.tup _,.str _=>some false|.tup _,.lst _=>some false
 |.lst _,.non=>some false|.lst _,.bl _=>some false|.lst _,.int _=>some false|.lst _,.str _=>some false|.lst _,.tup _=>some false
 |.tup xs,.tup ys=>eqWs xs ys
 |.lst xs,.lst ys=>eqWs xs ys
 |.exc _,_=>none
 |_,.exc _=>none
 |.dic _,_=>none
 |_,.dic _=>none
 |.dw _ _ _ _,_=>none
 |_,.dw _ _ _ _=>none
noncomputable def eqWs:List W->List W->Option Bool
 |[],[]=>some true
 |[],_::_=>some false
 |_::_,[]=>some false
 |x::xs,y::ys=>match eqW x y,eqWs xs ys with
  |some a,some b=>some (a&&b)
  |_,_=>none
end
noncomputable def ixW:W->W->Option W
 |.tup ws,.int i=>atI ws i
 |.lst ws,.int i=>atI ws i
 |.str z,.int i=>if z.length<=16777216 then(atI z.cps.toList i).map λc=>.str ⟨#[c]⟩else none
 |_,_=>none
theorem Reps.atI{i:Int}(r:Reps K G ws xs)(h:L2.atI ws i=some w):∃x,L2.atI xs i=some x/\Rep K G w x:=by
 unfold L2.atI at h |-
 rw[r.length];cases q:ixN ws.length i with
 |none=>rw[q]at h;cases h
 |some j=>
  rw[q]at h;exact r.get h
theorem y7c:Op2 K (rIx K) ixW:=by
 intro G H x y wx wy w Q s px py hf h;unfold ixW at hf;split at hf
 ·obtain⟨a,xs,rfl,ha,ra⟩:=px;cases py;obtain⟨v,hv,rv⟩:=ra.atI hf;exact .inr (.inl ⟨a,xs,_,v,rfl,rfl,s.tup ha,hv,h G v H (.refl s) rv⟩)
 ·obtain⟨a,xs,rfl,ha,ra⟩:=px;cases py;obtain⟨v,hv,rv⟩:=ra.atI hf;exact .inl ⟨a,xs,_,v,rfl,rfl,s.seq ha,hv,h G v H (.refl s) rv⟩
 ·cases px;cases py;split at hf
  ·rename_i hl;obtain⟨c,hc,rfl⟩:=w0w.mp hf;exact .inr (.inr ⟨_,_,c,rfl,rfl,by grind [sizeLine_eq],hc,h G _ H (.refl s) rfl⟩)
  ·cases hf
 ·cases hf
noncomputable def S.look:S->Option W
 |.fr w=>some w
 |.own _ ws=>some (.lst ws)
 |.no=>none
 |.dic _=>none
 |.dw _ _ _=>none
noncomputable def dIxV(i:Nat)(d:Den W):Den W:=λe=>match e[i]?.bind S.look with
 |none=>.no
 |some _=>(d e).bind λk e1=>match e1[i]?.bind S.look with
  |none=>.no
  |some w=>ofOpt (ixW w k) e1
noncomputable def lenW:W->Option W
 |.str z=>if z.length<=16777216 then some (.int z.length)else none
 |.tup ws=>some (.int ws.length)
 |.lst ws=>some (.int ws.length)
 |_=>none
noncomputable def len1:List W->Option W
 |[w]=>lenW w
 |_=>none
theorem y09:OpN K (λxs H Q=>∃x n,xs=[x]/\LenV K x H n/\Q (.int n) H) len1:=by
 intro G H xs ws w Q s pr hf h;unfold len1 at hf;split at hf
 ·obtain⟨x,r,rfl,px,pr⟩:=pr;cases(show r=[]from pr);unfold lenW at hf;split at hf
  ·split at hf
   ·rename_i hl;cases hf;cases px;exact⟨_,_,rfl,⟨by grind [sizeLine_eq],rfl⟩,h G _ H (.refl s) rfl⟩
   ·cases hf
  ·cases hf;obtain⟨a,xs,rfl,ha,ra⟩:=px;exact⟨_,_,rfl,.inr ⟨xs,s.tup ha,rfl⟩,h G _ H (.refl s) (by rw[ra.length];rfl)⟩
  ·cases hf;obtain⟨a,xs,rfl,ha,ra⟩:=px;exact⟨_,_,rfl,.inl ⟨xs,s.seq ha,rfl⟩,h G _ H (.refl s) (by rw[ra.length];rfl)⟩
  ·cases hf
 ·cases hf
noncomputable def scalW:W->Bool
 |.non=>true|.bl _=>true|.int _=>true|.str _=>true|_=>false
theorem y4o(h:scalW w=true)(p:Rep K G w v):Rep K G' w v:=by
 cases w with
 |non=>exact p
 |bl b=>exact p
 |int i=>exact p
 |str x=>exact p
 |_=>cases h
noncomputable def dFnV(i:Nat)(f:List W->Option W):Den W:=λe=>match e[i]?.bind S.look with
 |none=>.no
 |some w=>match f [w]with
  |none=>.no
  |some v=>match e[i]? with
   |some (.fr _)=>.ok v e
   |_=>if scalW v=true then .ok v e else .no
section
variable{a b e:Expr}{d:Den W}{p:Pos}{x:Str}
theorem q0j(ha:DE Z X EE a d)(hb:DE Z X EE b db)(hs:PlainIx b:=by intro _ _;rfl):DE Z X EE (.Subscript a b pos) (dOp ixW d db):=PE.mono (x46 y0w ha hb hs) (q4k y7c)
theorem Rel.look{e:List S}(r:Rel K Z G σ H e){w:W}(h:e[i]?.bind S.look=some w):∃v,σ[i]?=some (some v) /\
  (Rep K G w v\/∃ws a xs u,(∀z,e[i]?≠some (.fr z))/\w=.lst ws/\v=.ref a/\H a=some u/\(u=.lst xs\/∃o,u=.frz o (.lst xs))/\G a=none/\Reps K G ws xs):=by
 obtain⟨s,h1,h2⟩:=w2j.mp h;cases s with
 |no=>cases h2
 |dic _=>cases h2
 |dw _ _ _=>cases h2
 |fr w'=>
  cases h2;obtain⟨v,h3,h4⟩:=r.fr h1;exact⟨v,h3,.inl h4⟩
 |own b ws=>
  cases h2;obtain⟨a,xs,h3,h4,h5,h6,h7⟩:=r.own h1;exact⟨.ref a,h3,.inr ⟨ws,a,xs,_,(λz y=>by rw[h1]at y;cases y),rfl,rfl,h4,.inl rfl,h5,h7⟩⟩
theorem y1a{K:PySem.W.Frag}{a:Addr}{u:HO}(s:Same G H)(h:H a=some u)(hg:G a=none):Same G (upd G a u)/\Same (upd G a u) H:=
 ⟨q28 hg _,λc o z=>by
  by_cases hc:c=a
  ·subst hc;rw[q0k]at z;cases z;exact h
  ·rw[q0g hc]at z;exact s c o z⟩
theorem q7v(i:Nat)(hb:DE Z X EE b d)(hN:X.N[i]?=some x:=by rfl)(hv:Vis X.env.scope x:=by walk_at "1")(hd:(x==("__debug__":Str))=false:=by decide)
  (hcd:(x==("__classdict__":Str))=false:=by decide)(hs:PlainIx b:=by intro _ _;rfl):DE Z X EE (.Subscript (.Name x p) b pos) (dIxV i d):=by
 refine PE.mono (x46 y0w (pv i hN hv hd hcd) hb hs) ?_;rintro σ H Q ⟨G,e,rel,h⟩;unfold dIxV at h;split at h
 ·exact h.elim
 ·rename_i w0 hw0;obtain⟨v,hv,_⟩:=rel.look hw0;refine⟨v,hv,G,e,rel,(R.holds_bind.mp h).imp (λk e1 h G1 u H1 r1 s1 p1=>?_) λ_ _ h=>h⟩
  split at h
  ·exact h.elim
  ·rename_i w hw;obtain⟨w',hf,h2⟩:=ofOpt_holds.mp h;obtain⟨v',hv',q⟩:=r1.look hw;rw[hv]at hv';cases hv';rcases q with q|⟨ws,a,xs,u,he,rfl,rfl,q1,qu,q2,q3⟩
   ·exact y7c G1 H1 v u w k w' Q r1.sub q p1 hf λG' v H' g p=>h2 G' v H' (r1.grow g) (s1.trans g.gg) p
   ·-- an item of one's own list
    unfold ixW at hf;split at hf
    ·rename_i heq;cases heq
    ·rename_i heq;cases heq;cases p1;obtain⟨y,hy,ry⟩:=q3.atI hf;refine .inl ⟨a,xs,_,y,rfl,rfl,?_,hy,h2 G1 y H1 r1 s1 ry⟩;rcases qu with rfl|⟨o,rfl⟩
     ·exact SqL.of q1
     ·exact .inl (.inr ⟨o,q1⟩)
    all_goals grind
theorem z3o{r:List V->Hp->VK->Prop}{f:List W->Option W}(i:Nat){id:String}{fn:Str}(hc:CallR X (.builtin id) r)(hf:OpN X.K r f)(hv:bootBuiltins fn=some (.builtin id))(hm:X.mg fn=none)
  (hN:X.N[i]?=some x:=by rfl)(hvis:Vis X.env.scope x:=by walk_at "1")(hd:(x==("__debug__":Str))=false:=by decide)(hcd:(x==("__classdict__":Str))=false:=by decide)
  (hg:Gl X fn:=by rfl)(hn:fn≠"__name__":=by decide)(hdb:(fn==("__debug__":Str))=false:=by decide)(hs:starEach [.Name x p] X.env=(false,eval (.Name x p) X.env)::starEach [] X.env:=by rfl)(hpl:(backTo pos (starEach [] X.env)).any (·.1)=false:=by rfl):
  DE Z X EE (.Call (.Name fn pn) [.Name x p] [] pos) (dFnV i f):=by
 refine PE.mono (x1b hc hg hm hv (q5c (pv i hN hvis hd hcd) x1x hs) hn hdb hs hpl) ?_;rintro σ H Q ⟨G,e,rel,h⟩;unfold dFnV at h;split at h
 ·exact h.elim
 ·rename_i w hw;split at h
  ·exact h.elim
  ·rename_i y hy;obtain⟨v,hv,q⟩:=rel.look hw;refine⟨v,hv,?_⟩;rcases q with q|⟨ws,a,xs,u,he,rfl,rfl,q1,qu,q2,q3⟩
   ·refine hf G H [v] [w] y Q rel.sub (.one q) hy λG' v H' g p=>?_
    split at h
    ·exact h G' v H' (rel.grow g) g.gg p
    ·split at h
     ·exact h G' v H' (rel.grow g) g.gg p
     ·exact h.elim
   ·split at h
    ·grind
    split at h
    ·rename_i hsc;obtain⟨s1,s2⟩:=y1a (K:=X.K) rel.sub q1 q2
     have hsq:SqL X.K (upd G a u) a xs:=by
      rcases qu with rfl|⟨o,rfl⟩
      ·exact SqL.of q0k
      ·exact .inl (.inr ⟨o,q0k⟩)
     refine hf (upd G a u) H [.ref a] [.lst ws] y Q s2 (.one ⟨a,xs,rfl,hsq,Reps.mono s1 ws q3⟩) hy λG' v H' g p=>?_
     have g':Grow G H G H':=⟨g.hh,.refl _,rel.sub.trans g.hh,λ_ _=>rfl⟩
     exact(show ∀G' v H',_->_->Rep X.K G' y v->Q v H' from h) G v H' (rel.grow g') (.refl _) (y4o hsc p)
    ·exact h.elim
noncomputable def dApp(i:Nat)(d:Den (List W)):List S->SR:=λe=>match e[i]? with
 |some (.own _ _)=>(d e).stm λws e1=>match ws,e1[i]? with
  |[w],some (.own b xs)=>if xs.length<16777216 then .nx (e1.set i (.own b (xs++[w])))else .no
  |_,_=>.no
 |_=>.no
theorem q1s(i:Nat)(ha:DA Z X EE (e::es) dA)(hN:X.N[i]?=some x:=by rfl)(hv:Vis X.env.scope x:=by walk_at "1")(hd:(x==("__debug__":Str))=false:=by decide)(hcd:(x==("__classdict__":Str))=false:=by decide)
  (hbase:attributeBase (.Name x p) "append" X.env (eval (.Name x p) X.env)=eval (.Name x p) X.env:=by rfl)
  (hfew:((backTo cpos (starEach (e::es) X.env)).all (λx=>!x.1)&&(backToKw cpos (keywordEach [] X.env)).all (λx=>x.1.isSome)&&decide ((e::es).length+([]:List Keyword).length+(if([]:List Keyword).isEmpty then 0 else 1)<30))=true:=by rfl)
  (hline:(apos.endLine==cpos.line)=true:=by rfl)(hs:starEach (e::es) X.env=(false,eval e X.env)::starEach es X.env:=by rfl)(hplain:(backTo cpos (starEach es X.env)).any (·.1)=false:=by rfl)
  (hsw:swapsWith (.Call (.Attribute (.Name x p) "append" apos) (e::es) [] cpos) none pos.line X.env=pure false:=by rfl):
  DS Z X EE (.Expr (.Call (.Attribute (.Name x p) "append" apos) (e::es) [] cpos) pos) (dApp i dA):=by
 refine PS.mono (q7s (z3h (pv i hN hv hd hcd) ha hbase hfew hline hs hplain) hsw) ?_;rintro D σ H ⟨G,e,rel,h⟩;unfold dApp at h;split at h
 ·rename_i b0 ws0 he0;obtain⟨a,xs,h1,h2,h3,h4,h5⟩:=rel.own he0;refine⟨.ref a,h1,.inl ⟨rfl,xs,SqL.of h2⟩,G,e,rel,(q0w h).imp (λws e1 h G1 vs H1 r1 s1 p1=>?_) λ_ _ h=>h⟩
  split at h
  ·rename_i w b ys he1;obtain⟨a',zs,g1,g2,g3,g4,g5⟩:=r1.own he1;rw[h1]at g1;cases g1;obtain⟨y,r,rfl,py,pr⟩:=p1;cases(show r=[]from pr);split at h
   ·rename_i hl;refine⟨a,zs,y,rfl,rfl,g2,by rw[g5.length,sizeLine_eq];exact hl,?_⟩;exact h G1 σ _ (r1.mut he1 h1 (g5.append (.one py))) s1
   ·exact h.elim
  ·exact h.elim
 ·exact h.elim
noncomputable def dPop(i:Nat):Den W:=λe=>match e[i]? with
 |some (.own b ws)=>match ws[ws.length-1]? with
  |some w=>.ok w (e.set i (.own b ws.dropLast))
  |none=>.no
 |_=>.no
theorem q6x(i:Nat)(hN:X.N[i]?=some x:=by rfl)(hv:Vis X.env.scope x:=by walk_at "1")(hd:(x==("__debug__":Str))=false:=by decide)(hcd:(x==("__classdict__":Str))=false:=by decide)
  (hbase:attributeBase (.Name x p) "pop" X.env (eval (.Name x p) X.env)=eval (.Name x p) X.env:=by rfl)(hline:(apos.endLine==cpos.line)=true:=by rfl):DE Z X EE (.Call (.Attribute (.Name x p) "pop" apos) [] [] cpos) (dPop i):=by
 refine PE.mono (z3b PySem.F.plainAttrs_list PySem.F.slot_list_pop PySem.F.type_list_pop z3c (pv i hN hv hd hcd) hbase hline) ?_;rintro σ H Q ⟨G,e,rel,h⟩;unfold dPop at h;split at h
 ·rename_i b ws he;obtain⟨a,xs,h1,h2,h3,h4,h5⟩:=rel.own he;split at h
  ·rename_i w hw;obtain⟨y,hy,ry⟩:=h5.get hw;refine⟨.ref a,h1,.inl ⟨rfl,xs,SqL.of h2⟩,a,xs,y,rfl,rfl,h2,by rw[h5.length];exact hy,?_⟩;exact h G y _ (rel.mut he h1 h5.dropLast) (.refl _) ry
  ·exact h.elim
 ·exact h.elim
end
noncomputable def compD(c:Den Bool)(d:Den W)(pe:List S):List W->Option (List W)
 |[]=>some []
 |w::ws=>match c (.fr w::pe)with
  |.ok true e1=>match d e1 with
   |.ok y _=>(compD c d pe ws).map (y::·)
   |_=>none
  |.ok false _=>compD c d pe ws
  |_=>none
noncomputable def frz1(e:List S)(j:Nat):List S:=match e[j]? with
 |some (.own none ws)=>e.set j (.fr (.lst ws))
 |_=>e
noncomputable def frzs(js:List Nat)(e:List S):List S:=js.foldl frz1 e
noncomputable def pj1(e:List S)(j:Nat):S:=match e[j]? with
 |some (.fr w)=>.fr w
 |_=>.no
noncomputable def pjS(js:List Nat)(e:List S):List S:=js.map (pj1 e)
noncomputable def compK(js:List Nat)(c:Den Bool)(d:Den W)(ws:List W)(e1:List S):R (List W):=
 if ws.length<=16777216 then(match compD c d (pjS js (frzs js e1)) ws with
  |some out=>.ok out (frzs js e1)
  |none=>.no)else .no
noncomputable def dComp(js:List Nat)(di:Den W)(c:Den Bool)(d:Den W):Den (List W):=λe=>(di e).bind λw e1=>match seqW w with
 |some ws=>compK js c d ws e1
 |none=>.no
noncomputable def dCompR(g:List W->Option (List W))(js:List Nat)(di:Den (List W))(c:Den Bool)(d:Den W):Den (List W):=λe=>(di e).bind λw e1=>match g w with
 |some ws=>compK js c d ws e1
 |none=>.no
noncomputable def dYes:Den Bool:=λe=>.ok true e
theorem Rel.frzs(r:Rel K Z G σ H e):∀(js:List Nat),∃G',Same G G'/\Rel K Z G' σ H (frzs js e):=by
 intro js
 induction js generalizing G e with
 |nil=>exact⟨G,.refl _,r⟩
 |cons j js ih=>
  have one:∃G',Same G G'/\Rel K Z G' σ H (frz1 e j):=by
   unfold frz1;split
   ·rename_i ws hw;obtain⟨v,G',_,s,_,r'⟩:=r.freeze hw;exact⟨G',s,r'⟩
   grind [Same.refl]
  obtain⟨G1,s1,r1⟩:=one;obtain⟨G2,s2,r2⟩:=ih r1;exact⟨G2,s1.trans s2,r2⟩
theorem Rel.block(r:Rel K Z G σ H e)(js)(p:Rep K G w x):Rel K ⟨H,G,[]⟩ G (some x::pj js σ) H (.fr w::pjS js e):=by
 have hfr:∀(i:Nat)(s:S),(S.fr w::pjS js e)[i]?=some s->s=.no\/∃u,s=.fr u/\((i=0/\u=w)\/∃k j,i=k+1/\js[k]?=some j/\e[j]?=some (.fr u)):=λi s h=>by
  grind [pjS,pj1]
 refine⟨r.sub,λi s h=>?_,?_,λi j b b' w1 w2 a h1 h2 _ _=>?_,λa o h _=>h,(λa h=>nomatch h),λa _=>rfl⟩
 ·rcases hfr i s h with rfl|⟨u,rfl,⟨rfl,rfl⟩|⟨k,j,rfl,h1,h2⟩⟩
  ·trivial
  ·exact⟨x,rfl,p⟩
  ·obtain⟨v,h3,h4⟩:=r.fr h2;refine⟨v,?_,h4⟩
   grind [pj]
 all_goals grind [pjS,pj]
theorem Rel.mutFree(r:Rel K Z G σ H e)(hg:G a=none)(hz:Z.H a=none)(hi:a∉Z.io)(hf:Free σ e a)(hls:H a=some (.lst ls)):Rel K Z G σ (upd H a o) e:=by
 refine⟨λc u z=>?_,λj s z=>?_,r.len,r.dis,λc u z n=>?_,λc z=>?_,r.gen⟩
 ·rw[q0g (q0p z hg)];exact r.sub c u z
 ·have y:=r.slot j s z;cases s with
  |no=>trivial
  |fr w=>exact y
  |own b2 w2=>
   obtain⟨c,ys,y1,y2,y3,y4,y5⟩:=y;refine⟨c,ys,y1,?_,y3,y4,y5⟩;rw[q0g];exact y2;rintro rfl;obtain⟨c',_,z1,_⟩:=r.own z;rw[z1]at y1;cases y1;exact hf j b2 w2 z z1
  |dic kvs=>
   obtain⟨c,y1,y2,y3,y4⟩:=y;refine⟨c,y1,?_,y3,y4⟩;rw[q0g (q3o y2 hls (q78 rfl))];exact y2
  |dw sh ks ws=>exact DwOk.move y (.refl _) λl o ys k1 k2 k3=>⟨by rw[q0g (q3o k1 hls (q81 rfl))];exact k1,k2,k3⟩
 ·rw[q0g (q0p z hz)];exact r.ent c u z n
 ·by_cases hc:c=a
  ·grind
  ·rw[q0g hc];exact r.ion c z
structure Walk(J:It)(xs:List V)(SQ:Hp->Prop):Prop where
 go:∀i H,SQ H->i<xs.length->J.go i H
 yld:∀i H x H',SQ H->J.yld i H x H'->i<xs.length->H'=H/\xs[i]?=some x
 stop:∀i H,SQ H->xs.length<=i->J.stop i H
theorem y1b:Walk (Itl K a) xs (λH=>SqL K H a xs):=
 ⟨λi H q h=>⟨xs,xs[i],q,by simp[h]⟩,λi H x H' q ⟨e,y⟩ h=>⟨e,y xs q⟩,λi H q h=>⟨xs,q,h⟩⟩
theorem y1c:Walk (Itt K a) xs (λH=>SqT K H a xs):=
 ⟨λi H q h=>⟨xs,xs[i],q,by simp[h]⟩,λi H x H' q ⟨e,y⟩ h=>⟨e,y xs q⟩,λi H q h=>⟨xs,q,h⟩⟩
theorem z3p:Walk (Itr lo n) ((List.range n).map λk=>V.int (lo+(k:Nat))) (λ_=>True):=
 ⟨λi H q h=>show i<n by simpa using h,λi H x H' q ⟨e,y⟩ h=>⟨e,by simp at h;simp[h,y]⟩,λi H q h=>show n<=i by simpa using h⟩
theorem q94{Q:VK}(W0:Walk J xs SQ)(r1:Rel K Z G1 σ H1 e1)(s1:Same G0 G1)(rp:Reps K G1 ws xs)(hSQ:∀G' H',Same G1 G'->Same G' H'->SQ H')(hl:ws.length<=16777216)
  (hz:∀p,H1 p=none->p∉Z.io)(hc:compD c d (pjS js e1) ws=some out)
  (h:∀G' a xs H',Rel K Z G' σ H' e1->Same G0 G'->H' a=some (.lst xs)->G' a=none->Z.H a=none->Free σ e1 a->Reps K G' out xs->Q (.ref a) H'):
  ∀D,H1 D=none->∃W:Nat->Nat->Hp->Prop,(∃m,W 0 m (upd H1 D (.lst [])))/\∀i m H2,W i m H2 ->
   (J.stop i H2/\Q (.ref D) H2)\/(J.go i H2/\∀x H3,J.yld i H2 x H3->gName 0 x (List.replicate 1 none++pj js σ) H3 λσ4 H4=>Kp (List.replicate 1 none++pj js σ) σ4/\(λσ H Q=>∃Z',liftT K Z' (λ_=>E0) c σ H Q) σ4 H4 λb H5=>
    if b=true then(λσ H Q=>∃Z',AtG K Z' σ H λG e=>(d e).holds (λw e'=>∀G' v H',Rel K Z' G' σ H' e'->Same G G'->Rep K G' w v->Q v H') (XH K Z' (λ_=>E0) σ G)) σ4 H5 λy H6=>∃ys,H6 D=some (.lst ys)/\ys.length<sizeLine/\∃m',m'<m/\W (i+1) m' (upd H6 D (.lst (ys++[y])))else ∃m',m'<m/\W (i+1) m' H5):=by
 intro D hD;have hlen:=rp.length
 refine⟨λi m H2=>m=ws.length-i/\i<=ws.length/\∃G2 ys done rest,Rel K Z G2 σ H2 e1/\Same G1 G2/\H2 D=some (.lst ys)/\G2 D=none/\Reps K G2 done ys/\done.length<=i/\compD c d (pjS js e1) (ws.drop i)=some rest/\done++rest=out,
  ⟨ws.length,by omega,w1d _,G1,[],[],out,r1.grow (Grow.hid r1.sub hD _),.refl _,q0k,r1.sub.free hD,rfl,w0a _,hc,rfl⟩,?_⟩
 rintro i m H2 ⟨rfl,hi,G2,ys,done,rest,r2,s2,hd2,hg2,rp2,hdl,hc2,ho⟩;have hfree:Free σ e1 D:=x1c r1 hD;have hzh:Z.H D=none:=q7u r1 hD
 by_cases hlt:i<ws.length
 ·refine .inr ⟨W0.go i H2 (hSQ G2 H2 s2 r2.sub) (by omega),λx H3 hy=>?_⟩
  obtain⟨rfl,hx⟩:=W0.yld i H2 x H3 (hSQ G2 H2 s2 r2.sub) hy (by omega);obtain⟨w,hw,pw⟩:=rp.getV hx;rw[x31 hw]at hc2;refine⟨Kp.one,⟨H3,G2,[]⟩,G2,.fr w::pjS js e1,r2.block js (Rep.mono s2 w pw),?_⟩;unfold compD at hc2;cases qc:c (.fr w::pjS js e1)with
  |no=>grind
  |ex _ _=>grind
  |ok k e2=>
   rw[qc]at hc2;intro G3 H5 r3 s3;have g3:=r3.toGrow s3;cases k with
   |false=>
    exact⟨ws.length-(i+1),by omega,rfl,hlt,G3,ys,done,rest,r2.grow g3,s2.trans s3,g3.hh _ _ hd2,by rw[g3.new D (by rw[hd2];simp)];exact hg2,Reps.mono s3 _ rp2,by omega,hc2,ho⟩
   |true=>
    refine⟨⟨H3,G2,[]⟩,G3,e2,r3,?_⟩;dsimp only at hc2;cases qd:d e2 with
    |no=>grind
    |ex _ _=>grind
    |ok y e3=>
     rw[qd]at hc2;intro G4 v H6 r4 s4 p4;have g4:=r4.toGrow (s3.trans s4);obtain⟨rest',hr,rfl⟩:=w0w.mp hc2;have hd6:H6 D=some (.lst ys):=g4.hh _ _ hd2;have hg6:G4 D=none:=by rw[g4.new D (by rw[hd2];simp)];exact hg2
     refine⟨ys,hd6,?_,ws.length-(i+1),by omega,rfl,hlt,G4,ys++[v],done++[y],rest',(r2.grow g4).mutFree hg6 hzh (hz D hD) hfree hd6,s2.trans (s3.trans s4),q0k,hg6,(Reps.mono (s3.trans s4) _ rp2).append (.one p4),by simp;omega,hr,by grind⟩;rw[rp2.length,sizeLine_eq];omega
 ·have:i=ws.length:=by omega
  subst this;rw[w3p]at hc2;cases hc2;rw[w1a]at ho;subst ho;exact .inl ⟨W0.stop _ H2 (hSQ G2 H2 s2 r2.sub) (by omega),h G2 D ys H2 r2 (s1.trans s2) hd2 hg2 hzh hfree rp2⟩
section
variable{elt iter a b:Expr}{ifs:List Expr}{scope sc:Scope}{pt:Pos}{x:Str}{Nf N:List Str}{di:Den W}{c:Den Bool}{d:Den W}
noncomputable def DTs(Z:Zt)(X:Cx)(EE:L2.St->XK)(ifs:List Expr)(c:Den Bool):Prop:=PTs X ifs (liftT X.K Z EE c)
theorem q6j:DTs Z X EE [] dYes:=λpins s σ H Q I ⟨G,e,r,h⟩=>y76 pins s σ H Q I (h G H r (.refl _))
theorem x25(h:DT Z X EE a c):DTs Z X EE [a] c:=y77 h
noncomputable def cT(K:PySem.W.Frag)(c:Den Bool):TT:=λσ H Q=>∃Z',liftT K Z' (λ_=>E0) c σ H Q
noncomputable def cE(K:PySem.W.Frag)(d:Den W):TE:=λσ H Q=>∃Z',AtG K Z' σ H λG e=>(d e).holds (λw e'=>∀G' v H',Rel K Z' G' σ H' e'->Same G G'->Rep K G' w v->Q v H') (XH K Z' (λ_=>E0) σ G)
theorem x33{D:Ends}{r:R (List W)}{k:W->List S->SR}(h:PostS K Z EE D G ((r.bind λws e'=>.ok (.lst ws) e').stm k)):r.holds (λws e'=>PostS K Z EE D G (k (.lst ws) e')) (XH K Z EE σ G):=by
 cases r with
 |ok a e=>exact h
 |ex c e=>exact λG' H' r q=>h G' σ H' r q
 |no=>exact h
theorem x49(ht:∀Z' cl C s₀ H₀ ex,DTs Z' (X.cp Y scope cl C s₀ H₀ ex) (λ_=>E0) ifs c):∀cl C s₀ H₀ ex,PTs (X.cp Y scope cl C s₀ H₀ ex) ifs (cT X.K c):=λcl C s₀ H₀ ex pins s σ H Q I ⟨Z',h⟩=>ht Z' cl C s₀ H₀ ex pins s σ H Q I h
theorem x5a(he:∀Z' cl C s₀ H₀ ex,DE Z' (X.cp Y scope cl C s₀ H₀ ex) (λ_=>E0) elt d):∀cl C s₀ H₀ ex,PE (X.cp Y scope cl C s₀ H₀ ex) elt (cE X.K d):=λcl C s₀ H₀ ex pins s σ H Q I ⟨Z',h⟩=>he Z' cl C s₀ H₀ ex pins s σ H Q I h
theorem ionone(r:Rel K Z G σ H e):∀p,H p=none->p∉Z.io:=λp hp hi=>r.ion p hi hp
theorem x34:∀σ H Q,liftF K Z EE (dComp js di c d) σ H Q->tComp (iSeq K (liftE K Z EE di)) 1 js (gName 0) (cT K c) (cE K d) σ H Q:=by
 rintro σ H Q ⟨G,e,rel,h⟩;simp only[dComp,R.holds_bind]at h;refine⟨G,e,rel,h.imp (λw e1 h G1 v1 H1 r1 s1 p1=>?_) λ_ _ h=>h⟩
 split at h
 ·rename_i ws hw;unfold compK at h;split at h
  ·rename_i hl;split at h
   ·rename_i out ho;obtain⟨G2,s2,r2⟩:=r1.frzs js;have p2:=Rep.mono s2 w p1;have io:=ionone r2;cases w with
    |tup us=>
     cases hw;obtain⟨a,xs,rfl,hq,rp⟩:=p2;exact⟨a,rfl,.inr ⟨⟨xs,r2.sub.tup hq⟩,q94 y1c r2 (s1.trans s2) rp (λG' H' s s'=>Same.tup s' (Same.tup s hq)) hl io ho h⟩⟩
    |lst us=>
     cases hw;obtain⟨a,xs,rfl,hq,rp⟩:=p2;exact⟨a,rfl,.inl ⟨⟨xs,r2.sub.seq hq⟩,q94 y1b r2 (s1.trans s2) rp (λG' H' s s'=>Same.seq s' (Same.seq s hq)) hl io ho h⟩⟩
    |_=>cases hw
   ·exact h.elim
  ·exact h.elim
 ·exact h.elim
theorem x26(hc:X.calm=true)(hi:DE Z X EE iter di)(ok:compOk sc scope N Nf js=true)
  (ht:∀Z' cl C s₀ H₀ ex,DTs Z' (X.cp ([x]++Nf) scope cl C s₀ H₀ ex) (λ_=>E0) ifs c)(he:∀Z' cl C s₀ H₀ ex,DE Z' (X.cp ([x]++Nf) scope cl C s₀ H₀ ex) (λ_=>E0) elt d)
  (hg:∀cl C s₀ H₀ ex,PG (X.cp ([x]++Nf) scope cl C s₀ H₀ ex) (.Name x pt) (gName 0))
  (hsc:X.env.scope=sc:=by rfl)(hN:X.N=N:=by rfl)(hs:∀x,foldedSetIterable iter X.env x=pure x:=by intro _;rfl):
  DF Z X EE (.ListComp elt [⟨.Name x pt,iter,ifs,0⟩] scope pos) (dComp js di c d):=by
 exact PE.mono (x5t (Nl:=[x]) (tc:=cT X.K c) (te:=cE X.K d) hc (x13 hi) ok hg (x49 ht) (x5a he) hsc hN hs) x34
theorem x15(i:Nat){y:Str}{py spos:Pos}(hNd:X.N.Nodup)(hc:X.calm=true)(hi:DE Z X EE iter di)(ok:compOk sc scope N Nf js=true)
  (ht:∀Z' cl C s₀ H₀ ex,DTs Z' (X.cp ([x]++Nf) scope cl C s₀ H₀ ex) (λ_=>E0) ifs c)(he:∀Z' cl C s₀ H₀ ex,DE Z' (X.cp ([x]++Nf) scope cl C s₀ H₀ ex) (λ_=>E0) elt d)
  (hg:∀cl C s₀ H₀ ex,PG (X.cp ([x]++Nf) scope cl C s₀ H₀ ex) (.Name x pt) (gName 0))
  (hsc:X.env.scope=sc:=by rfl)(hN:X.N=N:=by rfl)(hs:∀x,foldedSetIterable iter X.env x=pure x:=by intro _;rfl)(hiy:X.N[i]?=some y:=by rfl)(hxy:Loc X.env.scope y:=by walk_at "3")(hfy:X.fn y=true\/X.env.scope.names.lookup y=some .local:=by walk_at "2")(hsw:swapsWith (.ListComp elt [⟨.Name x pt,iter,ifs,0⟩] scope pos) (some (.Name y py)) spos.line X.env=pure true:=by rfl):
  DS Z X EE (.Assign [.Name y py] (.ListComp elt [⟨.Name x pt,iter,ifs,0⟩] scope pos) spos) (dSet i (dFz (dComp js di c d))):=by
 refine PS.mono (x32 (Nl:=[x]) (tc:=cT X.K c) (te:=cE X.K d) hc (x13 hi) ok hg (x49 ht) (x5a he) (q15 i hNd hiy hxy hfy) hsw hsc hN hs) ?_;rintro D σ H ⟨G,e,rel,h⟩;refine x34 σ H _ ⟨G,e,rel,?_⟩;refine(x33 h).imp (λw e1 h G1 a xs H1 r1 s1 q1 q2 q3 q4 p1=>?_) λ_ _ h=>h
 obtain⟨sg,rg⟩:=r1.seen q1 q2 q3 q4;exact h _ _ H1 (rg.set (v:=.ref a) ⟨a,xs,rfl,SqL.of q0k,Reps.mono sg w p1⟩) (s1.trans sg)
theorem x9k:∀σ H Q,liftF K Z EE (dCompR rng1 js dA c d) σ H Q->tComp (iRng1 (liftA K Z EE dA)) 1 js (gName 0) (cT K c) (cE K d) σ H Q:=by
 rintro σ H Q ⟨G,e,rel,h⟩;simp only[dCompR,R.holds_bind]at h;refine⟨G,e,rel,h.imp (λws e1 h G1 vs H1 r1 s1 p1=>?_) λ_ _ h=>h⟩
 unfold rng1 at h;split at h
 ·rename_i us hh;split at hh
  ·rename_i j;split at hh
   ·rename_i hj;cases hh;obtain⟨y,r,rfl,e1,e2⟩:=p1;cases(show y=V.int j from e1);cases(show r=[]from e2);refine⟨j,rfl,(q4v hj).1,(q4v hj).2,?_⟩;unfold compK at h;split at h
    ·rename_i hl;split at h
     ·rename_i out ho;obtain⟨G2,s2,r2⟩:=r1.frzs js;have z:=q94 (J:=Itr 0 (j-0).toNat) z3p r2 (s1.trans s2) (x14 (lo:=0) (hi:=j)) (λ_ _ _ _=>trivial) hl (ionone r2) ho h
      rwa [Int.sub_zero]at z
     ·exact h.elim
    ·exact h.elim
   ·cases hh
  ·cases hh
 ·exact h.elim
theorem q7n(i:Nat){y:Str}{py spos:Pos}(hNd:X.N.Nodup)(hc:X.calm=true)(hm:X.mg "range"=none)(ha:DA Z X EE [a] dA)(ok:compOk sc scope N Nf js=true)
  (ht:∀Z' cl C s₀ H₀ ex,DTs Z' (X.cp ([x]++Nf) scope cl C s₀ H₀ ex) (λ_=>E0) ifs c)(he:∀Z' cl C s₀ H₀ ex,DE Z' (X.cp ([x]++Nf) scope cl C s₀ H₀ ex) (λ_=>E0) elt d)
  (hg:∀cl C s₀ H₀ ex,PG (X.cp ([x]++Nf) scope cl C s₀ H₀ ex) (.Name x pt) (gName 0))
  (hgr:Gl X "range":=by rfl)(hs1:starEach [a] X.env=[(false,eval a X.env)]:=by rfl)(hsc:X.env.scope=sc:=by rfl)(hN:X.N=N:=by rfl)(hs:∀x,foldedSetIterable (.Call (.Name "range" p1) [a] [] p2) X.env x=pure x:=by intro _;rfl)(hiy:X.N[i]?=some y:=by rfl)(hxy:Loc X.env.scope y:=by walk_at "3")(hfy:X.fn y=true\/X.env.scope.names.lookup y=some .local:=by walk_at "2")(hsw:swapsWith (.ListComp elt [⟨.Name x pt,.Call (.Name "range" p1) [a] [] p2,ifs,0⟩] scope pos) (some (.Name y py)) spos.line X.env=pure true:=by rfl):
  DS Z X EE (.Assign [.Name y py] (.ListComp elt [⟨.Name x pt,.Call (.Name "range" p1) [a] [] p2,ifs,0⟩] scope pos) spos) (dSet i (dFz (dCompR rng1 js dA c d))):=by
 refine PS.mono (x32 (Nl:=[x]) (tc:=cT X.K c) (te:=cE X.K d) hc (x3p hgr hm ha hs1) ok hg (x49 ht) (x5a he) (q15 i hNd hiy hxy hfy) hsw hsc hN hs) ?_;rintro D σ H ⟨G,e,rel,h⟩;refine x9k σ H _ ⟨G,e,rel,?_⟩;refine(x33 h).imp (λw e1 h G1 a xs H1 r1 s1 q1 q2 q3 q4 p1=>?_) λ_ _ h=>h
 obtain⟨sg,rg⟩:=r1.seen q1 q2 q3 q4;exact h _ _ H1 (rg.set (v:=.ref a) ⟨a,xs,rfl,SqL.of q0k,Reps.mono sg w p1⟩) (s1.trans sg)
end
mutual
noncomputable def depW:W->Nat
 |.tup ws=>depWs ws+1
 |.lst ws=>depWs ws+1
 |_=>0
noncomputable def depWs:List W->Nat
 |[]=>0
 |w::ws=>max (depW w) (depWs ws)
end
section
variable{pins:List (Addr×Obj)}
mutual
theorem x27(I:Inv X pins σ H s)(sg:Same G H):∀(w:W){w':W}{v:V}{k:Bool},Rep X.K G w v->Rep X.K G w' v->eqW w w'=some k->k=true
 |.non,w',v,k,h,h',e=>by
  cases(show v=.non from h);cases w'<;>first|(cases e;done)|(cases h';cases e;rfl)|(exfalso;obtain⟨_,_,z,_⟩:=h';first|done|cases z)|(exfalso;obtain⟨_,z,_⟩:=h';first|done|cases z)
 |.bl b,w',v,k,h,h',e=>by
  cases(show v=.bl b from h);cases w'<;>first|(cases e;done)|(cases h';cases e;exact beq_self_eq_true _)|(exfalso;obtain⟨_,_,z,_⟩:=h';first|done|cases z)|(exfalso;obtain⟨_,z,_⟩:=h';first|done|cases z)
 |.int b,w',v,k,h,h',e=>by
  cases(show v=.int b from h);cases w'<;>first|(cases e;done)|(cases h';cases e;exact beq_self_eq_true _)|(exfalso;obtain⟨_,_,z,_⟩:=h';first|done|cases z)|(exfalso;obtain⟨_,z,_⟩:=h';first|done|cases z)
 |.str b,w',v,k,h,h',e=>by
  cases(show v=.str b from h);cases w'<;>first|(cases e;done)|(cases h';cases e;exact beq_self_eq_true _)|(exfalso;obtain⟨_,_,z,_⟩:=h';first|done|cases z)|(exfalso;obtain⟨_,z,_⟩:=h';first|done|cases z)
 |.tup ws,w',v,k,h,h',e=>by
  obtain⟨a,xs,rfl,q,r⟩:=h;cases w' with
  |tup ws'=>
   obtain⟨a',xs',z,q',r'⟩:=h';cases z;have:=I.tuple_inj (sg.tup q) (sg.tup q');subst this;exact x1f I sg ws r r' (e)
  |lst ws'=>
   obtain⟨a',xs',z,q',r'⟩:=h';cases z;obtain⟨its,_,p1,_⟩:=I.tuple (sg.tup q);obtain⟨its2,_,p2,_⟩:=I.list (sg.seq q');exact absurd rfl (SeqAt.ne_of_list_tuple p2.isList (show s.heap.IsTuple a _ from p1))
  |non=>cases h'
  |bl _=>cases h'
  |int _=>cases h'
  |str _=>cases h'
  |exc _=>cases e
  |dic _=>cases e
  |dw _ _ _ _=>cases e
 |.lst ws,w',v,k,h,h',e=>by
  obtain⟨a,xs,rfl,q,r⟩:=h;cases w' with
  |lst ws'=>
   obtain⟨a',xs',z,q',r'⟩:=h';cases z;have:=I.list_inj (sg.seq q) (sg.seq q');subst this;exact x1f I sg ws r r' (e)
  |tup ws'=>
   obtain⟨a',xs',z,q',r'⟩:=h';cases z;obtain⟨its,_,p1,_⟩:=I.tuple (sg.tup q');obtain⟨its2,_,p2,_⟩:=I.list (sg.seq q);exact absurd rfl (SeqAt.ne_of_list_tuple p2.isList (show s.heap.IsTuple a _ from p1))
  |non=>cases h'
  |bl _=>cases h'
  |int _=>cases h'
  |str _=>cases h'
  |exc _=>cases e
  |dic _=>cases e
  |dw _ _ _ _=>cases e
 |.exc c,w',v,k,h,h',e=>by cases w'<;>cases e
 |.dic c,w',v,k,h,h',e=>by cases w'<;>cases e
 |.dw _ _ _ _,w',v,k,h,h',e=>by cases w'<;>cases e
theorem x1f(I:Inv X pins σ H s)(sg:Same G H):∀(ws:List W){ws':List W}{vs:List V}{k:Bool},Reps X.K G ws vs->Reps X.K G ws' vs->eqWs ws ws'=some k->k=true
 |[],ws',vs,k,h,h',e=>by
  cases h;cases ws' with
  |nil=>cases e;rfl
  |cons _ _=>obtain⟨_,_,z,_⟩:=h';cases z
 |w::ws,ws',vs,k,h,h',e=>by
  obtain⟨x,r,rfl,h1,h2⟩:=h;cases ws' with
  |nil=>cases h'
  |cons w' ws'=>
   obtain⟨x',r',z,h1',h2'⟩:=h';cases z;have e:(match eqW w w',eqWs ws ws' with|some a,some b=>some (a&&b)|_,_=>none)=some k:=e;cases q1:eqW w w' with
   |none=>rw[q1]at e;cases e
   |some b1=>
    cases q2:eqWs ws ws' with
    |none=>grind
    |some b2=>
     rw[q1,q2]at e;rw[x27 I sg w h1 h1' q1,x1f I sg ws h2 h2' q2]at e;cases e;rfl
end
theorem q5d:∀{xs ys:List W}{b:Bool},eqWs xs ys=some b->(∀(j:Nat) x y,xs[j]?=some x->ys[j]?=some y->∃k,eqW x y=some k)/\b=((List.range (min xs.length ys.length)).all (λj=>((eqW (xs.getD j .non) (ys.getD j .non)).getD false))&&xs.length==ys.length):=by
 intro xs
 induction xs with
 |nil=>
  intro ys b h;refine⟨λj x y hx=>by simp at hx,?_⟩
  cases ys<;>(cases h;simp)
 |cons x xs ih=>
  intro ys b h;cases ys with
  |nil=>refine⟨λj x y hx hy=>by simp at hy,?_⟩;cases h;simp
  |cons y ys=>
   have h:(match eqW x y,eqWs xs ys with|some a,some b=>some (a&&b)|_,_=>none)=some b:=h;cases q1:eqW x y with
   |none=>rw[q1]at h;cases h
   |some b1=>
    cases q2:eqWs xs ys with
    |none=>grind
    |some b2=>
     rw[q1,q2]at h;cases h;obtain⟨h1,h2⟩:=ih q2;refine⟨λj x' y' hx hy=>?_,?_⟩
     ·cases j with
      |zero=>grind
      |succ j=>exact h1 j x' y' (by simpa using hx) (by simpa using hy)
     ·rw[h2];simp only[w0v,Nat.succ_min_succ,List.range_succ_eq_map,w2h,w4q]
      have e0:(eqW ((x::xs).getD 0 .non) ((y::ys).getD 0 .non)).getD false=b1:=by
       grind
      rw[e0,Bool.and_assoc];congr 1;congr 1;simp
theorem q85:∀{xs:List W}{j:Nat}{x:W},xs[j]?=some x->depW x<=depWs xs
 |[],_,_,h=>by simp at h
 |y::ys,0,x,h=>by grind [depWs]
 |y::ys,j+1,x,h=>by
  have:=q85 (xs:=ys) (j:=j) (by simpa using h);simp only[depWs];omega
theorem q95{xs:List α}{x d:α}(h:xs[j]?=some x):xs.getD j d=x:=by
 simp[List.getD,h]
theorem x50(I:Inv X pins σ H s)(sg:Same G H)(hu:A.units<cLine)(n1:∀ws,w=.tup ws->∀ws',w'≠.tup ws')(n2:∀ws,w=.lst ws->∀ws',w'≠.lst ws')(h:Rep X.K G w v)(h':Rep X.K G w' v')(r:RelV v u)(r':RelV v' u')(e:eqW w w'=some b):SeqAt.RcAt A s u u' b:=by
 have tl:∀{ws:List W}{v:V}{u:Value},Rep X.K G (.lst ws) v->RelV v u->∃l items,u=.ref l/\s.heap.IsList l items:=λh r=>by
  obtain⟨a,xs,rfl,q,_⟩:=h;cases r;obtain⟨its,_,p,_⟩:=I.list (sg.seq q);exact⟨a,_,rfl,p.isList⟩
 have tt:∀{ws:List W}{v:V}{u:Value},Rep X.K G (.tup ws) v->RelV v u->∃l items,u=.ref l/\s.heap.IsTuple l items:=λh r=>by
  obtain⟨a,xs,rfl,q,_⟩:=h;cases r;obtain⟨its,_,p,_⟩:=I.tuple (sg.tup q);exact⟨a,_,rfl,p⟩
 have tn:∀{v:V}{u:Value},Rep X.K G .non v->RelV v u->u=.none:=λh r=>by cases h;exact r
 have tb:∀{k:Bool}{v:V}{u:Value},Rep X.K G (.bl k) v->RelV v u->u=.bool k:=λh r=>by cases h;exact r
 have ti:∀{k:Int}{v:V}{u:Value},Rep X.K G (.int k) v->RelV v u->∃t,u=.int k t:=λh r=>by cases h;exact r
 have ts:∀{k:Str}{v:V}{u:Value},Rep X.K G (.str k) v->RelV v u->∃t,u=.str k t:=λh r=>by cases h;exact r
 cases w with
 |non=>
  obtain rfl:=tn h r;cases w' with
  |non=>obtain rfl:=tn h' r';cases e;exact .none_none
  |bl k=>obtain rfl:=tb h' r';cases e;exact .none_bool k
  |int k=>obtain⟨t,rfl⟩:=ti h' r';cases e;exact .none_int k t
  |str k=>obtain⟨t,rfl⟩:=ts h' r';cases e;exact .none_str k t
  |tup k=>obtain⟨l,it,rfl,p⟩:=tt h' r';cases e;exact .none_tuple p hu
  |lst k=>obtain⟨l,it,rfl,p⟩:=tl h' r';cases e;exact .none_list p hu
  |exc k=>cases e
  |dic k=>cases e
  |dw _ _ _ _=>cases e
 |bl j=>
  obtain rfl:=tb h r;cases w' with
  |non=>obtain rfl:=tn h' r';cases e;exact .bool_none j
  |bl k=>obtain rfl:=tb h' r';cases e;exact .bool_bool j k
  |int k=>obtain⟨t,rfl⟩:=ti h' r';cases e;exact .bool_int j k t
  |str k=>obtain⟨t,rfl⟩:=ts h' r';cases e;exact .bool_str j k t
  |tup k=>obtain⟨l,it,rfl,p⟩:=tt h' r';cases e;exact .bool_tuple j p hu
  |lst k=>obtain⟨l,it,rfl,p⟩:=tl h' r';cases e;exact .bool_list j p hu
  |exc k=>cases e
  |dic k=>cases e
  |dw _ _ _ _=>cases e
 |int j=>
  obtain⟨t1,rfl⟩:=ti h r;cases w' with
  |non=>obtain rfl:=tn h' r';cases e;exact .int_none j t1
  |bl k=>obtain rfl:=tb h' r';cases e;exact .int_bool j t1 k
  |int k=>obtain⟨t,rfl⟩:=ti h' r';cases e;exact .int_int j t1 k t
  |str k=>obtain⟨t,rfl⟩:=ts h' r';cases e;exact .int_str j t1 k t
  |tup k=>obtain⟨l,it,rfl,p⟩:=tt h' r';cases e;exact .int_tuple j t1 p hu
  |lst k=>obtain⟨l,it,rfl,p⟩:=tl h' r';cases e;exact .int_list j t1 p hu
  |exc k=>cases e
  |dic k=>cases e
  |dw _ _ _ _=>cases e
 |str j=>
  obtain⟨t1,rfl⟩:=ts h r;cases w' with
  |non=>obtain rfl:=tn h' r';cases e;exact .str_none j t1
  |bl k=>obtain rfl:=tb h' r';cases e;exact .str_bool j t1 k
  |int k=>obtain⟨t,rfl⟩:=ti h' r';cases e;exact .str_int j t1 k t
  |str k=>obtain⟨t,rfl⟩:=ts h' r';cases e;exact .str_str j t1 k t
  |tup k=>obtain⟨l,it,rfl,p⟩:=tt h' r';cases e;exact .str_tuple j t1 p hu
  |lst k=>obtain⟨l,it,rfl,p⟩:=tl h' r';cases e;exact .str_list j t1 p hu
  |exc k=>cases e
  |dic k=>cases e
  |dw _ _ _ _=>cases e
 |tup j=>
  obtain⟨l1,it1,rfl,p1⟩:=tt h r;cases w' with
  |non=>obtain rfl:=tn h' r';cases e;exact .tuple_none p1 hu
  |bl k=>obtain rfl:=tb h' r';cases e;exact .tuple_bool k p1 hu
  |int k=>obtain⟨t,rfl⟩:=ti h' r';cases e;exact .tuple_int k t p1 hu
  |str k=>obtain⟨t,rfl⟩:=ts h' r';cases e;exact .tuple_str k t p1 hu
  |tup k=>grind
  |lst k=>obtain⟨l,it,rfl,p⟩:=tl h' r';cases e;exact .tuple_list p1 p hu
  |exc k=>cases e
  |dic k=>cases e
  |dw _ _ _ _=>cases e
 |lst j=>
  obtain⟨l1,it1,rfl,p1⟩:=tl h r;cases w' with
  |non=>obtain rfl:=tn h' r';cases e;exact .list_none p1 hu
  |bl k=>obtain rfl:=tb h' r';cases e;exact .list_bool k p1 hu
  |int k=>obtain⟨t,rfl⟩:=ti h' r';cases e;exact .list_int k t p1 hu
  |str k=>obtain⟨t,rfl⟩:=ts h' r';cases e;exact .list_str k t p1 hu
  |lst k=>grind
  |tup k=>obtain⟨l,it,rfl,p⟩:=tt h' r';cases e;exact .list_tuple p1 p hu
  |exc k=>cases e
  |dic k=>cases e
  |dw _ _ _ _=>cases e
 |exc j=>cases w'<;>cases e
 |dic j=>cases w'<;>cases e
 |dw _ _ _ _=>cases w'<;>cases e
theorem x8d(I:Inv X pins σ H s)(sg:Same G H)(hd:depW w<=0)(hu:A.units<cLine)(h:Rep X.K G w v)(h':Rep X.K G w' v')(r:RelV v u)(r':RelV v' u')(e:eqW w w'=some b):SeqAt.RcAt A s u u' b:=
 x50 I sg hu (λws z=>by grind [depW]) (λws z=>by grind [depW]) h h' r r' e
theorem x51(h:Rep K G w v):∀x,v≠.flt x:=λx z=>by
 subst z;cases w with
 |tup ws=>obtain⟨_,_,z,_⟩:=h;cases z
 |lst ws=>obtain⟨_,_,z,_⟩:=h;cases z
 |exc c=>obtain⟨_,z,_⟩:=h;cases z
 |dic c=>obtain⟨_,z,_⟩:=h;cases z
 |dw _ _ _ _=>obtain⟨_,_,_,z,_⟩:=h;cases z
 |_=>cases h
theorem x52(rv:RelV v u)(hf:∀x,v≠.flt x)(h:SeqAt.RcAt A s u u' b)(hs:u=u'->b=true):SeqAt.EqAt A s u u' b:=λprog w E Q hq=>by
 unfold eqBool;refine wpAny_holding ?_;refine wpAny_ite_split (λhab=>?_) (λ_=>?_)
 ·have hb:=hs (eq_of_beq hab)
  grind [wpAny_bind,wpAny_rule,wpAny_pure]
 ·have z:=wpAny_bind (h prog w E (λa s'=>wpAny (model prog w) A (truthOfDropped a) Q E s') (wpAny_truthy_bool hq))
  cases v with
  |flt x=>exact absurd rfl (hf x)
  |non=>cases rv;exact z
  |bl _=>cases rv;exact z
  |int _=>obtain⟨t,rfl⟩:=rv;exact z
  |str _=>obtain⟨t,rfl⟩:=rv;exact z
  |byt _=>obtain⟨t,rfl⟩:=rv;exact z
  |ref _=>cases rv;exact z
  |ty _=>cases rv;exact z
theorem y7d(I:Inv X pins σ H s)(sg:Same G H):∀(n:Nat){w w':W}{v v':V}{u u':Value}{b:Bool}{A:Around},depW w<=n->A.units+n<cLine->Rep X.K G w v->Rep X.K G w' v'->RelV v u->RelV v' u'->eqW w w'=some b->SeqAt.RcAt A s u u' b:=by
 intro n
 induction n with
 |zero=>
  grind [x8d]
 |succ n ih=>
  intro w w' v v' u u' b A hd hu h h' r r' e
  have items:∀{ws ws':List W}{xs xs':List V}{its its':List Value}{k:Bool},depWs ws<=n->Reps X.K G ws xs->Reps X.K G ws' xs'->Vals xs its->Vals xs' its'->eqWs ws ws'=some k ->
    ∀j (h1:j<its.toArray.size) (h2:j<its'.toArray.size),SeqAt.EqAt A.in1 s its.toArray[j] its'.toArray[j] ((eqW (ws.getD j .non) (ws'.getD j .non)).getD false):=by
   intro ws ws' xs xs' its its' k hd r1 r2 v1 v2 he j h1 h2;have l1:=r1.length;have l2:=r2.length;have m1:=v1.length;have m2:=v2.length;have i1:j<xs.length:=by rw[m1];simpa using h1
   have i2:j<xs'.length:=by rw[m2];simpa using h2
   obtain⟨u1,e1,ru1⟩:=v1.get (w0b i1);obtain⟨u2,e2,ru2⟩:=v2.get (w0b i2);obtain⟨w1,f1,p1⟩:=r1.getV (w0b i1);obtain⟨w2,f2,p2⟩:=r2.getV (w0b i2);obtain⟨b',hb'⟩:=(q5d he).1 j w1 w2 f1 f2;rw[q95 f1,q95 f2,hb']
   have g1:its.toArray[j]=u1:=by
    grind
   have g2:its'.toArray[j]=u2:=by
    grind
   rw[g1,g2];have hdw:depW w1<=n:=w0s (q85 f1) hd
   have hun:A.in1.units+n<cLine:=by
    grind
   refine x52 ru1 (x51 p1) (ih hdw hun p1 p2 ru1 ru2 hb') λz=>?_
   subst z;have:=ru1.inj ru2
   grind [x27]
  cases w with
  |tup ws=>
   cases w' with
   |tup ws'=>
    obtain⟨a,xs,rfl,q1,r1⟩:=h;obtain⟨a',xs',rfl,q2,r2⟩:=h';cases r;cases r';obtain⟨its,v1,p1,_⟩:=I.tuple (sg.tup q1);obtain⟨its',v2,p2,_⟩:=I.tuple (sg.tup q2);have e:eqWs ws ws'=some b:=e;have z:=SeqAt.RcAt.tuples (show s.heap.IsTuple a _ from p1) (show s.heap.IsTuple a' _ from p2) (show A.units<cLine by omega) (items (by grind [depW]) r1 r2 v1 v2 e);have l1:=r1.length;have l2:=r2.length;have m1:=v1.length;have m2:=v2.length;have eb:=(q5d e).2
    grind
   |_=>exact x50 I sg (by omega) (by intro ws';simp) (by intro ws';simp) h h' r r' e
  |lst ws=>
   cases w' with
   |lst ws'=>
    obtain⟨a,xs,rfl,q1,r1⟩:=h;obtain⟨a',xs',rfl,q2,r2⟩:=h';cases r;cases r';obtain⟨its,v1,p1,_⟩:=I.list (sg.seq q1);obtain⟨its',v2,p2,_⟩:=I.list (sg.seq q2);have e:eqWs ws ws'=some b:=e;have l1:=r1.length;have l2:=r2.length;have m1:=v1.length;have m2:=v2.length;have eb:=(q5d e).2;have n1:its.length=ws.length:=by omega
    have n2:its'.length=ws'.length:=by omega
    by_cases hl:ws.length=ws'.length
    ·have z:=SeqAt.RcAt.lists p1.isList p2.isList (by grind) (show A.units<cLine by omega) (items (by grind [depW]) r1 r2 v1 v2 e)
     grind
    ·have z:=SeqAt.RcAt.lists_lengths (A:=A) p1.isList p2.isList (by grind) (show A.units<cLine by omega)
     grind
   |_=>exact x50 I sg (by omega) (by intro ws';simp) (by intro ws';simp) h h' r r' e
  |_=>exact x8d I sg (by simp[depW]) (by omega) h h' r r' e
theorem x1g(I:Inv X pins σ H s)(sg:Same G H)(hu:A.units<cLine)(n1:∀ws,w=.tup ws->∀ws',w'≠.tup ws')(n2:∀ws,w=.lst ws->∀ws',w'≠.lst ws')(h:Rep X.K G w v)(h':Rep X.K G w' v')(r:RelV v u)(r':RelV v' u')(e:eqW w w'=some b):SeqAt.RcNeAt A s u u' (!b):=by
 have tl:∀{ws:List W}{v:V}{u:Value},Rep X.K G (.lst ws) v->RelV v u->∃l items,u=.ref l/\s.heap.IsList l items:=λh r=>by
  obtain⟨a,xs,rfl,q,_⟩:=h;cases r;obtain⟨its,_,p,_⟩:=I.list (sg.seq q);exact⟨a,_,rfl,p.isList⟩
 have tt:∀{ws:List W}{v:V}{u:Value},Rep X.K G (.tup ws) v->RelV v u->∃l items,u=.ref l/\s.heap.IsTuple l items:=λh r=>by
  obtain⟨a,xs,rfl,q,_⟩:=h;cases r;obtain⟨its,_,p,_⟩:=I.tuple (sg.tup q);exact⟨a,_,rfl,p⟩
 have tn:∀{v:V}{u:Value},Rep X.K G .non v->RelV v u->u=.none:=λh r=>by cases h;exact r
 have tb:∀{k:Bool}{v:V}{u:Value},Rep X.K G (.bl k) v->RelV v u->u=.bool k:=λh r=>by cases h;exact r
 have ti:∀{k:Int}{v:V}{u:Value},Rep X.K G (.int k) v->RelV v u->∃t,u=.int k t:=λh r=>by cases h;exact r
 have ts:∀{k:Str}{v:V}{u:Value},Rep X.K G (.str k) v->RelV v u->∃t,u=.str k t:=λh r=>by cases h;exact r
 cases w with
 |non=>
  obtain rfl:=tn h r;cases w' with
  |non=>obtain rfl:=tn h' r';cases e;exact .none_none
  |bl k=>obtain rfl:=tb h' r';cases e;exact .none_bool k
  |int k=>obtain⟨t,rfl⟩:=ti h' r';cases e;exact .none_int k t
  |str k=>obtain⟨t,rfl⟩:=ts h' r';cases e;exact .none_str k t
  |tup k=>obtain⟨l,it,rfl,p⟩:=tt h' r';cases e;exact .none_tuple p hu
  |lst k=>obtain⟨l,it,rfl,p⟩:=tl h' r';cases e;exact .none_list p hu
  |exc k=>cases e
  |dic k=>cases e
  |dw _ _ _ _=>cases e
 |bl j=>
  obtain rfl:=tb h r;cases w' with
  |non=>obtain rfl:=tn h' r';cases e;exact .bool_none j
  |bl k=>obtain rfl:=tb h' r';cases e;exact .bool_bool j k
  |int k=>obtain⟨t,rfl⟩:=ti h' r';cases e;exact .bool_int j k t
  |str k=>obtain⟨t,rfl⟩:=ts h' r';cases e;exact .bool_str j k t
  |tup k=>obtain⟨l,it,rfl,p⟩:=tt h' r';cases e;exact .bool_tuple j p hu
  |lst k=>obtain⟨l,it,rfl,p⟩:=tl h' r';cases e;exact .bool_list j p hu
  |exc k=>cases e
  |dic k=>cases e
  |dw _ _ _ _=>cases e
 |int j=>
  obtain⟨t1,rfl⟩:=ti h r;cases w' with
  |non=>obtain rfl:=tn h' r';cases e;exact .int_none j t1
  |bl k=>obtain rfl:=tb h' r';cases e;exact .int_bool j t1 k
  |int k=>obtain⟨t,rfl⟩:=ti h' r';cases e;exact .int_int j t1 k t
  |str k=>obtain⟨t,rfl⟩:=ts h' r';cases e;exact .int_str j t1 k t
  |tup k=>obtain⟨l,it,rfl,p⟩:=tt h' r';cases e;exact .int_tuple j t1 p hu
  |lst k=>obtain⟨l,it,rfl,p⟩:=tl h' r';cases e;exact .int_list j t1 p hu
  |exc k=>cases e
  |dic k=>cases e
  |dw _ _ _ _=>cases e
 |str j=>
  obtain⟨t1,rfl⟩:=ts h r;cases w' with
  |non=>obtain rfl:=tn h' r';cases e;exact .str_none j t1
  |bl k=>obtain rfl:=tb h' r';cases e;exact .str_bool j t1 k
  |int k=>obtain⟨t,rfl⟩:=ti h' r';cases e;exact .str_int j t1 k t
  |str k=>obtain⟨t,rfl⟩:=ts h' r';cases e;exact .str_str j t1 k t
  |tup k=>obtain⟨l,it,rfl,p⟩:=tt h' r';cases e;exact .str_tuple j t1 p hu
  |lst k=>obtain⟨l,it,rfl,p⟩:=tl h' r';cases e;exact .str_list j t1 p hu
  |exc k=>cases e
  |dic k=>cases e
  |dw _ _ _ _=>cases e
 |tup j=>
  obtain⟨l1,it1,rfl,p1⟩:=tt h r;cases w' with
  |non=>obtain rfl:=tn h' r';cases e;exact .tuple_none p1 hu
  |bl k=>obtain rfl:=tb h' r';cases e;exact .tuple_bool k p1 hu
  |int k=>obtain⟨t,rfl⟩:=ti h' r';cases e;exact .tuple_int k t p1 hu
  |str k=>obtain⟨t,rfl⟩:=ts h' r';cases e;exact .tuple_str k t p1 hu
  |tup k=>grind
  |lst k=>obtain⟨l,it,rfl,p⟩:=tl h' r';cases e;exact .tuple_list p1 p hu
  |exc k=>cases e
  |dic k=>cases e
  |dw _ _ _ _=>cases e
 |lst j=>
  obtain⟨l1,it1,rfl,p1⟩:=tl h r;cases w' with
  |non=>obtain rfl:=tn h' r';cases e;exact .list_none p1 hu
  |bl k=>obtain rfl:=tb h' r';cases e;exact .list_bool k p1 hu
  |int k=>obtain⟨t,rfl⟩:=ti h' r';cases e;exact .list_int k t p1 hu
  |str k=>obtain⟨t,rfl⟩:=ts h' r';cases e;exact .list_str k t p1 hu
  |lst k=>grind
  |tup k=>obtain⟨l,it,rfl,p⟩:=tt h' r';cases e;exact .list_tuple p1 p hu
  |exc k=>cases e
  |dic k=>cases e
  |dw _ _ _ _=>cases e
 |exc j=>cases w'<;>cases e
 |dic j=>cases w'<;>cases e
 |dw _ _ _ _=>cases w'<;>cases e
theorem y1d(I:Inv X pins σ H s)(sg:Same G H)(hd:depW w<=0)(hu:A.units<cLine)(h:Rep X.K G w v)(h':Rep X.K G w' v')(r:RelV v u)(r':RelV v' u')(e:eqW w w'=some b):SeqAt.RcNeAt A s u u' (!b):=
 x1g I sg hu (λws z=>by grind [depW]) (λws z=>by grind [depW]) h h' r r' e
theorem x53(I:Inv X pins σ H s)(sg:Same G H)(hu:A.units+(n+1)<cLine)(hd:depWs ws<=n)(r1:Reps X.K G ws xs)(r2:Reps X.K G ws' xs')(v1:Vals xs its)(v2:Vals xs' its')(he:eqWs ws ws'=some k):
  ∀j (h1:j<its.toArray.size) (h2:j<its'.toArray.size),SeqAt.EqAt A.in1 s its.toArray[j] its'.toArray[j] ((eqW (ws.getD j .non) (ws'.getD j .non)).getD false):=by
 intro j h1 h2;have l1:=r1.length;have l2:=r2.length;have m1:=v1.length;have m2:=v2.length;have i1:j<xs.length:=by rw[m1];simpa using h1
 have i2:j<xs'.length:=by rw[m2];simpa using h2
 obtain⟨u1,e1,ru1⟩:=v1.get (w0b i1);obtain⟨u2,e2,ru2⟩:=v2.get (w0b i2);obtain⟨w1,f1,p1⟩:=r1.getV (w0b i1);obtain⟨w2,f2,p2⟩:=r2.getV (w0b i2);obtain⟨b',hb'⟩:=(q5d he).1 j w1 w2 f1 f2;rw[q95 f1,q95 f2,hb']
 have g1:its.toArray[j]=u1:=by
  grind
 have g2:its'.toArray[j]=u2:=by
  grind
 rw[g1,g2];have hdw:depW w1<=n:=w0s (q85 f1) hd
 have hun:A.in1.units+n<cLine:=by
  grind
 refine x52 ru1 (x51 p1) (y7d I sg n hdw hun p1 p2 ru1 ru2 hb') λz=>?_
 subst z;have:=ru1.inj ru2
 grind [x27]
theorem y8h(I:Inv X pins σ H s)(sg:Same G H)(n)(hd:depW w<=n+1)(hu:A.units+(n+1)<cLine)(h:Rep X.K G w v)(h':Rep X.K G w' v')(r:RelV v u)(r':RelV v' u')(e:eqW w w'=some b):SeqAt.RcNeAt A s u u' (!b):=by
 cases w with
 |tup ws=>
  cases w' with
  |tup ws'=>
   obtain⟨a,xs,rfl,q1,r1⟩:=h;obtain⟨a',xs',rfl,q2,r2⟩:=h';cases r;cases r';obtain⟨its,v1,p1,_⟩:=I.tuple (sg.tup q1);obtain⟨its',v2,p2,_⟩:=I.tuple (sg.tup q2);have e:eqWs ws ws'=some b:=e;have z:=SeqAt.RcNeAt.tuples (show s.heap.IsTuple a _ from p1) (show s.heap.IsTuple a' _ from p2) (show A.units<cLine by omega) (x53 I sg hu (by grind [depW]) r1 r2 v1 v2 e);have l1:=r1.length;have l2:=r2.length;have m1:=v1.length;have m2:=v2.length;have eb:=(q5d e).2
   grind
  |_=>exact x1g I sg (by omega) (by intro ws';simp) (by intro ws';simp) h h' r r' e
 |lst ws=>
  cases w' with
  |lst ws'=>
   obtain⟨a,xs,rfl,q1,r1⟩:=h;obtain⟨a',xs',rfl,q2,r2⟩:=h';cases r;cases r';obtain⟨its,v1,p1,_⟩:=I.list (sg.seq q1);obtain⟨its',v2,p2,_⟩:=I.list (sg.seq q2);have e:eqWs ws ws'=some b:=e;have l1:=r1.length;have l2:=r2.length;have m1:=v1.length;have m2:=v2.length;have eb:=(q5d e).2;have n1:its.length=ws.length:=by omega
   have n2:its'.length=ws'.length:=by omega
   by_cases hl:ws.length=ws'.length
   ·have z:=SeqAt.RcNeAt.lists p1.isList p2.isList (by grind) (show A.units<cLine by omega) (x53 I sg hu (by grind [depW]) r1 r2 v1 v2 e)
    grind
   ·have z:=SeqAt.RcNeAt.lists_lengths (A:=A) p1.isList p2.isList (by grind) (show A.units<cLine by omega)
    grind
  |_=>exact x1g I sg (by omega) (by intro ws';simp) (by intro ws';simp) h h' r r' e
 |_=>exact y1d I sg (by simp[depW]) (by omega) h h' r r' e
noncomputable def eq2(x y:W):Option W:=if depW x<=150 then(eqW x y).map .bl else none
noncomputable def rEqD(K:PySem.W.Frag):R2:=λx y H Q=>∃G wx wy b,Same G H/\depW wx<=150/\Rep K G wx x/\Rep K G wy y/\eqW wx wy=some b/\Q (.bl b) H
theorem y1e(hu:X.A.units+150<cLine):OpR X (compareOp .Eq) (rEqD X.K):=by
 intro pins s σ H x y v u Q I rx ry h;obtain⟨G,wx,wy,b,sg,hd,hx,hy,e,q⟩:=h;exact y7d I sg 150 hd hu hx hy rx ry e _ _ _ _ ⟨.bl b,H,I,rfl,q⟩
theorem y7e:Op2 K (rEqD K) eq2:=by
 intro G H x y wx wy w Q s px py hf h;unfold eq2 at hf;split at hf
 ·rename_i hd;obtain⟨b,hb,rfl⟩:=w0w.mp hf;exact⟨G,wx,wy,b,s,hd,px,py,hb,h G _ H (.refl s) rfl⟩
 ·cases hf
noncomputable def ne2(x y:W):Option W:=if depW x<=150 then(eqW x y).map λb=>.bl (!b)else none
noncomputable def rNeD(K:PySem.W.Frag):R2:=λx y H Q=>∃G wx wy b,Same G H/\depW wx<=150/\Rep K G wx x/\Rep K G wy y/\eqW wx wy=some b/\Q (.bl (!b)) H
theorem z3q(hu:X.A.units+150<cLine):OpR X (compareOp .NotEq) (rNeD X.K):=by
 intro pins s σ H x y v u Q I rx ry h;obtain⟨G,wx,wy,b,sg,hd,hx,hy,e,q⟩:=h;exact y8h I sg 149 hd hu hx hy rx ry e _ _ _ _ ⟨.bl (!b),H,I,rfl,q⟩
theorem z7g:Op2 K (rNeD K) ne2:=by
 intro G H x y wx wy w Q s px py hf h;unfold ne2 at hf;split at hf
 ·rename_i hd;obtain⟨b,hb,rfl⟩:=w0w.mp hf;exact⟨G,wx,wy,b,s,hd,px,py,hb,h G _ H (.refl s) rfl⟩
 ·cases hf
end
noncomputable def isW:W->W->Option W
 |.non,.non=>some (.bl true)
 |_,.non=>some (.bl false)
 |.bl a,.bl b=>some (.bl (a==b))
 |_,.bl _=>some (.bl false)
 |_,_=>none
noncomputable def nisW:W->W->Option W
 |.non,.non=>some (.bl false)
 |_,.non=>some (.bl true)
 |.bl a,.bl b=>some (.bl (!(a==b)))
 |_,.bl _=>some (.bl true)
 |_,_=>none
noncomputable def rIs:R2:=λx y H Q=>(y=.non\/∃b,y=.bl b)/\Q (.bl (decide (x=y))) H
noncomputable def rNis:R2:=λx y H Q=>(y=.non\/∃b,y=.bl b)/\Q (.bl (!decide (x=y))) H
theorem x54{x y:V}{v u:Value}(rx:RelV x v)(ry:RelV y u)(h:y=.non\/∃b,y=.bl b):plainIs v u=true/\(v==u)=decide (x=y):=by
 rcases h with rfl|⟨b,rfl⟩
 ·cases ry
  cases x<;>first
   |(cases rx;exact⟨rfl,by first|rfl|(rw[w2o];simp)⟩)
   |(obtain⟨t,rfl⟩:=rx;exact⟨rfl,by rw[w2o];simp⟩)
 ·cases ry
  cases x<;>first
   |(cases rx;exact⟨rfl,by first|rfl|(rw[w2o];simp)⟩)
   |(obtain⟨t,rfl⟩:=rx;exact⟨rfl,by rw[w2o];simp⟩)
theorem z3r:OpR X (compareOp .Is) rIs:=by
 intro pins s σ H x y v u Q I rx ry h;obtain⟨hy,q⟩:=h;obtain⟨h1,h2⟩:=x54 rx ry hy;exact wpAny_is_plain h1 (x5m I q h2.symm)
theorem y8i:OpR X (compareOp .IsNot) rNis:=by
 intro pins s σ H x y v u Q I rx ry h;obtain⟨hy,q⟩:=h
 grind [x54,wpAny_isNot_plain,x5m]
theorem z7h{x y:V}{wx wy w:W}(px:Rep K G wx x)(py:Rep K G wy y)(h:isW wx wy=some w):(y=.non\/∃b,y=.bl b)/\w=.bl (decide (x=y)):=by
 cases wy with
 |non=>
  cases(show y=.non from py);refine⟨.inl rfl,?_⟩;cases wx with
  |tup ws=>obtain⟨_,_,rfl,_⟩:=px;cases h;simp
  |lst ws=>obtain⟨_,_,rfl,_⟩:=px;cases h;simp
  |exc c=>obtain⟨_,rfl,_⟩:=px;cases h;simp
  |dic c=>obtain⟨_,rfl,_⟩:=px;cases h;simp
  |dw _ _ _ _=>obtain⟨_,_,_,rfl,_⟩:=px;cases h;simp
  |_=>cases px;cases h;simp
 |bl b=>
  cases(show y=.bl b from py);refine⟨.inr ⟨b,rfl⟩,?_⟩;cases wx with
  |tup ws=>obtain⟨_,_,rfl,_⟩:=px;cases h;simp
  |lst ws=>obtain⟨_,_,rfl,_⟩:=px;cases h;simp
  |exc c=>obtain⟨_,rfl,_⟩:=px;cases h;simp
  |dic c=>obtain⟨_,rfl,_⟩:=px;cases h;simp
  |dw _ _ _ _=>obtain⟨_,_,_,rfl,_⟩:=px;cases h;simp
  |bl k=>cases px;cases h;cases k<;>cases b<;>rfl
  |_=>cases px;cases h;simp
 |_=>cases wx<;>cases h
theorem z3s{x y:V}{wx wy w:W}(px:Rep K G wx x)(py:Rep K G wy y)(h:nisW wx wy=some w):(y=.non\/∃b,y=.bl b)/\w=.bl (!decide (x=y)):=by
 cases wy with
 |non=>
  cases(show y=.non from py);refine⟨.inl rfl,?_⟩;cases wx with
  |tup ws=>obtain⟨_,_,rfl,_⟩:=px;cases h;simp
  |lst ws=>obtain⟨_,_,rfl,_⟩:=px;cases h;simp
  |exc c=>obtain⟨_,rfl,_⟩:=px;cases h;simp
  |dic c=>obtain⟨_,rfl,_⟩:=px;cases h;simp
  |dw _ _ _ _=>obtain⟨_,_,_,rfl,_⟩:=px;cases h;simp
  |_=>cases px;cases h;simp
 |bl b=>
  cases(show y=.bl b from py);refine⟨.inr ⟨b,rfl⟩,?_⟩;cases wx with
  |tup ws=>obtain⟨_,_,rfl,_⟩:=px;cases h;simp
  |lst ws=>obtain⟨_,_,rfl,_⟩:=px;cases h;simp
  |exc c=>obtain⟨_,rfl,_⟩:=px;cases h;simp
  |dic c=>obtain⟨_,rfl,_⟩:=px;cases h;simp
  |dw _ _ _ _=>obtain⟨_,_,_,rfl,_⟩:=px;cases h;simp
  |bl k=>cases px;cases h;cases k<;>cases b<;>rfl
  |_=>cases px;cases h;simp
 |_=>cases wx<;>cases h
theorem z7i:Op2 K rIs isW:=by
 intro G H x y wx wy w Q s px py hf h;obtain⟨h1,rfl⟩:=z7h px py hf;exact⟨h1,h G _ H (.refl s) rfl⟩
theorem z3t:Op2 K rNis nisW:=by
 intro G H x y wx wy w Q s px py hf h;obtain⟨h1,rfl⟩:=z3s px py hf;exact⟨h1,h G _ H (.refl s) rfl⟩
section
variable{a b c e:Expr}{p:Pos}{x:Str}
theorem x16(ha:DE Z X EE a da)(hb:DE Z X EE b db):DE Z X EE (.BinOp a .Sub b pos) (dOp subW da db):=q7f z2z z3j ha hb
theorem q86(ha:DE Z X EE a da)(hb:DE Z X EE b db):DE Z X EE (.BinOp a .Mult b pos) (dOp mulW da db):=q7f z20 z3k ha hb
theorem q06(ha:DE Z X EE a da)(hb:DE Z X EE b db):DE Z X EE (.BinOp a .FloorDiv b pos) (dOp fdivW da db):=q7f y7y y8g ha hb
theorem q0t(ha:DE Z X EE a da)(hb:DE Z X EE b db):DE Z X EE (.BinOp a .Mod b pos) (dOp modW da db):=q7f z21 z3l ha hb
theorem z3u(ha:DE Z X EE a da)(hb:DE Z X EE b db):DE Z X EE (.BinOp a .Pow b pos) (dOp powW da db):=q7f z22 z3m ha hb
theorem y1f(ha:DE Z X EE a da):DE Z X EE (.UnaryOp .USub a pos) (dUn negW da):=z7d z23 z3n ha
theorem z7j(ha:DE Z X EE a da)(hb:DE Z X EE b db):DE Z X EE (.Compare a [.Lt] [b] pos) (dOp ltW da db):=q82 y67 y7a ha hb (nomark _)
theorem z7k(ha:DE Z X EE a da)(hb:DE Z X EE b db):DE Z X EE (.Compare a [.Gt] [b] pos) (dOp gtW da db):=q82 y68 y7b ha hb (nomark _)
theorem q79(hu:X.A.units+150<cLine)(ha:DE Z X EE a da)(hb:DE Z X EE b db):DE Z X EE (.Compare a [.Eq] [b] pos) (dOp eq2 da db):=q82 (y1e hu) y7e ha hb (nomark _)
theorem q5p(ha:DE Z X EE a da)(hb:DE Z X EE b db):DT Z X EE (.Compare a [.Lt] [b] pos) (dTest (dOp ltW da db)):=q4u y67 y7a ha hb (nomark _)
theorem q7g(ha:DE Z X EE a da)(hb:DE Z X EE b db):DT Z X EE (.Compare a [.Gt] [b] pos) (dTest (dOp gtW da db)):=q4u y68 y7b ha hb (nomark _)
theorem y7f(ha:DE Z X EE a da)(hb:DE Z X EE b db):DT Z X EE (.Compare a [.GtE] [b] pos) (dTest (dOp geW da db)):=q4u z7a z7f ha hb (nomark _)
theorem q0v(hu:X.A.units+150<cLine)(ha:DE Z X EE a da)(hb:DE Z X EE b db):DT Z X EE (.Compare a [.Eq] [b] pos) (dTest (dOp eq2 da db)):=q4u (y1e hu) y7e ha hb (nomark _)
theorem q96(hu:X.A.units+150<cLine)(ha:DE Z X EE a da)(hb:DE Z X EE b db):DT Z X EE (.Compare a [.NotEq] [b] pos) (dTest (dOp ne2 da db)):=q4u (z3q hu) z7g ha hb (nomark _)
theorem z7l(ha:DE Z X EE a da)(hb:DE Z X EE b db):DT Z X EE (.Compare a [.Is] [b] pos) (dTest (dOp isW da db)):=q4u z3r z7i ha hb (nomark _)
theorem x17(ha:DE Z X EE a da)(hb:DE Z X EE b db):DT Z X EE (.Compare a [.IsNot] [b] pos) (dTest (dOp nisW da db)):=q4u y8i z3t ha hb (nomark _)
theorem q0h{k:Nat}(h:Room k A):A.units+150<cLine:=by have:=h.un;omega
noncomputable def cutW(xs:List W)(lo hi:Option Int):List W:=(xs.drop (HT.sIx xs.length 0 lo)).take (HT.sIx xs.length xs.length hi-HT.sIx xs.length 0 lo)
theorem Reps.cut{xs:List V}(r:Reps K G ws xs)(lo hi:Option Int):Reps K G (cutW ws lo hi) (cutV xs lo hi):=by
 unfold cutW cutV;rw[r.length];exact(r.drop _).take _
noncomputable def DO(Z:Zt)(X:Cx)(EE:L2.St->XK)(e:Option Expr)(d:Den (Option Int)):Prop:=PO X e (λσ H Q=>∃G e,Rel X.K Z G σ H e/\(d e).holds (λo e'=>∀G' H',Rel X.K Z G' σ H' e'->Same G G'->Q o H') (XH X.K Z EE σ G))
noncomputable def dNoPart:Den (Option Int):=λe=>.ok none e
noncomputable def dPart(d:Den W):Den (Option Int):=λe=>(d e).bind λw e1=>match w with
 |.int i=>.ok (some i) e1
 |_=>.no
theorem PO.mono{e:Option Expr}{t t':TO}(h:PO X e t)(i:∀σ H Q,t' σ H Q->t σ H Q):PO X e t':=λpins s σ H Q I q=>h pins s σ H Q I (i σ H Q q)
theorem q2b:DO Z X EE none dNoPart:=PO.mono y71 λσ H Q ⟨G,e,r,h⟩=>h G H r (.refl _)
theorem q1h(h:DE Z X EE e da):DO Z X EE (some e) (dPart da):=by
 refine PO.mono (y72 h) ?_;rintro σ H Q ⟨G,e,rel,h⟩;simp only[dPart,R.holds_bind]at h;refine⟨G,e,rel,h.imp (λx e1 h G1 v1 H1 r1 s1 p1=>?_) λ_ _ h=>h⟩
 cases x with
 |int i=>cases(show v1=V.int i from p1);exact⟨i,rfl,h G1 H1 r1 s1⟩
 |_=>exact h.elim
noncomputable def slW:W->Option Int->Option Int->Option W
 |.lst ws,lo,hi=>some (.lst (cutW ws lo hi))
 |.tup ws,lo,hi=>if ¬(HT.sIx ws.length 0 lo=0/\HT.sIx ws.length ws.length hi=ws.length)then some (.tup (cutW ws lo hi))else none
 |_,_,_=>none
noncomputable def tyW:W->Value
 |.non=>.type "NoneType"
 |.bl _=>.type "bool"
 |.int _=>.type "int"
 |.str _=>.type "str"
 |.tup _=>.type "tuple"
 |.lst _=>.type "list"
 |.exc c=>c
 |.dic _=>.type "dict"
 |.dw _ _ _ _=>.type "dict"
noncomputable def isiW(K:PySem.W.Frag)(cv:Value):W->Option W
 |.exc (.ref D)=>if excClsIn K D=true then(kitOne K (.ref D) cv).map .bl else none
 |.exc _=>none
 |.dic _=>none
 |.dw _ _ _ _=>none
 |w=>(kitOne K (tyW w) cv).map .bl
theorem y8j{pins:List (Addr×Obj)}{w:W}{v:V}{u:Value}{b:Bool}{Q:VK}(I:Inv X pins σ H s)(sg:Same G H)(p:Rep X.K G w v)(r:RelV v u)(h:isiW X.K cv w=some (.bl b))(q:Q (.bl b) H):
  wpAny (model X.prog X.w) X.A (call (.builtin "isinstance") [u,cv]) (EP X pins σ Q) X.xe s:=by
 have fin:∀tk,EP X pins σ Q (.bool b) {s with toks:=tk}:=λtk=>⟨.bl b,H,I.tok _,rfl,q⟩
 have kit:∀{t:Value},(kitOne X.K t cv).map W.bl=some (.bl b)->kitOne X.K t cv=some b:=λz=>by
  obtain⟨y,h1,h2⟩:=w0w.mp z;cases h2;exact h1
 cases w with
 |non=>cases p;cases r;exact kia_one PySem.W.kitx_none I.kIn True.intro (kit h) (λz=>nomatch z) fin
 |bl y=>cases p;cases r;exact kia_one PySem.W.kitx_bool I.kIn True.intro (kit h) (λz=>nomatch z) fin
 |int y=>cases p;obtain⟨t,rfl⟩:=r;exact kia_one PySem.W.kitx_int I.kIn True.intro (kit h) (λz=>nomatch z) fin
 |str y=>cases p;obtain⟨t,rfl⟩:=r;exact kia_one PySem.W.kitx_str I.kIn True.intro (kit h) (λz=>nomatch z) fin
 |tup ws=>
  obtain⟨a,xs,rfl,hq,_⟩:=p;cases r;obtain⟨its,_,⟨o,h1,h2,_⟩,_⟩:=I.tuple (sg.tup hq);exact kia_one PySem.W.kitx_tuple I.kIn ⟨o,h1,h2⟩ (kit h) (λz=>nomatch z) fin
 |lst ws=>
  obtain⟨a,xs,rfl,hq,_⟩:=p;cases r;obtain⟨its,_,⟨o,n,h1,h2,_⟩,_⟩:=I.list (sg.seq hq);exact kia_one PySem.W.kitx_list I.kIn ⟨o,h1,h2⟩ (kit h) (λz=>nomatch z) fin
 |dic c=>simp[isiW]at h
 |dw _ _ _ _=>simp[isiW]at h
 |exc c=>
  obtain⟨e,rfl,he⟩:=p;cases r;unfold isiW at h;split at h
  ·rename_i D heq;cases heq;split at h
   ·rename_i hC;obtain⟨⟨o,vs,h1,h2,h3⟩,_⟩:=(show ObjOk X.prog X.w H s.heap e (excO e (.ref D))from I.hok e _ (sg _ _ he));exact kia_one (y4h (ExcCls.of hC)) I.kIn ⟨o,vs,h1,h2,h3⟩ (kit h) (λz=>nomatch z) fin
   ·cases h
  all_goals first|(cases h;done)|(rename_i h1 h2 h3 h4 h5;exact absurd rfl (h2 c))|(rename_i h1 h2 h3 h4;exact absurd rfl (h2 c))|(rename_i h1 h2 h3;exact absurd rfl (h2 c))|(rename_i h1 h2;exact absurd rfl (h2 c))
noncomputable def dIsi(K:PySem.W.Frag)(cv:Value)(d:Den W):Den W:=λe=>(d e).bind λw e1=>match isiW K cv w with
 |some (.bl b)=>.ok (.bl b) e1
 |_=>.no
theorem y1g{c:V}(hc:ClsV c cv):CallR X (.builtin "isinstance") (λxs H Q=>∃x G w b,xs=[x,c]/\Same G H/\Rep X.K G w x/\isiW X.K cv w=some (.bl b)/\Q (.bl b) H):=by
 intro pins s σ H xs us Q I r h;obtain⟨x,G,w,b,rfl,sg,p,hi,q⟩:=h;obtain⟨u,u2,rfl,rx,rc⟩:=vals2 r
 have ec:u2=cv:=by
  cases c with
  |ty n=>exact(show u2=Value.type n from rc).trans (show cv=Value.type n from hc).symm
  |ref a=>exact(show u2=Value.ref a from rc).trans (show cv=Value.ref a from hc).symm
  |_=>exact hc.elim
 subst ec;exact y8j I sg p rx hi q
theorem x18{c0:V}(hc:ClsV c0 cv)(hcl:PE X c (tC c0))(hm:X.mg "isinstance"=none)(he:DE Z X EE e da)(hg:Gl X "isinstance":=by rfl)(hs:starEach [e,c] X.env=(false,eval e X.env)::starEach [c] X.env:=by rfl)(hs2:starEach [c] X.env=(false,eval c X.env)::starEach [] X.env:=by rfl)(hpl:(backTo pos (starEach [c] X.env)).any (·.1)=false:=by rfl):
  DE Z X EE (.Call (.Name "isinstance" p) [e,c] [] pos) (dIsi X.K cv da):=by
 refine PE.mono (x1b (y1g hc) hg hm PyProof.Rows.Boot.«isinstance» (q5c he (q5c hcl x1x hs2) hs) (by decide) (by decide) hs hpl) ?_;rintro σ H Q ⟨G,e,rel,h⟩;simp only[dIsi,R.holds_bind]at h;refine⟨G,e,rel,h.imp (λw e1 h G1 v1 H1 r1 s1 p1=>?_) λ_ _ h=>h⟩
 split at h
 ·rename_i b hb;exact⟨v1,G1,w,b,rfl,r1.sub,p1,hb,h G1 _ H1 r1 s1 rfl⟩
 ·exact h.elim
theorem x8e{n:Str}{a:Addr}(hm:X.mg n=some (.ref a))(hg:Gl X n:=by rfl)(hd:(n==("__debug__":Str))=false:=by decide):PE X (.Name n pos) (tC (.ref a)):=q7r (v:=.ref a) hg hm rfl hd
theorem x8f{n:Str}(hv:bootBuiltins n=some (.type T))(hm:X.mg n=none)(hg:Gl X n:=by rfl)(hn:n≠"__name__":=by decide)(hd:(n==("__debug__":Str))=false:=by decide):PE X (.Name n pos) (tC (.ty T)):=y7r (v:=.ty T) hg hm hv rfl hn hd
noncomputable def tup1:List W->Option W
 |[.lst ws]=>some (.tup ws)
 |[.tup ws]=>some (.tup ws)
 |_=>none
theorem z3v:OpN K (λxs H Q=>∃p ys,xs=[.ref p]/\((SqL K H p ys/\∀l,H l=none->Q (.ref l) (upd H l (.tup ys)))\/(SqT K H p ys/\Q (.ref p) H))) tup1:=by
 intro G H xs ws w Q s pr hf h;unfold tup1 at hf;split at hf
 ·cases hf;obtain⟨x,r,rfl,px,pr⟩:=pr;cases(show r=[]from pr);obtain⟨a,ys,rfl,ha,ra⟩:=px;refine⟨a,ys,rfl,.inl ⟨s.seq ha,λl hl=>?_⟩⟩
  have g:=Grow.laid s hl (.tup ys);exact h _ _ _ g ⟨l,ys,rfl,SqT.of q0k,Reps.mono g.gg _ ra⟩
 ·cases hf;obtain⟨x,r,rfl,px,pr⟩:=pr;cases(show r=[]from pr);obtain⟨a,ys,rfl,ha,ra⟩:=px;exact⟨a,ys,rfl,.inr ⟨s.tup ha,h G _ H (.refl s) ⟨a,ys,rfl,ha,ra⟩⟩⟩
 ·cases hf
theorem q3a(hm:X.mg "tuple"=none)(ha:DA Z X EE [e] dA)(hg:Gl X "tuple":=by rfl)(he:starEach [e] X.env=(false,eval e X.env)::starEach [] X.env:=by rfl)(hpl:(backTo pos (starEach [] X.env)).any (·.1)=false:=by rfl):DE Z X EE (.Call (.Name "tuple" p) [e] [] pos) (dFn tup1 dA):=
 y06 x4u z3v PyProof.Rows.Boot.«tuple» hm ha hg (by decide) (by decide) he hpl
theorem q0s(hm:X.mg "len"=none)(ha:DA Z X EE [e] dA)(hg:Gl X "len":=by rfl)(he:starEach [e] X.env=(false,eval e X.env)::starEach [] X.env:=by rfl)(hpl:(backTo pos (starEach [] X.env)).any (·.1)=false:=by rfl):DE Z X EE (.Call (.Name "len" p) [e] [] pos) (dFn len1 dA):=
 x5w x5n y09 PySem.boot_len hm ha hg (by decide) (by decide) he hpl
theorem q97(i:Nat)(hm:X.mg "len"=none)(hN:X.N[i]?=some x:=by rfl)(hvis:Vis X.env.scope x:=by walk_at "1")(hd:(x==("__debug__":Str))=false:=by decide)(hcd:(x==("__classdict__":Str))=false:=by decide)
  (hg:Gl X "len":=by rfl)(hs:starEach [.Name x p] X.env=(false,eval (.Name x p) X.env)::starEach [] X.env:=by rfl)(hpl:(backTo pos (starEach [] X.env)).any (·.1)=false:=by rfl):DE Z X EE (.Call (.Name "len" pn) [.Name x p] [] pos) (dFnV i len1):=
 z3o i x5n y09 PySem.boot_len hm hN hvis hd hcd hg (by decide) (by decide) hs hpl
noncomputable def lst1:List W->Option (List W)
 |[.lst ws]=>some ws
 |[.tup ws]=>some ws
 |_=>none
noncomputable def dList(dA:Den (List W)):Den (List W):=λe=>(dA e).bind λws e1=>ofOpt (lst1 ws) e1
theorem y8k(hm:X.mg "list"=none)(ha:DA Z X EE [e] dA)(hg:Gl X "list":=by rfl)(he:starEach [e] X.env=(false,eval e X.env)::starEach [] X.env:=by rfl)(hpl:(backTo pos (starEach [] X.env)).any (·.1)=false:=by rfl):DF Z X EE (.Call (.Name "list" p) [e] [] pos) (dList dA):=by
 refine PE.mono (x3u x5r hg hm PyProof.Rows.Boot.«list» ha (by decide) (by decide) he hpl) ?_;rintro σ H Q ⟨G,e,rel,h⟩;simp only[dList,R.holds_bind,ofOpt_holds]at h;refine⟨G,e,rel,h.imp (λws e1 h G1 vs H1 r1 s1 p1=>?_) λ_ _ h=>h⟩
 obtain⟨out,hf,h⟩:=h;unfold lst1 at hf;split at hf
 ·cases hf;obtain⟨y,r,rfl,py,pr⟩:=p1;cases(show r=[]from pr);obtain⟨a,ys,rfl,hq,rq⟩:=py;exact⟨a,ys,rfl,.inl (r1.sub.seq hq),x1d r1 s1 rq h⟩
 ·cases hf;obtain⟨y,r,rfl,py,pr⟩:=p1;cases(show r=[]from pr);obtain⟨a,ys,rfl,hq,rq⟩:=py;exact⟨a,ys,rfl,.inr (r1.sub.tup hq),x1d r1 s1 rq h⟩
 ·cases hf
end
section
variable{P:Program}{w:World}{mg:Str->Option Value}{base:Heap}
theorem y1h(hF:∀ws,F ws=.no)(h:spF K F vs H Q E):False:=by
 grind [x5y]
theorem conF(A:Fun K x x st f fd)(sc:FnScope N ps (defScope st))(len:∀ws,F ws≠.no->ws.length=ps.length)
  (hb:∀ws,F ws≠.no->∀(cdv:Value)(A:Around)(outer:List Env)(s:Shared)(H:Hp)(E:XK)(Z:Zt),Room k (A.deeper (PyProof.Rows.envOfC x (defScope st) s.heap.objs.size f cdv)) ->
   ∃d,DSs Z (cxOf (CX1 P w) P w K mg base N x (defScope st) f cdv A outer s H E) (λ_=>E) (defBody st) d/\(d (init N.length ws)).fn=F ws):FnOk P w K mg base (CX1 P w) (k+1) f fd ps (spF K F):=by
 refine A.okX sc (λvs H Q E h=>?_) (λcdv A outer s H vs Q E hr h=>?_)
 ·grind [x5y,Reps.length]
 ·obtain⟨G,ws,sg,rp,h⟩:=h;have hn:F ws≠.no:=λz=>by rw[z]at h;exact h
  obtain⟨d,hd,he⟩:=hb ws hn cdv A outer s H E ⟨H,G,[]⟩ hr;exact⟨_,hd,G,init N.length ws,x5x sg rp,x8c he h⟩
noncomputable def spLaw(K:PySem.W.Frag):Sp:=λvs H Q _=>∃(a:Addr)(ns:List Int),vs=[.ref a]/\SqL K H a (ns.map V.int)/\ns.length<=63/\∀H',Q (.bl true) H'
theorem x35:∀(ns:List Int),Reps K G (ns.map W.int) (ns.map V.int)
 |[]=>rfl
 |n::ns=>⟨_,_,rfl,rfl,x35 ns⟩
theorem y4p(hF:∀ns:List Int,ns.length<=63->F [.lst (ns.map .int)]=.ok (.fr (.bl true)))(h:spLaw K vs H Q E):spF K F vs H Q E:=by
 obtain⟨a,ns,rfl,hS,hl,q⟩:=h;refine⟨λb=>if b=a then H a else none,[.lst (ns.map .int)],λb o z=>?_,⟨.ref a,[],rfl,⟨a,ns.map V.int,rfl,?_,x35 ns⟩,rfl⟩,?_⟩
 ·grind
 ·rcases hS with(h|⟨o,h⟩)|h
  ·exact .inl (.inl (by simpa using h))
  ·exact .inl (.inr ⟨o,by simpa using h⟩)
  ·exact .inr h
 ·rw[hF ns hl];intro G' H' v g sl;obtain⟨u,h1,h2⟩:=sl;cases h1;cases(show v=V.bl true from h2);exact q H'
theorem z3w{e:Value}(z:CX1 P w [] H s (λ_ _ _=>False) e s'):False:=by
 obtain⟨_,_,_,_,_,_,_,_,_,_,h⟩:=z;exact h
theorem con0{x:Str}{st:Stmt}{ps:List Str}{F:List W->FR}(A:At K mg x st ps)(hF:∀ws,F ws=.no:=by intro _;rfl):Cal P w K mg base 0 x ps (spF K F):=by
 obtain⟨f,fd,F0,m,b⟩:=A.ex;exact⟨f,fd,⟨λvs H Q E h=>(y1h hF h).elim,λA outer s H args us vs Q E _ _ _ _ h=>(y1h hF h).elim⟩,m,F0.kp,b⟩
end
noncomputable def fmtW:W->Option Str
 |.int i=>if i.natAbs.log2<1000 then some (Str.ofString (toString i))else none
 |.str z=>if z.length<=1000000 then some z else none
 |_=>none
noncomputable def fNil:Den Str:=λe=>.ok Str.empty e
noncomputable def fTxt(x:Str)(d:Den Str):Den Str:=λe=>(d e).bind λy e1=>.ok (x++y) e1
noncomputable def fVal(d:Den W)(r:Den Str):Den Str:=λe=>(d e).bind λw e1=>match fmtW w with
 |some x=>(r e1).bind λy e2=>.ok (x++y) e2
 |none=>.no
noncomputable def dFstr(d:Den Str):Den W:=λe=>(d e).bind λx e1=>.ok (.str x) e1
theorem q51(x y z:Str):x++(y++z)=(x++y)++z:=by
 show Str.mk _=Str.mk _;congr 1;exact(w4z).symm
theorem x4v(x):x++Str.empty=x:=by
 show Str.mk _=x
 simp_all [Str.empty]
section
variable{e:Expr}{d:Den Str}{n:Nat}
noncomputable def DFm(Z:Zt)(X:Cx)(EE:L2.St->XK)(n:Nat)(es:List Expr)(d:Den Str):Prop:=PF X es (λacc σ H Q=>acc.length+n*1000001<=16777216/\∃G e,Rel X.K Z G σ H e/\(d e).holds (λy e'=>∀G' H',Rel X.K Z G' σ H' e'->Same G G'->Q (acc++y) H') (XH X.K Z EE σ G))
theorem PF.mono(h:PF X es t)(i:∀acc σ H Q,t' acc σ H Q->t acc σ H Q):PF X es t':=λacc pins s σ H Q I q=>h acc pins s σ H Q I (i acc σ H Q q)
theorem q4w:DFm Z X EE 0 [] fNil:=PF.mono z3e λacc σ H Q ⟨hl,G,e,r,h⟩=>⟨by rw[sizeLine_eq];omega,by
 have z:=h G H r (.refl _)
 rwa [x4v]at z⟩
theorem q1o{x:Str}{j pos}(r:DFm Z X EE n es d)(hx:x.length<=1000000:=by decide +kernel):DFm Z X EE (n+1) (.Constant (.str x) j pos::es) (fTxt x d):=by
 refine PF.mono (z3f r) ?_;rintro acc σ H Q ⟨hl,G,e,rel,h⟩;unfold fTxt at h;have e1:(acc++x).length=acc.length+x.length:=PySem.Str.length_append _ _;refine⟨by grind [sizeLine_eq],by omega,G,e,rel,(R.holds_bind.mp h).imp (λy e1 h G1 H1 r1 s1=>?_) λ_ _ h=>h⟩
 have z:=h G1 H1 r1 s1
 rwa [q51]at z
theorem y8l(h:fmtW w=some x):x.length<=1000000:=by
 unfold fmtW at h;split at h
 ·split at h
  ·rename_i hl;cases h;have:=PySem.int_text_length_le (k:=1000) (by decide) hl
   grind [ofString_length]
  ·cases h
 all_goals grind
theorem z7m(h:fmtW w=some x)(p:Rep K G w v):FmtV v x:=by
 unfold fmtW at h;split at h
 ·split at h
  ·cases h;cases p;exact⟨by omega,rfl⟩
  ·cases h
 ·split at h
  ·cases h;cases p;exact⟨by rw[sizeLine_eq];omega,rfl⟩
  ·cases h
 ·cases h
theorem q2c(he:DE Z X EE e da)(r:DFm Z X EE n es d):DFm Z X EE (n+1) (.FormattedValue e (-1) none pos::es) (fVal da d):=by
 refine PF.mono (z3g he r) ?_;rintro acc σ H Q ⟨hl,G,e,rel,h⟩;simp only[fVal,R.holds_bind]at h;refine⟨G,e,rel,h.imp (λw e1 h G1 v1 H1 r1 s1 p1=>?_) λ_ _ h=>h⟩
 split at h
 ·rename_i x hx;have hx2:=y8l hx;have e1':(acc++x).length=acc.length+x.length:=PySem.Str.length_append _ _;refine⟨x,z7m hx p1,by grind [sizeLine_eq],by omega,G1,e1,r1,(R.holds_bind.mp h).imp (λy e2 h G2 H2 r2 s2=>?_) λ_ _ h=>XH.trans s1 h⟩
  have z:=h G2 H2 r2 (s1.trans s2)
  rwa [q51]at z
 ·exact h.elim
theorem q3p{rest:List Expr}(h:DFm Z X EE n (v1::v2::rest) d)(hn:n*1000001<=16777216):DE Z X EE (.JoinedStr (v1::v2::rest) pos) (dFstr d):=by
 refine PE.mono (y79 h) ?_;rintro σ H Q ⟨G,e,rel,h⟩;simp only[dFstr,R.holds_bind]at h;refine⟨by show 0+_<=_;omega,G,e,rel,h.imp (λy e1 h G1 H1 r1 s1=>?_) λ_ _ h=>h⟩
 have e0:Str.empty++y=y:=by
  show Str.mk _=y
  simp_all [Str.empty]
 rw[e0];exact h G1 _ H1 r1 s1 rfl
end
section
variable{β:Type}{c:Prop} [Decidable c]{a:α}{e':List S}{k:α->List S->R β}{ks:α->List S->SR}{x y:R α}{s t:SR}{w:W}{v:Value}{st:S}
theorem y8m:(R.ok a e).bind k=k a e:=rfl
theorem y8n:(R.ex v e:R α).bind k=.ex v e:=rfl
theorem y8o:(R.no:R α).bind k=.no:=rfl
theorem y4q:(if c then x else y).bind k=if c then x.bind k else y.bind k:=by split<;>rfl
theorem z3x:(R.ok a e).stm ks=ks a e:=rfl
theorem z3y:(R.ex v e:R α).stm ks=.ex v e:=rfl
theorem z3z:(R.no:R α).stm ks=.no:=rfl
theorem y8p:(if c then x else y).stm ks=if c then x.stm ks else y.stm ks:=by split<;>rfl
noncomputable def SR.seq:SR->(List S->SR)->SR
 |.nx e,b=>b e
 |r,_=>r
theorem x55{p:List S->SR}:dSeq p q e=(p e).seq q:=by
 grind [dSeq,SR.seq]
theorem z30:(SR.nx e).seq q=q e:=rfl
theorem z31:(SR.rt st e).seq q=.rt st e:=rfl
theorem z32:(SR.ex v e).seq q=.ex v e:=rfl
theorem z33:(SR.bk e).seq q=.bk e:=rfl
theorem z34:(SR.ct e).seq q=.ct e:=rfl
theorem z35:(SR.no).seq q=.no:=rfl
theorem y8q:(if c then s else t).seq q=if c then s.seq q else t.seq q:=by split<;>rfl
theorem z7n:(SR.nx e).fn=.ok (.fr .non):=rfl
theorem z7o:(SR.rt st e).fn=.ok st:=rfl
theorem z7p:(SR.ex v e).fn=.ex v:=rfl
theorem z7q:(SR.no).fn=.no:=rfl
theorem z36:(if c then s else t).fn=if c then s.fn else t.fn:=by split<;>rfl
theorem x9l:ofOpt (some a) e=.ok a e:=rfl
theorem x9m:ofOpt (none:Option α) e=.no:=rfl
theorem y1i{o p:Option α}:ofOpt (if c then o else p) e=if c then ofOpt o e else ofOpt p e:=by split<;>rfl
noncomputable def varS(i:Nat)(e:List S):Option S->R W
 |some (.fr w)=>.ok w e
 |some (.own none ws)=>.ok (.lst ws) (e.set i (.fr (.lst ws)))
 |_=>.no
theorem z37:dVar i e=varS i e e[i]?:=by
 grind [dVar,varS]
theorem z38:varS i e (some (.fr w))=.ok w e:=rfl
theorem y8r:varS i e (some (.own none ws))=.ok (.lst ws) (e.set i (.fr (.lst ws))):=rfl
theorem dC_s:dC w e=.ok w e:=rfl
theorem z7r{f:W->W->Option W}:dOp f da db e=(da e).bind λx e1=>(db e1).bind λy e2=>ofOpt (f x y) e2:=rfl
theorem z7s{f:W->Option W}:dUn f da e=(da e).bind λx e1=>ofOpt (f x) e1:=rfl
noncomputable def testW(e:List S):W->R Bool
 |.bl k=>.ok k e
 |_=>.no
theorem y8s:dTest da e=(da e).bind λx e1=>testW e1 x:=rfl
theorem y8t{b:Bool}:testW e (.bl b)=.ok b e:=rfl
theorem z39:dTru da e=(da e).bind λx e1=>ofOpt (truW x) e1:=rfl
theorem z4a{p q:Den Bool}:dAnd p q e=(p e).bind λx e1=>if x=true then q e1 else .ok false e1:=rfl
theorem z7t{p q:Den Bool}:dOr p q e=(p e).bind λx e1=>if x=true then .ok true e1 else q e1:=rfl
theorem z4b{p:Den Bool}:dNot p e=(p e).bind λx e1=>.ok (!x) e1:=rfl
noncomputable def andK(q:Den W)(e:List S):W->R W
 |.bl true=>q e
 |.bl false=>.ok (.bl false) e
 |_=>.no
theorem y8u{p q:Den W}:dAndV p q e=(p e).bind λx e1=>andK q e1 x:=rfl
theorem z4c{q:Den W}{b:Bool}:andK q e (.bl b)=if b=true then q e else .ok (.bl false) e:=by cases b<;>rfl
noncomputable def orK(q:Den W)(e:List S):W->R W
 |.bl true=>.ok (.bl true) e
 |.bl false=>q e
 |_=>.no
theorem z4d{p q:Den W}:dOrV p q e=(p e).bind λx e1=>orK q e1 x:=rfl
theorem z7u{q:Den W}{b:Bool}:orK q e (.bl b)=if b=true then .ok (.bl true) e else q e:=by cases b<;>rfl
theorem z7v{p:Den Bool}{q q':Den W}:dIf p q q' e=(p e).bind λx e1=>if x=true then q e1 else q' e1:=rfl
theorem z4e:dNil e=.ok [] e:=rfl
theorem y8v{p:Den W}{q:Den (List W)}:dCons p q e=(p e).bind λx e1=>(q e1).bind λxs e2=>.ok (x::xs) e2:=rfl
theorem z4f{p:Den (List W)}:dTup p e=(p e).bind λxs e1=>if xs.length<=16777216 then .ok (.tup xs) e1 else .no:=rfl
theorem z4g{p:Den (List W)}:dLst p e=(p e).bind λxs e1=>if xs.length<=16777216 then .ok xs e1 else .no:=rfl
theorem z7w{p:Den (List W)}:dFz p e=(p e).bind λxs e1=>.ok (.lst xs) e1:=rfl
theorem z7x{f:List W->Option W}{p:Den (List W)}:dFn f p e=(p e).bind λxs e1=>ofOpt (f xs) e1:=rfl
theorem y8w{p:Den (List W)}:dList p e=(p e).bind λxs e1=>ofOpt (lst1 xs) e1:=rfl
theorem z7y:dNx e=.nx e:=rfl
theorem y8x{d:Den W}:dDrop d e=(d e).stm λ_ e'=>.nx e':=rfl
theorem z4h{d:Den W}:dRet d e=(d e).stm λw e'=>.rt (.fr w) e':=rfl
theorem y8y{d:Den (List W)}:dRetF d e=(d e).stm λw e'=>.rt (.own none w) e':=rfl
noncomputable def retS(e:List S):Option S->SR
 |some (.own none ws)=>.rt (.own none ws) e
 |some (.fr w)=>.rt (.fr w) e
 |_=>.no
theorem y8z:dRetO i e=retS e e[i]?:=by
 grind [dRetO,retS]
theorem y80:retS e (some (.own none ws))=.rt (.own none ws) e:=rfl
theorem z4i:retS e (some (.fr w))=.rt (.fr w) e:=rfl
theorem z4j{p:Den Bool}{q':List S->SR}:dIfS p q q' e=(p e).stm λx e1=>if x=true then q e1 else q' e1:=rfl
theorem x56{d:Den W}:dSet i d e=(d e).stm λw e'=>.nx (e'.set i (.fr w)):=rfl
theorem y81{d:Den (List W)}:dSetO i d e=(d e).stm λw e'=>.nx (e'.set i (.own none w)):=rfl
noncomputable def callR(e:List S):FR->R W
 |.ok (.fr w)=>.ok w e
 |.ok (.own none ws)=>.ok (.lst ws) e
 |.ok (.dic kvs)=>.ok (.dic kvs) e
 |.ex c=>.ex c e
 |_=>.no
theorem y4r{kvs:Dd}:callR e (.ok (.dic kvs))=.ok (.dic kvs) e:=rfl
theorem y82{F:List W->FR}{d:Den (List W)}:dCall F d e=(d e).bind λws e1=>callR e1 (F ws):=by
 unfold dCall;congr 1
theorem y83:callR e (.ok (.fr w))=.ok w e:=rfl
theorem y4s:callR e (.ok (.own none ws))=.ok (.lst ws) e:=rfl
theorem y84:callR e (.ex v)=.ex v e:=rfl
theorem y85:callR e .no=.no:=rfl
theorem y4t{f g:FR}:callR e (if c then f else g)=if c then callR e f else callR e g:=by split<;>rfl
noncomputable def callF(e:List S):FR->R (List W)
 |.ok (.own none ws)=>.ok ws e
 |.ex c=>.ex c e
 |_=>.no
theorem y1j:callF e (.ok (.own none ws))=.ok ws e:=rfl
theorem y4u:callF e (.ex v)=.ex v e:=rfl
theorem y1k{f g:FR}:callF e (if c then f else g)=if c then callF e f else callF e g:=by split<;>rfl
noncomputable def forW(i:Nat)(b:List S->SR)(e:List S):Option (List W)->SR
 |some ws=>forD i b ws e
 |none=>.no
theorem z4k{d:Den W}{b:List S->SR}:dFor i d b e=(d e).stm λw e1=>forW i b e1 (seqW w):=by
 unfold dFor;congr 1
theorem y86{g:List W->Option (List W)}{d:Den (List W)}{b:List S->SR}:dForR i g d b e=(d e).stm λw e1=>forW i b e1 (g w):=by
 unfold dForR;congr 1
theorem y1l{b:List S->SR}:forW i b e (some ws)=forD i b ws e:=rfl
noncomputable def SR.turn:SR->(List S->SR)->SR
 |.nx e,k=>k e
 |.ct e,k=>k e
 |.bk e,_=>.nx e
 |.rt s e,_=>.rt s e
 |.ex c e,_=>.ex c e
 |.no,_=>.no
theorem x57{b:List S->SR}:forD i b (w::ws) e=(b (e.set i (.fr w))).turn (forD i b ws):=by
 show(match b (e.set i (.fr w))with|.nx e'=>forD i b ws e'|.ct e'=>forD i b ws e'|.bk e'=>.nx e'|.rt s e'=>.rt s e'|.ex c e'=>.ex c e'|.no=>.no)=_;cases b (e.set i (.fr w))<;>rfl
theorem x28:(SR.nx e).turn q=q e:=rfl
theorem y87:(SR.ct e).turn q=q e:=rfl
theorem y88:(SR.bk e).turn q=.nx e:=rfl
theorem y89:(SR.rt st e).turn q=.rt st e:=rfl
theorem y9a:(SR.ex v e).turn q=.ex v e:=rfl
theorem y9b:(SR.no).turn q=.no:=rfl
theorem y4v:(if c then s else t).turn q=if c then s.turn q else t.turn q:=by split<;>rfl
theorem q98{p:Den Bool}{b:List S->SR}{n:Nat}:whileD p b (n+1) e=(p e).stm λx e1=>if x=true then(b e1).turn (whileD p b n)else .nx e1:=by
 show(p e).stm _=_;congr 1;funext x e1
 split
 ·cases b e1<;>rfl
 ·rfl
noncomputable def look1(k:W->R W):Option W->R W
 |none=>.no
 |some w=>k w
theorem z4l{d:Den W}:dIxV i d e=look1 (λ_=>(d e).bind λk e1=>look1 (λw=>ofOpt (ixW w k) e1) (e1[i]?.bind S.look)) (e[i]?.bind S.look):=by
 grind [dIxV,look1]
theorem y1m{k:W->R W}:look1 k (some w)=k w:=rfl
theorem z7z:S.look (.fr w)=some w:=rfl
theorem z4m{b:Option Nat}:S.look (.own b ws)=some (.lst ws):=rfl
noncomputable def fnV2(e:List S)(y:Option W):Option S->R W
 |some (.fr _)=>ofOpt y e
 |_=>match y with
  |none=>.no
  |some v=>if scalW v=true then .ok v e else .no
theorem z4n{f:List W->Option W}:dFnV i f e=look1 (λw=>fnV2 e (f [w]) e[i]?) (e[i]?.bind S.look):=by
 unfold dFnV look1;cases q:e[i]? with
 |none=>rfl
 |some s=>
  cases s with
  |no=>rfl
  |dic _=>rfl
  |dw _ _ _=>rfl
  |fr w=>
   show(match f [w]with|none=>R.no|some v=>R.ok v e)=fnV2 e (f [w]) (some (.fr w));generalize f [w]=y;cases y<;>rfl
  |own b ws=>
   grind [fnV2]
theorem z4o{y:Option W}:fnV2 e y (some (.fr w))=ofOpt y e:=rfl
theorem y9c{b:Option Nat}{v:W}:fnV2 e (some v) (some (.own b ws))=if scalW v=true then .ok v e else .no:=rfl
noncomputable def appK(i:Nat)(e:List S):List W->Option S->SR
 |[w],some (.own b xs)=>if xs.length<16777216 then .nx (e.set i (.own b (xs++[w])))else .no
 |_,_=>.no
noncomputable def ownQ(k:SR):Option S->SR
 |some (.own _ _)=>k
 |_=>.no
theorem z4p{d:Den (List W)}:dApp i d e=ownQ ((d e).stm λws e1=>appK i e1 ws e1[i]?) e[i]?:=by
 unfold dApp ownQ;cases e[i]? with
 |none=>rfl
 |some s=>cases s with
  |own b xs=>
   dsimp only;try congr 1
  |_=>rfl
theorem z70{k:SR}{b:Option Nat}:ownQ k (some (.own b ws))=k:=rfl
theorem z71{b:Option Nat}{xs:List W}:appK i e [w] (some (.own b xs))=if xs.length<16777216 then .nx (e.set i (.own b (xs++[w])))else .no:=rfl
noncomputable def popK(i:Nat)(e:List S)(b:Option Nat)(ws:List W):Option W->R W
 |some w=>.ok w (e.set i (.own b ws.dropLast))
 |none=>.no
noncomputable def popS(i:Nat)(e:List S):Option S->R W
 |some (.own b ws)=>popK i e b ws ws[ws.length-1]?
 |_=>.no
theorem z4q:dPop i e=popS i e e[i]?:=by
 grind [dPop,popS,popK]
theorem y9d{b:Option Nat}:popS i e (some (.own b (ws++[w])))=.ok w (e.set i (.own b ws)):=by
 show popK i e b (ws++[w]) (ws++[w])[(ws++[w]).length-1]?=_;have:(ws++[w])[(ws++[w]).length-1]?=some w:=by simp
 rw[this];show R.ok w (e.set i (.own b (ws++[w]).dropLast))=_
 grind
theorem y4w{C:Addr}{d:Den (List W)}:dRaise C d e=(d e).stm λws e1=>if ws.length<=16777216 then .ex (.ref C) e1 else .no:=rfl
theorem y1n:dNoPart e=.ok none e:=rfl
noncomputable def partK(e:List S):W->R (Option Int)
 |.int i=>.ok (some i) e
 |_=>.no
theorem y9e{d:Den W}:dPart d e=(d e).bind λw e1=>partK e1 w:=rfl
theorem y4x{i:Int}:partK e (.int i)=.ok (some i) e:=rfl
noncomputable def isiK(e:List S):Option W->R W
 |some (.bl b)=>.ok (.bl b) e
 |_=>.no
theorem z4r{d:Den W}:dIsi K cv d e=(d e).bind λw e1=>isiK e1 (isiW K cv w):=by
 unfold dIsi;congr 1
theorem z4s{b:Bool}:isiK e (some (.bl b))=.ok (.bl b) e:=rfl
theorem y9f{b:Str}{k:Bool}(h:kitOne K (.type "str") cv=some k):isiW K cv (.str b)=some (.bl k):=by show(kitOne K (.type "str") cv).map W.bl=_;rw[h];rfl
theorem q7w{D:Addr}{k:Bool}(hc:excClsIn K D=true)(h:kitOne K (.ref D) cv=some k):isiW K cv (.exc (.ref D))=some (.bl k):=by show(if excClsIn K D=true then _ else _)=_;rw[if_pos hc,h];rfl
noncomputable def compR(e:List S):Option (List W)->R (List W)
 |some out=>.ok out e
 |none=>.no
theorem y9g{d:Den W}:compK js cc d ws e=if ws.length<=16777216 then compR (frzs js e) (compD cc d (pjS js (frzs js e)) ws)else .no:=by
 grind [compK,compR]
noncomputable def compW(js:List Nat)(cc:Den Bool)(d:Den W)(e:List S):Option (List W)->R (List W)
 |some ws=>compK js cc d ws e
 |none=>.no
theorem y9h{di:Den W}{d:Den W}:dComp js di cc d e=(di e).bind λw e1=>compW js cc d e1 (seqW w):=by
 unfold dComp;congr 1
theorem y4y{g:List W->Option (List W)}{di:Den (List W)}{d:Den W}:dCompR g js di cc d e=(di e).bind λw e1=>compW js cc d e1 (g w):=by
 unfold dCompR;congr 1
theorem x9n{d:Den W}:compW js cc d e (some ws)=compK js cc d ws e:=rfl
theorem x9o{out:List W}:compR e (some out)=.ok out e:=rfl
theorem y1o:dYes e=.ok true e:=rfl
theorem y4z:frzs [] e=e:=rfl
theorem y1p{j:Nat}:frzs (j::js) e=frzs js (frz1 e j):=rfl
theorem y9i:pjS [] e=[]:=rfl
theorem y40{j:Nat}:pjS (j::js) e=pj1 e j::pjS js e:=rfl
theorem x58{d:Den W}{pe:List S}{g:W->W}:∀(ws:List W),(∀w∈ws,∃e',d (.fr w::pe)=.ok (g w) e')->compD dYes d pe ws=some (ws.map g)
 |[],_=>rfl
 |w::ws,h=>by
  obtain⟨e',he⟩:=h w (by simp);show(match d (.fr w::pe)with|.ok y _=>(compD dYes d pe ws).map (y::·)|_=>none)=_;rw[he,x58 ws λu hu=>h u (by simp[hu])]
  rfl
theorem q87{d:Den W}{pe:List S}:compD cc d pe (w::ws)=(match cc (.fr w::pe)with
  |.ok true e1=>(match d e1 with|.ok y _=>(compD cc d pe ws).map (y::·)|_=>none)
  |.ok false _=>compD cc d pe ws
  |_=>none):=rfl
end
section
variable{i j:Int}{x y:Str}{b c:Bool}{us:List W}{w:W}
theorem z4t:addW (.int i) (.int j)=some (.int (i+j)):=rfl
theorem z4u:addW (.str x) (.str y)=if x.length+y.length<=16777216 then some (.str (x++y))else none:=rfl
theorem z4v:addW (.lst ws) (.lst us)=if ws.length+us.length<=16777216 then some (.lst (ws++us))else none:=rfl
theorem z4w:subW (.int i) (.int j)=some (.int (i-j)):=rfl
theorem z4x:mulW (.int i) (.int j)=if(-18446744073709551616<i/\i<18446744073709551616)\/(-18446744073709551616<j/\j<18446744073709551616)then some (.int (i*j))else none:=rfl
theorem y9j:fdivW (.int i) (.int j)=if 0<j/\j<1073741824 then some (.int (i / j))else none:=rfl
theorem z4y:modW (.int i) (.int j)=if 0<j then some (.int (i%j))else none:=rfl
theorem z4z:powW (.int i) (.int j)=if 0<=j/\j<=1000000/\-18446744073709551616<i/\i<18446744073709551616 then some (.int (i^j.toNat))else none:=by
 show(if 0<=j/\j<=1000000/\i.natAbs<2^64 then _ else _)=_
 grind
theorem z72:ltW (.int i) (.int j)=some (.bl (decide (i<j))):=rfl
theorem z73:gtW (.int i) (.int j)=some (.bl (decide (j<i))):=rfl
theorem z74:geW (.int i) (.int j)=some (.bl (decide (j<=i))):=rfl
theorem z75:negW (.int i)=some (.int (-i)):=rfl
theorem z76:eq2 (.int i) (.int j)=some (.bl (decide (i=j))):=by
 show some (W.bl (i==j))=_;congr 2
theorem z77:eq2 (.str x) (.str y)=some (.bl (decide (x=y))):=by
 show some (W.bl (x==y))=_;congr 2
theorem z78:eq2 (.bl b) (.bl c)=some (.bl (decide (b=c))):=by
 show some (W.bl (b==c))=_;congr 2
theorem z79:ne2 (.int i) (.int j)=some (.bl (!decide (i=j))):=by
 show some (W.bl (!(i==j)))=_;congr 2
theorem y7g:ne2 (.str x) (.str y)=some (.bl (!decide (x=y))):=by
 show some (W.bl (!(x==y)))=_;congr 2
theorem z8a:ne2 (.bl b) (.bl c)=some (.bl (!decide (b=c))):=by
 show some (W.bl (!(b==c)))=_;congr 2
theorem z8b:isW (.bl b) (.bl c)=some (.bl (decide (b=c))):=by
 show some (W.bl (b==c))=_;congr 2
theorem z8c:isW .non .non=some (.bl true):=rfl
theorem z8d:isW (.bl b) .non=some (.bl false):=rfl
theorem z8e:isW (.int i) .non=some (.bl false):=rfl
theorem z8f:isW (.str x) .non=some (.bl false):=rfl
theorem z8g:isW (.tup ws) .non=some (.bl false):=rfl
theorem z8h:isW (.lst ws) .non=some (.bl false):=rfl
theorem z40:nisW (.bl b) (.bl c)=some (.bl (!decide (b=c))):=by
 show some (W.bl (!(b==c)))=_;congr 2
theorem z41:nisW .non .non=some (.bl false):=rfl
theorem z42:nisW (.bl b) .non=some (.bl true):=rfl
theorem z43:nisW (.int i) .non=some (.bl true):=rfl
theorem z44:nisW (.str x) .non=some (.bl true):=rfl
theorem z45:nisW (.tup ws) .non=some (.bl true):=rfl
theorem z46:nisW (.lst ws) .non=some (.bl true):=rfl
theorem ix_t:ixW (.tup ws) (.int i)=atI ws i:=rfl
theorem ix_l:ixW (.lst ws) (.int i)=atI ws i:=rfl
theorem z8i:len1 [.tup ws]=some (.int ws.length):=rfl
theorem z8j:len1 [.lst ws]=some (.int ws.length):=rfl
theorem y7h:len1 [.str x]=if x.length<=16777216 then some (.int x.length)else none:=rfl
theorem z8k:tup1 [.lst ws]=some (.tup ws):=rfl
theorem z8l:tup1 [.tup ws]=some (.tup ws):=rfl
theorem z8m:lst1 [.lst ws]=some ws:=rfl
theorem z8n:lst1 [.tup ws]=some ws:=rfl
theorem z8o:truW (.bl b)=some b:=rfl
theorem z8p:truW (.int i)=some (i != 0):=rfl
theorem z8q:truW .non=some false:=rfl
theorem z8r:truW (.tup ws)=some (!ws.isEmpty):=rfl
theorem z8s:truW (.lst ws)=some (!ws.isEmpty):=rfl
theorem z8t:seqW (.tup ws)=some ws:=rfl
theorem z8u:seqW (.lst ws)=some ws:=rfl
theorem sc_i:scalW (.int i)=true:=rfl
theorem sc_b:scalW (.bl b)=true:=rfl
theorem sc_s:scalW (.str x)=true:=rfl
theorem sc_n:scalW .non=true:=rfl
theorem sl_l{lo hi:Option Int}:slW (.lst ws) lo hi=some (.lst (cutW ws lo hi)):=rfl
theorem at0{xs:List α}:atI xs 0=xs[0]?:=by
 cases xs with
 |nil=>rfl
 |cons a l=>exact q4j (j:=0) rfl
theorem at1{xs:List α}:atI xs 1=xs[1]?:=by
 cases xs with
 |nil=>rfl
 |cons a l=>
  cases l with
  |nil=>rfl
  |cons b l=>exact q4j (j:=1) rfl
theorem at2{xs:List α}:atI xs 2=xs[2]?:=by
 cases xs with
 |nil=>rfl
 |cons a l=>
  cases l with
  |nil=>rfl
  |cons b l=>
   cases l with
   |nil=>rfl
   |cons c l=>exact q4j (j:=2) rfl
theorem x59{xs:List α}{k:Int}(h0:0<=k):atI xs k=xs[k.toNat]?:=by
 unfold atI ixN
 grind
theorem x6a{a b:String}(h:Str.ofString a=Str.ofString b):a=b:=by
 rw[Str.ofString_eq_toList,Str.ofString_eq_toList]at h;have h1:(a.toList.map Char.toNat).toArray=(b.toList.map Char.toNat).toArray:=congrArg Str.cps h;have h2:a.toList.map Char.toNat=b.toList.map Char.toNat:=by simpa using congrArg Array.toList h1
 have h3:a.toList=b.toList:=by
  have inj:∀c d:Char,c.toNat=d.toNat->c=d:=λc d e=>by
   apply Char.ext;exact UInt32.toNat_inj.mp e
  exact(List.map_inj_right inj).mp h2
 exact String.toList_inj.mp h3
theorem q4x{a b:String}:(Str.ofString a=Str.ofString b)=(a=b):=propext ⟨x6a,λh=>by rw[h]⟩
end
noncomputable def tuprevW:W->Option W
 |.lst ws=>some (.tup ws.reverse)
 |_=>none
noncomputable def boolsW:List W->Option (List Bool)
 |[]=>some []
 |.bl b::ws=>(boolsW ws).map (b::·)
 |_=>none
noncomputable def all1:List W->Option W
 |[.lst ws]=>(boolsW ws).map λbs=>.bl (bs.all id)
 |_=>none
noncomputable def max2:List W->Option W
 |[.int i,.int j]=>some (.int (if j>i then j else i))
 |_=>none
noncomputable def int1:List W->Option W
 |[.int i]=>some (.int i)
 |[.bl b]=>some (.int (if b then 1 else 0))
 |_=>none
noncomputable def eqS(y x:W):Bool:=(eqW y x).getD false
noncomputable def inW:W->W->Option W
 |x,.tup ws=>if scalW x=true/\ws.all scalW=true then some (.bl (ws.any λy=>eqS y x))else none
 |x,.lst ws=>if scalW x=true/\ws.all scalW=true then some (.bl (ws.any λy=>eqS y x))else none
 |_,_=>none
noncomputable def ninW:W->W->Option W
 |x,.tup ws=>if scalW x=true/\ws.all scalW=true then some (.bl (!ws.any λy=>eqS y x))else none
 |x,.lst ws=>if scalW x=true/\ws.all scalW=true then some (.bl (!ws.any λy=>eqS y x))else none
 |_,_=>none
theorem q5x(h:scalW w=true)(p:Rep K G w v):flatV v=true:=by
 cases w with
 |non=>cases p;rfl
 |bl b=>cases p;rfl
 |int b=>cases p;rfl
 |str b=>cases p;rfl
 |_=>cases h
theorem y9k(h:scalW w=true)(h':scalW u=true)(p:Rep K G w v)(q:Rep K G u x):eqV v x=eqS w u:=by
 cases w<;>cases u<;>first|(cases p;cases q;rfl)|exact absurd (show false=true from h') w1i|exact absurd (show false=true from h) w1i
theorem q6y{u:W}{x:V}(hu:scalW u=true)(q:Rep K G u x):∀{ws:List W}{xs:List V},ws.all scalW=true->Reps K G ws xs->xs.all flatV=true/\inV x xs=ws.any λy=>eqS y u
 |[],xs,_,r=>by cases r;exact⟨rfl,rfl⟩
 |w::ws,xs,h,r=>by
  obtain⟨y,r',rfl,p,r⟩:=r;rw[w2h,w0l]at h;obtain⟨i1,i2⟩:=q6y hu q h.2 r;refine⟨by rw[w2h,q5x h.1 p,i1];rfl,?_⟩;show(eqV y x||inV x r')=(eqS w u||ws.any _);rw[y9k h.1 hu p q,i2]
theorem y7i:Op2 K (rIn K false) inW:=by
 intro G H x y wx wy w Q s px py hf h;cases wy with
 |tup ws=>
  simp only[inW]at hf;split at hf
  ·rename_i hc;cases hf;obtain⟨a,xs,rfl,ha,ra⟩:=py;obtain⟨i1,i2⟩:=q6y hc.1 px hc.2 ra;refine⟨a,xs,rfl,.inr (s.tup ha),q5x hc.1 px,i1,?_⟩;rw[i2];exact h G _ H (.refl s) rfl
  ·cases hf
 |lst ws=>
  simp only[inW]at hf;split at hf
  ·rename_i hc;cases hf;obtain⟨a,xs,rfl,ha,ra⟩:=py;obtain⟨i1,i2⟩:=q6y hc.1 px hc.2 ra;refine⟨a,xs,rfl,.inl (s.seq ha),q5x hc.1 px,i1,?_⟩;rw[i2];exact h G _ H (.refl s) rfl
  ·cases hf
 |_=>simp[inW]at hf
theorem z47:Op2 K (rIn K true) ninW:=by
 intro G H x y wx wy w Q s px py hf h;cases wy with
 |tup ws=>
  simp only[ninW]at hf;split at hf
  ·rename_i hc;cases hf;obtain⟨a,xs,rfl,ha,ra⟩:=py;obtain⟨i1,i2⟩:=q6y hc.1 px hc.2 ra;refine⟨a,xs,rfl,.inr (s.tup ha),q5x hc.1 px,i1,?_⟩;rw[i2];exact h G _ H (.refl s) rfl
  ·cases hf
 |lst ws=>
  simp only[ninW]at hf;split at hf
  ·rename_i hc;cases hf;obtain⟨a,xs,rfl,ha,ra⟩:=py;obtain⟨i1,i2⟩:=q6y hc.1 px hc.2 ra;refine⟨a,xs,rfl,.inl (s.seq ha),q5x hc.1 px,i1,?_⟩;rw[i2];exact h G _ H (.refl s) rfl
  ·cases hf
 |_=>simp[ninW]at hf
theorem x19:∀{ws:List W}{bs:List Bool},boolsW ws=some bs->ws=bs.map .bl
 |[],bs,h=>by cases h;rfl
 |.bl b::ws,bs,h=>by
  obtain⟨cs,h1,rfl⟩:=w0w.mp (show(boolsW ws).map (b::·)=some bs from h);rw[x19 h1];rfl
 |.non::ws,bs,h=>by cases h
 |.int _::ws,bs,h=>by cases h
 |.str _::ws,bs,h=>by cases h
 |.tup _::ws,bs,h=>by cases h
 |.lst _::ws,bs,h=>by cases h
 |.exc _::ws,bs,h=>by cases h
theorem x36:∀(bs:List Bool),boolsW (bs.map .bl)=some bs
 |[]=>rfl
 |b::bs=>by
  show(boolsW (bs.map W.bl)).map (b::·)=_;rw[x36 bs];rfl
theorem x2a:∀{bs:List Bool}{xs:List V},Reps K G (bs.map W.bl) xs->xs=bs.map V.bl
 |[],xs,h=>h
 |b::bs,xs,h=>by
  obtain⟨x,r,rfl,h1,h2⟩:=h;rw[x2a h2,show x=V.bl b from h1];rfl
theorem z48:OpN K (λxs H Q=>∃p ys,xs=[.ref p]/\SqL K H p ys/\(∀y∈ys,∃b,y=.bl b)/\Q (.bl (ys.all λy=>decide (y=.bl true))) H) all1:=by
 intro G H xs ws w Q s pr hf h;unfold all1 at hf;split at hf
 ·obtain⟨bs,hb,rfl⟩:=w0w.mp hf;have:=x19 hb;subst this;obtain⟨x,r,rfl,px,pr⟩:=pr;cases(show r=[]from pr);obtain⟨a,ys,rfl,ha,ra⟩:=px;have:=x2a ra;subst this;refine⟨a,_,rfl,s.seq ha,λy hy=>?_,h G _ H (.refl s) ?_⟩
  ·grind
  ·show V.bl _=V.bl _
   grind [List.all_map]
 ·cases hf
theorem z49:OpN K (λxs H Q=>∃i j,xs=[.int i,.int j]/\Q (.int (if j>i then j else i)) H) max2:=by
 intro G H xs ws w Q s pr hf h;unfold max2 at hf;split at hf
 ·cases hf;obtain⟨x,r,rfl,px,y,r2,rfl,py,pr⟩:=pr;cases(show r2=[]from pr);cases px;cases py;exact⟨_,_,rfl,h G _ H (.refl s) rfl⟩
 ·cases hf
theorem z5a:OpN K (λxs H Q=>(∃i,xs=[.int i]/\Q (.int i) H)\/∃k,xs=[.bl k]/\Q (.int (if k then 1 else 0)) H) int1:=by
 intro G H xs ws w Q s pr hf h;unfold int1 at hf;split at hf
 ·cases hf;obtain⟨x,r,rfl,px,pr⟩:=pr;cases(show r=[]from pr);cases px;exact .inl ⟨_,rfl,h G _ H (.refl s) rfl⟩
 ·cases hf;obtain⟨x,r,rfl,px,pr⟩:=pr;cases(show r=[]from pr);cases px;exact .inr ⟨_,rfl,h G _ H (.refl s) rfl⟩
 ·cases hf
section
variable{a b c e:Expr}{p pos1 pos2:Pos}{x:Str}
theorem x9p(hu:X.A.units+150<cLine)(ha:DE Z X EE a da)(hb:DE Z X EE b db)(hm:behindInMarks .In b=false:=by with_unfolding_all rfl):DE Z X EE (.Compare a [.In] [b] pos) (dOp inW da db):=q82 x3v y7i ha hb hm
theorem q99(hu:X.A.units+150<cLine)(ha:DE Z X EE a da)(hb:DE Z X EE b db)(hm:behindInMarks .In b=false:=by with_unfolding_all rfl):DT Z X EE (.Compare a [.In] [b] pos) (dTest (dOp inW da db)):=q4u x3v y7i ha hb hm
theorem y1q(hu:X.A.units+150<cLine)(ha:DE Z X EE a da)(hb:DE Z X EE b db)(hm:behindInMarks .NotIn b=false:=by with_unfolding_all rfl):DT Z X EE (.Compare a [.NotIn] [b] pos) (dTest (dOp ninW da db)):=q4u x5q z47 ha hb hm
theorem z5b(hc:X.calm=true)(hm:X.mg "all"=none)(ha:DA Z X EE [e] dA)(hg:Gl X "all":=by rfl)(he:starEach [e] X.env=(false,eval e X.env)::starEach [] X.env:=by rfl)(hpl:(backTo pos (starEach [] X.env)).any (·.1)=false:=by rfl):DE Z X EE (.Call (.Name "all" p) [e] [] pos) (dFn all1 dA):=
 x5w (y4f hc) z48 PyProof.Rows.Boot.«all» hm ha hg (by decide) (by decide) he hpl
theorem y9l(hc:X.calm=true)(hm:X.mg "max"=none)(ha:DA Z X EE [a,b] dA)(hg:Gl X "max":=by rfl)(he:starEach [a,b] X.env=(false,eval a X.env)::starEach [b] X.env:=by rfl)(hpl:(backTo pos (starEach [b] X.env)).any (·.1)=false:=by rfl):DE Z X EE (.Call (.Name "max" p) [a,b] [] pos) (dFn max2 dA):=
 x5w (y0t hc) z49 PyProof.Rows.Boot.«max» hm ha hg (by decide) (by decide) he hpl
theorem x29(hm:X.mg "int"=none)(ha:DA Z X EE [e] dA)(hg:Gl X "int":=by rfl)(he:starEach [e] X.env=(false,eval e X.env)::starEach [] X.env:=by rfl)(hpl:(backTo pos (starEach [] X.env)).any (·.1)=false:=by rfl):DE Z X EE (.Call (.Name "int" p) [e] [] pos) (dFn int1 dA):=
 y06 y0u z5a PyProof.Rows.Boot.«int» hm ha hg (by decide) (by decide) he hpl
end
theorem y41:tuprevW (.lst ws)=some (.tup ws.reverse):=rfl
theorem z8v{bs:List Bool}:all1 [.lst (bs.map .bl)]=some (.bl (bs.all id)):=by
 show(boolsW (bs.map W.bl)).map _=_;rw[x36];rfl
theorem z5c{i:Int}:max2 [.int i,.int j]=some (.int (if j>i then j else i)):=rfl
theorem z8w{i:Int}:int1 [.int i]=some (.int i):=rfl
theorem z8x:int1 [.bl b]=some (.int (if b then 1 else 0)):=rfl
theorem cast0:((0:Nat):Int)=0:=rfl
theorem cast1:((1:Nat):Int)=1:=rfl
theorem z5d:fNil e=.ok Str.empty e:=rfl
theorem z5e:fTxt x d e=(d e).bind λy e1=>.ok (x++y) e1:=rfl
noncomputable def fmtK(r:Den Str)(e:List S):Option Str->R Str
 |some x=>(r e).bind λy e2=>.ok (x++y) e2
 |none=>.no
theorem z5f:fVal d r e=(d e).bind λw e1=>fmtK r e1 (fmtW w):=by
 unfold fVal;congr 1
theorem y1r:fmtK r e (some x)=(r e).bind λy e2=>.ok (x++y) e2:=rfl
theorem y9m:dFstr d e=(d e).bind λx e1=>.ok (.str x) e1:=rfl
theorem y1s{b:List S->SR}(I:Nat->List S->Prop):∀(ws:List W)(k:Nat)(e:List S),I k e->(∀(j:Nat)(w:W)(e:List S),ws[j]?=some w->I (k+j) e->∃e',b (e.set i (.fr w))=.nx e'/\I (k+j+1) e')->∃e',forD i b ws e=.nx e'/\I (k+ws.length) e'
 |[],k,e,h0,_=>⟨e,rfl,h0⟩
 |w::ws,k,e,h0,h=>by
  obtain⟨e1,h1,h2⟩:=h 0 w e rfl h0
  obtain⟨e2,h3,h4⟩:=y1s I ws (k+1) e1 h2 λj u e hu hI=>by
   have z:=h (j+1) u e (by simpa using hu) (by grind);rw[show k+(j+1)+1=k+1+j+1 by omega]at z;exact z
  grind [x57,x28]
theorem q4l:(rangeW lo hi).length=(hi-lo).toNat:=by simp[rangeW]
theorem y1t(h:(rangeW lo hi)[j]?=some w):w=.int (lo+j)/\j<(hi-lo).toNat:=by
 grind [rangeW]
theorem q4y(n)(hn:(hi-lo).toNat=n)(I:Nat->List S->Prop)(e)(h0:I 0 e)(h:∀(j:Nat)(e:List S),j<n->I j e->∃e',b (e.set i (.fr (.int (lo+j))))=.nx e'/\I (j+1) e'):∃e',forD i b (rangeW lo hi) e=.nx e'/\I n e':=by
 obtain⟨e',h1,h2⟩:=y1s (b:=b) (i:=i) I (rangeW lo hi) 0 e h0 λj w e hw hI=>by
  obtain⟨rfl,hj⟩:=y1t hw
  grind
 rw[q4l,hn,w4b]at h2;exact⟨e',h1,h2⟩
noncomputable def dLend(F:List W->FR)(i:Nat)(dA:Den (List W)):Den W:=λe=>match e[i]? with
 |some (.own _ _)=>(dA e).bind λus e1=>match e1[i]? with
  |some (.own _ ws)=>match F (.lst ws::us)with
   |.ok (.fr w)=>if scalW w=true then .ok w e1 else .no
   |_=>.no
  |_=>.no
 |_=>.no
mutual
noncomputable def conIn(K:PySem.W.Frag):W->Value->Bool
 |.non,u=>match u with|.none=>true|_=>false
 |.bl b,u=>match u with|.bool c=>b==c|_=>false
 |.int i,u=>match u with|.int j _=>decide (i=j)|_=>false
 |.str x,u=>match u with|.str y _=>decide (x=y)|_=>false
 |.tup ws,u=>match u with
  |.ref a=>match K.lookup a with
   |some o=>(o.cls==.type "tuple"&&o.dict.isNone)&&(match o.data with|.seq its _=>Nat.ble its.size 1000000&&consIn K ws its.toList|_=>false)
   |none=>false
  |_=>false
 |.lst _,_=>false
 |.exc _,_=>false
 |.dic _,_=>false
 |.dw _ _ _ _,_=>false
noncomputable def consIn(K:PySem.W.Frag):List W->List Value->Bool
 |[],us=>us.isEmpty
 |w::ws,us=>match us with
  |u::us=>conIn K w u&&consIn K ws us
  |[]=>false
end
mutual
theorem x3a{K:PySem.W.Frag}:∀(w:W){u:Value},conIn K w u=true->∃v,RelV v u/\∀G,Rep K G w v
 |.non,u,h=>by
  unfold conIn at h;split at h
  ·exact⟨.non,rfl,λ_=>rfl⟩
  ·cases h
 |.bl b,u,h=>by
  unfold conIn at h;split at h
  ·rename_i c;have:b=c:=by simpa using h
   exact⟨.bl b,by rw[this];rfl,λ_=>rfl⟩
  ·cases h
 |.int i,u,h=>by
  unfold conIn at h;split at h
  ·rename_i j t;have:i=j:=by simpa using h
   exact⟨.int i,⟨t,by rw[this]⟩,λ_=>rfl⟩
  ·cases h
 |.str x,u,h=>by
  unfold conIn at h;split at h
  ·rename_i y t;have:x=y:=by simpa using h
   exact⟨.str x,⟨t,by rw[this]⟩,λ_=>rfl⟩
  ·cases h
 |.tup ws,u,h=>by
  unfold conIn at h;split at h
  ·rename_i a;split at h
   ·rename_i o ho;rw[w0l]at h;obtain⟨h1,h2⟩:=h;split at h2
    ·rename_i its n hd;rw[w0l]at h2;obtain⟨h3,h4⟩:=h2;obtain⟨xs,r,q⟩:=x6b ws h4;exact⟨.ref a,rfl,λG=>⟨a,xs,rfl,.inr ⟨o,its,n,ho,by grind,Option.isNone_iff_eq_none.mp ((w0l _ _).mp h1).2,hd,by rw[sizeLine_eq];have:=w3m h3;omega,r⟩,q G⟩⟩
    ·cases h2
   ·cases h
  ·cases h
 |.lst _,u,h=>by grind [conIn]
 |.exc _,u,h=>by grind [conIn]
 |.dic _,u,h=>by grind [conIn]
 |.dw _ _ _ _,u,h=>by grind [conIn]
theorem x6b{K:PySem.W.Frag}:∀(ws:List W){us:List Value},consIn K ws us=true->∃xs,Vals xs us/\∀G,Reps K G ws xs
 |[],us,h=>by
  unfold consIn at h;cases us with
  |nil=>exact⟨[],.nil,λ_=>rfl⟩
  |cons _ _=>cases h
 |w::ws,us,h=>by
  unfold consIn at h;cases us with
  |nil=>cases h
  |cons u us=>
   rw[w0l]at h;obtain⟨v,r,q⟩:=x3a w h.1;obtain⟨xs,r',q'⟩:=x6b ws h.2;exact⟨v::xs,.cons r r',λG=>⟨v,xs,rfl,q G,q' G⟩⟩
end
theorem q11{x:Str}{w:W}{u:Value}(hm:X.mg x=some u)(hc:conIn X.K w u=true)(hg:Gl X x:=by rfl)(hd:(x==("__debug__":Str))=false:=by decide):DE Z X EE (.Name x pos) (dC w):=by
 obtain⟨v,r,q⟩:=x3a w hc;exact PE.mono (q7r hg hm r hd) λσ H Q ⟨G,e,rel,h⟩=>h G v H rel (.refl _) (q G)
theorem x2b(l)(items)(n)(b)(items2)(n2)(T)(hT : T = "list" \/ T = "tuple")(hs0 : ¬(!items.isEmpty && Builtin.List.listTooLong (items.size + items2.size)) = true)(hs1 : items.size <= sizeLine)(hs2 : items.size + items2.size <= sizeLine + 1) :
  Meets (Builtin.«list.extend» { pos := [Value.ref l, Value.ref b] }) fun _ R s =>
     s.heap.get? l = some { cls := Value.type "list", data := Data.seq items n } /\
      (∃ o, s.heap.get? b = some o /\ o.cls = .type T /\ o.data = Data.seq items2 n2) /\
       R (Except.ok (Flow.ret Value.none)) { s with heap := s.heap.update l (Obj.mapSeq λx => x ++ items2) } := by
 refine Meets.of_wp λprog w A R s h => ?_
 obtain ⟨hl, ⟨o, hb, hc, hd⟩, h⟩ := h;obtain ⟨cls, dict, data, slots⟩ := o;simp only at hc hd;subst hc hd;refine wpAny_bind (wpAny_bind (wpAny_ite_true rfl (wpAny_pure (wpAny_pure ?_))));refine wpAny_bind (wpAny_bind (AutoSeq1.wpAny_loadPart' hb (wpAny_pure (wpAny_ite_true ?_ ?_))))
 ·grind
 refine wpAny_bind (wpAny_bind (wpAny_bind (wpAny_load' hb (wpAny_pure (wpAny_pure ?_)))));refine wpAny_bind (wpAny_bind (wpAny_bind (wpAny_load' hl (wpAny_pure (wpAny_pure ?_)))));refine wpAny_ite_false (by simpa using hs0) ?_;exact wpAny_bind (wpAny_updateSeq hl rfl (wpAny_pure ⟨_, rfl, h⟩) hs1 (by grind))
noncomputable def rExt(K:PySem.W.Frag):V->List V->Hp->VK->Prop:=λx vs H Q=>∃l b xs zs,x=.ref l/\vs=[.ref b]/\H l=some (.lst xs)/\(SqL K H b zs\/SqT K H b zs)/\xs.length+zs.length<=sizeLine/\Q .non (upd H l (.lst (xs++zs)))
theorem z5g:MtM X "list.extend" (rExt X.K):=by
 intro pins s σ H x vs v us Q I rx rv h;obtain⟨l,b,xs,zs,rfl,rfl,hH,hB,hz,q⟩:=h;cases rx;obtain⟨u,rfl,ru⟩:=rv.one;cases ru;obtain⟨z,its,n,r,hl,e⟩:=I.lstM hH
 have fin:∀(T:String)(its2:List Value)(n2:Nat)(o:Obj),T="list"\/T="tuple"->Vals zs its2->s.heap.get? b=some o->o.cls=.type T->o.data=.seq its2.toArray n2->wpAny (model X.prog X.w) X.A (call (.builtin "list.extend") [.ref l,.ref b]) (EP X pins σ Q) X.xe s:=λT its2 n2 o hT r2 e2 hc hd=>by
  have hl2:=r2.length;have hsz:its.toArray.size+its2.toArray.size<=sizeLine:=by grind
  have hlong:¬(!its.toArray.isEmpty&&Builtin.List.listTooLong (its.toArray.size+its2.toArray.size))=true:=by
   simp_all [notLongL]
  refine call_meets F.slot_list_extend ⟨_,e,rfl⟩ F.entry_list_extend (F.args_list_extend_2 _ _)
   (x2b l its.toArray n b its2.toArray n2 T hT hlong (by grind) (by omega)) ⟨e,⟨o,e2,hc,hd⟩,?_⟩
  refine⟨.non,_,I.lset (its':=its++its2) hH e (by simp) (r.append r2) ?_,rfl,q⟩
  grind
 rcases hB with hB|hB
 ·obtain⟨its2,r2,pl,_⟩:=I.list hB;obtain⟨o,e2,hc,n2,hd⟩:=pl.isList
  grind
 ·obtain⟨its2,r2,⟨o,e2,hc,n2,hd⟩,_⟩:=I.tuple hB
  grind
noncomputable def dExt(i:Nat)(d:Den (List W)):List S->SR:=λe=>match e[i]? with
 |some (.own _ _)=>(d e).stm λws e1=>match ws,e1[i]? with
  |[w],some (.own b xs)=>match seqW w with
   |some ys=>if xs.length+ys.length<=16777216 then .nx (e1.set i (.own b (xs++ys)))else .no
   |none=>.no
  |_,_=>.no
 |_=>.no
section
variable{e:Expr}{p:Pos}{x:Str}
theorem z5h(i:Nat)(ha:DA Z X EE (e::es) dA)(hN:X.N[i]?=some x:=by rfl)(hv:Vis X.env.scope x:=by walk_at "1")(hd:(x==("__debug__":Str))=false:=by decide)(hcd:(x==("__classdict__":Str))=false:=by decide)
  (hbase:attributeBase (.Name x p) "extend" X.env (eval (.Name x p) X.env)=eval (.Name x p) X.env:=by rfl)
  (hfew:((backTo cpos (starEach (e::es) X.env)).all (λx=>!x.1)&&(backToKw cpos (keywordEach [] X.env)).all (λx=>x.1.isSome)&&decide ((e::es).length+([]:List Keyword).length+(if([]:List Keyword).isEmpty then 0 else 1)<30))=true:=by rfl)
  (hline:(apos.endLine==cpos.line)=true:=by rfl)(hs:starEach (e::es) X.env=(false,eval e X.env)::starEach es X.env:=by rfl)(hplain:(backTo cpos (starEach es X.env)).any (·.1)=false:=by rfl)
  (hsw:swapsWith (.Call (.Attribute (.Name x p) "extend" apos) (e::es) [] cpos) none pos.line X.env=pure false:=by rfl):
  DS Z X EE (.Expr (.Call (.Attribute (.Name x p) "extend" apos) (e::es) [] cpos) pos) (dExt i dA):=by
 refine PS.mono (q7s (x47 PySem.F.plainAttrs_list PySem.F.slot_list_extend PySem.F.type_list_extend z5g (pv i hN hv hd hcd) ha hbase hfew hline hs hplain) hsw) ?_;rintro D σ H ⟨G,e,rel,h⟩;unfold dExt at h;split at h
 ·rename_i b0 ws0 he0;obtain⟨a,xs,h1,h2,h3,h4,h5⟩:=rel.own he0;refine⟨.ref a,h1,.inl ⟨rfl,xs,SqL.of h2⟩,G,e,rel,(q0w h).imp (λws e1 h G1 vs H1 r1 s1 p1=>?_) λ_ _ h=>h⟩
  split at h
  ·rename_i w b ys he1;obtain⟨a',zs,g1,g2,g3,g4,g5⟩:=r1.own he1;rw[h1]at g1;cases g1;obtain⟨y,r,rfl,py,pr⟩:=p1;cases(show r=[]from pr);split at h
   ·rename_i us hu;split at h
    ·rename_i hl
     have step:∀c cs,y=.ref c->(SqL X.K G1 c cs\/SqT X.K G1 c cs)->Reps X.K G1 us cs->rExt X.K (.ref a) [y] H1 (λv H'=>D.nx σ H'):=λc cs hy hq hr=>by
      subst hy;refine⟨a,c,zs,cs,rfl,rfl,g2,?_,by grind [Reps.length,sizeLine_eq],?_⟩
      ·rcases hq with q|q
       ·exact .inl (r1.sub.seq q)
       ·exact .inr (r1.sub.tup q)
      ·exact h G1 σ _ (r1.mut he1 h1 (g5.append hr)) s1
     unfold seqW at hu;split at hu
     ·cases hu;obtain⟨c,cs,hy,q,hr⟩:=py
      grind
     ·cases hu;obtain⟨c,cs,hy,q,hr⟩:=py
      grind
     ·cases hu
    ·exact h.elim
   ·exact h.elim
  ·exact h.elim
 ·exact h.elim
end
noncomputable def dPut(i:Nat)(dv dk:Den W):List S->SR:=λe=>(dv e).stm λw e1=>match e1[i]? with
 |some (.own _ _)=>(dk e1).stm λk e2=>match k,e2[i]? with
  |.int k,some (.own b ws)=>match ixN ws.length k with
   |some j=>.nx (e2.set i (.own b (ws.set j w)))
   |none=>.no
  |_,_=>.no
 |_=>.no
section
variable{e k:Expr}{d dk:Den W}{p tpos:Pos}{x:Str}
theorem y1u(i:Nat)(he:DE Z X EE e d)(hk:DE Z X EE k dk)(hN:X.N[i]?=some x:=by rfl)(hv:Vis X.env.scope x:=by walk_at "1")(hd:(x==("__debug__":Str))=false:=by decide)(hcd:(x==("__classdict__":Str))=false:=by decide)
  (ha:∀v,assign (.Subscript (.Name x p) k tpos) X.env v=(do
   let ov <- holding [v] (eval (.Name x p) X.env)
   let iv <- holding [v,ov] (eval k X.env)
   standAt tpos
   holding [v,ov,iv] (setItem ov iv v)
   release [v,ov,iv] []):=by intro _;rfl)
  (hs:swapsWithSole [.Subscript (.Name x p) k tpos] e pos.line X.env=pure false:=by rfl)(hw:swappedStores [.Subscript (.Name x p) k tpos] e X.env=pure none:=by rfl)
  (h1:(assignEach [.Subscript (.Name x p) k tpos] X.env).map (·.2)=[assign (.Subscript (.Name x p) k tpos) X.env]:=by rfl):
  DS Z X EE (.Assign [.Subscript (.Name x p) k tpos] e pos) (dPut i d dk):=by
 refine PS.mono (z2x he (z2w (pv i hN hv hd hcd) hk y4b ha) hs hw h1) ?_;rintro D σ H ⟨G,e,rel,h⟩;refine⟨G,e,rel,(q0w h).imp (λw e1 h G1 v1 H1 r1 s1 p1=>?_) λ_ _ h=>h⟩
 split at h
 ·rename_i b0 ws0 he0;obtain⟨a,xs,q1,q2,q3,q4,q5⟩:=r1.own he0;refine⟨.ref a,q1,G1,e1,r1,(q0w (σ:=σ) h).imp (λkw e2 h G2 v2 H2 r2 s2 p2=>?_) λ_ _ h G' H' r s=>h G' H' r (s1.trans s)⟩
  ·split at h
   ·rename_i kk b ws he2;obtain⟨a',zs,g1,g2,g3,g4,g5⟩:=r2.own he2;rw[q1]at g1;cases g1;cases p2;split at h
    ·rename_i j hj;refine⟨a,zs,_,j,rfl,rfl,g2,by rw[g5.length];exact hj,?_⟩;exact h G2 σ _ (r2.mut he2 q1 (g5.set j (Rep.mono s2 w p1))) (s1.trans s2)
    ·exact h.elim
   ·exact h.elim
 ·exact h.elim
end
noncomputable def ltS:W->W->Option W
 |.str i,.str j=>some (.bl (decide (i.cps.toList<j.cps.toList)))
 |_,_=>none
noncomputable def leS:W->W->Option W
 |.str i,.str j=>some (.bl (!decide (j.cps.toList<i.cps.toList)))
 |_,_=>none
noncomputable def rSS(f:Str->Str->Bool):R2:=λx y H Q=>∃i j,x=.str i/\y=.str j/\Q (.bl (f i j)) H
theorem z5i:OpR X (compareOp .LtE) (rSS λi j=>!decide (j.cps.toList<i.cps.toList)):=by
 intro pins s σ H x y v u Q I rx ry h;obtain⟨i,j,rfl,rfl,q⟩:=h;obtain⟨t,rfl⟩:=rx;obtain⟨t',rfl⟩:=ry;exact PySem.P.le_str (x5m I q rfl)
theorem z5j:Op2 K (rSS λi j=>!decide (j.cps.toList<i.cps.toList)) leS:=by
 intro G H x y wx wy w Q s px py hf h;unfold leS at hf;split at hf
 ·cases hf;cases px;cases py;exact⟨_,_,rfl,rfl,h G _ H (.refl s) rfl⟩
 ·cases hf
theorem y1v(ha:DE Z X EE a da)(hb:DE Z X EE b db):DE Z X EE (.Compare a [.LtE] [b] pos) (dOp leS da db):=q82 z5i z5j ha hb (nomark _)
noncomputable def OpM(K:PySem.W.Frag)(r:V->List V->Hp->VK->Prop)(f:W->List W->Option W):Prop:=∀(G H:Hp)(x:V)(xs:List V)(wx:W)(ws:List W)(w:W)(Q:VK),Same G H->Rep K G wx x->Reps K G ws xs->f wx ws=some w->(∀G' v H',Grow G H G' H'->Rep K G' w v->Q v H')->r x xs H Q
noncomputable def kindW(T:String):W->Bool
 |.str _=>T=="str"
 |.lst _=>T=="list"
 |_=>false
noncomputable def dMeth(T:String)(f:W->List W->Option W)(d:Den W)(dA:Den (List W)):Den W:=λe=>(d e).bind λx e1=>if kindW T x=true then(dA e1).bind λws e2=>ofOpt (f x ws) e2 else .no
section
variable{o e:Expr}{d:Den W}{p:Pos}{x:Str}
theorem x3b{id:String}{name:Str}{r:V->List V->Hp->VK->Prop}{f:W->List W->Option W}(pa:PlainAttrs T)(slot:Slot T name id)(hty:typeOf (.builtin id)=pure (.type "method_descriptor"))(hm:MtR X id r)(hf:OpM X.K r f)(ho:DE Z X EE o d)(ha:DA Z X EE (e::es) dA)
  (hbase:attributeBase o name X.env (eval o X.env)=eval o X.env:=by rfl)
  (hfew:((backTo cpos (starEach (e::es) X.env)).all (λx=>!x.1)&&(backToKw cpos (keywordEach [] X.env)).all (λx=>x.1.isSome)&&decide ((e::es).length+([]:List Keyword).length+(if([]:List Keyword).isEmpty then 0 else 1)<30))=true:=by rfl)
  (hline:(apos.endLine==cpos.line)=true:=by rfl)(hs:starEach (e::es) X.env=(false,eval e X.env)::starEach es X.env:=by rfl)(hplain:(backTo cpos (starEach es X.env)).any (·.1)=false:=by rfl):
  DE Z X EE (.Call (.Attribute o name apos) (e::es) [] cpos) (dMeth T f d dA):=by
 refine PE.mono (x47 pa slot hty hm ho ha hbase hfew hline hs hplain) ?_;rintro σ H Q ⟨G,e,rel,h⟩;simp only[dMeth,R.holds_bind]at h;refine⟨G,e,rel,h.imp (λwx e1 h G1 v1 H1 r1 s1 p1=>?_) λ_ _ h=>h⟩
 split at h
 ·rename_i hk;refine⟨?_,G1,e1,r1,(R.holds_bind.mp h).imp (λws e2 h G2 vs H2 r2 s2 p2=>?_) λ_ _ h=>XH.trans s1 h⟩
  ·cases wx with
   |str z=>cases p1;exact(by simpa [kindW]using hk:T="str")
   |lst ws=>
    obtain⟨a,xs,rfl,q,_⟩:=p1;exact .inl ⟨by simpa [kindW]using hk,xs,r1.sub.seq q⟩
   |_=>cases hk
  ·obtain⟨w,hw,h⟩:=ofOpt_holds.mp h;exact hf G2 H2 v1 vs wx ws w Q r2.sub (Rep.mono s2 wx p1) p2 hw λG' v H' g p=>h G' v H' (r2.grow g) ((s1.trans s2).trans g.gg) p
 ·exact h.elim
end
noncomputable def strsW:List W->Option (List Str)
 |[]=>some []
 |.str x::r=>(strsW r).map (x::·)
 |_=>none
noncomputable def joinOk(sep:Str)(ys:List Str):Bool:=Nat.ble ((ys.map λx=>x.length).sum+ys.length*sep.length) 16777216
noncomputable def joinW:W->List W->Option W
 |.str sep,[w]=>match seqW w with
  |some ws=>match strsW ws with
   |some ys=>if joinOk sep ys=true then some (.str (Txt.join sep ys))else none
   |none=>none
  |none=>none
 |_,_=>none
noncomputable def rJoin(K:PySem.W.Frag):V->List V->Hp->VK->Prop:=λx vs H Q=>∃sep b zs ys,x=.str sep/\vs=[.ref b]/\(SqL K H b zs\/SqT K H b zs)/\zs=ys.map V.str/\joinOk sep ys=true/\Q (.str (Txt.join sep ys)) H
theorem x1h:∀{ys:List Str}{its:List Value},Vals (ys.map V.str) its->PyProof.Rows.StrsAre its ys
 |[],its,h=>by cases h;exact .nil
 |y::ys,its,h=>by
  cases h with
  |cons r t=>
   obtain⟨k,rfl⟩:=r;exact .cons y k (x1h t)
theorem y9n:MtR X "str.join" (rJoin X.K):=by
 intro pins s σ H x vs v us Q I rx rv h;obtain⟨sep,b,zs,ys,rfl,rfl,hB,rfl,hz,q⟩:=h;obtain⟨t,rfl⟩:=rx;obtain⟨u,rfl,ru⟩:=rv.one;cases ru;have hz':=w3m hz;have fin:∀(t':Tok)(k:Nat),EP X pins σ Q (Value.str (Txt.join sep ys) t') {s with toks:=k}:=λt' k=>⟨.str _,H,I.tok k,⟨t',rfl⟩,q⟩
 rcases hB with hB|hB
 ·obtain⟨its,r,pl,_⟩:=I.list hB;exact PyProof.Rows.join_list pl.isList (by simpa using x1h r) hz' fin
 ·obtain⟨its,r,pl,_⟩:=I.tuple hB;exact PyProof.Rows.join_tuple pl (by simpa using x1h r) hz' fin
theorem x6c:∀{ws:List W}{ys:List Str}{xs:List V},strsW ws=some ys->Reps K G ws xs->xs=ys.map V.str
 |[],ys,xs,h,r=>by cases h;exact r
 |.str x::ws,ys,xs,h,r=>by
  unfold strsW at h;obtain⟨zs,h1,rfl⟩:=w0w.mp h;obtain⟨v,t,rfl,p,q⟩:=r;cases p;rw[x6c h1 q];rfl
 |.non::ws,_,_,h,_=>by cases h
 |.bl _::ws,_,_,h,_=>by cases h
 |.int _::ws,_,_,h,_=>by cases h
 |.tup _::ws,_,_,h,_=>by cases h
 |.lst _::ws,_,_,h,_=>by cases h
 |.exc _::ws,_,_,h,_=>by cases h
theorem y9o:OpM K (rJoin K) joinW:=by
 intro G H x xs wx ws w Q s px pr hf h;unfold joinW at hf;split at hf
 ·rename_i sep w0;obtain⟨y,r,rfl,py,pr⟩:=pr;cases(show r=[]from pr);cases px;split at hf
  ·rename_i us hu;split at hf
   ·rename_i ys hy;split at hf
    ·rename_i ho;cases hf
     have step:∀c cs,y=.ref c->(SqL K G c cs\/SqT K G c cs)->Reps K G us cs->rJoin K (.str sep) [y] H Q:=λc cs hc hq hr=>by
      subst hc;refine⟨sep,c,cs,ys,rfl,rfl,?_,x6c hy hr,ho,h G _ H (.refl s) rfl⟩;rcases hq with q|q
      ·exact .inl (s.seq q)
      ·exact .inr (s.tup q)
     unfold seqW at hu;split at hu
     ·cases hu;obtain⟨c,cs,hc,q,hr⟩:=py
      grind
     ·cases hu;obtain⟨c,cs,hc,q,hr⟩:=py
      grind
     ·cases hu
    ·cases hf
   ·cases hf
  ·cases hf
 ·cases hf
section
variable{o e:Expr}{d:Den W}
theorem x0a(ho:DE Z X EE o d)(ha:DA Z X EE [e] dA)
  (hbase:attributeBase o "join" X.env (eval o X.env)=eval o X.env:=by rfl)
  (hfew:((backTo cpos (starEach [e] X.env)).all (λx=>!x.1)&&(backToKw cpos (keywordEach [] X.env)).all (λx=>x.1.isSome)&&decide ([e].length+([]:List Keyword).length+(if([]:List Keyword).isEmpty then 0 else 1)<30))=true:=by rfl)
  (hline:(apos.endLine==cpos.line)=true:=by rfl)(hs:starEach [e] X.env=(false,eval e X.env)::starEach [] X.env:=by rfl)(hplain:(backTo cpos (starEach [] X.env)).any (·.1)=false:=by rfl):
  DE Z X EE (.Call (.Attribute o "join" apos) [e] [] cpos) (dMeth "str" joinW d dA):=
 x3b PySem.F.plainAttrs_str PySem.F.slot_str_join PySem.F.type_str_join y9n y9o ho ha hbase hfew hline hs hplain
end
noncomputable def SR.turnT(r:SR)(k:List S->SR):SR:=match r with
 |.nx e'=>k e'
 |.ct e'=>k e'
 |.bk e'=>.nx e'
 |.rt s e'=>.rt s e'
 |.ex c e'=>.ex c e'
 |.no=>.no
noncomputable def idxS(x:Str):List Str->Option Nat
 |[]=>none
 |y::ys=>if y=x then some 0 else(idxS x ys).map (·+1)
structure TabK(P:Program)(w:World)(K:PySem.W.Frag)(d:Addr)(tb:List (Str×Int)):Prop where
 tab:∀h,K.In h->PyProof.Rows.StrTab P w h d (PySem.W.kdpD tb)
 obj:∃o,K.lookup d=some o/\o.cls=.type "dict" /\ o.dict=none
noncomputable def tabW(tb:List (Str×Int)):W->Option W
 |.str s=>if PySem.W.kdpHas tb s=true then some (.int (kdpLook tb s 0))else none
 |_=>none
noncomputable def tabGet(tb:List (Str×Int)):List W->Option W
 |[.str s,.int e]=>some (.int (kdpLook tb s e))
 |_=>none
section
variable{e k:Expr}{dk:Den W}{p:Pos}{x:Str}{d:Addr}{tb:List (Str×Int)}
noncomputable def rTab(d:Addr)(tb:List (Str×Int)):R2:=λx y H Q=>∃s,x=.ref d/\y=.str s/\PySem.W.kdpHas tb s=true/\Q (.int (kdpLook tb s 0)) H
theorem z5k(T:TabK X.prog X.w X.K d tb):IxR X (rTab d tb):=by
 intro value slice pins s σ H x y v u Q I rx ry h hs;obtain⟨z,rfl,rfl,hh,q⟩:=h;cases rx;obtain⟨t,rfl⟩:=ry;obtain⟨o,h1,h2,h3⟩:=T.obj;exact PyProof.Rows.tail_any ⟨o,I.kIn d o h1,h2⟩ F.slot_dict_getitem.lookup (PySem.W.kdp_getItem (T.tab s.heap I.kIn) hh λt'=>⟨.int _,H,I.tok _,⟨t',rfl⟩,q⟩) hs
theorem y42(T:TabK X.prog X.w X.K d tb)(hm:X.mg x=some (.ref d))(hk:DE Z X EE k dk)(hg:Gl X x:=by rfl)(hd:(x==("__debug__":Str))=false:=by decide)(hs:PlainIx k:=by intro _ _;rfl):
  DE Z X EE (.Subscript (.Name x p) k pos) (dUn (tabW tb) dk):=by
 refine PE.mono (x46 (z5k T) (q7r (v:=.ref d) hg hm rfl hd) hk hs) ?_;rintro σ H Q ⟨G,e,rel,h⟩;simp only[dUn,R.holds_bind,ofOpt_holds]at h;refine⟨G,e,rel,h.imp (λw e1 h G1 v1 H1 r1 s1 p1=>?_) λ_ _ h=>h⟩
 obtain⟨w',hw,h⟩:=h;unfold tabW at hw;split at hw
 ·split at hw
  ·rename_i hh;cases hw;cases p1;exact⟨_,rfl,rfl,hh,h G1 _ H1 r1 s1 rfl⟩
  ·cases hw
 ·cases hw
theorem z5l{id:String}{name:Str}{r:V->List V->Hp->VK->Prop}{o:Expr}{ob:Obj}{t:TA}(pa:PlainAttrs T)(slot:Slot T name id)(hty:typeOf (.builtin id)=pure (.type "method_descriptor"))(hm:MtR X id r)(ho:PE X o (tC (.ref d)))
  (hK:X.K.lookup d=some ob)(hc:ob.cls=.type T)(hdn:ob.dict=none)(ha:PA X (e::es) t)
  (hbase:attributeBase o name X.env (eval o X.env)=eval o X.env:=by rfl)
  (hfew:((backTo cpos (starEach (e::es) X.env)).all (λx=>!x.1)&&(backToKw cpos (keywordEach [] X.env)).all (λx=>x.1.isSome)&&decide ((e::es).length+([]:List Keyword).length+(if([]:List Keyword).isEmpty then 0 else 1)<30))=true:=by rfl)
  (hline:(apos.endLine==cpos.line)=true:=by rfl)(hs:starEach (e::es) X.env=(false,eval e X.env)::starEach es X.env:=by rfl)(hplain:(backTo cpos (starEach es X.env)).any (·.1)=false:=by rfl):
  PE X (.Call (.Attribute o name apos) (e::es) [] cpos) (λσ H Q=>t σ H λxs H2=>r (.ref d) xs H2 Q):=by
 intro pins s σ H Q I h;refine wpAny_Call_method_late hbase hfew hline rfl (thn (ho pins s σ H (λx H1=>x=.ref d/\t σ H1 λxs H2=>r (.ref d) xs H2 Q) I ⟨rfl,h⟩) λv s1 ⟨x,H1,I1,r1,hx,q1⟩=>?_)
 subst hx;cases r1;refine⟨T,id,pa,slot,hty,⟨ob,I1.kIn d ob hK,hc⟩,λa ea=>?_,?_⟩
 ·cases ea;exact⟨ob,I1.kIn _ ob hK,hdn⟩
 have hA:=ha cpos pins s1 σ H1 _ I1 q1;rw[hs]at hA |-
 refine Calls.callWith_builtin (by grind) (Calls.evalArgs_plain ?_);exact thn hA λus s2 ⟨vs,H2,I2,r2,q2⟩=>hm pins s2 σ H2 (.ref d) vs (.ref d) us Q I2 rfl r2 q2
noncomputable def rTabGet(d:Addr)(tb:List (Str×Int)):V->List V->Hp->VK->Prop:=λx vs H Q=>∃s e,x=.ref d/\vs=[.str s,.int e]/\Q (.int (kdpLook tb s e)) H
theorem y1w(T:TabK X.prog X.w X.K d tb):MtR X "dict.get" (rTabGet d tb):=by
 intro pins s σ H x vs v us Q I rx rv h;obtain⟨z,e,rfl,rfl,q⟩:=h;cases rx;cases rv with
 |cons r1 rv=>
  obtain⟨u,rfl,r2⟩:=Vals.one rv;obtain⟨t1,rfl⟩:=r1;obtain⟨t2,rfl⟩:=r2;exact PySem.W.kdp_get2 (T.tab s.heap I.kIn) λt'=>⟨.int _,H,I.tok _,⟨t',rfl⟩,q⟩
theorem y1x(T:TabK X.prog X.w X.K d tb)(hm:X.mg x=some (.ref d))(ha:DA Z X EE (e::es) dA)(hg:Gl X x:=by rfl)(hd:(x==("__debug__":Str))=false:=by decide)
  (hbase:attributeBase (.Name x p) "get" X.env (eval (.Name x p) X.env)=eval (.Name x p) X.env:=by rfl)
  (hfew:((backTo cpos (starEach (e::es) X.env)).all (λx=>!x.1)&&(backToKw cpos (keywordEach [] X.env)).all (λx=>x.1.isSome)&&decide ((e::es).length+([]:List Keyword).length+(if([]:List Keyword).isEmpty then 0 else 1)<30))=true:=by rfl)
  (hline:(apos.endLine==cpos.line)=true:=by rfl)(hs:starEach (e::es) X.env=(false,eval e X.env)::starEach es X.env:=by rfl)(hplain:(backTo cpos (starEach es X.env)).any (·.1)=false:=by rfl):
  DE Z X EE (.Call (.Attribute (.Name x p) "get" apos) (e::es) [] cpos) (dFn (tabGet tb) dA):=by
 obtain⟨ob,h1,h2,h3⟩:=T.obj;refine PE.mono (z5l PySem.F.plainAttrs_dict PySem.F.slot_dict_get PySem.F.type_dict_get (y1w T) (q7r (v:=.ref d) hg hm rfl hd) h1 h2 h3 ha hbase hfew hline hs hplain) ?_;rintro σ H Q ⟨G,e,rel,h⟩;simp only[dFn,R.holds_bind,ofOpt_holds]at h;refine⟨G,e,rel,h.imp (λws e1 h G1 vs H1 r1 s1 p1=>?_) λ_ _ h=>h⟩
 obtain⟨w',hw,h⟩:=h;unfold tabGet at hw;split at hw
 ·cases hw;obtain⟨y1,q1,rfl,e1,y2,q2,rfl,e2,rfl⟩:=p1;cases e1;cases e2;exact⟨_,_,rfl,rfl,h G1 _ H1 r1 s1 rfl⟩
 ·cases hw
end
section
variable{w:W}
noncomputable def putC(i:Nat)(e:List S)(b:Option Nat)(ws:List W)(w:W):Option Nat->SR
 |some j=>.nx (e.set i (.own b (ws.set j w)))
 |none=>.no
noncomputable def putB(i:Nat)(e:List S)(w:W):W->Option S->SR
 |.int k,some (.own b ws)=>putC i e b ws w (ixN ws.length k)
 |_,_=>.no
noncomputable def putA(i:Nat)(dk:Den W)(w:W)(e:List S):Option S->SR
 |some (.own _ _)=>(dk e).stm λk e2=>putB i e2 w k e2[i]?
 |_=>.no
theorem z5m{dv:Den W}:dPut i dv dk e=(dv e).stm λw e1=>putA i dk w e1 e1[i]?:=by
 unfold dPut;congr 1
theorem y43:putA i dk w e (some (.own b ws))=(dk e).stm λk e2=>putB i e2 w k e2[i]?:=rfl
theorem y44:putB i e w (.int k) (some (.own b ws))=putC i e b ws w (ixN ws.length k):=rfl
theorem y1y:putC i e b ws w (some j)=.nx (e.set i (.own b (ws.set j w))):=rfl
noncomputable def lendC(e:List S):FR->R W
 |.ok (.fr w)=>if scalW w=true then .ok w e else .no
 |_=>.no
noncomputable def lendB(F:List W->FR)(us:List W)(e:List S):Option S->R W
 |some (.own _ ws)=>lendC e (F (.lst ws::us))
 |_=>.no
noncomputable def lendA(F:List W->FR)(i:Nat)(dA:Den (List W))(e:List S):Option S->R W
 |some (.own _ _)=>(dA e).bind λus e1=>lendB F us e1 e1[i]?
 |_=>.no
theorem y9p:dLend F i dA e=lendA F i dA e e[i]?:=by
 unfold dLend lendA;cases e[i]? with
 |none=>rfl
 |some s=>cases s with
  |own b ws=>
   dsimp only;congr 1
  |_=>rfl
theorem y1z:lendA F i dA e (some (.own b ws))=(dA e).bind λus e1=>lendB F us e1 e1[i]?:=rfl
theorem y10:lendB F us e (some (.own b ws))=lendC e (F (.lst ws::us)):=rfl
theorem y45:lendC e (.ok (.fr w))=if scalW w=true then .ok w e else .no:=rfl
noncomputable def extB(i:Nat)(e:List S)(b:Option Nat)(xs:List W):Option (List W)->SR
 |some ys=>if xs.length+ys.length<=16777216 then .nx (e.set i (.own b (xs++ys)))else .no
 |none=>.no
noncomputable def extA(i:Nat)(e:List S):List W->Option S->SR
 |[w],some (.own b xs)=>extB i e b xs (seqW w)
 |_,_=>.no
noncomputable def ext0(i:Nat)(d:Den (List W))(e:List S):Option S->SR
 |some (.own _ _)=>(d e).stm λws e1=>extA i e1 ws e1[i]?
 |_=>.no
theorem z5n:dExt i d e=ext0 i d e e[i]?:=by
 unfold dExt ext0;cases e[i]? with
 |none=>rfl
 |some s=>cases s with
  |own b ws=>
   dsimp only;congr 1
  |_=>rfl
theorem y46:ext0 i d e (some (.own b xs))=(d e).stm λws e1=>extA i e1 ws e1[i]?:=rfl
theorem y47:extA i e [w] (some (.own b xs))=extB i e b xs (seqW w):=rfl
theorem y11:extB i e b xs (some ys)=if xs.length+ys.length<=16777216 then .nx (e.set i (.own b (xs++ys)))else .no:=rfl
theorem y9q:dMeth T f d dA e=(d e).bind λx e1=>if kindW T x=true then(dA e1).bind λws e2=>ofOpt (f x ws) e2 else .no:=rfl
theorem z5o:kindW "str" (.str z)=true:=rfl
theorem z5p:kindW "list" (.lst ws)=true:=rfl
theorem z5q{i:Str}:ltS (.str i) (.str j)=some (.bl (decide (i.cps.toList<j.cps.toList))):=rfl
theorem le_str{i:Str}:leS (.str i) (.str j)=some (.bl (!decide (j.cps.toList<i.cps.toList))):=rfl
end
noncomputable def forP(i j:Nat)(b:List S->SR):List (W×W)->List S->SR
 |[],e=>.nx e
 |p::ps,e=>(b ((e.set i (.fr p.1)).set j (.fr p.2))).turnT (forP i j b ps)
noncomputable def dForP(i j:Nat)(d:Den (List (W×W)))(b:List S->SR):List S->SR:=λe=>(d e).stm λps e1=>forP i j b ps e1
structure Walk2(K:PySem.W.Frag)(G1:Hp)(J:It)(ps:List (W×W)):Prop where
 go:∀(i:Nat)(G H:Hp),Same G1 G->Same G H->i<ps.length->J.go i H
 yld:∀(i:Nat)(G H:Hp)(x:V)(H':Hp),Same G1 G->Same G H->J.yld i H x H'->∀u v,ps[i]?=some (u,v) ->
  Grow G H G H'/\∀(m n:Nat)(σ:St)(Q:St->Hp->Prop),(∀y z,Rep K G u y->Rep K G v z->Q ((σ.set m (some y)).set n (some z)) H')->gTup K 2 (gCons (gName m) (gCons (gName n) gNil)) x σ H' Q
 stop:∀(i:Nat)(G H:Hp),Same G1 G->Same G H->ps.length<=i->J.stop i H
noncomputable def liftI(K:PySem.W.Frag)(Z:Zt)(EE:L2.St->XK)(d:Den (List (W×W))):TI:=λσ H R=>AtG K Z σ H λG e=>(d e).holds (λps e1=>∀G1 H1 J,Rel K Z G1 σ H1 e1->Same G G1->Walk2 K G1 J ps->R J H1) (XH K Z EE σ G)
noncomputable def DI(Z:Zt)(X:Cx)(EE:L2.St->XK)(tg iter:Expr)(d:Den (List (W×W))):Prop:=PI X tg iter (liftI X.K Z EE d)
theorem PI.mono(h:PI X tg iter wi)(m:∀σ H R,wi' σ H R->wi σ H R):PI X tg iter wi':=λpins s σ H R I q=>h pins s σ H R I (m σ H R q)
theorem y12(r:Rel K Z G' σ H e)(s:Same G1 G')(pu:Rep K G' p.1 x)(pv:Rep K G' p.2 y)
  (h:PostS K Z EE D G1 (forP i j s1 (p::ps) e))(hP:∀G'' σ'' H'' e'',Rel K Z G'' σ'' H'' e''->Same G1 G''->PostS K Z EE D G1 (forP i j s1 ps e'')->Pv σ'' H''):
  liftS K Z EE s1 {D with nx:=Pv,ct:=Pv,bk:=D.nx} ((σ.set i (some x)).set j (some y)) H:=by
 refine⟨G',_,(r.set pu).set pv,?_⟩;unfold forP at h;cases q:s1 ((e.set i (.fr p.1)).set j (.fr p.2))with
 |nx e'=>rw[q]at h;exact λG'' σ'' H'' r'' s''=>hP G'' σ'' H'' e' r'' (s.trans s'') h
 |ct e'=>rw[q]at h;exact λG'' σ'' H'' r'' s''=>hP G'' σ'' H'' e' r'' (s.trans s'') h
 |bk e'=>rw[q]at h;exact λG'' σ'' H'' r'' s''=>h G'' σ'' H'' r'' (s.trans s'')
 |rt t e'=>rw[q]at h;exact λG'' σ'' v H'' r'' s'' p=>h G'' σ'' v H'' r'' (s.trans s'') p
 |ex c e'=>rw[q]at h;exact λG'' σ'' H'' r'' s''=>h G'' σ'' H'' r'' (s.trans s'')
 |no=>rw[q]at h;exact h
theorem x9q{ps:List (W×W)}(h:ps[k]?=some p):ps.drop k=p::ps.drop (k+1):=by
 grind [List.drop_eq_getElem_cons]
section
variable{elt iter e a:Expr}{body:List Stmt}{ifs:List Expr}{scope sc:Scope}{pt p3:Pos}{x y:Str}{Nf N:List Str}{di:Den (List (W×W))}{c:Den Bool}{d:Den W}{s1:List S->SR}
theorem q6k(i j:Nat)(hN:X.N.Nodup)(hp:PassesOwn (model X.prog X.w) X.A X.env X.xe)(hc:X.calm=true)(hl:DI Z X EE (.Tuple [.Name x p1,.Name y p2] kt p3) e di)(hb:DSs Z X EE body s1)
  (hi:X.N[i]?=some x:=by rfl)(hx:Loc X.env.scope x:=by walk_at "3")(hf:X.fn x=true\/X.env.scope.names.lookup x=some .local:=by walk_at "2")
  (hj:X.N[j]?=some y:=by rfl)(hy:Loc X.env.scope y:=by walk_at "3")(hf':X.fn y=true\/X.env.scope.names.lookup y=some .local:=by walk_at "2")
  (hn:(assignEach [.Name x p1,.Name y p2] X.env).length=2:=by rfl)(hst:(assignEach [.Name x p1,.Name y p2] X.env).findIdx? (·.1)=none:=by rfl)
  (g1:(assignEach [.Name x p1,.Name y p2] X.env).map (·.2)=assign (.Name x p1) X.env::(assignEach [.Name y p2] X.env).map (·.2):=by rfl)(g2:(assignEach [.Name y p2] X.env).map (·.2)=assign (.Name y p2) X.env::(assignEach [] X.env).map (·.2):=by rfl)
  (hs:∀x,foldedSetIterable e X.env x=pure x:=by intro _;rfl):
  DS Z X EE (.For (.Tuple [.Name x p1,.Name y p2] kt p3) e body [] pos) (dForP i j di s1):=by
 refine PS.mono (x1v hp hc hl (z2v hc (x5k (q15 i hN hi hx hf) (x5k (q15 j hN hj hy hf') y7w g2) g1) hn hst) hb hs) ?_;rintro D σ H ⟨G,e,rel,h⟩;refine⟨G,e,rel,(q0w h).imp (λps e1 h G1 H1 J r1 q1 W0=>?_) λ_ _ h=>h⟩
 have h:=PostS.trans q1 h;refine⟨λk m σ' H'=>m=ps.length-k/\k<=ps.length/\∃G' e',Rel X.K Z G' σ' H' e'/\Same G1 G'/\PostS X.K Z EE D G1 (forP i j s1 (ps.drop k) e'),⟨ps.length,by omega,w1d _,G1,e1,r1,.refl _,h⟩,?_⟩
 rintro k m σ' H' ⟨rfl,hk,G',e',r',s',h'⟩
 by_cases hlt:k<ps.length
 ·refine .inr ⟨W0.go k G' H' s' r'.sub hlt,λσ'' H''=>∃G' e',Rel X.K Z G' σ'' H'' e'/\Same G1 G'/\PostS X.K Z EE D G1 (forP i j s1 (ps.drop (k+1)) e'),?_,λv H2 hy=>?_⟩
  ·rintro σ'' H'' ⟨G'',e'',r'',s'',h''⟩;exact⟨ps.length-(k+1),by omega,rfl,hlt,G'',e'',r'',s'',h''⟩
  ·have hp:ps[k]?=some ((ps[k]).1,(ps[k]).2):=by grind
   obtain⟨g3,hgo⟩:=W0.yld k G' H' v H2 s' r'.sub hy _ _ hp;rw[x9q hp]at h';exact hgo i j σ' _ λy z py pz=>y12 (p:=((ps[k]).1,(ps[k]).2)) (r'.grow g3) s' py pz h' λG'' σ'' H'' e'' r'' s'' h''=>⟨G'',e'',r'',s'',h''⟩
 ·have:k=ps.length:=by omega
  subst this;rw[w3p]at h';exact .inl ⟨W0.stop _ G' H' s' r'.sub (by omega),h' G' σ' H' r' s'⟩
noncomputable def pairsW:List W->Option (List (W×W))
 |[]=>some []
 |.tup [u,v]::ws=>(pairsW ws).map ((u,v)::·)
 |_=>none
noncomputable def srcP(d:Den W):Den (List (W×W)):=λe=>(d e).bind λw e1=>match seqW w with
 |some ws=>ofOpt (pairsW ws) e1
 |none=>.no
theorem x37:∀{ws:List W}{ps:List (W×W)},pairsW ws=some ps->ws.length=ps.length/\∀(i:Nat) u v,ps[i]?=some (u,v)->ws[i]?=some (.tup [u,v])
 |[],ps,h=>by cases h;grind
 |w::ws,ps,h=>by
  unfold pairsW at h;split at h
  ·rename_i z;cases z
  ·rename_i u v ws' z;cases z;obtain⟨q,hq,rfl⟩:=w0w.mp h;obtain⟨h1,h2⟩:=x37 hq
   grind
  ·cases h
theorem x38(W0:Walk J xs SQ)(rp:Reps K G1 ws xs)(hp:pairsW ws=some ps)(hSQ:∀G' H',Same G1 G'->Same G' H'->SQ H'):Walk2 K G1 J ps:=by
 obtain⟨hl,hg⟩:=x37 hp;have hx:=rp.length;refine⟨λi G H a b h=>W0.go i H (hSQ G H a b) (by omega),λi G H x H' a b hy u v h=>?_,λi G H a b h=>W0.stop i H (hSQ G H a b) (by omega)⟩
 have hlt:i<ps.length:=(w0m.mp h).1;obtain⟨rfl,hx'⟩:=W0.yld i H x H' (hSQ G H a b) hy (by omega);refine⟨Grow.refl b,λm n σ Q hQ=>?_⟩
 obtain⟨w,hw,pw⟩:=rp.getV hx';rw[hg i u v h]at hw;cases hw;have pw:=Rep.mono a _ pw;obtain⟨c,ys,rfl,hq,y1,q1,rfl,p1,y2,q2,rfl,p2,rfl⟩:=pw;exact⟨c,[y1,y2],rfl,b.tup hq,rfl,y1,[y2],rfl,y2,[],rfl,rfl,hQ y1 y2 p1 p2⟩
theorem x6d(hl:DE Z X EE l d0):DI Z X EE tg l (srcP d0):=by
 refine PI.mono (x13 hl) ?_;rintro σ H RR ⟨G,e,rel,h⟩;simp only[srcP,R.holds_bind]at h;refine⟨G,e,rel,h.imp (λw e1 h G1 v1 H1 r1 s1 p1=>?_) λ_ _ h=>h⟩
 split at h
 ·rename_i ws hw;obtain⟨ps,hp,h⟩:=ofOpt_holds.mp h;cases w with
  |tup us=>
   cases hw;obtain⟨a,xs,rfl,hq,rp⟩:=p1;exact⟨a,rfl,.inr ⟨⟨xs,r1.sub.tup hq⟩,h _ _ _ r1 s1 (x38 y1c rp hp λG' H' s s'=>Same.tup s' (Same.tup s hq))⟩⟩
  |lst us=>
   cases hw;obtain⟨a,xs,rfl,hq,rp⟩:=p1;exact⟨a,rfl,.inl ⟨⟨xs,r1.sub.seq hq⟩,h _ _ _ r1 s1 (x38 y1b rp hp λG' H' s s'=>Same.seq s' (Same.seq s hq))⟩⟩
  |_=>cases hw
 ·exact h.elim
noncomputable def enumL:Nat->List W->List (W×W)
 |_,[]=>[]
 |k,w::ws=>(.int k,w)::enumL (k+1) ws
noncomputable def srcE(dA:Den (List W)):Den (List (W×W)):=λe=>(dA e).bind λws e1=>match ws with
 |[.lst us]=>.ok (enumL 0 us) e1
 |_=>.no
theorem q88:∀(k:Nat)(ws:List W),(enumL k ws).length=ws.length
 |_,[]=>rfl
 |k,w::ws=>by simp[enumL,q88 (k+1) ws]
theorem q89:∀(k:Nat)(ws:List W)(i:Nat)(u v:W),(enumL k ws)[i]?=some (u,v)->u=.int ((k+i:Nat):Int)/\ws[i]?=some v
 |_,[],i,u,v,h=>by simp[enumL]at h
 |k,w::ws,i,u,v,h=>by
  cases i with
  |zero=>
   have e:(W.int k,w)=(u,v):=Option.some.inj h
   grind
  |succ i=>
   have h:(enumL (k+1) ws)[i]?=some (u,v):=h;obtain⟨h1,h2⟩:=q89 (k+1) ws i u v h
   grind
noncomputable def Ite(K:PySem.W.Frag)(a:Addr):It:=
 ⟨λi H=>∃xs x,SqL K H a xs/\xs[i]?=some x,λi H x H'=>∃b y,x=.ref b/\H b=none/\(∀xs,SqL K H a xs->xs[i]?=some y)/\H'=upd H b (.tup [.int i,y]),λi H=>∃xs,SqL K H a xs/\xs.length<=i⟩
theorem q9a{fp:List Addr}{b:Addr}(I:Inv X pins σ H s)(k:∀b o,b∉fp->s.heap.get? b=some o->h'.get? b=some o)(hf:∀b∈fp,FpOk X pins H b)(hp:s.heap.objs.size<=b)(new:ObjOk X.prog X.w (upd H b o) h' b o):Inv X pins σ (upd H b o) {s with heap:=h',toks:=t'}:=by
 have hn:H b=none:=I.hok.fresh hp;have ne:∀c u,H c=some u->c≠b:=λc u e=>q0p e hn
 have nfp:∀c u,H c=some u->c∉fp:=λc u e z=>by rw[(hf c z).1]at e;cases e
 have lt:∀c o,s.heap.get? c=some o->c≠b:=λc o e=>w0t (w0q (Heap.lt_size e) hp)
 refine I.step (g':=s.gens) (d':=s.drawn) (ch:=fp) (λc hc=>?_) (λc o _ _ hc e _=>k c o hc e) (λc o _ _ hc e _=>⟨o.slots,k c o hc e⟩) (λc o _ e n=>by grind [q0g])
  (λc o hc e=>⟨o,k c o hc e⟩) (λc xs e=>by grind [q0g]) (λc o u e=>by grind [q0g]) (λc ps e=>⟨#[],by grind [q0g]⟩) (λm hm=>?_) (λc u e=>?_) I.bare
 ·obtain⟨f0,f1,f2,f3,f4,f5⟩:=hf c hc
  grind
 ·obtain⟨o,es,ep,ho,r⟩:=hm;exact⟨o,es,ep,k _ o (λz=>(hf _ z).2.1 rfl) ho,r⟩
 ·by_cases hb:c=b
  ·grind [q0k]
  ·rw[q0g hb]at e;refine(I.hok c u e).stay (λd v hd q=>k d v ?_ q) (λd q=>by grind [q0g]) λd xs _ q=>by grind [q0g]
   grind
theorem y13(a e it)(hne:e≠it):Turn P w K (.Tuple elts kt pt) (Ite K a) [e,it] e (λi h=>∃old,PySem.IsEnum h e it (i:Nat) old/\h.IsListIter it a i) where
 mem:=by simp
 obj:=λi h ⟨old,st1,st2⟩ b hb=>by
  simp only[w0d,w0k,or_false]at hb;rcases hb with rfl|rfl
  ·grind
  ·obtain⟨o,e,c,d⟩:=st2
   grind
 keep:=λi h h' ⟨old,st1,st2⟩ k=>⟨old,k e (by simp) _ st1,st2.at λo e=>k it (by simp) o e⟩
 item:=by
  intro X hP hw hK hc i pins s σ H E I hf st hg;subst hP hw hK;obtain⟨old,st1,st2⟩:=st;obtain⟨xs,x,hq,hx⟩:=hg;obtain⟨its,rv,p,hz⟩:=I.list hq;obtain⟨u,hu,ru⟩:=rv.get hx;refine wpAny_pyNext_enum_item st1 st2 p.isList (x:=u) (by simpa using hu) hne λh1 heo hit1 ht1 hz1 hk1=>⟨_,rfl,?_⟩
  refine wpAny_letOwnedTupleGo_enum heo λh2 he2 hs2=>?_
  have hs2:Heap.SameBut e h1 h2:=hs2;have hlt:e<s.heap.objs.size:=Heap.lt_size st1;have hfr:H s.heap.objs.size=none:=I.hok.fresh (w0a _);have ht2:h2.get? s.heap.objs.size=some {cls:=.type "tuple", data:=.seq #[.int i s.toks,u]}:=(hs2.2 _ (w2n hlt)).trans ht1;refine⟨.ref s.heap.objs.size,upd H s.heap.objs.size (.tup [.int i,x]),?_,rfl,⟨_,x,rfl,hfr,λys hy=>by rw[I.list_inj hy hq];exact hx,rfl⟩,⟨u,he2,?_⟩,λb hb=>?_⟩
  ·show L2.Inv X pins σ _ {s with heap:=h2,toks:=s.toks+1};refine q9a (fp:=[e,it]) I (λb o hb q=>?_) hf (w0a _) ⟨?_,[.int i s.toks,u],.cons ⟨_,rfl⟩ (.cons ru .nil),⟨_,ht2,rfl,?_⟩,⟨_,ht2,rfl⟩⟩
   ·simp only[w0d,w0k,or_false,not_or]at hb;exact(hs2.2 b hb.1).trans (hk1 b o hb.1 hb.2 q)
   all_goals grind [sizeLine_eq]
  ·exact hit1.at λo q=>(hs2.2 it (Ne.symm hne)).trans q
  ·have:b≠s.heap.objs.size:=by
    obtain⟨o,q,_⟩:∃o,s.heap.get? b=some o/\True:=by
     simp only[w0d,w0k,or_false]at hb;rcases hb with rfl|rfl
     ·grind
     ·obtain⟨o,e,_⟩:=st2;grind
    exact w0t (Heap.lt_size q)
   rw[q0g this];exact(hf b hb).1
 done:=by
  intro X hP hw hK hc i pins s σ H E I hf st hg;subst hP hw hK;obtain⟨old,st1,st2⟩:=st;obtain⟨xs,hq,hx⟩:=hg;obtain⟨its,rv,p,hz⟩:=I.list hq;obtain⟨f0,f1,f2,f3,f4,f5⟩:=hf it (by simp);have hl:=rv.length;exact wpAny_pyNext_enum_end (I.ok.hd hc) st1 st2 p.isList (by simp;omega) λh' eb=>⟨rfl,I.turned (t':=s.toks) (λb o hb e=>eb b o hb e) f0 f1 f3 f4 f5⟩
 self:=λ_ _ _ _ _ ⟨old,st1,_⟩ h=>wpAny_pyIter_enum st1 h
noncomputable def iEnum(K:PySem.W.Frag)(ta:TA):TI:=λσ H R=>ta σ H λvs H1=>∃a,vs=[.ref a]/\(∃xs,SqL K H1 a xs)/\R (Ite K a) H1
theorem y9r{ta:TA}{p:Pos}(hg:Gl X "enumerate")(hm:X.mg "enumerate"=none)(ha:PA X [a] ta)(hs:starEach [a] X.env=[(false,eval a X.env)]:=by rfl):PI X (.Tuple elts kt pt) (.Call (.Name "enumerate" p) [a] [] pos) (iEnum X.K ta):=by
 intro pins s σ H R I h;refine PyProof.Rows.Call_ (q3y I hg hm PyProof.Rows.boot_enumerate (PyProof.Rows.callWith_type1 (thn (ha pos pins s σ H _ I h) λus s1 ⟨vs,H1,I1,r1,q1⟩=>?_) hs rfl))
 obtain⟨l,e,⟨xs,hq⟩,q⟩:=q1;subst e;cases r1 with
 |cons r rr=>
  cases rr;cases r;obtain⟨its,rv,p,hz⟩:=I1.list hq;refine call_enumerate_list p.isList λh' he hit hsz hk=>?_
  refine wpAny_pyIter_enum he ?_;refine⟨s1.heap.objs.size+1,[s1.heap.objs.size+1,s1.heap.objs.size],_,_,H1,rfl,I1.kept (t':=s1.toks) hk,y13 l _ _ (w4k _),⟨_,he,hit⟩,λb hb=>?_,q⟩
  simp only[w0d,w0k,or_false]at hb;rcases hb with rfl|rfl
  ·exact I1.fpOk (by omega) (I1.hok.fresh (by omega))
  ·exact I1.fpOk (w0a _) (I1.hok.fresh (w0a _))
theorem x9r(rp:Reps K G1 ws xs)(hq:SqL K G1 b xs):Walk2 K G1 (Ite K b) (enumL 0 ws):=by
 have hx:=rp.length;have hl:=q88 0 ws;refine⟨λi G H s s' h=>⟨xs,xs[i]'(by omega),Same.seq s' (Same.seq s hq),by simp⟩,λi G H x H' s s' hy u v h=>?_,λi G H s s' h=>⟨xs,Same.seq s' (Same.seq s hq),by omega⟩⟩
 obtain⟨c,y,rfl,hn,hx',rfl⟩:=hy;obtain⟨hu,hv⟩:=q89 0 ws i u v h;obtain⟨w,hw,pw⟩:=rp.getV (hx' xs (Same.seq s' (Same.seq s hq)));rw[hv]at hw;cases hw;refine⟨Grow.hid s' hn _,λm n σ Q hQ=>⟨c,[.int i,y],rfl,SqT.of q0k,rfl,.int i,[y],rfl,y,[],rfl,rfl,hQ _ _ ?_ (Rep.mono s _ pw)⟩⟩
 rw[hu,w4b];exact rfl
theorem y9s{p:Pos}(hm:X.mg "enumerate"=none)(ha:DA Z X EE [a] dA)(hg:Gl X "enumerate":=by rfl)(hs:starEach [a] X.env=[(false,eval a X.env)]:=by rfl):DI Z X EE (.Tuple elts kt pt) (.Call (.Name "enumerate" p) [a] [] pos) (srcE dA):=by
 refine PI.mono (y9r hg hm ha hs) ?_;rintro σ H RR ⟨G,e,rel,h⟩;simp only[srcE,R.holds_bind]at h;refine⟨G,e,rel,h.imp (λws e1 h G1 vs H1 r1 s1 p1=>?_) λ_ _ h=>h⟩
 split at h
 ·rename_i us;obtain⟨y,r,rfl,e1,e2⟩:=p1;cases(show r=[]from e2);obtain⟨b,xs,rfl,hq,rp⟩:=e1;exact⟨b,rfl,⟨xs,r1.sub.seq hq⟩,h _ _ _ r1 s1 (x9r rp hq)⟩
 ·exact h.elim
end
section
variable{w:W}{ps:List (W×W)}{c:Prop} [Decidable c]{s t:SR}{k:List S->SR}{st:S}
theorem y9t:dForP i j di b e=(di e).stm λps e1=>forP i j b ps e1:=rfl
theorem q2l:forP i j b (p::ps) e=(b ((e.set i (.fr p.1)).set j (.fr p.2))).turnT (forP i j b ps):=rfl
theorem q07:(SR.nx e).turnT k=k e:=rfl
theorem y48:(SR.ct e).turnT k=k e:=rfl
theorem y49:(SR.bk e).turnT k=.nx e:=rfl
theorem y5a:(SR.rt st e).turnT k=.rt st e:=rfl
theorem x6e:(SR.ex v e).turnT k=.ex v e:=rfl
theorem y5b:(SR.no).turnT k=.no:=rfl
theorem y14:(if c then s else t).turnT k=if c then s.turnT k else t.turnT k:=by split<;>rfl
noncomputable def srcEW(e:List S):List W->R (List (W×W))
 |[.lst us]=>.ok (enumL 0 us) e
 |_=>.no
theorem z5r:srcE dA e=(dA e).bind λws e1=>srcEW e1 ws:=by
 unfold srcE;congr 1
theorem y9u:srcEW e [.lst ws]=.ok (enumL 0 ws) e:=rfl
noncomputable def srcPW(e:List S):Option (List W)->R (List (W×W))
 |some ws=>ofOpt (pairsW ws) e
 |none=>.no
theorem z5s:srcP d e=(d e).bind λw e1=>srcPW e1 (seqW w):=by
 unfold srcP;congr 1
theorem x9s:srcPW e (some ws)=ofOpt (pairsW ws) e:=rfl
end
theorem y15(l)(items)(n)(x)(u)(dd)(sl)(hc0:¬(!Builtin.List.listFitsIndex x)=true)(hc1:¬items.size*x.toNat>(2^63-1) / 8)(hc2:¬Builtin.List.listTooLong (items.size*x.toNat)=true):
  Meets (Builtin.«list.__mul__» ⟨[.ref l,.int x u],[]⟩) (λ_ R s=>s.heap.get? l=some {cls:=.type "list", dict:=dd,data:=.seq items n,slots:=sl}/\R (.ok (.ret (Value.ref s.heap.objs.size))) {s with heap:=s.heap.push {cls:=Value.type "list", data:=Data.seq (List.foldl (λx1 x2=>x1++x2) #[] (List.replicate (if items.isEmpty=true then 0 else x.toNat) items))},toks:=s.toks}):=
 .of_wp λprog w A R s h=>by
  obtain⟨hp,g,d,tk,os⟩:=s;obtain⟨hl,h⟩:=h;have hsz:=PySem.AutoListH.joined_fits hc2
  wp_walk;refine wpAny_ite_false (decide_eq_false (w4f.mpr hsz)) ?_;wp_walk;exact⟨_,rfl,h⟩
theorem y16(a)(t)(l)(items)(n)(dd)(sl):
  Meets (Builtin.«int.__rmul__» ⟨[.int a t,.ref l],[]⟩) (λ_ R s=>s.heap.get? l=some {cls:=.type "list", dict:=dd,data:=.seq items n,slots:=sl}/\R (.ok (.ret Value.notImplemented)) s):=
 .of_wp λprog w A R s h=>by obtain⟨hp,g,d,tk,os⟩:=s;obtain⟨hl,h⟩:=h;wp_walk;exact⟨_,rfl,h⟩
noncomputable def rRepS(K:PySem.W.Frag):R2:=λx y H Q=>∃l k xs,x=.ref l/\y=.int k/\SqL K H l xs/\-(2^63)<=k/\k<2^63/\xs.length*k.toNat<=sizeLine /\
 ∀p,H p=none->Q (.ref p) (upd H p (.lst (List.replicate k.toNat xs).flatten))
theorem y9v:OpR X (binaryOp .Mult) (rRepS X.K):=by
 intro pins s σ H x y v u Q I rx ry h;obtain⟨l,k,xs,rfl,rfl,hH,h1,h2,hz,q⟩:=h;cases rx;obtain⟨t,rfl⟩:=ry;obtain⟨its,r,p1,_⟩:=I.list hH;obtain⟨⟨cls,dd,data,sl⟩,ho,hc,n,hd⟩:=id p1.isList;simp only at hc hd;subst hc hd;have hl:=r.length;have hlen:its.toArray.size*k.toNat<=sizeLine:=by grind
 have hcap:¬its.toArray.size*k.toNat>(2^63-1) / 8:=by
  grind [sizeLine]
 have hfit:¬(!Builtin.List.listFitsIndex k)=true:=by
  simp_all [fitsIndex_both]
 have hlong:¬Builtin.List.listTooLong (its.toArray.size*k.toNat)=true:=by
  simp_all [notLongL]
 have hnew:List.foldl (λx1 x2=>x1++x2) #[] (List.replicate (if its.toArray.isEmpty=true then 0 else k.toNat) its.toArray)=(List.replicate k.toNat its).flatten.toArray:=by
  have f0:∀m:Nat,List.foldl (λx1 x2=>x1++x2) #[] (List.replicate m its.toArray)=(List.replicate m its).flatten.toArray:=λm=>by
   grind [x3w]
  rw[f0];cases its with
  |nil=>simp
  |cons a r'=>rw[if_neg (by simp)]
 refine wpAny_binaryOp_repeat_ref (T:="list") (U:="int") (by decide) ⟨_,ho,rfl⟩ (λs'=>typeIs_int s' k t) noFill_list_mul F.fills_int_mul F.slot_int_rmul repeat_list F.slot_int_index.lookup
  (PySem.call_meets F.slot_int_rmul (typeIs_int s k t) F.entry_int_rmul (F.args_int_rmul_2 _ _) (y16 k t l its.toArray n dd sl)
   ⟨ho,rfl,⟨_,ho,rfl⟩,PySem.call_meets F.slot_list_mul ⟨_,ho,rfl⟩ F.entry_list_mul (F.args_list_mul_2 _ _) (y15 l its.toArray n k t dd sl hfit hcap hlong) ⟨ho,?_⟩⟩)
 rw[hnew];exact⟨.ref _,_,I.lnew (t':=s.toks) (r.rep k.toNat) (by grind [y73]),rfl,q _ I.fresh⟩
noncomputable def repW:W->W->Option W
 |.lst ws,.int k=>if okI k=true/\ws.length*k.toNat<=16777216 then some (.lst (List.replicate k.toNat ws).flatten)else none
 |_,_=>none
theorem x6f(r:Reps K G ws xs):∀k:Nat,Reps K G (List.replicate k ws).flatten (List.replicate k xs).flatten
 |0=>rfl
 |k+1=>by
  rw[w2i,w2i,w3h,w3h];exact r.append (x6f r k)
theorem z5t:Op2 K (rRepS K) repW:=by
 intro G H x y wx wy w Q s px py hf h;unfold repW at hf;split at hf
 ·rename_i ws k;split at hf
  ·rename_i hc;cases hf;cases(show y=V.int k from py);obtain⟨l,xs,rfl,hq,rp⟩:=px;have hb:=q4v hc.1;refine⟨l,k,xs,rfl,rfl,s.seq hq,by omega,by omega,by rw[sizeLine_eq,rp.length];exact hc.2,λp hp=>?_⟩
   have g:Grow G H (upd G p (.lst (List.replicate k.toNat xs).flatten)) (upd H p (.lst (List.replicate k.toNat xs).flatten)):=Grow.laid s hp _;exact h _ _ _ g ⟨p,_,rfl,SqL.of q0k,Reps.mono g.gg _ (x6f rp _)⟩
  ·cases hf
 ·cases hf
theorem y17(ha:DE Z X EE a da)(hb:DE Z X EE b db):DE Z X EE (.BinOp a .Mult b pos) (dOp repW da db):=q7f y9v z5t ha hb
theorem z5u:repW (.lst ws) (.int k)=if okI k=true/\ws.length*k.toNat<=16777216 then some (.lst (List.replicate k.toNat ws).flatten)else none:=rfl
section
variable{w:World}
theorem q9b(gi:s.heap.IsTupleIter j b k)(gt:s.heap.IsTuple b vs)(gx:vs[k]?=some x)
  (hQ:∀h',h'.IsTupleIter j b (k+1)->Heap.SameBut j s.heap h'->Q x {s with heap:=h'}):wpAny (model prog w) A (Builtin.SmallTypes.nextOf (.ref j)) Q E s:=by
 obtain⟨o,ho,hc,hd⟩:=id gi;obtain⟨ot,hot,_,m,hdt⟩:=gt;unfold Builtin.SmallTypes.nextOf;refine wpAny_bind (wpAny_callSpecial?_slot (name:=Str.ofString "__next__") gi.typeIs F.slot_tuple_iterator_next (wpAny_call_entry F.slot_tuple_iterator_next gi.typeIs F.entry_tuple_iterator_next ?_ (F.args_tuple_iterator_next_1 _)));show wpAny _ _ (field (.ref j) 0 >>= _) _ _ s;refine wpAny_bind (wpAny_field ho hd (x:=.ref b) rfl ?_);show wpAny _ _ (if(Value.ref b==Value.none)=true then _ else _) _ _ s;rw[if_neg (show ¬((Value.ref b==Value.none)=true)from w1i)];show wpAny _ _ (field (.ref j) 1 >>= _) _ _ s;refine wpAny_bind (wpAny_field ho hd (x:=.int k 0) rfl ?_);show wpAny _ _ (seqItems? (.ref b) >>= _) _ _ s;refine wpAny_bind (wpAny_seqItems hot hdt ?_);simp only[w1w,gx];refine wpAny_bind (wpAny_setField ho hd (by simp) (wpAny_pure ⟨x,rfl,wpAny_pure (hQ _ ⟨_,Heap.get?_update_self _ ho (Obj.isFreed_of_fields (Obj.data_mapFields hd _)),(Obj.cls_mapFields ..).trans hc,by grind [Obj.data_mapFields,rawInt]⟩ (Heap.SameBut.update ..))⟩))
theorem q7o(hh:A.handled=none)(gi:s.heap.IsTupleIter j b k)(gt:s.heap.IsTuple b vs)(gx:vs[k]?=none)
  (hE:∀h' e,Heap.ExtBut j s.heap h'->(∃o,h'.get? e=some o/\o.cls=.type "StopIteration")->E (.ref e) {s with heap:=h'}):wpAny (model prog w) A (Builtin.SmallTypes.nextOf (.ref j)) Q E s:=by
 obtain⟨o,ho,hc,hd⟩:=id gi;obtain⟨ot,hot,_,m,hdt⟩:=gt;unfold Builtin.SmallTypes.nextOf;refine wpAny_bind (wpAny_callSpecial?_slot (name:=Str.ofString "__next__") gi.typeIs F.slot_tuple_iterator_next (wpAny_call_entry F.slot_tuple_iterator_next gi.typeIs F.entry_tuple_iterator_next ?_ (F.args_tuple_iterator_next_1 _)));show wpAny _ _ (field (.ref j) 0 >>= _) _ _ s;refine wpAny_bind (wpAny_field ho hd (x:=.ref b) rfl ?_);show wpAny _ _ (if(Value.ref b==Value.none)=true then _ else _) _ _ s;rw[if_neg (show ¬((Value.ref b==Value.none)=true)from w1i)];show wpAny _ _ (field (.ref j) 1 >>= _) _ _ s;refine wpAny_bind (wpAny_field ho hd (x:=.int k 0) rfl ?_);show wpAny _ _ (seqItems? (.ref b) >>= _) _ _ s;refine wpAny_bind (wpAny_seqItems hot hdt ?_);simp only[w1w,gx];refine wpAny_bind (wpAny_rule (wpAny_bind (wpAny_setField ho hd (by simp) ?_)));show wpAny _ _ (newExc (.type "StopIteration") [] >>= _) _ _ _;refine wpAny_bind ?_;simp only[newExc,newTuple];refine wpAny_bind (wpAny_newObj_type ?_ (by size_fits));refine wpAny_bind (m:=firstArgMember _ _) (wpAny_of_eq (a:=Value.none) (by first|rfl|(simp only[firstArgMember];rfl)) (wpAny_newObj_type ?_ (by size_fits)));simp only[raiseNew];refine wpAny_bind (wpAny_handled ?_)
 first|rw[show A.in1.handled=none from hh]|rw[hh]
 refine wpAny_bind (wpAny_pure (wpAny_throw (hE _ _ (((Heap.SameBut.update ..).extBut.push _).push _) ⟨_,Heap.get?_push_size _ rfl,rfl⟩)))
noncomputable def IsIt(t:Bool)(j b:Addr)(k:Nat)(h:Heap):Prop:=if t=true then h.IsTupleIter j b k else h.IsListIter j b k
noncomputable def IsSq(t:Bool)(b:Addr)(vs:Array Value)(h:Heap):Prop:=if t=true then h.IsTuple b vs else h.IsList b vs
theorem IsIt.keep(x:IsIt t j b k h)(e:∀o,h.get? j=some o->h'.get? j=some o):IsIt t j b k h':=by
 cases t with
 |true=>obtain⟨o,ho,r⟩:=(show h.IsTupleIter j b k from x);exact⟨o,e o ho,r⟩
 |false=>obtain⟨o,ho,r⟩:=(show h.IsListIter j b k from x);exact⟨o,e o ho,r⟩
theorem IsIt.obj(x:IsIt t j b k h):∃o,h.get? j=some o/\∀v,o.data≠.cell v:=by
 cases t with
 |true=>obtain⟨o,ho,c,d⟩:=(show h.IsTupleIter j b k from x);grind
 |false=>obtain⟨o,ho,c,d⟩:=(show h.IsListIter j b k from x);grind
theorem IsSq.keep(x:IsSq t b vs h)(e:∀o,h.get? b=some o->h'.get? b=some o):IsSq t b vs h':=by
 cases t with
 |true=>obtain⟨o,ho,r⟩:=(show h.IsTuple b vs from x);exact⟨o,e o ho,r⟩
 |false=>obtain⟨o,ho,r⟩:=(show h.IsList b vs from x);exact⟨o,e o ho,r⟩
theorem q6l(gi:IsIt t j b k s.heap)(gt:IsSq t b vs s.heap)(gx:vs[k]?=some x)
  (hQ:∀h',IsIt t j b (k+1) h'->Heap.SameBut j s.heap h'->Q x {s with heap:=h'}):wpAny (model prog w) A (Builtin.SmallTypes.nextOf (.ref j)) Q E s:=by
 cases t with
 |true=>exact q9b gi gt gx hQ
 |false=>exact wpAny_nextOf_list_item gi gt gx hQ
theorem x2c(hh:A.handled=none)(gi:IsIt t j b k s.heap)(gt:IsSq t b vs s.heap)(gx:vs[k]?=none)
  (hE:∀h' e,Heap.ExtBut j s.heap h'->(∃o,h'.get? e=some o/\o.cls=.type "StopIteration")->E (.ref e) {s with heap:=h'}):wpAny (model prog w) A (Builtin.SmallTypes.nextOf (.ref j)) Q E s:=by
 cases t with
 |true=>exact q7o hh gi gt gx hE
 |false=>exact wpAny_nextOf_list_end hh gi gt gx hE
structure Apart(z I O i j a b:Addr):Prop where
 Iz:I≠z
 Oz:O≠z
 iz:i≠z
 jz:j≠z
 IO:I≠O
 Ii:I≠i
 Ij:I≠j
 Oi:O≠i
 Oj:O≠j
 ij:i≠j
 az:a≠z
 aO:a≠O
 ai:a≠i
 aj:a≠j
 bz:b≠z
 bO:b≠O
 bi:b≠i
 bj:b≠j
theorem y9w{i:Addr}{q:Value}{Q:Value->Shared->Prop}(D:Apart z I O i j a b)
  (gz:IsZip s.heap z I O .none)(gI:IsPair s.heap I (.ref i) (.ref j))(gO:IsPair s.heap O p q)
  (g1:IsIt t i a k s.heap)(g2:IsIt u j b k s.heap)(l1:IsSq t a xs s.heap)(l2:IsSq u b ys s.heap)(hx:xs[k]?=some x)(hy:ys[k]?=some y)
  (hQ:∀h',IsZip h' z I O (rawInt s.heap.objs.size)->IsPair h' O x y->IsIt t i a (k+1) h'->IsIt u j b (k+1) h'->IsPair h' s.heap.objs.size x y->h'.objs.size=s.heap.objs.size+1 ->
   (∀c o,c≠z->c≠O->c≠i->c≠j->s.heap.get? c=some o->h'.get? c=some o)->Q (.ref s.heap.objs.size) {s with heap:=h'}):
  wpAny (model prog w) A (Builtin.«zip.__next__» ⟨[.ref z],[]⟩) (λfin s'=>∃v,fin=.done (.ret v)/\Q v s') E s:=by
 show wpAny _ _ (field (.ref z) 2 >>= _) _ _ _;refine wpAny_bind (wpAny_field gz rfl (x:=.bool false) rfl ?_);show wpAny _ _ (field (.ref z) 3 >>= _) _ _ _;refine wpAny_bind (wpAny_field gz rfl (x:=.ref I) rfl (wpAny_bind (wpAny_seqItems gI rfl ?_)));show wpAny _ _ (Builtin.SmallTypes.ownedTupleIsFree (.ref z) >>= _) _ _ _;refine wpAny_bind ?_;unfold Builtin.SmallTypes.ownedTupleIsFree;refine wpAny_bind (wpAny_field gz rfl (x:=.none) rfl (wpAny_pure ?_));simp only[if_true];refine wpAny_bind (wpAny_rule (wpAny_bind (wpAny_field gz rfl (x:=.ref O) rfl (wpAny_bind (wpAny_setField_rec gz (by simp) λha za sa=>?_)))))
 replace za:IsZip ha z I O .ellipsis:=za
 refine wpAny_bind ?_;simp only[List.zipIdx_cons,List.zipIdx_nil,w2b,w4c];refine wpAny_bind (wpAny_bind (wpAny_onRaise ?_));show wpAny _ _ (Builtin.SmallTypes.nextOf (.ref i) >>= _) _ _ _;refine wpAny_bind (q6l (s:={s with heap:=ha}) (g1.keep λo e=>sa.extBut _ _ D.iz e) (l1.keep λo e=>sa.extBut _ _ D.az e) hx λhb ib sb=>wpAny_pure ?_)
 have Ob:IsPair hb O p q:=sb.extBut _ _ D.Oi (sa.extBut _ _ D.Oz gO);refine wpAny_bind (wpAny_seqItems Ob rfl (wpAny_bind (wpAny_updateSeq_pair Ob λhc Oc sc=>?_)))
 replace Oc:IsPair hc O x q:=Oc
 refine wpAny_bind (wpAny_letGo (wpAny_pure (wpAny_bind (wpAny_bind (wpAny_onRaise ?_)))));show wpAny _ _ (Builtin.SmallTypes.nextOf (.ref j) >>= _) _ _ _;refine wpAny_bind (q6l (s:={s with heap:=hc}) (g2.keep λo e=>sc.extBut _ _ D.Oj.symm (sb.extBut _ _ D.ij.symm (sa.extBut _ _ D.jz e))) (l2.keep λo e=>sc.extBut _ _ D.bO (sb.extBut _ _ D.bi (sa.extBut _ _ D.bz e))) hy λhd jd sd=>wpAny_pure ?_)
 have Od:IsPair hd O x q:=sd.extBut _ _ D.Oj Oc;refine wpAny_bind (wpAny_seqItems Od rfl (wpAny_bind (wpAny_updateSeq_pair Od λhe Oe se=>?_)))
 replace Oe:IsPair he O x y:=Oe
 refine wpAny_bind (wpAny_letGo (wpAny_pure (wpAny_pure (wpAny_bind (wpAny_seqItems Oe rfl (wpAny_bind (wpAny_newTuple ?_)))))));have sz:he.objs.size=s.heap.objs.size:=by rw[se.1,sd.1,sc.1,sb.1,sa.1]
 have ze:IsZip he z I O .ellipsis:=se.extBut _ _ D.Oz.symm (sd.extBut _ _ D.jz.symm (sc.extBut _ _ D.Oz.symm (sb.extBut _ _ D.iz.symm za)));have ke:∀c o,c≠z->c≠O->c≠i->c≠j->s.heap.get? c=some o->he.get? c=some o:=λc o c1 c2 c3 c4 e=>se.extBut _ _ c2 (sd.extBut _ _ c4 (sc.extBut _ _ c2 (sb.extBut _ _ c3 (sa.extBut _ _ c1 e))))
 have ie:IsIt t i a (k+1) he:=ib.keep λo e=>se.extBut _ _ D.Oi.symm (sd.extBut _ _ D.ij (sc.extBut _ _ D.Oi.symm e))
 have je:IsIt u j b (k+1) he:=jd.keep λo e=>se.extBut _ _ D.Oj.symm e
 have zlt:z<he.objs.size:=Heap.lt_size ze;show wpAny _ _ (Builtin.SmallTypes.ownedTupleHandOut (.ref z) (.ref he.objs.size) >>= _) _ _ _;refine wpAny_bind ?_;unfold Builtin.SmallTypes.ownedTupleHandOut;have zf:IsZip (he.push {cls:=.type "tuple", data:=.seq #[x,y]}) z I O .ellipsis:=Heap.get?_push_of_some _ ze;refine wpAny_bind (wpAny_setField_rec zf (by simp) λhg zg sg=>?_)
 replace zg:IsZip hg z I O (rawInt he.objs.size):=zg
 refine wpAny_setField_rec zg (by simp) λhk zk sk=>?_
 replace zk:IsZip hk z I O (rawInt he.objs.size):=zk
 have up:∀c o,c≠z->he.get? c=some o->hk.get? c=some o:=λc o c1 e=>sk.extBut _ _ c1 (sg.extBut _ _ c1 (Heap.get?_push_of_some _ e))
 have Tk:IsPair hk he.objs.size x y:=sk.extBut _ _ (w2n zlt) (sg.extBut _ _ (w2n zlt) (Heap.get?_push_size _ rfl));have nk:hk.objs.size=he.objs.size+1:=by rw[sk.1,sg.1,Heap.size_push]
 rw[sz]at zk Tk nk;refine wpAny_pure ⟨_,rfl,?_⟩;show Q (.ref he.objs.size) _;rw[sz];exact hQ hk zk (up _ _ D.Oz Oe) (ie.keep λo e=>up _ o D.iz e) (je.keep λo e=>up _ o D.jz e) Tk nk λc o c1 c2 c3 c4 e=>up c o c1 (ke c o c1 c2 c3 c4 e)
theorem z5v{i:Addr}{q:Value}(hh:A.handled=none)(D:Apart z I O i j a b)
  (gz:IsZip s.heap z I O .none)(gI:IsPair s.heap I (.ref i) (.ref j))(gO:IsPair s.heap O p q)
  (g1:IsIt t i a k s.heap)(g2:IsIt u j b k s.heap)(l1:IsSq t a xs s.heap)(l2:IsSq u b ys s.heap)(hend:xs[k]?=none\/ys[k]?=none)
  (hE:∀h' e,(∀c o,c≠z->c≠O->c≠i->c≠j->s.heap.get? c=some o->h'.get? c=some o)->(∃o,h'.get? e=some o/\o.cls=.type "StopIteration")->E (.ref e) {s with heap:=h'}):
  wpAny (model prog w) A (Builtin.«zip.__next__» ⟨[.ref z],[]⟩) Q E s:=by
 show wpAny _ _ (field (.ref z) 2 >>= _) _ _ _;refine wpAny_bind (wpAny_field gz rfl (x:=.bool false) rfl ?_);show wpAny _ _ (field (.ref z) 3 >>= _) _ _ _;refine wpAny_bind (wpAny_field gz rfl (x:=.ref I) rfl (wpAny_bind (wpAny_seqItems gI rfl ?_)));show wpAny _ _ (Builtin.SmallTypes.ownedTupleIsFree (.ref z) >>= _) _ _ _;refine wpAny_bind ?_;unfold Builtin.SmallTypes.ownedTupleIsFree;refine wpAny_bind (wpAny_field gz rfl (x:=.none) rfl (wpAny_pure ?_));simp only[if_true];refine wpAny_bind (wpAny_rule (wpAny_bind (wpAny_field gz rfl (x:=.ref O) rfl (wpAny_bind (wpAny_setField_rec gz (by simp) λha za sa=>?_)))))
 replace za:IsZip ha z I O .ellipsis:=za
 refine wpAny_bind ?_;simp only[List.zipIdx_cons,List.zipIdx_nil,w2b,w4c];refine wpAny_bind (wpAny_bind (wpAny_onRaise ?_));show wpAny _ _ (Builtin.SmallTypes.nextOf (.ref i) >>= _) _ _ _;cases hx:xs[k]? with
 |none=>
  refine wpAny_bind (x2c (s:={s with heap:=ha}) hh (g1.keep λo e=>sa.extBut _ _ D.iz e) (l1.keep λo e=>sa.extBut _ _ D.az e) hx λhb e sb ge=>?_)
  obtain⟨oe,hoe,hce⟩:=ge;have zb:IsZip hb z I O .ellipsis:=sb _ _ D.iz.symm za;have nz:e≠z:=λx=>by grind
  refine wpAny_setField_rec zb (by simp) λhc _ sc=>hE hc e (λc o c1 _ c3 _ x=>sc.extBut _ _ c1 (sb _ _ c3 (sa.extBut _ _ c1 x))) ⟨oe,sc.extBut _ _ nz hoe,hce⟩
 |some x=>
  have hy:ys[k]?=none:=by grind
  refine wpAny_bind (q6l (s:={s with heap:=ha}) (g1.keep λo e=>sa.extBut _ _ D.iz e) (l1.keep λo e=>sa.extBut _ _ D.az e) hx λhb ib sb=>wpAny_pure ?_)
  have Ob:IsPair hb O p q:=sb.extBut _ _ D.Oi (sa.extBut _ _ D.Oz gO);refine wpAny_bind (wpAny_seqItems Ob rfl (wpAny_bind (wpAny_updateSeq_pair Ob λhc Oc sc=>?_)))
  refine wpAny_bind (wpAny_letGo (wpAny_pure (wpAny_bind (wpAny_bind (wpAny_onRaise ?_)))));show wpAny _ _ (Builtin.SmallTypes.nextOf (.ref j) >>= _) _ _ _;refine wpAny_bind (x2c (s:={s with heap:=hc}) hh (g2.keep λo e=>sc.extBut _ _ D.Oj.symm (sb.extBut _ _ D.ij.symm (sa.extBut _ _ D.jz e))) (l2.keep λo e=>sc.extBut _ _ D.bO (sb.extBut _ _ D.bi (sa.extBut _ _ D.bz e))) hy λhd e sd ge=>?_)
  obtain⟨oe,hoe,hce⟩:=ge;have zd:IsZip hd z I O .ellipsis:=sd _ _ D.jz.symm (sc.extBut _ _ D.Oz.symm (sb.extBut _ _ D.iz.symm za));have nz:e≠z:=λx=>by grind
  refine wpAny_setField_rec zd (by simp) λhe _ se=>hE he e (λc o c1 c2 c3 c4 x=>se.extBut _ _ c1 (sd _ _ c4 (sc.extBut _ _ c2 (sb.extBut _ _ c3 (sa.extBut _ _ c1 x))))) ⟨oe,se.extBut _ _ nz hoe,hce⟩
theorem x8g{i:Addr}{q:Value}(D:Apart z I O i j a b)
  (gz:IsZip s.heap z I O .none)(gI:IsPair s.heap I (.ref i) (.ref j))(gO:IsPair s.heap O p q)
  (g1:IsIt t i a k s.heap)(g2:IsIt u j b k s.heap)(l1:IsSq t a xs s.heap)(l2:IsSq u b ys s.heap)(hx:xs[k]?=some x)(hy:ys[k]?=some y)
  (hQ:∀h',IsZip h' z I O (rawInt s.heap.objs.size)->IsPair h' O x y->IsIt t i a (k+1) h'->IsIt u j b (k+1) h'->IsPair h' s.heap.objs.size x y->h'.objs.size=s.heap.objs.size+1 ->
   (∀c o,c≠z->c≠O->c≠i->c≠j->s.heap.get? c=some o->h'.get? c=some o)->Q (some (.ref s.heap.objs.size)) {s with heap:=h'}):wpAny (model prog w) A (pyNext (.ref z)) Q E s:=by
 have hT:s.TypeIs (.ref z) "zip":=⟨_,gz,rfl⟩;unfold pyNext;exact wpAny_bind (wpAny_attempt (wpAny_callSpecial?_slot (name:=Str.ofString "__next__") hT F.slot_zip_next (wpAny_call_entry F.slot_zip_next hT F.entry_zip_next (y9w D gz gI gO g1 g2 l1 l2 hx hy λh' a1 a2 a3 a4 a5 a6 a7=>wpAny_pure (hQ h' a1 a2 a3 a4 a5 a6 a7)) (F.args_zip_next_1 _))))
theorem x8h{i:Addr}{q:Value}(hh:A.handled=none)(D:Apart z I O i j a b)
  (gz:IsZip s.heap z I O .none)(gI:IsPair s.heap I (.ref i) (.ref j))(gO:IsPair s.heap O p q)
  (g1:IsIt t i a k s.heap)(g2:IsIt u j b k s.heap)(l1:IsSq t a xs s.heap)(l2:IsSq u b ys s.heap)(hend:xs[k]?=none\/ys[k]?=none)
  (hQ:∀h',(∀c o,c≠z->c≠O->c≠i->c≠j->s.heap.get? c=some o->h'.get? c=some o)->Q none {s with heap:=h'}):wpAny (model prog w) A (pyNext (.ref z)) Q E s:=by
 have hT:s.TypeIs (.ref z) "zip":=⟨_,gz,rfl⟩;unfold pyNext;refine wpAny_bind (wpAny_attempt (wpAny_callSpecial?_slot (name:=Str.ofString "__next__") hT F.slot_zip_next (wpAny_call_entry F.slot_zip_next hT F.entry_zip_next (z5v hh D gz gI gO g1 g2 l1 l2 hend λh' e hk he=>?_) (F.args_zip_next_1 _))))
 obtain⟨o,ho,hc⟩:=he;exact wpAny_bind (wpAny_isInstance (T:="StopIteration") (b:=true) ⟨o,ho,hc⟩ isSubtype_stop (wpAny_pure (hQ _ hk)))
end
noncomputable def itT(t:Bool):String:=if t=true then "tuple_iterator" else "list_iterator"
noncomputable abbrev zq1(t:Bool)(h:Heap)(a:Addr):Heap:=h.push {cls:=.type (itT t),data:=.fields #[.ref a,.int 0 0]}
noncomputable abbrev zq2(t u:Bool)(h:Heap)(a b:Addr):Heap:=(zq1 t h a).push {cls:=.type (itT u),data:=.fields #[.ref b,.int 0 0]}
noncomputable abbrev zq3(t u:Bool)(h:Heap)(a b:Addr):Heap:=(zq2 t u h a b).push {cls:=.type "tuple", data:=.seq #[.ref h.objs.size,.ref (zq1 t h a).objs.size]}
noncomputable abbrev zq4(t u:Bool)(h:Heap)(a b:Addr):Heap:=(zq3 t u h a b).push {cls:=.type "tuple", data:=.seq #[.none,.none]}
noncomputable abbrev zq5(t u:Bool)(h:Heap)(a b:Addr):Heap:=(zq4 t u h a b).push {cls:=.type "zip", data:=.fields #[.none,.bool false,.bool false,.ref (zq2 t u h a b).objs.size,.ref (zq3 t u h a b).objs.size]}
theorem z5w(t u)(a b)(xs ys):
  Meets (Builtin.«zip.__new__» ⟨[.type "zip", .ref a,.ref b],[]⟩) (λ_ R s=>IsSq t a xs s.heap/\IsSq u b ys s.heap/\R (.ok (.ret (.ref (zq4 t u s.heap a b).objs.size))) {s with heap:=zq5 t u s.heap a b}):=
 .of_wp λprog w A R s hyp=>by
  obtain⟨hp,g,d,tk,os⟩:=s;obtain⟨g1,g2,h⟩:=hyp;have hsub:=sub_zip;have q2:IsSq u b ys (zq1 t hp a):=g2.keep λo e=>Heap.get?_push_of_some _ e
  cases t with
  |false=>
   have p1:Heap.IsList (Shared.heap ⟨hp,g,d,tk,os⟩) a xs:=g1;cases u with
   |false=>
    have p2:Heap.IsList (Shared.heap ⟨hp.push {cls:=.type "list_iterator", data:=.fields #[.ref a,.int 0 0]},g,d,tk,os⟩) b ys:=q2
    wp_walk using wpAny_pyIter_list p1,wpAny_pyIter_list p2
    exact⟨_,rfl,h⟩
   |true=>
    have p2:Heap.IsTuple (Shared.heap ⟨hp.push {cls:=.type "list_iterator", data:=.fields #[.ref a,.int 0 0]},g,d,tk,os⟩) b ys:=q2
    wp_walk using wpAny_pyIter_list p1,wpAny_pyIter_tuple p2
    exact⟨_,rfl,h⟩
  |true=>
   have p1:Heap.IsTuple (Shared.heap ⟨hp,g,d,tk,os⟩) a xs:=g1;cases u with
   |false=>
    have p2:Heap.IsList (Shared.heap ⟨hp.push {cls:=.type "tuple_iterator", data:=.fields #[.ref a,.int 0 0]},g,d,tk,os⟩) b ys:=q2
    wp_walk using wpAny_pyIter_tuple p1,wpAny_pyIter_list p2
    exact⟨_,rfl,h⟩
   |true=>
    have p2:Heap.IsTuple (Shared.heap ⟨hp.push {cls:=.type "tuple_iterator", data:=.fields #[.ref a,.int 0 0]},g,d,tk,os⟩) b ys:=q2
    wp_walk using wpAny_pyIter_tuple p1,wpAny_pyIter_tuple p2
    exact⟨_,rfl,h⟩
theorem x6g(e:h.get? j=some o)(c:o.cls=.type (itT t))(d:o.data=.fields #[.ref a,.int 0 0]):IsIt t j a 0 h:=by
 cases t with
 |true=>exact(show h.IsTupleIter j a 0 from⟨o,e,c,d⟩)
 |false=>exact(show h.IsListIter j a 0 from⟨o,e,c,d⟩)
theorem x39(g1:IsSq t a xs s.heap)(g2:IsSq u b ys s.heap)
  (h:∀h',IsZip h' (s.heap.objs.size+4) (s.heap.objs.size+2) (s.heap.objs.size+3) .none->IsPair h' (s.heap.objs.size+2) (.ref s.heap.objs.size) (.ref (s.heap.objs.size+1)) ->
   IsPair h' (s.heap.objs.size+3) .none .none->IsIt t s.heap.objs.size a 0 h'->IsIt u (s.heap.objs.size+1) b 0 h'->(∀c o,s.heap.get? c=some o->h'.get? c=some o)->Q (.ref (s.heap.objs.size+4)) {s with heap:=h'}):
  wpAny (model prog w) A (call (.type "zip") [.ref a,.ref b]) Q E s:=by
 refine callType_new F.called_zip (by decide) (F.typeCall_zip_2 _ _) (F.newCall_zip_2 _ _) (λobj=>F.args_object_init_3 obj _ _) F.entry_zip_new (z5w t u a b xs ys) ⟨g1,g2,?_⟩
 have n1:(zq1 t s.heap a).objs.size=s.heap.objs.size+1:=Heap.size_push ..;have n2:(zq2 t u s.heap a b).objs.size=s.heap.objs.size+2:=by rw[Heap.size_push,n1]
 have n3:(zq3 t u s.heap a b).objs.size=s.heap.objs.size+3:=by rw[Heap.size_push,n2]
 have n4:(zq4 t u s.heap a b).objs.size=s.heap.objs.size+4:=by rw[Heap.size_push,n3]
 have k5:(zq5 t u s.heap a b).get? (zq4 t u s.heap a b).objs.size=some _:=Heap.get?_push_size _ rfl;have k4:(zq5 t u s.heap a b).get? (zq3 t u s.heap a b).objs.size=some _:=Heap.get?_push_of_some _ (Heap.get?_push_size _ rfl);have k3:(zq5 t u s.heap a b).get? (zq2 t u s.heap a b).objs.size=some _:=Heap.get?_push_of_some _ (Heap.get?_push_of_some _ (Heap.get?_push_size _ rfl));have k2:(zq5 t u s.heap a b).get? (zq1 t s.heap a).objs.size=some _:=Heap.get?_push_of_some _ (Heap.get?_push_of_some _ (Heap.get?_push_of_some _ (Heap.get?_push_size _ rfl)));have k1:(zq5 t u s.heap a b).get? s.heap.objs.size=some _:=Heap.get?_push_of_some _ (Heap.get?_push_of_some _ (Heap.get?_push_of_some _ (Heap.get?_push_of_some _ (Heap.get?_push_size _ rfl))));have up:∀c o,s.heap.get? c=some o->(zq5 t u s.heap a b).get? c=some o:=λc o e=>Heap.get?_push_of_some _ (Heap.get?_push_of_some _ (Heap.get?_push_of_some _ (Heap.get?_push_of_some _ (Heap.get?_push_of_some _ e))))
 show _/\_;rw[n2,n3,n4]at k5;rw[n1,n2]at k3;rw[n3]at k4;rw[n1]at k2;rw[n4];exact⟨⟨_,k5,rfl⟩,h _ k5 k3 k4 (x6g k1 rfl rfl) (x6g k2 rfl rfl) up⟩
noncomputable def SqG(K:PySem.W.Frag)(t:Bool)(H:Hp)(a:Addr)(xs:List V):Prop:=if t=true then SqT K H a xs else SqL K H a xs
theorem q5y(I:Inv X pins σ H s)(h:SqG X.K t H a xs):∃its:List Value,Vals xs its/\IsSq t a its.toArray s.heap:=by
 cases t with
 |true=>
  obtain⟨its,r,p,_⟩:=I.tuple h;exact⟨its,r,(show s.heap.IsTuple a its.toArray from p)⟩
 |false=>
  obtain⟨its,r,p,_⟩:=I.list h;exact⟨its,r,p.isList⟩
theorem y18(I:Inv X pins σ H s)(h:SqG X.K t H a xs)(h':SqG X.K t H a ys):xs=ys:=by
 cases t with
 |true=>exact I.tuple_inj h h'
 |false=>exact I.list_inj h h'
theorem IsSq.obj(x:IsSq t a vs h):∃o,h.get? a=some o/\o.cls=.type (if t=true then "tuple" else "list"):=by
 cases t with
 |true=>obtain⟨o,ho,c,_⟩:=(show h.IsTuple a vs from x);exact⟨o,ho,c⟩
 |false=>obtain⟨o,ho,c,_⟩:=(show h.IsList a vs from x);exact⟨o,ho,c⟩
theorem x0w{fp:List Addr}(I:Inv X pins σ H s)(k:∀b o,b∉fp->s.heap.get? b=some o->h'.get? b=some o)(hf:∀b∈fp,FpOk X pins H b):Inv X pins σ H {s with heap:=h',toks:=t'}:=by
 have nfp:∀c u,H c=some u->c∉fp:=λc u e z=>by rw[(hf c z).1]at e;cases e
 refine I.step (g':=s.gens) (d':=s.drawn) (ch:=fp) (λc hc=>?_) (λc o _ _ hc e _=>k c o hc e) (λc o _ _ hc e _=>⟨o.slots,k c o hc e⟩) (λc o _ e n=>n)
  (λc o hc e=>⟨o,k c o hc e⟩) (λc xs e=>e) (λc o u e=>e) (λc ps e=>⟨#[],by rw[e];simp⟩) (λm hm=>?_) (λc u e=>?_) I.bare
 ·obtain⟨f0,f1,f2,f3,f4,f5⟩:=hf c hc
  grind
 ·obtain⟨o,es,ep,ho,r⟩:=hm;exact⟨o,es,ep,k _ o (λz=>(hf _ z).2.1 rfl) ho,r⟩
 ·refine(I.hok c u e).stay (λd v hd q=>k d v ?_ q) (λd q=>q) λd xs _ q=>q
  grind
noncomputable def Itz(K:PySem.W.Frag)(t u:Bool)(a b:Addr):It:=
  ⟨λi H=>∃xs ys x y,SqG K t H a xs/\SqG K u H b ys/\xs[i]?=some x/\ys[i]?=some y,
   λi H v H'=>∃c x y,v=.ref c/\H c=none/\(∀xs,SqG K t H a xs->xs[i]?=some x)/\(∀ys,SqG K u H b ys->ys[i]?=some y)/\H'=upd H c (.tup [x,y]),
   λi H=>∃xs ys,SqG K t H a xs/\SqG K u H b ys/\(xs.length<=i\/ys.length<=i)⟩
theorem y5c(t u)(a b z I O i j)(D:Apart z I O i j a b):
  Turn P w K (.Tuple elts kt pt) (Itz K t u a b) [z,I,O,i,j] z (λk h=>IsZip h z I O .none/\IsPair h I (.ref i) (.ref j)/\(∃p q,IsPair h O p q)/\IsIt t i a k h/\IsIt u j b k h) where
 mem:=by simp
 obj:=λk h ⟨s1,s2,⟨p,q,s3⟩,s4,s5⟩ c hc=>by
  simp only[w0d,w0k,or_false]at hc
  grind [IsIt.obj]
 keep:=λk h h' ⟨s1,s2,⟨p,q,s3⟩,s4,s5⟩ f=>⟨f z (by simp) _ s1,f I (by simp) _ s2,⟨p,q,f O (by simp) _ s3⟩,s4.keep λo e=>f i (by simp) o e,s5.keep λo e=>f j (by simp) o e⟩
 item:=by
  intro X hP hw hK hc k pins s σ H E Iv hf st hg;subst hP hw hK;obtain⟨s1,s2,⟨p,q,s3⟩,s4,s5⟩:=st;obtain⟨xs,ys,x,y,q1,q2,hx,hy⟩:=hg;obtain⟨is1,r1,p1⟩:=q5y Iv q1;obtain⟨is2,r2,p2⟩:=q5y Iv q2;obtain⟨ux,hux,rux⟩:=r1.get hx;obtain⟨uy,huy,ruy⟩:=r2.get hy;refine x8g D s1 s2 s3 s4 s5 p1 p2 (x:=ux) (y:=uy) (by simpa using hux) (by simpa using huy) λh1 z1 o1 i1 j1 t1 n1 k1=>⟨_,rfl,?_⟩
  refine wpAny_letOwnedTupleGo_zip z1 λh2 z2 b2=>?_
  have b2:Heap.SameBut z h1 h2:=b2;have zlt:z<s.heap.objs.size:=Heap.lt_size s1;have hfr:H s.heap.objs.size=none:=Iv.hok.fresh (w0a _);have t2:IsPair h2 s.heap.objs.size ux uy:=(b2.2 _ (w2n zlt)).trans t1;have I1:IsPair h1 I (.ref i) (.ref j):=k1 I _ D.Iz D.IO D.Ii D.Ij s2;refine⟨.ref s.heap.objs.size,upd H s.heap.objs.size (.tup [x,y]),?_,rfl,⟨_,x,y,rfl,hfr,λxs' h'=>by grind [y18],λys' h'=>by grind [y18],rfl⟩,⟨z2,(b2.2 _ D.Iz).trans I1,⟨ux,uy,(b2.2 _ D.Oz).trans o1⟩,i1.keep λo e=>(b2.2 _ D.iz).trans e,j1.keep λo e=>(b2.2 _ D.jz).trans e⟩,λc hc=>?_⟩
  ·show L2.Inv X pins σ _ {s with heap:=h2,toks:=s.toks};refine q9a (fp:=[z,I,O,i,j]) Iv (λc o hc q=>?_) hf (w0a _) ⟨?_,[ux,uy],.cons rux (.cons ruy .nil),⟨_,t2,rfl,?_⟩,⟨_,t2,rfl⟩⟩
   ·simp only[w0d,w0k,or_false,not_or]at hc;exact(b2.2 c hc.1).trans (k1 c o hc.1 hc.2.2.1 hc.2.2.2.1 hc.2.2.2.2 q)
   all_goals grind [sizeLine_eq]
  ·have:c≠s.heap.objs.size:=by
    obtain⟨o,q,_⟩:∃o,s.heap.get? c=some o/\True:=by
     simp only[w0d,w0k,or_false]at hc
     grind [IsIt.obj]
    exact w0t (Heap.lt_size q)
   rw[q0g this];exact(hf c hc).1
 done:=by
  intro X hP hw hK hc k pins s σ H E Iv hf st hg;subst hP hw hK;obtain⟨s1,s2,⟨p,q,s3⟩,s4,s5⟩:=st;obtain⟨xs,ys,q1,q2,hlen⟩:=hg;obtain⟨is1,r1,p1⟩:=q5y Iv q1;obtain⟨is2,r2,p2⟩:=q5y Iv q2;have l1:=r1.length;have l2:=r2.length;refine x8h (Iv.ok.hd hc) D s1 s2 s3 s4 s5 p1 p2 (by grind) λh' k1=>⟨rfl,?_⟩
  have hfp:∀c∈[z,I,O,i,j],FpOk X pins H c:=hf;refine x0w (fp:=[z,I,O,i,j]) (t':=s.toks) Iv (λc o hc q=>?_) hfp
  grind
 self:=λ_ _ _ _ _ ⟨s1,_⟩ h=>wpAny_pyIter_zip s1 h
theorem x4a(n a b:Nat)(ha:a<n)(hb:b<n):Apart (n+4) (n+2) (n+3) n (n+1) a b where
 Iz:=by grind
 Oz:=by grind
 iz:=by grind
 jz:=by grind
 IO:=by grind
 Ii:=by grind
 Ij:=by grind
 Oi:=by grind
 Oj:=by grind
 ij:=by grind
 az:=by grind
 aO:=by grind
 ai:=by grind
 aj:=by grind
 bz:=by grind
 bO:=by grind
 bi:=by grind
 bj:=by grind
section
variable{a1 a2:Expr}{pt:Pos}
noncomputable def iZip(K:PySem.W.Frag)(ta:TA):TI:=λσ H R=>ta σ H λvs H1=>∃t u a b,vs=[.ref a,.ref b]/\(∃xs,SqG K t H1 a xs)/\(∃ys,SqG K u H1 b ys)/\R (Itz K t u a b) H1
theorem z5x{ta:TA}{p:Pos}(hg:Gl X "zip")(hm:X.mg "zip"=none)(ha:PA X [a1,a2] ta)(hs:starEach [a1,a2] X.env=[(false,eval a1 X.env),(false,eval a2 X.env)]:=by rfl)(hs2:starEach [a2] X.env=[(false,eval a2 X.env)]:=by rfl):
  PI X (.Tuple elts kt pt) (.Call (.Name "zip" p) [a1,a2] [] pos) (iZip X.K ta):=by
 intro pins s σ H R I h;refine PyProof.Rows.Call_ (q3y I hg hm PyProof.Rows.boot_zip (PyProof.Rows.callWith_type1 (thn (ha pos pins s σ H _ I h) λus s1 ⟨vs,H1,I1,r1,q1⟩=>?_) (by rw[hs,hs2]) (by rw[hs2];rfl)))
 obtain⟨t,u,a,b,e,⟨xs,hx⟩,⟨ys,hy⟩,q⟩:=q1;subst e;cases r1 with
 |cons r rr=>
  cases rr with
  |cons r' rr=>
   cases rr;cases r;cases r';obtain⟨is1,v1,p1⟩:=q5y I1 hx;obtain⟨is2,v2,p2⟩:=q5y I1 hy;obtain⟨oa,ea,_⟩:=p1.obj;obtain⟨ob,eb,_⟩:=p2.obj;have la:=Heap.lt_size ea;have lb:=Heap.lt_size eb;refine x39 p1 p2 λh' z1 i1 o1 k1 k2 up=>?_
   refine wpAny_pyIter_zip z1 ?_
   have D:Apart (s1.heap.objs.size+4) (s1.heap.objs.size+2) (s1.heap.objs.size+3) s1.heap.objs.size (s1.heap.objs.size+1) a b:=by
    grind [x4a]
   refine⟨s1.heap.objs.size+4,[s1.heap.objs.size+4,s1.heap.objs.size+2,s1.heap.objs.size+3,s1.heap.objs.size,s1.heap.objs.size+1],_,_,H1,rfl,I1.kept (t':=s1.toks) up,y5c t u a b _ _ _ _ _ D,⟨z1,i1,⟨_,_,o1⟩,k1,k2⟩,λc hc=>?_,q⟩
   simp only[w0d,w0k,or_false]at hc;rcases hc with rfl|rfl|rfl|rfl|rfl<;>exact I1.fpOk (by omega) (I1.hok.fresh (by omega))
noncomputable def srcZ(dA:Den (List W)):Den (List (W×W)):=λe=>(dA e).bind λws e1=>match ws with
 |[x,y]=>match seqW x,seqW y with
  |some us,some vs=>.ok (us.zip vs) e1
  |_,_=>.no
 |_=>.no
theorem x0b(h:seqW w=some us)(p:Rep K G w v):∃t a xs,v=.ref a/\SqG K t G a xs/\Reps K G us xs:=by
 cases w with
 |tup l=>
  cases h;obtain⟨a,xs,rfl,hq,rp⟩:=p;exact⟨true,a,xs,rfl,hq,rp⟩
 |lst l=>
  cases h;obtain⟨a,xs,rfl,hq,rp⟩:=p;exact⟨false,a,xs,rfl,hq,rp⟩
 |_=>cases h
theorem q04(s:Same G H)(h:SqG K t G a xs):SqG K t H a xs:=by
 cases t with
 |true=>exact s.tup h
 |false=>exact s.seq h
theorem y19(r1:Reps K G1 us xs)(r2:Reps K G1 vs ys)(h1:SqG K t G1 a xs)(h2:SqG K u G1 b ys):Walk2 K G1 (Itz K t u a b) (us.zip vs):=by
 have l1:=r1.length;have l2:=r2.length;have lz:(us.zip vs).length=min us.length vs.length:=w2p ..;refine⟨λi G H s s' h=>⟨xs,ys,xs[i]'(by omega),ys[i]'(by omega),q04 s' (q04 s h1),q04 s' (q04 s h2),by simp,by simp⟩,λi G H x H' s s' hy p q h=>?_,λi G H s s' h=>⟨xs,ys,q04 s' (q04 s h1),q04 s' (q04 s h2),by omega⟩⟩
 obtain⟨c,x1,y1,rfl,hn,hx1,hy1,rfl⟩:=hy;obtain⟨hu,hv⟩:=w2t.mp h;obtain⟨w1,hw1,pw1⟩:=r1.getV (hx1 xs (q04 s' (q04 s h1)));obtain⟨w2,hw2,pw2⟩:=r2.getV (hy1 ys (q04 s' (q04 s h2)));rw[hu]at hw1;rw[hv]at hw2;cases hw1;cases hw2;exact⟨Grow.hid s' hn _,λm n σ Q hQ=>⟨c,[x1,y1],rfl,SqT.of q0k,rfl,x1,[y1],rfl,y1,[],rfl,rfl,hQ _ _ (Rep.mono s _ pw1) (Rep.mono s _ pw2)⟩⟩
theorem y2a{p:Pos}(hm:X.mg "zip"=none)(ha:DA Z X EE [a1,a2] dA)(hg:Gl X "zip":=by rfl)(hs:starEach [a1,a2] X.env=[(false,eval a1 X.env),(false,eval a2 X.env)]:=by rfl)(hs2:starEach [a2] X.env=[(false,eval a2 X.env)]:=by rfl):
  DI Z X EE (.Tuple elts kt pt) (.Call (.Name "zip" p) [a1,a2] [] pos) (srcZ dA):=by
 refine PI.mono (z5x hg hm ha hs hs2) ?_;rintro σ H RR ⟨G,e,rel,h⟩;simp only[srcZ,R.holds_bind]at h;refine⟨G,e,rel,h.imp (λws e1 h G1 vs H1 r1 s1 p1=>?_) λ_ _ h=>h⟩
 split at h
 ·rename_i w1 w2;split at h
  ·rename_i us ws hu hw;obtain⟨y1,r,rfl,q1,y2,r',rfl,q2,q3⟩:=p1;cases(show r'=[]from q3);obtain⟨t,a,xs,rfl,hx,rx⟩:=x0b hu q1;obtain⟨u,b,ys,rfl,hy,ry⟩:=x0b hw q2;exact⟨t,u,a,b,rfl,⟨xs,q04 r1.sub hx⟩,⟨ys,q04 r1.sub hy⟩,h _ _ _ r1 s1 (y19 rx ry hx hy)⟩
  ·exact h.elim
 ·exact h.elim
end
noncomputable def srcZW(e:List S):List W->R (List (W×W))
 |[x,y]=>match seqW x,seqW y with
  |some us,some vs=>.ok (us.zip vs) e
  |_,_=>.no
 |_=>.no
theorem z5y:srcZ dA e=(dA e).bind λws e1=>srcZW e1 ws:=by
 unfold srcZ;congr 1
theorem y5d:srcZW e [.tup us,.tup vs]=.ok (us.zip vs) e:=rfl
theorem y5e:srcZW e [.lst us,.lst vs]=.ok (us.zip vs) e:=rfl
theorem y5f:srcZW e [.tup us,.lst vs]=.ok (us.zip vs) e:=rfl
theorem y5g:srcZW e [.lst us,.tup vs]=.ok (us.zip vs) e:=rfl
noncomputable def hide1:S->S
 |.own _ ws=>.fr (.lst ws)
 |.dic kvs=>.fr (.dic kvs)
 |.dw sh ks ws=>.fr (.dw false sh ks ws)
 |s=>s
noncomputable def hideS(e:List S):List S:=e.map hide1
noncomputable def borrowR(e:List S):R W->R W
 |.ok w _=>if scalW w=true then .ok w e else .no
 |.ex c _=>.ex c e
 |.no=>.no
noncomputable def dBorrow(d:Den W):Den W:=λe=>borrowR e (d (hideS e))
noncomputable def borrowT(e:List S):R Bool->R Bool
 |.ok b _=>.ok b e
 |.ex c _=>.ex c e
 |.no=>.no
noncomputable def dBorrowT(d:Den Bool):Den Bool:=λe=>borrowT e (d (hideS e))
theorem Rel.hide(r:Rel K Z G σ H e):Rel K ⟨H,H,[]⟩ H σ H (hideS e):=by
 have g:∀(i:Nat)(s:S),(hideS e)[i]?=some s->∃s0,e[i]?=some s0/\s=hide1 s0:=λi s h=>by
  unfold hideS at h
  grind
 refine⟨.refl _,λi s h=>?_,by grind [hideS,len],λi j b b' ws ws' a h1 _ _ _=>?_,λa o h _=>h,(λa h=>nomatch h),λa _=>rfl⟩
 ·obtain⟨s0,h0,rfl⟩:=g i s h;have q:=r.slot i s0 h0;cases s0 with
  |no=>trivial
  |fr w=>
   obtain⟨u,q1,q2⟩:=q;exact⟨u,q1,Rep.mono r.sub w q2⟩
  |own b ws=>
   obtain⟨a,xs,q1,q2,q3,q4,q5⟩:=q;exact⟨.ref a,q1,a,xs,rfl,SqL.of q2,Reps.mono r.sub ws q5⟩
  |dic kvs=>
   obtain⟨a,q1,q2,_⟩:=q;exact⟨.ref a,q1,a,rfl,q2⟩
  |dw sh ks ws=>
   obtain⟨a,kvs,kas,q1,q2,_,_,q5,q6,q7⟩:=q;exact⟨.ref a,q1,a,kvs,kas,rfl,q2,q5,q6.mono r.sub,Reps.mono r.sub ws q7.reps⟩
 ·obtain⟨s0,_,h2⟩:=g i _ h1;cases s0 with
  |_=>cases h2
theorem Rel.back(r:Rel K Z G σ H e)(r2:Rel K ⟨H,H,[]⟩ G2 σ H2 e2):Rel K Z G σ H2 e:=by
 have hh:Same H H2:=λa o h=>r2.ent a o h (λz=>nomatch z)
 exact r.grow ⟨hh,.refl _,λa o h=>hh a o (r.sub a o h),λ_ _=>rfl⟩
theorem y5h(h:scalW w=true)(p:Rep K G w v):Rep K G' w v:=by
 cases w with
 |non=>exact p
 |bl b=>exact p
 |int b=>exact p
 |str b=>exact p
 |_=>cases h
theorem y2b{e:Expr}(he:∀Z',DE Z' X EE e d):DE Z X EE e (dBorrow d):=by
 intro pins s σ H Q I hq;obtain⟨G,e0,rel,h⟩:=hq;refine he ⟨H,H,[]⟩ pins s σ H Q I ⟨H,hideS e0,rel.hide,?_⟩;unfold dBorrow borrowR at h;cases q:d (hideS e0)with
 |ok w e2=>
  rw[q]at h;dsimp only at h;split at h
  ·rename_i hs;intro G2 v H2 r2 s2 p;exact h G v H2 (rel.back r2) (.refl _) (y5h hs p)
  ·exact h.elim
 |ex k e2=>
  rw[q]at h;intro G2 H2 r2 s2;exact h G H2 (rel.back r2) (.refl _)
 |no=>rw[q]at h;exact h.elim
theorem x4b{e:Expr}(he:∀Z',DT Z' X EE e c):DT Z X EE e (dBorrowT c):=by
 intro pins s σ H Q I hq;obtain⟨G,e0,rel,h⟩:=hq;refine he ⟨H,H,[]⟩ pins s σ H Q I ⟨H,hideS e0,rel.hide,?_⟩;unfold dBorrowT borrowT at h;cases q:c (hideS e0)with
 |ok w e2=>
  rw[q]at h;intro G2 H2 r2 s2;exact h G H2 (rel.back r2) (.refl _)
 |ex k e2=>
  rw[q]at h;intro G2 H2 r2 s2;exact h G H2 (rel.back r2) (.refl _)
 |no=>rw[q]at h;exact h.elim
section
variable [Decidable p]
theorem y2c:dBorrow d e=borrowR e (d (hideS e)):=rfl
theorem x9t:dBorrowT d e=borrowT e (d (hideS e)):=rfl
theorem y2d:borrowR e (.ok w e')=if scalW w=true then .ok w e else .no:=rfl
theorem y2e:borrowR e (.ex v e')=.ex v e:=rfl
theorem x9u:borrowT e (.ok k e')=.ok k e:=rfl
theorem x9v:borrowT e (.ex v e')=.ex v e:=rfl
theorem x9w:borrowR e (if p then x else y)=if p then borrowR e x else borrowR e y:=by split<;>rfl
theorem x7j:borrowT e (if p then x else y)=if p then borrowT e x else borrowT e y:=by split<;>rfl
theorem y5i:hideS []=[]:=rfl
theorem y2f{s:D.S}:hideS (s::e)=hide1 s::hideS e:=rfl
theorem y5j:hide1 (.own b ws)=.fr (.lst ws):=rfl
theorem y9x:hide1 (.fr w)=.fr w:=rfl
theorem y9y:hide1 .no=.no:=rfl
end
end D
namespace L2
open PySem PySem.Spec PyProof.Rows
structure FlyA(outer:List Env)(H H':Hp)(h h':Heap)(e:Addr)(cls:Value)(B:Heap):Prop where
 stay:B.StaysIn h'
 bare:B.get? e=none
 ff:h'.FunFrames B outer
 tr:∃a0 fl,h'.TracedAtW B e cls a0 fl
 old:∀b o,h.get? b=some o->H b=none->b∉frs outer->B.get? b=some o
 trk:∀b u o,H' b=some u->h'.get? b=some o->B.get? b=some o
 all:∀b o,h.get? b=some o->b∈frs outer\/∃o',B.get? b=some o'
 new:h.get? e=none
end L2
namespace D
open PySem L2
noncomputable def compX(c:Den Bool)(d:Den W)(pe:List S):List W->Option (Value ⊕ List W)
 |[]=>some (.inr [])
 |w::ws=>match c (.fr w::pe)with
  |.ok true e1=>match d e1 with
   |.ok y _=>(compX c d pe ws).map (Sum.map id (y::·))
   |.ex k _=>some (.inl k)
   |.no=>none
  |.ok false _=>compX c d pe ws
  |.ex k _=>some (.inl k)
  |.no=>none
noncomputable def compXR(e:List S):Option (Value ⊕ List W)->R (List W)
 |some (.inr out)=>.ok out e
 |some (.inl k)=>.ex k e
 |none=>.no
noncomputable def compKX(js:List Nat)(c:Den Bool)(d:Den W)(ws:List W)(e1:List S):R (List W):=
 if ws.length<=16777216 then compXR (frzs js e1) (compX c d (pjS js (frzs js e1)) ws)else .no
theorem y5k:compKX js cc d ws e=if ws.length<=16777216 then compXR (frzs js e) (compX cc d (pjS js (frzs js e)) ws)else .no:=rfl
theorem y2g:compXR e (some (.inr out))=.ok out e:=rfl
theorem y2h:compXR e (some (.inl k))=.ex k e:=rfl
section
variable{X:Cx}{Z:Zt}{EE:L2.St->XK}{elt iter a b:Expr}{ifs:List Expr}{scope sc:Scope}{pos pt:Pos}{x:Str}{Nf N:List Str}{js:List Nat}{di:Den W}{dA:Den (List W)}{c:Den Bool}{d:Den W}
theorem z5z(h:(compKX js c d ws e1).holds P Ex):ws.length<=16777216/\∃out,compX c d (pjS js (frzs js e1)) ws=some out/\Sum.elim (λk=>Ex k (frzs js e1)) (λo=>P o (frzs js e1)) out:=by
 unfold compKX at h;split at h
 ·rename_i hl;cases ho:compX c d (pjS js (frzs js e1)) ws with
  |none=>rw[ho]at h;exact h.elim
  |some out=>rw[ho]at h;exact⟨hl,out,rfl,by cases out<;>exact h⟩
 ·exact h.elim
end
end D
namespace L2
open PySem PySem.Spec PyProof.Rows
noncomputable def Rise(t:SetTable):Prop:=t.place.toList.Pairwise (·<·)/\t.dummies=#[]
noncomputable def valI:Value->Int
 |.int n _=>n
 |_=>0
structure SetData(prog:Program)(w:World)(es:Array (Int×Value))(t:SetTable)(S:List Int):Prop where
 el:ElemsOf (intKind prog w) es.toList
 sz:es.size<scanBound
 fit:t.fits es.size=true
 rise:Rise t
 led:t.led=!w.params.followText "set-order"
 whole:∀e∈es.toList,∃n k,e.2=Value.int n k
 perm:(es.toList.map λe=>valI e.2).Perm S
namespace SI
theorem own:Manifest.owners.lookup (String.ofList ['r','o','t','a','r','e','t','i','_','t','e','s'].reverse)=some Manifest.sig_set_iterator:=by kernel_rfl
theorem next:Slot "set_iterator" "__next__" "set_iterator.__next__":=.of (owner:="set_iterator") (n:="__next__") (by rw[typeLookup_type,builtinLookup_eq_fast];kernel_rfl) (by decide +kernel) (by decide +kernel) (by decide +kernel) (by first|exact .inl (by decide +kernel)|exact .inr (by decide +kernel)) (by rw[isSubtype_type];kernel_rfl)
theorem iter:Slot "set_iterator" "__iter__" "set_iterator.__iter__":=.of (owner:="set_iterator") (n:="__iter__") (by rw[typeLookup_type,builtinLookup_eq_fast];kernel_rfl) (by decide +kernel) (by decide +kernel) (by decide +kernel) (by first|exact .inl (by decide +kernel)|exact .inr (by decide +kernel)) (by rw[isSubtype_type];kernel_rfl)
end SI
open PySem PySem.Spec PyProof.Rows
end L2
namespace D
open PySem L2
variable{X:Cx}{dA:Den (List W)}{e:Expr}{p pos:Pos}{Z:Zt}
noncomputable def rCat0(K:PySem.W.Frag):R2:=λx y H Q=>∃a b ys,x=.ref a/\y=.ref b/\SqT K H a []/\SqT K H b ys/\Q (.ref b) H
open PyProof.Rows in
theorem op_cat0:OpR X (binaryOp .Add) (rCat0 X.K):=by
 intro pins s σ H x y v u Q I rx ry h;obtain⟨a,b,ys,rfl,rfl,ha,hb,q⟩:=h;cases rx;cases ry;obtain⟨its,r1,p1,_⟩:=I.tuple ha;obtain⟨its2,r2,p2,_⟩:=I.tuple hb;cases r1;obtain⟨⟨cls,dd,data,sl⟩,ho,hc,n,hd⟩:=id p1;obtain⟨⟨cls2,dd2,data2,sl2⟩,ho2,hc2,n2,hd2⟩:=id p2;simp only at hc hd hc2 hd2;subst hc hd hc2 hd2;exact concat_meets ⟨_,ho,rfl⟩ ⟨_,ho2,rfl⟩ noFill_tuple_add seq_tuple_add PySem.F.slot_tuple_add PySem.F.entry_tuple_add (PySem.F.args_tuple_add_2 _ _) (tuple_addW0 a b _ _ n n2 dd dd2 sl sl2 rfl) ⟨ho,ho2,.ref b,H,I,rfl,q⟩
noncomputable def addX:W->W->Option W
 |.tup xs,.tup ys=>if xs.length+ys.length<=16777216 then some (.tup (xs++ys))else none
 |x,y=>addW x y
theorem y9z:addX (.tup xs) (.tup ys)=if xs.length+ys.length<=16777216 then some (.tup (xs++ys))else none:=rfl
theorem y90:addX (.int i) (.int j)=some (.int (i+j)):=rfl
theorem y91:addX (.lst xs) (.lst ys)=if xs.length+ys.length<=16777216 then some (.lst (xs++ys))else none:=rfl
theorem y92:addX (.str x) (.str y)=if x.length+y.length<=16777216 then some (.str (x++y))else none:=rfl
theorem y93:Op2 K (λx y H Q=>rCat0 K x y H Q\/(rI0 (λi j=>.int (i+j)) x y H Q\/((∃i j,x=.str i/\y=.str j/\i.length+j.length<=sizeLine/\Q (.str (i++j)) H)\/(rCatT K x y H Q\/rCatS K x y H Q)))) addX:=by
 intro G H x y wx wy w Q s px py hf h;unfold addX at hf;split at hf
 ·rename_i xs ys;split at hf
  ·rename_i hl
   by_cases h0:xs=[]
   ·subst h0;cases hf;obtain⟨a,vs,rfl,hq,rp⟩:=px;obtain⟨b,us,rfl,hq2,rp2⟩:=py;cases(show vs=[]from rp);exact .inl ⟨a,b,us,rfl,rfl,s.tup hq,s.tup hq2,h G _ H (.refl s) ⟨b,us,rfl,hq2,rp2⟩⟩
   ·exact .inr (y08 G H x y (.tup xs) (.tup ys) w Q s px py (by show(if xs≠[]/\xs.length+ys.length<=16777216 then some (W.tup (xs++ys))else none)=some w;grind) h)
  ·cases hf
 ·exact .inr (y08 G H x y _ _ w Q s px py hf h)
theorem q0m{Z:D.Zt}{pos:PySem.Pos}(ha:DE Z X EE a da)(hb:DE Z X EE b db):DE Z X EE (.BinOp a .Add b pos) (dOp addX da db):=q7f (op_cat0.or (op_add.or (op_add_str.or (op_catT.or y8f)))) y93 ha hb
open PySem L2 PySem.Spec PyProof.Rows
end D
namespace L2
open PySem PySem.Spec PyProof.Rows
section
variable{κ:Type} [DecidableEq κ]
noncomputable def valV(kvs:List (κ×V))(k:κ):Option V:=(kvs.find? λkv=>decide (kv.1=k)).map (·.2)
noncomputable def putK(kvs:List (κ×V))(k:κ)(v:V):List (κ×V):=
 if(kvs.any λkv=>decide (kv.1=k))=true then kvs.map (λkv=>if kv.1=k then(kv.1,v)else kv)else kvs++[(k,v)]
theorem q6z{k:κ}(e:p.1=k):valV (p::r) k=some p.2:=by simp[valV,w2d,e]
theorem q60{k:κ}(e:¬p.1=k):valV (p::r) k=valV r k:=by simp[valV,w2d,e]
theorem x6h(k):∀kvs:List (κ×V),(kvs.any λkv=>decide (kv.1=k))=(valV kvs k).isSome
 |[]=>rfl
 |p::r=>by
  rw[w4g]
  by_cases e:p.1=k
  ·simp_all [q6z]
  ·rw[q60 e,decide_eq_false e,Bool.false_or];exact x6h k r
theorem x0x(kvs)(k:κ)(v):(putK kvs k v).length<=kvs.length+1:=by
 grind [putK]
theorem RelO.isSome_eq(r:RelO o u):o.isSome=u.isSome:=by
 cases o with
 |none=>cases u with
  |none=>rfl
  |some _=>exact(show False from r).elim
 |some _=>cases u with
  |none=>exact(show False from r).elim
  |some _=>rfl
theorem KV.val(r:KV kvs vs)(k:κ):RelO (valV kvs k) (valueAt vs k):=by
 unfold KV at r
 induction r with
 |nil=>exact True.intro
 | @cons p q ps qs h t ih=>
  obtain⟨h1,h2⟩:=h
  by_cases e:p.1=k
  ·have e':q.1=k:=h1.symm.trans e;have b:valueAt (q::qs) k=some q.2:=by simp[valueAt,w2d,e']
   rw[q6z e,b];exact h2
  simp_all [valueAt,q60]
theorem KV.any(r:KV kvs vs)(k:κ):(kvs.any λkv=>decide (kv.1=k))=vs.any λkv=>decide (kv.1=k):=by
 unfold KV at r
 induction r with
 |nil=>rfl
 |cons h t ih=>grind
theorem KV.repl(r:KV kvs vs)(k:κ)(ry:RelV y u):
  KV (kvs.map λkv=>if kv.1=k then(kv.1,y)else kv) (vs.map λkv=>if kv.1=k then(kv.1,u)else kv):=by
 unfold KV at r |-
 induction r with
 |nil=>exact .nil
 | @cons p q ps qs h t ih=>
  rw[w0g,w0g];refine .cons ?_ ih
  grind
theorem KV.put(r:KV kvs vs)(k:κ)(ry:RelV y u):KV (putK kvs k y) (stored vs k u):=by
 unfold putK stored;rw[r.any k]
 by_cases e:(vs.any λkv=>decide (kv.1=k))=true
 ·rw[if_pos e,if_pos e];exact r.repl k ry
 ·rw[if_neg e,if_neg e];exact Paired.snoc r ⟨rfl,ry⟩
theorem KV.keys{kvs:List (κ×V)}{vs:List (κ×Value)}(r:KV kvs vs):kvs.map (·.1)=vs.map (·.1):=by
 unfold KV at r
 induction r with
 |nil=>rfl
 |cons h t ih=>grind
theorem KV.length{kvs:List (κ×V)}{vs:List (κ×Value)}(r:KV kvs vs):kvs.length=vs.length:=Paired.length r
end
variable{a:Addr}{H:Hp}{σ:St}
theorem x5b(r:RelV (kV k) u):(mixKind P w).is k u=true:=by
 cases k with
 |inl i=>obtain⟨t,e⟩:=(show ∃t,u=Value.int i t from r);grind [x7h]
 |inr x=>obtain⟨t,e⟩:=(show ∃t,u=Value.str x t from r);grind [x7i]
abbrev KT(sh:Sh)(H:Hp):List (Kx×V)->List (Kx×Addr×Value)->Prop:=Paired λp q=>p.1=q.1/\(KRep H p.1 (.ref q.2.1)/\Conf p.1 sh/\p.1.depth<=7)/\RelV p.2 q.2.2
theorem KT.val(r:KT sh H kvs xs)(k):RelO (valV kvs k) ((atKey xs k).map (·.2)):=by
 induction r with
 |nil=>exact True.intro
 | @cons p q ps qs h t ih=>
  obtain⟨h1,_,h2⟩:=h
  by_cases e:p.1=k
  ·have e':q.1=k:=h1.symm.trans e;have b:atKey (q::qs) k=some q.2:=by simp[atKey,w2d,e']
   rw[q6z e,b];exact h2
  simp_all [atKey,q60]
theorem KT.repl(r:KT sh H kvs xs)(k)(ry:RelV y u):
  KT sh H (kvs.map λkv=>if kv.1=k then(kv.1,y)else kv) (xs.map (putAt k u)):=by
 induction r with
 |nil=>exact .nil
 | @cons p q ps qs h t ih=>
  rw[w0g,w0g];refine .cons ?_ ih;obtain⟨h1,h2,h3⟩:=h;unfold putAt
  grind
theorem KT.put(r:KT sh H kvs xs)(k)(hb:KRep H k (.ref b)/\Conf k sh/\k.depth<=7)(ry:RelV y u):
  KT sh H (putK kvs k y) (storedH xs k b u):=by
 have e:(kvs.any λkv=>decide (kv.1=k))=(atKey xs k).isSome:=by
  rw[x6h,(r.val k).isSome_eq,w1x]
 unfold putK storedH;rw[e]
 by_cases q:(atKey xs k).isSome=true
 ·rw[if_pos q,if_pos q];exact r.repl k ry
 simp_all [Paired.snoc]
noncomputable def putAd(kvs:List (Kx×V))(kas:List Addr)(k:Kx)(b:Addr):List Addr:=if(valV kvs k).isSome=true then kas else kas++[b]
theorem KT.putAd(r:KT sh H kvs xs)(ka:xs.map (·.2.1)=kas)(k):(storedH xs k b u).map (·.2.1)=L2.putAd kvs kas k b:=by
 unfold storedH L2.putAd;rw[(r.val k).isSome_eq,w1x]
 by_cases q:(atKey xs k).isSome=true
 ·rw[if_pos q,if_pos q,w0x,<- ka];refine w1y λx _=>?_
  show(putAt k u x).2.1=x.2.1
  grind [putAt]
 grind
theorem KT.keeps(r:KT sh H kvs xs)(ht:∀b u,TupLike u->H b=some u->H' b=some u):KT sh H' kvs xs:=
 Paired.mapP r λ_ _ z=>⟨z.1,⟨KRep.keeps ht _ z.2.1.1,z.2.1.2⟩,z.2.2⟩
section
variable{P:Program}{w:World}{h:Heap}
theorem y7j(ok:HOk P w H h)(e:Rd H a u):ObjOk P w H h a u:=e.ok ok
theorem x5c(ok:HOk P w H h)(e:Rd H a (.dK kvs)):kvs.length<=sizeLine/\(a==sysModules)=false/\∃vs,KV kvs vs/\h.DictOf (mixKind P w) a vs:=
 show ObjOk P w H h a (.dK kvs)from y7j ok e
theorem x5d(ok:HOk P w H h)(e:H a=some (.dK kvs)):kvs.length<=sizeLine/\(a==sysModules)=false/\∃vs,KV kvs vs/\h.DictOf (mixKind P w) a vs:=x5c ok (.inl e)
theorem IsTup.seq{its:List Value}(p:IsTup h a its.toArray):∃o n,h.get? a=some o/\o.cls=.type "tuple" /\ o.data=.seq its.toArray n:=by
 obtain⟨o,h1,h2,n,h3⟩:=p
 grind
mutual
theorem KRep.is(ok:HOk P w H h):∀(k:Kx){x:V}{v:Value},KRep H k x->RelV x v->KIs h k v
 |.non,x,v,e,r=>by cases(show x=.non from e);exact r
 |.bl b,x,v,e,r=>by cases(show x=.bl b from e);exact r
 |.int b,x,v,e,r=>by cases(show x=.int b from e);exact r
 |.str b,x,v,e,r=>by cases(show x=.str b from e);exact r
 |.tup ks,x,v,e,r=>by
  obtain⟨a,xs,rfl,q,rs⟩:=e;cases(show v=Value.ref a from r);obtain⟨_,its,rv,p,_⟩:=(show ObjOk P w H h a (.tup xs)from Rd.ok q ok);obtain⟨o,n,h1,h2,h3⟩:=IsTup.seq p;exact⟨a,o,its.toArray,n,rfl,h1,h2,h3,by simpa using KReps.are ok ks rs rv⟩
theorem KReps.are(ok:HOk P w H h):∀(ks:List Kx){xs:List V}{vs:List Value},KReps H ks xs->Vals xs vs->KAre h ks vs
 |[],xs,vs,e,r=>by
  cases(show xs=[]from e);cases r;rfl
 |k::ks,xs,vs,e,r=>by
  obtain⟨x,r0,rfl,h1,h2⟩:=e;cases r with
  |cons q t=>exact⟨_,_,rfl,KRep.is ok k h1 q,KReps.are ok ks h2 t⟩
end
theorem x2d(ok:HOk P w H h)(e:KRep H k (.ref a)/\Conf k sh/\k.depth<=7):(treeKind P w sh).is h k a:=⟨KRep.is ok k e.1 rfl,e.2⟩
theorem x5e(ok:HOk P w H h)(e:Rd H a (.dT sh kvs kas)):kvs.length<=sizeLine/\(a==sysModules)=false /\
  ∃xs,KT sh H kvs xs/\xs.map (·.2.1)=kas/\h.DictOfH (treeKind P w sh) a xs:=by
 obtain⟨z,y,xs,r,ka,o,es,ep,h1,h2,h3,h4,h5⟩:=(show ObjOk P w H h a (.dT sh kvs kas)from y7j ok e);refine⟨z,y,xs,r,ka,o,es,ep,h1,h2,h3,h4,λx hx=>?_,h5⟩
 have all:∀{l:List (Kx×V)}{m:List (Kx×Addr×Value)},KT sh H l m->∀x∈m,(treeKind P w sh).is h x.1 x.2.1:=by
  intro l m q
  induction q with
  |nil=>grind
  | @cons p q ps qs hq t ih=>
   intro x hx;rcases w0d.mp hx with e|hx
   ·subst e;exact x2d ok (by grind)
   ·exact ih x hx
 exact all r x hx
theorem z8y(ok:HOk P w H h)(e:H a=some (.dT sh kvs kas)):kvs.length<=sizeLine/\(a==sysModules)=false /\
  ∃xs,KT sh H kvs xs/\xs.map (·.2.1)=kas/\h.DictOfH (treeKind P w sh) a xs:=x5e ok (.inl e)
end
noncomputable def DGet(H:Hp)(a:Addr)(y:V)(r:Option V):Prop:=
 (∃kvs k,Rd H a (.dK kvs)/\y=kV k/\r=valV kvs k)\/∃sh kvs kas k b,Rd H a (.dT sh kvs kas)/\y=.ref b/\(KRep H k (.ref b)/\Conf k sh/\k.depth<=7)/\r=valV kvs k
noncomputable def DPut(H:Hp)(a:Addr)(y v:V)(H':Hp):Prop:=
 (∃kvs k,H a=some (.dK kvs)/\y=kV k/\kvs.length<sizeLine/\H'=upd H a (.dK (putK kvs k v))) \/
 ∃sh kvs kas k b,H a=some (.dT sh kvs kas)/\y=.ref b/\(KRep H k (.ref b)/\Conf k sh/\k.depth<=7)/\kvs.length<sizeLine/\H'=upd H a (.dT sh (putK kvs k v) (putAd kvs kas k b))
theorem DGet.k{kvs:List (Key×V)}{k:Key}(e:H a=some (.dK kvs)):DGet H a (kV k) (valV kvs k):=.inl ⟨kvs,k,.inl e,rfl,rfl⟩
theorem DPut.k{kvs:List (Key×V)}{k:Key}{v:V}(e:H a=some (.dK kvs))(hl:kvs.length<sizeLine):DPut H a (kV k) v (upd H a (.dK (putK kvs k v))):=.inl ⟨kvs,k,e,rfl,hl,rfl⟩
theorem Inv.big(I:Inv X pins σ H s):sysModules<s.heap.objs.size:=by
 have h:mainGlobals<s.heap.objs.size:=(I.mod.glob.keeps I.bk).lt;exact w5f (by decide) h
theorem x1i{A:Around}(hu:A.units+20<cLine):(treeKind P w sh).room A.in1:=by
 show A.in1.units+8<cLine
 grind
theorem y2i(hu:A.units+20<cLine)(I:Inv X pins σ H s)(g:DGet H a y (some v))(ry:RelV y u)(h:∀w' s',Inv X pins σ H s'->RelV v w'->Q w' s'):
  wpAny (model X.prog X.w) A (getItem (.ref a) u) Q E s:=by
 rcases g with⟨kvs,k,e,ey,l⟩|⟨sh,kvs,kas,k,b,e,ey,eb,l⟩
 ·subst ey;obtain⟨z,hd,vs,rel,dd⟩:=x5c I.hok e;obtain⟨w',hw,rw'⟩:=RelO.some_of (v:=v) (o:=valueAt vs k) (by rw[l];exact rel.val k);exact wpAny_getItem_of (x5b ry) dd.mapOf hw (h w' _ (I.tok _) rw')
 ·subst ey;cases(show u=Value.ref b from ry);obtain⟨z,hd,xs,rel,_,dd⟩:=x5e I.hok e;obtain⟨w',hw,rw'⟩:=RelO.some_of (v:=v) (o:=(atKey xs k).map (·.2)) (by rw[l];exact rel.val k);obtain⟨p,hp,hp2⟩:=w0w.mp hw;refine wpAny_getItem_heap (x1i hu) (x2d I.hok eb) dd hp ?_;rw[hp2];exact h w' _ (I.tok _) rw'
theorem d_in(hu:A.units+20<cLine)(I:Inv X pins σ H s)(g:DGet H a y o)(ry:RelV y u)(h:∀s',Inv X pins σ H s'->Q (.bool o.isSome) s'):
  wpAny (model X.prog X.w) A (compareOp .In u (.ref a)) Q E s:=by
 rcases g with⟨kvs,k,e,ey,l⟩|⟨sh,kvs,kas,k,b,e,ey,eb,l⟩
 ·subst ey;obtain⟨z,hd,vs,rel,dd⟩:=x5c I.hok e;refine wpAny_in_of (x5b ry) hd dd.mapOf ?_;rw[<- (rel.val k).isSome_eq,<- l];exact h _ (I.tok _)
 ·subst ey;cases(show u=Value.ref b from ry);obtain⟨z,hd,xs,rel,_,dd⟩:=x5e I.hok e;refine wpAny_in_heap (x1i hu) (x2d I.hok eb) hd dd ?_;have q:=(rel.val k).isSome_eq;rw[w1x]at q;rw[<- q,<- l];exact h _ (I.tok _)
theorem x0c(I:Inv X pins σ H s)(mu:Mut (H a))(hs:Heap.SameBut a s.heap h')(he:∃q,h'.get? a=some q)(new:ObjOk X.prog X.w (upd H a ob) h' a ob):
  Inv X pins σ (upd H a ob) {s with heap:=h',toks:=t'}:=
 I.write (x:=a) (e:=a) mu (.inl rfl) (λb q hb z=>(hs.2 b hb).trans z) he new
theorem x6i(z:kvs.length<=sizeLine)(hd:(a==sysModules)=false)(rel:KV kvs vs)(dd:h'.DictOf (mixKind P w) a vs):
  ObjOk P w H' h' a (.dK kvs):=⟨z,hd,vs,rel,dd⟩
theorem y2j(hu:A.units+20<cLine)(I:Inv X pins σ H s)(g:DPut H a y v H')(ry:RelV y u)(rv:RelV v r)(h:∀s',Inv X pins σ H' s'->Q () s'):
  wpAny (model X.prog X.w) A (setItem (.ref a) u r) Q E s:=by
 rcases g with⟨kvs,k,e,ey,l,eH⟩|⟨sh,kvs,kas,k,b,e,ey,eb,l,eH⟩
 ·subst ey eH;obtain⟨z,hd,vs,rel,dd⟩:=x5d I.hok e;have hz:vs.length<=sizeLine:=by grind [KV.length]
  have hl:(putK kvs k v).length<=sizeLine:=by grind [x0x]
  refine wpAny_setItem_pairs (hsz:=hz) (x5b ry) dd λh' dd' hs=>h _ ?_
  have he:∃q,h'.get? a=some q:=let ⟨q,_,_,hq,_⟩:=dd';⟨q,hq⟩;exact x0c I (by rw[e];exact True.intro) hs he (x6i hl hd (rel.put k rv) dd')
 ·subst ey eH;cases(show u=Value.ref b from ry);obtain⟨z,hd,xs,rel,ka,dd⟩:=z8y I.hok e;have hz:xs.length<=sizeLine:=by grind [Paired.length]
  have hl:(putK kvs k v).length<=sizeLine:=by grind [x0x]
  refine wpAny_setItem_heap (hsz:=hz) (x1i hu) (x2d I.hok eb) dd λh' dd' hs=>h _ ?_
  obtain⟨q,es,ep,hq,h2,h3,h4,_,h5⟩:=dd';refine x0c I (by rw[e];exact True.intro) hs ⟨q,hq⟩ ⟨hl,hd,_,(rel.put k eb rv).keeps λc u ys ec=>?_,rel.putAd ka k,q,es,ep,hq,h2,h3,h4,h5⟩
  rw[q0g (q3o ec e (λz=>by subst z;exact ys))]
  exact ec
noncomputable def NoSl(i:Expr):Prop:=∀ov iv,subscripted i false ov iv=operate [ov,iv] (getItem ov iv)
theorem y94{id:String}
  (hl:typeLookup (.type T) "__getitem__"=pure (some (.builtin id)))(hs:NoSl slice)
  (h:wpAny (model prog w) A (eval value env) (λo s₁=>wpAny (model prog w) A (eval slice env) (λi s₂=>s₂.TypeIs o T/\wpAny (model prog w) A (getItem o i) Q E s₂) E s₁) E s):
  wpAny (model prog w) A (eval (.Subscript value slice pos) env) Q E s:=by
 refine Subscript_ (wpAny_mono h (λo s₁ h₁=>wpAny_mono h₁ (λi s₂ h₂=>?_) λ_ _ x=>x) λ_ _ x=>x)
 obtain⟨hT,h₂⟩:=h₂;unfold subscriptTail;refine wpAny_bind ?_;rw[getitemInPython_of_ne hT.not_modules];refine wpAny_bind (wpAny_specialOf hT hl ?_)
 have fin:wpAny (model prog w) A (subscripted slice false o i) (λr s₃=>wpAny (model prog w) A (letTemporaryGo value o r >>= λ_=>pure r) Q E s₃) E s₂:=by
  rw[hs o i];exact wpAny_operating (wpAny_mono h₂ (λr s₃ h₃=>wpAny_bind (wpAny_letTemporaryGo (wpAny_pure h₃))) λ_ _ x=>x)
 grind [wpAny_pure,wpAny_bind]
theorem x7k(I:Inv X pins σ H s)(g:DGet H a y o):s.TypeIs (.ref a) "dict":=by
 rcases g with⟨kvs,k,e,_,_⟩|⟨sh,kvs,kas,k,b,e,_,_,_⟩
 ·obtain⟨_,_,vs,_,dd⟩:=x5c I.hok e;exact dd.typeIs
 ·obtain⟨_,_,xs,_,_,dd⟩:=x5e I.hok e;exact dd.typeIs
noncomputable def tDGet(td ty:TE):TE:=λσ H Q=>td σ H λx H1=>ty σ H1 λy H2=>∃a v,x=.ref a/\DGet H2 a y (some v)/\Q v H2
noncomputable def tDIn(ty td:TE):TE:=λσ H Q=>ty σ H λy H1=>td σ H1 λx H2=>∃a o,x=.ref a/\DGet H2 a y o/\Q (.bl o.isSome) H2
noncomputable def sDPut(td ty tv:TE):TS:=λD σ H=>tv σ H λv H1=>td σ H1 λx H2=>ty σ H2 λy H3=>∃a H4,x=.ref a/\DPut H3 a y v H4/\D.nx σ H4
theorem x8i(hu:X.A.units+20<cLine)(ho:PE X o td)(hi:PE X i ty)(hs:NoSl i):PE X (.Subscript o i pos) (tDGet td ty):=by
 intro pins s σ H Q I h;refine y94 PySem.F.slot_dict_getitem.lookup hs (thn (ho pins s σ H _ I h) λu s1 ⟨x,H1,I1,rx,q1⟩=>thn (hi pins s1 σ H1 _ I1 q1) λiv s2 ⟨y,H2,I2,ry,a,v,ex,g,q2⟩=>?_)
 subst ex;obtain rfl:u=Value.ref a:=rx;exact⟨x7k I2 g,y2i hu I2 g ry λw' s3 I3 rw'=>⟨v,H2,I3,rw',q2⟩⟩
theorem y2k(hu:X.A.units+20<cLine)(hi:PE X i ty)(ho:PE X o td):PC X .In i o (tDIn ty td):=by
 intro pins s σ H Q I h;refine thn (hi pins s σ H _ I h) λiv s1 ⟨y,H1,I1,ry,q1⟩=>thn (ho pins s1 σ H1 _ I1 q1) λu s2 ⟨x,H2,I2,rx,a,ov,ex,g,q2⟩=>?_
 subst ex;obtain rfl:u=Value.ref a:=rx;exact d_in hu I2 g ry λs3 I3=>⟨.bl ov.isSome,H2,I3,rfl,q2⟩
theorem y95(hu:X.A.units+20<cLine)(ho:PE X o td)(hi:PE X i ty)(hv:PE X value tv)(hs:swapsWith value (some (.Subscript o i pos')) pos.line X.env=pure false):
  PS X (.Assign [.Subscript o i pos'] value pos) (sDPut td ty tv):=by
 intro pins s σ H D I h;refine wpAny_Assign_Subscript (thn (hv pins s σ H _ I h) λr s1 ⟨v,H1,I1,rv,q1⟩=>thn (ho pins s1 σ H1 _ I1 q1) λu s2 ⟨x,H2,I2,rx,q2⟩=>thn (hi pins s2 σ H2 _ I2 q2) λiv s3 ⟨y,H3,I3,ry,a,H4,ex,g,q3⟩=>?_) hs
 subst ex;obtain rfl:u=Value.ref a:=rx;exact y2j hu I3 g ry rv λs4 I4=>⟨σ,H4,I4,q3⟩
theorem y5l(h:Heap)(hb:sysModules<h.objs.size):ObjOk P w H (h.push {cls:=.type "dict", data:=.dict #[]}) h.objs.size (.dK []):=
 ⟨w1d _,beq_eq_false_iff_ne.mpr (Ne.symm (w0t hb)),[],.nil,Heap.DictOf.new h⟩
noncomputable def tDNewK:TE:=λ_ H Q=>∀p,H p=none->Q (.ref p) (upd H p (.dK []))
theorem y5m:PE X (.Dict [] [] pos) tDNewK:=λpins s σ H Q I h=>
 wpAny_Dict_empty ⟨.ref s.heap.objs.size,_,I.laid (a:=s.heap.objs.size) (o:=.dK []) (t':=s.toks) (λ_ _ q=>Heap.get?_push_of_some _ q) (w0a _) (y5l s.heap I.big),rfl,h _ (I.hok.fresh (w0a _))⟩
end L2
namespace D
open PySem L2 PySem.Spec PyProof.Rows
variable{X:Cx}{σ:L2.St}{EE:L2.St->XK}{i:Nat}{K:PySem.W.Frag}{x:Str}{Z:Zt}
noncomputable def lk{κ:Type} [DecidableEq κ](kvs:List (κ×Sv))(x:κ):Option Sv:=(kvs.find? λp=>decide (p.1=x)).map (·.2)
noncomputable def putL{κ:Type} [DecidableEq κ](kvs:List (κ×Sv))(x:κ)(v:Sv):List (κ×Sv):=if(kvs.any λp=>decide (p.1=x))=true then kvs.map (λp=>if p.1=x then(p.1,v)else p)else kvs++[(x,v)]
theorem x6j [DecidableEq κ](x):∀kvs:List (κ×Sv),valV (kvV kvs) x=(lk kvs x).map sV
 |[]=>rfl
 |p::r=>by
  have ih:=x6j x r
  by_cases h:p.1=x
  all_goals simp_all [kvV,q6z,lk,q60]
theorem z50 [DecidableEq κ](x)(v)(kvs:List (κ×Sv)):putK (kvV kvs) x (sV v)=kvV (putL kvs x v):=by
 unfold putK putL kvV;rw[List.any_map];have e:((λkv:κ×V=>decide (kv.1=x)) ∘ λp:κ×Sv=>(p.1,sV p.2))=λp:κ×Sv=>decide (p.1=x):=rfl
 rw[e];split
 ·rw[w0x,w0x];refine w1y λp _=>?_
  grind
 grind
noncomputable def keyW:W->Option Key
 |.int i=>some (.inl i)
 |.str x=>some (.inr x)
 |_=>none
noncomputable def svW:W->Option Sv
 |.int i=>some (.inl i)
 |.bl b=>some (.inr b)
 |_=>none
noncomputable def wSv:Sv->W
 |.inl i=>.int i
 |.inr b=>.bl b
theorem x3c(p:Rep K G w v)(h:keyW w=some k):v=kV k:=by
 cases w<;>cases h<;>exact p
theorem z51(p:Rep K G w v)(h:svW w=some k):v=sV k:=by
 cases w<;>cases h<;>exact p
theorem y2l(k):Rep K G (wSv k) (sV k):=by cases k<;>rfl
noncomputable def dicOf:W->Option (List (Key×Sv))
 |.dic (.k kvs)=>some kvs
 |_=>none
theorem x6k(h:dicOf w=some kvs):w=.dic (.k kvs):=by
 cases w with
 |dic d=>cases d<;>cases h;rfl
 |_=>cases h
noncomputable def inD(w d:W):Option W:=(keyW w).bind λk=>(dicOf d).map λkvs=>.bl (lk kvs k).isSome
noncomputable def ixD(d w:W):Option W:=(keyW w).bind λk=>(dicOf d).bind λkvs=>(lk kvs k).map wSv
theorem y2m:Op2 K (λy x H Q=>∃a o,x=.ref a/\DGet H a y o/\Q (.bl o.isSome) H) inD:=by
 intro G H x y wx wy w Q s px py hf h;obtain⟨k,hk,hf⟩:=w2j.mp hf;obtain⟨kvs,hd,hf⟩:=w0w.mp hf;cases hf;cases x3c px hk;cases x6k hd;obtain⟨e,rfl,he⟩:=py;refine⟨e,_,rfl,DGet.k (k:=k) (s _ _ he),h G _ H (.refl s) ?_⟩;rw[x6j,w1x];rfl
theorem z52:Op2 K (λx y H Q=>∃a v,x=.ref a/\DGet H a y (some v)/\Q v H) ixD:=by
 intro G H x y wx wy w Q s px py hf h;obtain⟨k,hk,hf⟩:=w2j.mp hf;obtain⟨kvs,hd,hf⟩:=w2j.mp hf;obtain⟨v,hv,rfl⟩:=w0w.mp hf;cases x3c py hk;cases x6k hd;obtain⟨e,rfl,he⟩:=px;have g:=DGet.k (k:=k) (s _ _ he);rw[x6j,hv]at g;exact⟨e,_,rfl,g,h G _ H (.refl s) (y2l v)⟩
section
variable{a b e k:Expr}{da db d dk:Den W}{pos p tpos:Pos}
theorem z53(hu:X.A.units+150<cLine)(ha:DE Z X EE a da)(hb:DE Z X EE b db)(hm:behindInMarks .In b=false:=by rfl):DE Z X EE (.Compare a [.In] [b] pos) (dOp inD da db):=
 PE.mono (z2o (y2k (by omega) ha hb) hm) (q4k y2m)
theorem z54(hu:X.A.units+150<cLine)(ha:DE Z X EE a da)(hb:DE Z X EE b db)(hm:behindInMarks .In b=false:=by rfl):DT Z X EE (.Compare a [.In] [b] pos) (dTest (dOp inD da db)):=
 PT.mono (z2p (y2k (by omega) ha hb) hm) λσ H Q h=>q4k y2m σ H _ (x30 h)
theorem z55(hu:X.A.units+150<cLine)(ha:DE Z X EE a da)(hb:DE Z X EE b db)(hs:NoSl b:=by intro _ _;rfl):DE Z X EE (.Subscript a b pos) (dOp ixD da db):=
 PE.mono (x8i (by omega) ha hb hs) (q4k z52)
theorem Rel.dic{G H:Hp}{e:List S}(r:Rel K Z G σ H e){kvs:Dd}(h:e[i]?=some (.dic kvs)):∃a,σ[i]?=some (some (.ref a))/\H a=some (dO kvs)/\G a=none/\Z.H a=none:=by
 obtain⟨a,h1,h2,h3,h4⟩:=r.slot i _ h;refine⟨a,?_,h2,h3,h4⟩;cases q:σ[i]? with
 |none=>rw[q]at h1;cases h1
 |some z=>rw[q]at h1;rw[show z=some (.ref a)from h1]
theorem Rel.setDic{G H:Hp}{e:List S}(r:Rel K Z G σ H e){kvs:Dd}{a:Addr}(h2:H a=some (dO kvs))(h3:G a=none)(h4:Z.H a=none):Rel K Z G (σ.set i (some (.ref a))) H (e.set i (.dic kvs)):=by
 refine⟨r.sub,λj s z=>?_,by simpa using r.len,λj k b1 b2 w1 w2 c z1 z2 z3 z4=>?_,r.ent,r.ion,r.gen⟩
 ·by_cases hj:j=i
  ·subst hj
   have hi:j<e.length:=by
    have:=(w0m.mp z).1;simpa using this
   rw[w0n hi]at z;cases z;rw[w0n (by rw[<- r.len];exact hi)];exact⟨a,rfl,h2,h3,h4⟩
  ·rw[w0f (λz=>hj z.symm)]at z |-
   exact r.slot j s z
 ·have old:∀(k:Nat)(bb:Option Nat)(ww:List W),(e.set i (S.dic kvs))[k]?=some (.own bb ww)->k≠i/\e[k]?=some (.own bb ww):=λk bb ww z=>by
   by_cases hk:k=i
   ·subst hk
    have hi:k<e.length:=by
     have:=(w0m.mp z).1;simpa using this
    rw[w0n hi]at z;cases z
   ·rw[w0f (λz=>hk z.symm)]at z;exact⟨hk,z⟩
  obtain⟨n1,q1⟩:=old _ _ _ z1;obtain⟨n2,q2⟩:=old _ _ _ z2;rw[w0f (λz=>n1 z.symm)]at z3
  rw[w0f (λz=>n2 z.symm)]at z4
  exact r.dis _ _ _ _ _ _ _ q1 q2 z3 z4
noncomputable def isD:S->Bool
 |.dic _=>true
 |.dw sh _ _=>sh.isI
 |_=>false
theorem Rel.mutDic{G H:Hp}{e:List S}(r:Rel K Z G σ H e){kvs kvs':Dd}{a:Addr}(h:e[i]?=some (.dic kvs))(ha:σ[i]?=some (some (.ref a)))(ho:∀j s,j≠i->e[j]?=some s->isD s=false):Rel K Z G σ (upd H a (dO kvs')) (e.set i (.dic kvs')):=by
 obtain⟨a',h1,h2,h3,h4⟩:=r.dic h;rw[ha]at h1;cases h1;have hi:i<e.length:=(w0m.mp h).1;refine⟨λc o z=>?_,λj s z=>?_,by simpa using r.len,λj k b1 b2 w1 w2 c z1 z2 z3 z4=>?_,λc o z n=>?_,λc z=>?_,r.gen⟩
 ·rw[q0g (q0p z h3)];exact r.sub c o z
 ·by_cases hj:j=i
  ·subst hj;rw[w0n hi]at z;cases z;exact⟨a,by rw[ha];rfl,q0k,h3,h4⟩
  ·rw[w0f (λz=>hj z.symm)]at z
   have y:=r.slot j s z;cases s with
   |no=>trivial
   |fr w=>exact y
   |own b2 w2=>
    obtain⟨c,ys,y1,y2,y3,y4,y5⟩:=y;refine⟨c,ys,y1,?_,y3,y4,y5⟩;rw[q0g (q3o y2 h2 (λz=>q78 rfl z.symm))];exact y2
   |dic kv=>have:=ho j _ hj z;cases this
   |dw sh ks ws=>
    have hI:sh.isI=false:=ho j _ hj z;exact DwOk.move y (.refl _) λl o ys k1 k2 k3=>⟨by rw[q0g (q3o k1 h2 (λz=>by rw[z7c hI]at z;exact q78 rfl z.symm))];exact k1,k2,k3⟩
 ·have old:∀(k:Nat)(bb:Option Nat)(ww:List W),(e.set i (S.dic kvs'))[k]?=some (.own bb ww)->e[k]?=some (.own bb ww):=λk bb ww z=>by
   by_cases hk:k=i
   ·subst hk;rw[w0n hi]at z;cases z
   ·rw[w0f (λz=>hk z.symm)]at z;exact z
  exact r.dis _ _ _ _ _ _ _ (old _ _ _ z1) (old _ _ _ z2) z3 z4
 ·rw[q0g (q0p z h4)];exact r.ent c o z n
 ·by_cases hc:c=a
  ·subst hc;rw[q0k];exact λz=>nomatch z
  ·rw[q0g hc];exact r.ion c z
noncomputable def dSetD(i:Nat):List S->SR:=λe=>.nx (e.set i (.dic (.k [])))
theorem y96(i:Nat){pos' dpos:Pos}(hN:X.N.Nodup)(hi:X.N[i]?=some x:=by rfl)(hx:Loc X.env.scope x:=by walk_at "3")(hs:swapsWith (.Dict [] [] dpos) (some (.Name x pos')) pos.line X.env=pure false:=by rfl)(hf:X.fn x=true\/X.env.scope.names.lookup x=some .local:=by walk_at "2"):
  DS Z X EE (.Assign [.Name x pos'] (.Dict [] [] dpos) pos) (dSetD i):=by
 refine PS.mono (x11 i hN y5m hi hx hs hf) ?_;rintro D σ H ⟨G,e,rel,h⟩;intro q hq;have g:=Grow.hid rel.sub hq (.dK []);exact h G _ _ ((rel.grow g).setDic (kvs:=.k []) q0k (rel.sub.free hq) (q7u rel hq)) (.refl _)
noncomputable def dRetD(i:Nat):List S->SR:=λe=>match e[i]? with
 |some (.dic d)=>.rt (.dic d) e
 |_=>.no
theorem y97(i:Nat)(hN:X.N[i]?=some x:=by rfl)(hv:Vis X.env.scope x:=by walk_at "1")(hd:(x==("__debug__":Str))=false:=by decide)
  (hcd:(x==("__classdict__":Str))=false:=by decide):DS Z X EE (.Return (some (.Name x p)) pos) (dRetD i):=by
 refine PS.mono (q8x (pv i hN hv hd hcd)) ?_;rintro D σ H ⟨G,e,rel,h⟩;unfold dRetD at h;split at h
 ·rename_i kvs hw;obtain⟨a,h1,h2,h3,h4⟩:=rel.dic hw;exact⟨.ref a,h1,h G σ _ H rel (.refl _) ⟨a,rfl,h2,h3,h4⟩⟩
 ·exact h.elim
noncomputable def onlyD(i:Nat)(e:List S):Bool:=(List.range e.length).all λj=>decide (j=i)||!((e[j]?.map isD).getD false)
theorem y98{e:List S}(h:onlyD i e=true):∀j s,j≠i->e[j]?=some s->isD s=false:=λj s hj hs=>by
 have hl:j<e.length:=(w0m.mp hs).1;have:=w0y.mp h j (w1h.mpr hl)
 grind
noncomputable def putDC(i:Nat)(w kw:W)(e:List S):Option S->SR
 |some (.dic (.k kvs))=>match svW w,keyW kw with
  |some v,some x=>if kvs.length<16777216/\onlyD i e=true then .nx (e.set i (.dic (.k (putL kvs x v))))else .no
  |_,_=>.no
 |_=>.no
noncomputable def dPutD(i:Nat)(d dk:Den W):List S->SR:=λe=>(d e).stm λw e1=>match e1[i]? with
 |some (.dic _)=>(dk e1).stm λkw e2=>putDC i w kw e2 e2[i]?
 |_=>.no
theorem y99(i:Nat)(hu:X.A.units+150<cLine)(he:DE Z X EE e d)(hk:DE Z X EE k dk)(hN:X.N[i]?=some x:=by rfl)(hv:Vis X.env.scope x:=by walk_at "1")(hd:(x==("__debug__":Str))=false:=by decide)(hcd:(x==("__classdict__":Str))=false:=by decide)
  (hs:swapsWith e (some (.Subscript (.Name x p) k tpos)) pos.line X.env=pure false:=by rfl):DS Z X EE (.Assign [.Subscript (.Name x p) k tpos] e pos) (dPutD i d dk):=by
 refine PS.mono (y95 (by omega) (pv i hN hv hd hcd) hk he hs) ?_;rintro D σ H ⟨G,e,rel,h⟩;refine⟨G,e,rel,(q0w h).imp (λw e1 h G1 v1 H1 r1 s1 p1=>?_) λ_ _ h=>h⟩
 split at h
 ·rename_i kv0 he0;obtain⟨a,q1,q2,q3,q4⟩:=r1.dic he0;refine⟨.ref a,q1,G1,e1,r1,(q0w (σ:=σ) h).imp (λkw e2 h G2 v2 H2 r2 s2 p2=>?_) λ_ _ h G' H' r s=>h G' H' r (s1.trans s)⟩
  unfold putDC at h;split at h
  ·rename_i kvs he2;obtain⟨a',g1,g2,g3,g4⟩:=r2.dic he2;rw[q1]at g1;cases g1;split at h
   ·rename_i v t hv1 hk1;split at h
    ·rename_i hc;cases z51 p1 hv1;cases x3c p2 hk1;refine⟨a,_,rfl,DPut.k (k:=t) g2 (by rw[sizeLine_eq];unfold kvV;rw[w0i];exact hc.1),?_⟩;rw[z50];exact h G2 σ _ (r2.mutDic (kvs':=.k (putL kvs t v)) he2 q1 (y98 hc.2)) (s1.trans s2)
    ·exact h.elim
   ·exact h.elim
  ·exact h.elim
 ·exact h.elim
end
noncomputable def lkB(kvs:List (Key×Sv))(k:Key):Option Bool:=match lk kvs k with
 |some (.inr b)=>some b
 |_=>none
noncomputable def keysB(kvs l:List (Key×Sv)):List Key:=(l.filter λp=>lkB kvs p.1==some true).map (·.1)
noncomputable def kW:Key->W
 |.inl i=>.int i
 |.inr x=>.str x
noncomputable def keysC(e:List S):Option S->R (List W)
 |some (.dic (.k kvs))=>if kvs.length<16777216/\(kvs.all λp=>(lkB kvs p.1).isSome)=true then .ok ((keysB kvs kvs).map kW) e else .no
 |_=>.no
theorem z0a:keysC e (some (.dic (.k kvs)))=if kvs.length<16777216/\(kvs.all λp=>(lkB kvs p.1).isSome)=true then .ok ((keysB kvs kvs).map kW) e else .no:=rfl
theorem z0b:dSetD i e=.nx (e.set i (.dic (.k []))):=rfl
noncomputable def putD0(i:Nat)(dk:Den W)(w:W)(e1:List S):Option S->SR
 |some (.dic _)=>(dk e1).stm λkw e2=>putDC i w kw e2 e2[i]?
 |_=>.no
theorem z0c:dPutD i d dk e=(d e).stm λw e1=>putD0 i dk w e1 e1[i]?:=by
 unfold dPutD putD0;rfl
theorem z0d:putD0 i dk w e (some (.dic dd))=(dk e).stm λkw e2=>putDC i w kw e2 e2[i]?:=rfl
theorem y5n:putDC i (.bl b) (.int n) e (some (.dic (.k kvs)))=if kvs.length<16777216/\onlyD i e=true then .nx (e.set i (.dic (.k (putL kvs (.inl n) (.inr b)))))else .no:=rfl
theorem y5o:hide1 (.dic dd)=.fr (.dic dd):=rfl
theorem z8z:ixD (.dic (.k kvs)) (.int n)=(lk kvs (.inl n)).map wSv:=rfl
end D
namespace L2
open PySem PySem.Spec PyProof.Rows
end L2
namespace D
open PySem L2
end D
namespace L2
open PySem PySem.Spec PyProof.Rows
section
open HT
theorem q8t{lo:Option Int}(ht:IsTup s.heap t items)(hs:s.heap.IsSliceOf sl vl vu .none)(pl:IsPart vl lo)(pu:IsPart vu hi)
  (hw:sIx items.size 0 lo=0/\sIx items.size items.size hi=items.size)(h:Q (.ref t) s):wpAny (model prog w) A (getItem (.ref t) (.ref sl)) Q E s:=by
 obtain⟨os,hos,hcs,hds⟩:=id hs;have hTs:s.TypeIs (.ref sl) "slice":=⟨os,hos,hcs⟩;unfold getItem;try with_reducible refine wpAny_holding ?_
 first|refine wpAny_bind (wpAny_pure ?_)|skip
 refine wpAny_bind (wpAny_sequenceKey ht.typeIs (by decide) ?_)
 refine wpAny_bind (wpAny_callSpecial?_slot (name:=Str.ofString "__getitem__") ht.typeIs PyProof.Rows.slot_tuple_getitem
  (wpAny_call_entry PyProof.Rows.slot_tuple_getitem ht.typeIs entry_tuple_getitem ?_ (args_tuple_getitem _ _)))
 show wpAny _ _ (Builtin.Tuple.tupleItemsOf (.ref t) >>= _) _ _ s;refine wpAny_bind (tupleItemsOf_ ht ?_);refine wpAny_bind (wpAny_typeOf hTs ?_);rw[if_pos (by decide)];refine wpAny_bind (q6r hs pl pu ?_);show wpAny _ _ (if(((sIx items.size 0 lo:Nat):Int)==0&&(1:Int)==1&&(sIx items.size items.size hi-sIx items.size 0 lo)==items.size)=true then _ else _) _ _ s;rw[if_pos (by rw[hw.1,hw.2];simp)];refine wpAny_bind (wpAny_bind (wpAny_typeOf ht.typeIs (wpAny_pure ?_)));rw[if_pos (by decide)];exact wpAny_bind (wpAny_rule (wpAny_pure ⟨_,rfl,wpAny_pure h⟩))
end
theorem z0e:SlR X (λx lo hi H Q=>∃a xs,x=.ref a/\SqT X.K H a xs/\(HT.sIx xs.length 0 lo=0/\HT.sIx xs.length xs.length hi=xs.length)/\Q x H):=by
 intro pins s σ H x v vl vu lo hi sl Q I rx hs pl pu h;obtain⟨a,xs,rfl,hx,hw,q⟩:=h;cases rx;obtain⟨its,r,ht,hz⟩:=I.tuple hx;have hlen:its.toArray.size=xs.length:=by rw[w2c];exact r.length.symm
 refine⟨"tuple", _,PyProof.Rows.slot_tuple_getitem.lookup,ht.typeIs,?_⟩;exact q8t ht hs pl pu (by rw[hlen];exact hw) ⟨.ref a,H,I,rfl,q⟩
noncomputable def rSlS:V->Option Int->Option Int->Hp->VK->Prop:=λx lo hi H Q=>∃z,x=.str z/\z.length<=sizeLine/\Q (.str (Txt.slice z lo hi)) H
theorem x8j(p:IsPart v o):∃q:Option (Int×Tok),v=partValue q/\q.map (·.1)=o:=by
 cases p with
 |none=>exact⟨none,rfl,rfl⟩
 |int i t=>exact⟨some (i,t),rfl,rfl⟩
theorem z56:SlR X rSlS:=by
 intro pins s σ H x v vl vu lo hi sl Q I rx hs pl pu h;obtain⟨z,rfl,hz,q⟩:=h;obtain⟨t,rfl⟩:=rx;obtain⟨ql,rfl,e1⟩:=x8j pl;obtain⟨qu,rfl,e2⟩:=x8j pu;refine⟨"str", _,F.slot_str_getitem.lookup,typeIs_str _ _ _,?_⟩;refine wpAny_getItem_str_slice (l:=ql) (u:=qu) (st:=none) hs rfl ?_
 have e3:sliceMade z t ql qu none=if((1:Int)==1&&(Builtin.Str.strSliceIndices lo hi 1 z.length).length==z.length)=true then .val (.str z t)else .str ⟨((Builtin.Str.strSliceIndices lo hi 1 z.length).filterMap (z.cps[·]?)).toArray⟩:=by
  grind [sliceMade,slicePicked]
 rw[e3];have hq:Q (.str (Txt.slice z lo hi)) H:=q;have hl:=Txt.slice_le z lo hi;unfold Txt.slice at hq hl;split
 ·rename_i c;rw[if_pos c]at hq;exact⟨.str z,H,I,⟨t,rfl⟩,hq⟩
 ·rename_i c;rw[if_neg c]at hq hl;exact⟨w0s hl hz,.str _,H,I.tok _,⟨_,rfl⟩,hq⟩
noncomputable def signs(x:Str):List V:=x.cps.toList.map λc=>V.str ⟨#[c]⟩
noncomputable def Itx(x:Str):It:=⟨λi _=>i<x.cps.size,λi H v H'=>H'=H/\(signs x)[i]?=some v,λi _=>x.cps.size<=i⟩
theorem y5p{K:PySem.W.Frag}(x)(t)(it)(hT:T="str_ascii_iterator"\/T="str_iterator"):Turn P w K tg (Itx x) [it] it (λi h=>h.IsStrIter it T x t i) where
 mem:=by simp
 obj:=λi h st b hb=>by
  have e:b=it:=by simpa using hb
  subst e;obtain⟨o,e,c,d⟩:=st
  grind
 keep:=λi h h' st k=>by
  obtain⟨o,e,c,d⟩:=st;exact⟨o,k it (by simp) o e,c,d⟩
 item:=by
  intro X hP hw hK hc i pins s σ H E I hf st hg;subst hP hw hK;have hg:i<x.cps.size:=hg;obtain⟨f0,f1,f2,f3,f4,f5⟩:=hf it (by simp)
  have fin:∀v h' tk,SignAt x i v->h'.IsStrIter it T x t (i+1)->(∀b o,b∉[it]->s.heap.get? b=some o->h'.get? b=some o)->∃u,some v=some u /\
    wpAny (model X.prog X.w) X.A (letOwnedTupleGo tg (.ref it) u) (λ_ s2=>∃y H',Inv X pins σ H' s2/\RelV y u/\(Itx x).yld i H y H'/\s2.heap.IsStrIter it T x t (i+1)/\∀b∈[it],H' b=none) E {s with heap:=h',toks:=tk}:=by
   intro v h' tk hv st' kk;obtain⟨c,u,hcx,rfl⟩:=hv;have I1:Inv X pins σ H {s with heap:=h',toks:=tk}:=I.turned (λb o hb e=>kk b o (by simpa using hb) e) f0 f1 f3 f4 f5
   obtain⟨o,e,cc,d⟩:=id st';refine⟨_,rfl,x45 (s:={s with heap:=h',toks:=tk}) e cc d (by grind) ⟨.str ⟨#[c]⟩,H,I1,⟨u,rfl⟩,⟨rfl,?_⟩,st',λb hb=>(hf b hb).1⟩⟩
   grind [signs]
  rcases hT with rfl|rfl
  ·exact(Walks.strAscii (prog:=X.prog) (w:=X.w) (I.ok.hd hc) it x t).item i s _ _ hg st fin
  ·exact(Walks.strWide (prog:=X.prog) (w:=X.w) (I.ok.hd hc) it x t).item i s _ _ hg st fin
 done:=by
  intro X hP hw hK hc i pins s σ H E I hf st hg;subst hP hw hK;have hg:x.cps.size<=i:=hg;obtain⟨f0,f1,f2,f3,f4,f5⟩:=hf it (by simp);rcases hT with rfl|rfl
  ·exact wpAny_pyNext_ascii_end (I.ok.hd hc) st (by simp;omega) λh' eb=>⟨rfl,I.turned (t':=s.toks) (λb o hb e=>eb b o hb e) f0 f1 f3 f4 f5⟩
  ·exact wpAny_pyNext_wide_end (I.ok.hd hc) st (by simp;omega) λh' eb=>⟨rfl,I.turned (t':=s.toks) (λb o hb e=>eb b o hb e) f0 f1 f3 f4 f5⟩
 self:=λA i s Q E st h=>by
  grind [wpAny_pyIter_striter_ascii,wpAny_pyIter_striter_wide]
noncomputable def iStr(tl:TE):TI:=λσ H R=>tl σ H λx H1=>∃z,x=.str z/\R (Itx z) H1
theorem z57(hl:PE X l tl):PI X tg l (iStr tl):=by
 intro pins s σ H R I h;refine thn (hl pins s σ H _ I h) λv s1 ⟨x,H1,I1,r1,q1⟩=>?_
 obtain⟨z,e,q⟩:=q1;subst e;obtain⟨t,rfl⟩:=r1;refine wpAny_pyIter_strU ?_;refine⟨s1.heap.objs.size,[s1.heap.objs.size],_,_,H1,rfl,I1.kept (t':=s1.toks) λb o e=>Heap.get?_push_of_some _ e,y5p (T:=strIterType z) z t _ ?_,⟨_,Heap.get?_push_size _ rfl,rfl,rfl⟩,λb hb=>?_,q⟩
 ·grind [strIterType]
 ·have e:b=s1.heap.objs.size:=by simpa using hb
  subst e;exact I1.fpOk (w0a _) (I1.hok.fresh (w0a _))
theorem z0f(he:PE X e te)(r:PF X es t):PF X (.FormattedValue e 114 none pos::es) (λacc σ H Q=>te σ H λv H1=>∃z,v=.str z/\(reprText z).length<=sizeLine/\(acc++reprText z).length<=sizeLine/\t (acc++reprText z) σ H1 Q):=by
 intro acc pins s σ H Q I h;show wpAny _ _ (eval (.FormattedValue e 114 none pos) X.env) _ _ s;refine wpAny_FormattedValue_repr (thn (he pins s σ H _ I h) λu s1 ⟨v,H1,I1,rv,z,hz,h1,h2,q⟩=>?_)
 subst hz;obtain⟨tk,rfl⟩:=rv;refine wpAny_pyReprObj_str ?_ h1;exact wpAny_formatField_str ⟨_,_,rfl,h2,r _ pins _ σ H1 Q (I1.tok _) q⟩ ⟨_,_,rfl,h2,r _ pins _ σ H1 Q (I1.tok _) q⟩ h1
end L2
namespace D
open PySem L2
variable{X:Cx}{EE:L2.St->XK}{N ps:List Str}{apos cpos p pos:Pos}{K:PySem.W.Frag}{x:Str}{Z:Zt}
noncomputable def slX:W->Option Int->Option Int->Option W
 |.str z,lo,hi=>if z.length<=16777216 then some (.str (Txt.slice z lo hi))else none
 |.tup ws,lo,hi=>if ¬(HT.sIx ws.length 0 lo=0/\HT.sIx ws.length ws.length hi=ws.length)then some (.tup (cutW ws lo hi))else some (.tup ws)
 |w,lo,hi=>slW w lo hi
noncomputable def dSlX(d:Den W)(dl dh:Den (Option Int)):Den W:=λe=>(d e).bind λw e1=>(dl e1).bind λlo e2=>(dh e2).bind λhi e3=>ofOpt (slX w lo hi) e3
section
variable{e a b:Expr}{da db:Den W}
theorem q08(he:DE Z X EE e da)(hl:DO Z X EE lo dl)(hh:DO Z X EE hi dh):DE Z X EE (.Subscript e (.Slice lo hi none p2) pos) (dSlX da dl dh):=by
 refine PE.mono (y4a (((sl_list.or z28).or z0e).or z56) he hl hh) ?_;rintro σ H Q ⟨G,e,rel,h⟩;simp only[dSlX,R.holds_bind,ofOpt_holds]at h;refine⟨G,e,rel,h.imp (λw e1 h G1 v1 H1 r1 s1 p1=>?_) λ_ _ h=>h⟩
 refine⟨G1,e1,r1,h.imp (λlo e2 h G2 H2 r2 s2=>?_) λ_ _ h=>XH.trans s1 h⟩
 refine⟨G2,e2,r2,h.imp (λhi e3 h G3 H3 r3 s3=>?_) λ_ _ h=>XH.trans (s1.trans s2) h⟩
 obtain⟨y,hf,h⟩:=h;have p3:=Rep.mono (s2.trans s3) w p1;have s03:=(s1.trans s2).trans s3;cases w with
 |str z=>
  simp only[slX]at hf;split at hf
  ·rename_i hz;cases hf;cases p3;exact .inr ⟨z,rfl,by grind [sizeLine_eq],h _ _ _ r3 s03 rfl⟩
  ·cases hf
 |lst ws=>
  cases hf;obtain⟨a,xs,rfl,q,r⟩:=p3;refine .inl (.inl (.inl ⟨a,xs,rfl,r3.sub.seq q,λp hp=>?_⟩))
  have g:=Grow.laid r3.sub hp (.lst (cutV xs lo hi));exact h _ _ _ (r3.grow g) (s03.trans g.gg) ⟨p,_,rfl,SqL.of q0k,Reps.mono g.gg _ (r.cut lo hi)⟩
 |tup ws=>
  simp only[slX]at hf;obtain⟨a,xs,rfl,q,r⟩:=p3;split at hf
  ·rename_i hw;cases hf;refine .inl (.inl (.inr ⟨a,xs,rfl,r3.sub.tup q,by rw[r.length];exact hw,λp hp=>?_⟩))
   have g:=Grow.laid r3.sub hp (.tup (cutV xs lo hi));exact h _ _ _ (r3.grow g) (s03.trans g.gg) ⟨p,_,rfl,SqT.of q0k,Reps.mono g.gg _ (r.cut lo hi)⟩
  ·rename_i hw;cases hf;exact .inl (.inr ⟨a,xs,rfl,r3.sub.tup q,by rw[r.length];grind,h _ _ _ r3 s03 ⟨a,xs,rfl,q,r⟩⟩)
 |_=>cases hf
noncomputable def inS:W->W->Option W
 |.str i,.str j=>match i.cps.toList with
  |[c]=>some (.bl (decide (c∈j.cps.toList)))
  |_=>none
 |_,_=>none
noncomputable def mulS:W->W->Option W
 |.str x,.int n=>if 1<=x.length/\x.length<=1000/\0<=n/\n<=1000 then some (.str ⟨(List.replicate n.toNat x.cps).foldl (·++·) #[]⟩)else none
 |_,_=>none
theorem z0g:OpR X (binaryOp .Mult) (λx y H Q=>∃z n,x=.str z/\y=.int n/\1<=z.length/\z.length<=1000/\0<=n/\n<=1000/\Q (.str ⟨(List.replicate n.toNat z.cps).foldl (·++·) #[]⟩) H):=by
 intro pins s σ H x y v u Q I rx ry h;obtain⟨z,n,rfl,rfl,h1,h2,h3,h4,q⟩:=h;obtain⟨t,rfl⟩:=rx;obtain⟨t',rfl⟩:=ry
 have hlen:z.length*n.toNat<=1000000:=by
  have:n.toNat<=1000:=by omega
  calc z.length*n.toNat<=1000*1000:=Nat.mul_le_mul h2 this
   _=1000000:=rfl
 refine P.mul_str ?_ (λn0 _=>?_) (λ_ _=>?_) ?_
 ·grind
 ·have:(1000:Int)<=(2^63-1) / n:=by
   rw[Int.le_ediv_iff_mul_le (by omega)];omega
  omega
 ·grind [Builtin.Str.tooLong,sizeLine_eq]
 ·by_cases e1:n<1
  ·have h0:n=0:=by omega
   subst h0;rw[if_pos (by decide)];exact⟨by decide,.str _,H,I.tok _,⟨_,rfl⟩,q⟩
  by_cases e0:n=1
  ·subst e0;rw[if_neg (by decide),if_pos (by simp)]
   have eq:(⟨(List.replicate (1:Int).toNat z.cps).foldl (·++·) #[]⟩:Str)=z:=by
    simp_all
   rw[eq]at q;exact⟨.str _,H,I,⟨_,rfl⟩,q⟩
  have e2:(n==1||z.length==0)=false:=by
   grind
  rw[if_neg e1,if_neg (by grind)];refine⟨?_,.str _,H,I.tok _,⟨_,rfl⟩,q⟩
  have hs:∀(m:Nat)(acc:Array Nat),((List.replicate m z.cps).foldl (·++·) acc).size=acc.size+m*z.cps.size:=by
   intro m
   induction m with
   |zero=>intro acc;simp
   |succ m ih=>
    grind
  show((List.replicate n.toNat z.cps).foldl (·++·) #[]).size<=sizeLine
  grind [sizeLine_eq,Str.length]
theorem z0h:Op2 K (λx y H Q=>∃z n,x=.str z/\y=.int n/\1<=z.length/\z.length<=1000/\0<=n/\n<=1000/\Q (.str ⟨(List.replicate n.toNat z.cps).foldl (·++·) #[]⟩) H) mulS:=by
 intro G H x y wx wy w Q s px py hf h;unfold mulS at hf;split at hf
 ·split at hf
  ·rename_i z n hc;cases hf;cases px;cases py;exact⟨z,n,rfl,rfl,hc.1,hc.2.1,hc.2.2.1,hc.2.2.2,h G _ H (.refl s) rfl⟩
  ·cases hf
 ·cases hf
theorem x8k(ha:DE Z X EE a da)(hb:DE Z X EE b db):DE Z X EE (.BinOp a .Mult b pos) (dOp mulS da db):=q7f z0g z0h ha hb
noncomputable def reprK:W->Option Str
 |.str z=>if(reprText z).length<=1000000 then some (reprText z)else none
 |_=>none
noncomputable def fRepr(d:Den W)(r:Den Str):Den Str:=λe=>(d e).bind λw e1=>match reprK w with
 |some x=>(r e1).bind λy e2=>.ok (x++y) e2
 |none=>.no
theorem z0i(he:DE Z X EE e da)(r:DFm Z X EE n es d):DFm Z X EE (n+1) (.FormattedValue e 114 none pos::es) (fRepr da d):=by
 refine PF.mono (z0f he r) ?_;rintro acc σ H Q ⟨hl,G,e,rel,h⟩;simp only[fRepr,R.holds_bind]at h;refine⟨G,e,rel,h.imp (λw e1 h G1 v1 H1 r1 s1 p1=>?_) λ_ _ h=>h⟩
 split at h
 ·rename_i x hx;unfold reprK at hx;split at hx
  ·split at hx
   ·rename_i z hz;cases hx;cases p1;have e1':(acc++reprText z).length=acc.length+(reprText z).length:=PySem.Str.length_append _ _;refine⟨z,rfl,by rw[sizeLine_eq];omega,by grind [sizeLine_eq],by omega,G1,e1,r1,(R.holds_bind.mp h).imp (λy e2 h G2 H2 r2 s2=>?_) λ_ _ h=>XH.trans s1 h⟩
    have z:=h G2 H2 r2 (s1.trans s2)
    rwa [q51]at z
   ·cases hx
  ·cases hx
 ·exact h.elim
end
noncomputable def signsW(x:Str):List W:=x.cps.toList.map λc=>W.str ⟨#[c]⟩
noncomputable def dCompS(js:List Nat)(di:Den W)(c:Den Bool)(d:Den W):Den (List W):=λe=>(di e).bind λw e1=>match w with
 |.str z=>compK js c d (signsW z) e1
 |_=>.no
section
variable{elt iter a:Expr}{ifs:List Expr}{scope sc:Scope}{pt:Pos}{Nf:List Str}{js:List Nat}{di:Den W}{dA:Den (List W)}{c:Den Bool}{d:Den W}{kt:Nat}
theorem z58:Walk (Itx z) (signs z) (λ_=>True):=by
 refine⟨λi H q h=>show i<z.cps.size by simpa [signs]using h,λi H x H' q ⟨e,y⟩ h=>⟨e,y⟩,λi H q h=>show z.cps.size<=i by simpa [signs]using h⟩
theorem x2e:∀(l:List Nat),Reps K G (l.map λc=>W.str ⟨#[c]⟩) (l.map λc=>V.str ⟨#[c]⟩)
 |[]=>rfl
 |c::l=>⟨_,_,rfl,rfl,x2e l⟩
theorem x9x:∀σ H Q,liftF K Z EE (dCompS js di c d) σ H Q->tComp (iStr (liftE K Z EE di)) 1 js (gName 0) (cT K c) (cE K d) σ H Q:=by
 rintro σ H Q ⟨G,e,rel,h⟩;simp only[dCompS,R.holds_bind]at h;refine⟨G,e,rel,h.imp (λw e1 h G1 v1 H1 r1 s1 p1=>?_) λ_ _ h=>h⟩
 split at h
 ·rename_i z;cases p1;refine⟨z,rfl,?_⟩;unfold compK at h;split at h
  ·rename_i hl;split at h
   ·rename_i out ho;obtain⟨G2,s2,r2⟩:=r1.frzs js;exact q94 z58 r2 (s1.trans s2) (x2e _) (λ_ _ _ _=>trivial) hl (ionone r2) ho h
   ·exact h.elim
  ·exact h.elim
 ·exact h.elim
theorem y5q(hc:X.calm=true)(hi:DE Z X EE iter di)(ok:compOk sc scope N Nf js=true)
  (ht:∀Z' cl C s₀ H₀ ex,DTs Z' (X.cp ([x]++Nf) scope cl C s₀ H₀ ex) (λ_=>E0) ifs c)(he:∀Z' cl C s₀ H₀ ex,DE Z' (X.cp ([x]++Nf) scope cl C s₀ H₀ ex) (λ_=>E0) elt d)
  (hg:∀cl C s₀ H₀ ex,PG (X.cp ([x]++Nf) scope cl C s₀ H₀ ex) (.Name x pt) (gName 0))
  (hsc:X.env.scope=sc:=by rfl)(hN:X.N=N:=by rfl)(hs:∀x,foldedSetIterable iter X.env x=pure x:=by intro _;rfl):
  DF Z X EE (.ListComp elt [⟨.Name x pt,iter,ifs,0⟩] scope pos) (dCompS js di c d):=by
 exact PE.mono (x5t (Nl:=[x]) (tc:=cT X.K c) (te:=cE X.K d) hc (z57 hi) ok hg (x49 ht) (x5a he) hsc hN hs) x9x
theorem x7l(hh:A.handled=none)(it l)(hne:l≠it)(items):
  Draws prog w A it [it,l] items.size (λi v=>items[i]?=some v) (λi h=>h.IsTupleIter it l i/\h.IsTuple l items) where
 live:=λ_ _ st=>let ⟨o,ho,_⟩:=st.1;⟨o,ho⟩
 frame:=λ_ _ _ st hk=>⟨st.1.at λo e=>hk it (by simp) o e,st.2.at λo e=>hk l (by simp) o e⟩
 item:=λi s Q E hi st hQ=>by
  refine q9b st.1 st.2 (x:=items[i]) (by simp[hi]) λh' hit' hs'=>?_
  exact hQ _ h' s.toks (by simp[hi]) ⟨hit',st.2.extBut hs'.extBut hne⟩ hs'
 done:=λs Q E st hE=>q7o hh st.1 st.2 (by simp) hE
theorem y2n(hh:A.handled=none)(it l)(items)(i)(hx:items[i]?=none):
  Draws prog w A it [it,l] i (λ_ _=>False) (λj h=>j=i/\h.IsTupleIter it l j/\h.IsTuple l items) where
 live:=λ_ _ st=>let ⟨o,ho,_⟩:=st.2.1;⟨o,ho⟩
 frame:=λ_ _ _ st hk=>⟨st.1,st.2.1.at λo e=>hk it (by simp) o e,st.2.2.at λo e=>hk l (by simp) o e⟩
 item:=λj s Q E hi st hQ=>absurd st.1 (w0t hi)
 done:=λs Q E st hE=>q7o hh st.2.1 st.2.2 hx hE
noncomputable def srcET(dA:Den (List W)):Den (List (W×W)):=λe=>(dA e).bind λws e1=>match ws with
 |[.tup us]=>.ok (enumL 0 us) e1
 |_=>.no
noncomputable def IteT(K:PySem.W.Frag)(a:Addr):It:=
 ⟨λi H=>∃xs x,SqT K H a xs/\xs[i]?=some x,λi H x H'=>∃b y,x=.ref b/\H b=none/\(∀xs,SqT K H a xs->xs[i]?=some y)/\H'=upd H b (.tup [.int i,y]),λi H=>∃xs,SqT K H a xs/\xs.length<=i⟩
section
open AutoSeq1 (wpAny_loadPart')
theorem q8a(l)(items)(n)(dct)(sl):
  Meets (Builtin.«enumerate.__new__» ⟨[.type "enumerate", .ref l],[]⟩) (λ_ R s=>s.heap.get? l=some {cls:=.type "tuple", dict:=dct,data:=.seq items n,slots:=sl} /\
   R (.ok (.ret (.ref (s.heap.push {cls:=.type "tuple_iterator", data:=.fields #[.ref l,.int 0 0]}).objs.size)))
    {s with heap:=(s.heap.push {cls:=.type "tuple_iterator", data:=.fields #[.ref l,.int 0 0]}).push {cls:=.type "enumerate", data:=.fields #[.none,.bool false,.ref s.heap.objs.size,rawInt 0,.none,.none]}}):=
 .of_wp λprog w A R s h=>by
  obtain⟨hp,g,d,tk,os⟩:=s;obtain⟨hl,h⟩:=h;have hsub:=sub_enumerate;have hL:Heap.IsTuple (Shared.heap ⟨hp,g,d,tk,os⟩) l items:=⟨_,hl,rfl,n,rfl⟩
  wp_walk using wpAny_loadPart' hl
  refine wpAny_stack_any λst=>wpAny_pure ?_
  split
  ·rename_i c _ _ _ _ _;cases(c==Value.type "enumerate")
   ·wp_walk using wpAny_loadPart' hl,wpAny_pyIter_tuple hL
    exact⟨_,rfl,h⟩
   ·wp_walk using wpAny_loadPart' hl,wpAny_pyIter_tuple hL
    exact⟨_,rfl,h⟩
  ·wp_walk using wpAny_loadPart' hl,wpAny_pyIter_tuple hL
   exact⟨_,rfl,h⟩
end
theorem q8b{s:Shared}(hL:s.heap.IsTuple l items)
  (h:∀h',IsEnum h' (s.heap.objs.size+1) s.heap.objs.size 0 .none->h'.IsTupleIter s.heap.objs.size l 0->h'.objs.size=s.heap.objs.size+2 ->
   (∀b o,s.heap.get? b=some o->h'.get? b=some o)->Q (.ref (s.heap.objs.size+1)) {s with heap:=h'}):
  wpAny (model prog w) A (call (.type "enumerate") [.ref l]) Q E s:=by
 obtain⟨⟨c,dct,dt,sl⟩,hl,hc,n,hd⟩:=hL
 replace hc:c=.type "tuple":=hc
 replace hd:dt=.seq items n:=hd
 subst hc hd
 refine callType_new F.called_enumerate (by decide) (F.typeCall_enumerate_1 _) (F.newCall_enumerate_1 _) (λobj=>F.args_object_init_2 obj _) F.entry_enumerate_new
  (q8a l items n dct sl) ⟨hl,?_⟩
 have hz:(s.heap.push {cls:=.type "tuple_iterator", data:=.fields #[.ref l,.int 0 0]}).objs.size=s.heap.objs.size+1:=Heap.size_push ..;show _/\_;rw[hz]
 have he:IsEnum ((s.heap.push {cls:=.type "tuple_iterator", data:=.fields #[.ref l,.int 0 0]}).push
   {cls:=.type "enumerate", data:=.fields #[.none,.bool false,.ref s.heap.objs.size,rawInt 0,.none,.none]}) (s.heap.objs.size+1) s.heap.objs.size 0 .none:=by
  have:=Heap.get?_push_size (s.heap.push {cls:=.type "tuple_iterator", data:=.fields #[.ref l,.int 0 0]})
   (o:={cls:=.type "enumerate", data:=.fields #[.none,.bool false,.ref s.heap.objs.size,rawInt 0,.none,.none]}) rfl
  grind
 refine⟨⟨_,he,rfl⟩,h _ he ⟨_,Heap.get?_push_of_some _ (Heap.get?_push_size _ rfl),rfl,rfl⟩ (by rw[Heap.size_push,hz]) λb o x=>Heap.get?_push_of_some _ (Heap.get?_push_of_some _ x)⟩
theorem x9y(a e it)(hne:e≠it):Turn P w K (.Tuple elts kt pt) (IteT K a) [e,it] e (λi h=>∃old,PySem.IsEnum h e it (i:Nat) old/\h.IsTupleIter it a i) where
 mem:=by simp
 obj:=λi h ⟨old,st1,st2⟩ b hb=>by
  simp only[w0d,w0k,or_false]at hb;rcases hb with rfl|rfl
  ·grind
  ·obtain⟨o,e,c,d⟩:=st2
   grind
 keep:=λi h h' ⟨old,st1,st2⟩ k=>⟨old,k e (by simp) _ st1,st2.at λo e=>k it (by simp) o e⟩
 item:=by
  intro X hP hw hK hc i pins s σ H E I hf st hg;subst hP hw hK;obtain⟨old,st1,st2⟩:=st;obtain⟨xs,x,hq,hx⟩:=hg;obtain⟨its,rv,p,hz⟩:=I.tuple hq;obtain⟨u,hu,ru⟩:=rv.get hx
  have hli:a≠it:=λz=>by
   obtain⟨o,e1,c1,_⟩:=st2;obtain⟨o',e2,c2,_⟩:=p
   grind
  have hea:e≠a:=λz=>by
   obtain⟨o',e2,c2,_⟩:=p
   grind
  refine wpAny_pyNext_enum_itemD (x7l (A:=X.A.in1) (I.ok.hd hc) it a hli its.toArray) st1 ⟨st2,p⟩ (by grind) hne (by simp[hne,hea]) λu' h1 tk hu' heo hst1 ht1 hz1 hk1=>⟨_,rfl,?_⟩
  obtain rfl:u'=u:=Option.some.inj (by grind);have hit1:=hst1.1;refine wpAny_letOwnedTupleGo_enum heo λh2 he2 hs2=>?_
  have hs2:Heap.SameBut e h1 h2:=hs2;have hlt:e<s.heap.objs.size:=Heap.lt_size st1;have hfr:H s.heap.objs.size=none:=I.hok.fresh (w0a _);have ht2:h2.get? s.heap.objs.size=some {cls:=.type "tuple", data:=.seq #[.int i tk,u']}:=(hs2.2 _ (w2n hlt)).trans ht1;refine⟨.ref s.heap.objs.size,upd H s.heap.objs.size (.tup [.int i,x]),?_,rfl,⟨_,x,rfl,hfr,λys hy=>by rw[I.tuple_inj hy hq];exact hx,rfl⟩,⟨u',he2,?_⟩,λb hb=>?_⟩
  ·show L2.Inv X pins σ _ {s with heap:=h2,toks:=tk+1};refine q9a (fp:=[e,it]) I (λb o hb q=>?_) hf (w0a _) ⟨?_,[.int i tk,u'],.cons ⟨_,rfl⟩ (.cons ru .nil),⟨_,ht2,rfl,?_⟩,⟨_,ht2,rfl⟩⟩
   ·simp only[w0d,w0k,or_false,not_or]at hb;exact(hs2.2 b hb.1).trans (hk1 b o hb.1 hb.2 q)
   all_goals grind [sizeLine_eq]
  ·exact hit1.at λo q=>(hs2.2 it (Ne.symm hne)).trans q
  ·have:b≠s.heap.objs.size:=by
    obtain⟨o,q,_⟩:∃o,s.heap.get? b=some o/\True:=by
     simp only[w0d,w0k,or_false]at hb;rcases hb with rfl|rfl
     ·grind
     ·obtain⟨o,e,_⟩:=st2;grind
    exact w0t (Heap.lt_size q)
   rw[q0g this];exact(hf b hb).1
 done:=by
  intro X hP hw hK hc i pins s σ H E I hf st hg;subst hP hw hK;obtain⟨old,st1,st2⟩:=st;obtain⟨xs,hq,hx⟩:=hg;obtain⟨its,rv,p,hz⟩:=I.tuple hq;obtain⟨f0,f1,f2,f3,f4,f5⟩:=hf it (by simp);have hl:=rv.length
  have hli:a≠it:=λz=>by
   obtain⟨o,e1,c1,_⟩:=st2;obtain⟨o',e2,c2,_⟩:=p
   grind
  refine wpAny_pyNext_enum_endD (y2n (A:=X.A.in1) (I.ok.hd hc) it a its.toArray i (by simp;omega)) st1 ⟨rfl,st2,p⟩ λh' eb=>⟨rfl,I.turned (t':=s.toks) (λb o hb e=>eb b o hb e) f0 f1 f3 f4 f5⟩
 self:=λ_ _ _ _ _ ⟨old,st1,_⟩ h=>wpAny_pyIter_enum st1 h
noncomputable def iEnumT(K:PySem.W.Frag)(ta:TA):TI:=λσ H R=>ta σ H λvs H1=>∃a,vs=[.ref a]/\(∃xs,SqT K H1 a xs)/\R (IteT K a) H1
theorem y5r{elts:List Expr}{ta:TA}(hg:Gl X "enumerate")(hm:X.mg "enumerate"=none)(ha:PA X [a] ta)(hs:starEach [a] X.env=[(false,eval a X.env)]:=by rfl):PI X (.Tuple elts kt pt) (.Call (.Name "enumerate" p) [a] [] pos) (iEnumT X.K ta):=by
 intro pins s σ H R I h;refine PyProof.Rows.Call_ (q3y I hg hm PyProof.Rows.boot_enumerate (PyProof.Rows.callWith_type1 (thn (ha pos pins s σ H _ I h) λus s1 ⟨vs,H1,I1,r1,q1⟩=>?_) hs rfl))
 obtain⟨l,e,⟨xs,hq⟩,q⟩:=q1;subst e;cases r1 with
 |cons r rr=>
  cases rr;cases r;obtain⟨its,rv,p,hz⟩:=I1.tuple hq;refine q8b p λh' he hit hsz hk=>?_
  refine wpAny_pyIter_enum he ?_;refine⟨s1.heap.objs.size+1,[s1.heap.objs.size+1,s1.heap.objs.size],_,_,H1,rfl,I1.kept (t':=s1.toks) hk,x9y l _ _ (w4k _),⟨_,he,hit⟩,λb hb=>?_,q⟩
  simp only[w0d,w0k,or_false]at hb;rcases hb with rfl|rfl
  ·exact I1.fpOk (by omega) (I1.hok.fresh (by omega))
  ·exact I1.fpOk (w0a _) (I1.hok.fresh (w0a _))
theorem x7m(rp:Reps K G1 ws xs)(hq:SqT K G1 b xs):Walk2 K G1 (IteT K b) (enumL 0 ws):=by
 have hx:=rp.length;have hl:=q88 0 ws;refine⟨λi G H s s' h=>⟨xs,xs[i]'(by omega),Same.tup s' (Same.tup s hq),by simp⟩,λi G H x H' s s' hy u v h=>?_,λi G H s s' h=>⟨xs,Same.tup s' (Same.tup s hq),by omega⟩⟩
 obtain⟨c,y,rfl,hn,hx',rfl⟩:=hy;obtain⟨hu,hv⟩:=q89 0 ws i u v h;obtain⟨w,hw,pw⟩:=rp.getV (hx' xs (Same.tup s' (Same.tup s hq)));rw[hv]at hw;cases hw;refine⟨Grow.hid s' hn _,λm n σ Q hQ=>⟨c,[.int i,y],rfl,SqT.of q0k,rfl,.int i,[y],rfl,y,[],rfl,rfl,hQ _ _ ?_ (Rep.mono s _ pw)⟩⟩
 rw[hu,w4b];exact rfl
theorem y5s{elts:List Expr}(hm:X.mg "enumerate"=none)(ha:DA Z X EE [a] dA)(hg:Gl X "enumerate":=by rfl)(hs:starEach [a] X.env=[(false,eval a X.env)]:=by rfl):DI Z X EE (.Tuple elts kt pt) (.Call (.Name "enumerate" p) [a] [] pos) (srcET dA):=by
 refine PI.mono (y5r hg hm ha hs) ?_;rintro σ H RR ⟨G,e,rel,h⟩;simp only[srcET,R.holds_bind]at h;refine⟨G,e,rel,h.imp (λws e1 h G1 vs H1 r1 s1 p1=>?_) λ_ _ h=>h⟩
 split at h
 ·rename_i us;obtain⟨y,r,rfl,e1,e2⟩:=p1;cases(show r=[]from e2);obtain⟨b,xs,rfl,hq,rp⟩:=e1;exact⟨b,rfl,⟨xs,r1.sub.tup hq⟩,h _ _ _ r1 s1 (x7m rp hq)⟩
 ·exact h.elim
end
theorem z59:dSlX d dl dh e=(d e).bind λw e1=>(dl e1).bind λlo e2=>(dh e2).bind λhi e3=>ofOpt (slX w lo hi) e3:=rfl
theorem z80:slX (.lst ws) lo hi=some (.lst (cutW ws lo hi)):=rfl
theorem y7k(h:¬(HT.sIx ws.length 0 lo=0/\HT.sIx ws.length ws.length hi=ws.length)):slX (.tup ws) lo hi=some (.tup (cutW ws lo hi)):=if_pos h
theorem z81(h:z.length<=16777216):slX (.str z) lo hi=some (.str (Txt.slice z lo hi)):=if_pos h
theorem z82:inS (.str ⟨#[c]⟩) (.str j)=some (.bl (decide (c∈j.cps.toList))):=rfl
noncomputable def compSW(js:List Nat)(c:Den Bool)(d:Den W)(e1:List S):W->R (List W)
 |.str z=>compK js c d (signsW z) e1
 |_=>.no
theorem y5t:dCompS js da c d e=(da e).bind λw e1=>compSW js c d e1 w:=by
 unfold dCompS;congr 1
theorem y5u:compSW js c d e (.str z)=compK js c d (signsW z) e:=rfl
noncomputable def srcETW(e1:List S):List W->R (List (W×W))
 |[.tup us]=>.ok (enumL 0 us) e1
 |_=>.no
theorem z0j:srcET dA e=(dA e).bind λws e1=>srcETW e1 ws:=by
 unfold srcET;congr 1
theorem y5v:srcETW e [.tup ws]=.ok (enumL 0 ws) e:=rfl
noncomputable def fRepK(r:Den Str)(e1:List S):Option Str->R Str
 |some x=>(r e1).bind λy e2=>.ok (x++y) e2
 |none=>.no
theorem z0k:fRepr d r e=(d e).bind λw e1=>fRepK r e1 (reprK w):=by
 unfold fRepr;congr 1
theorem x9z:fRepK r e (some x)=(r e).bind λy e2=>.ok (x++y) e2:=rfl
theorem z0l(h:(reprText z).length<=1000000):reprK (.str z)=some (reprText z):=if_pos h
theorem z83:inD (.str x) (.dic (.k kvs))=some (.bl (lk kvs (.inr x)).isSome):=rfl
theorem z84:ixD (.dic (.k kvs)) (.str x)=(lk kvs (.inr x)).map wSv:=rfl
theorem y5w:putDC i (.int n) (.str x) e (some (.dic (.k kvs)))=if kvs.length<16777216/\onlyD i e=true then .nx (e.set i (.dic (.k (putL kvs (.inr x) (.inl n)))))else .no:=rfl
noncomputable def retDC(e:List S):Option S->SR
 |some (.dic d)=>.rt (.dic d) e
 |_=>.no
theorem z0m:dRetD i e=retDC e e[i]?:=by
 rfl
theorem z0n:retDC e (some (.dic dd))=.rt (.dic dd) e:=rfl
theorem z6a(h:0<=n/\n<=1000):mulS (.str ⟨#[c]⟩) (.int n)=some (.str ⟨(List.replicate n.toNat c).toArray⟩):=by
 show(if 1<=(Str.mk #[c]).length/\(Str.mk #[c]).length<=1000/\0<=n/\n<=1000 then some (W.str ⟨(List.replicate n.toNat #[c]).foldl (·++·) #[]⟩)else none)=_;have e1:(Str.mk #[c]).length=1:=rfl;rw[if_pos ⟨by omega,by omega,h.1,h.2⟩]
 have hs:∀(m:Nat)(acc:List Nat),((List.replicate m #[c]).foldl (·++·) acc.toArray)=(acc++List.replicate m c).toArray:=by
  intro m
  induction m with
  |zero=>intro acc;simp
  |succ m ih=>
   grind
 grind
theorem z0o(e:PyProof.Rows.KTD.tabLook PyProof.Rows.KTD.flatLooks (λb=>K.lookup b) d (tb.map λp=>(p.1,PyData.int p.2))=true)
  (n:((tb.map λp=>(p.1,PyData.int p.2)).map (·.1)).Nodup)(q:PyProof.Rows.KTD.hashesOf (λb=>K.lookup b) d=(tb.map λp=>(p.1,PyData.int p.2)).map λp=>(PySem.strKind P w).hash p.1)
  (o:∃o,K.lookup d=some o/\o.cls=.type "dict" /\ o.dict=none):TabK P w K d tb:=by
 refine⟨λh x=>?_,o⟩
 have z:=PySem.W.kt_tab_in P w x e n q;rw[w0x]at z;exact z
section
variable{e k:Expr}{es:List Expr}{dk:Den W}{dA:Den (List W)}{tb:List (Str×Int)}
theorem q7h(T:∃d,X.mg x=some (.ref d)/\TabK X.prog X.w X.K d tb)(hk:DE Z X EE k dk)(hg:Gl X x:=by rfl)(hd:(x==("__debug__":Str))=false:=by decide)(hs:PlainIx k:=by intro _ _;rfl):
  DE Z X EE (.Subscript (.Name x p) k pos) (dUn (tabW tb) dk):=by
 grind [y42]
theorem x90(T:∃d,X.mg x=some (.ref d)/\TabK X.prog X.w X.K d tb)(ha:DA Z X EE (e::es) dA)(hg:Gl X x:=by rfl)(hd:(x==("__debug__":Str))=false:=by decide)
  (hbase:attributeBase (.Name x p) "get" X.env (eval (.Name x p) X.env)=eval (.Name x p) X.env:=by rfl)
  (hfew:((backTo cpos (starEach (e::es) X.env)).all (λx=>!x.1)&&(backToKw cpos (keywordEach [] X.env)).all (λx=>x.1.isSome)&&decide ((e::es).length+([]:List Keyword).length+(if([]:List Keyword).isEmpty then 0 else 1)<30))=true:=by rfl)
  (hline:(apos.endLine==cpos.line)=true:=by rfl)(hs:starEach (e::es) X.env=(false,eval e X.env)::starEach es X.env:=by rfl)(hplain:(backTo cpos (starEach es X.env)).any (·.1)=false:=by rfl):
  DE Z X EE (.Call (.Attribute (.Name x p) "get" apos) (e::es) [] cpos) (dFn (tabGet tb) dA):=by
 grind [y1x]
end
open PyProof.Rows (envOfC)
inductive MutAt(K:PySem.W.Frag)(G H:Hp)(vs:List V)(a1 a2:Addr)(ws1 ws2 ws:List W):Prop where
 |mk (xs1 xs2 us:List V) (h0:vs=.ref a1::.ref a2::us) (sg:Same G H) (ne:a1≠a2) (h1:H a1=some (.lst xs1)) (h2:H a2=some (.lst xs2)) (g1:G a1=none) (g2:G a2=none) (r1:Reps K G ws1 xs1) (r2:Reps K G ws2 xs2) (r:Reps K G ws us):MutAt K G H vs a1 a2 ws1 ws2 ws
structure MutOk(K:PySem.W.Frag)(G H G' H':Hp)(a1 a2:Addr)(o1 o2:List W):Prop where
 ent:∀a o,H a=some o->a≠a1->a≠a2->H' a=some o
 gg:Same G G'
 sub:Same G' H'
 new:∀a,H a≠none->G' a=G a
 l1:∃ys,H' a1=some (.lst ys)/\Reps K G' o1 ys
 l2:∃ys,H' a2=some (.lst ys)/\Reps K G' o2 ys
noncomputable def mres(r:FR)(P:List W->List W->Prop):Prop:=match r with
 |.ok (.fr (.tup [.lst o1,.lst o2]))=>P o1 o2
 |_=>False
noncomputable def spM(K:PySem.W.Frag)(F:List W->FR):Sp:=λvs H Q E=>∃G a1 a2 ws1 ws2 ws,MutAt K G H vs a1 a2 ws1 ws2 ws/\mres (F (.lst ws1::.lst ws2::ws)) λo1 o2=>∀G' H',MutOk K G H G' H' a1 a2 o1 o2->Q .non H'
noncomputable def SR.fm:SR->FR
 |.nx (.own (some 0) o1::.own (some 1) o2::_)=>.ok (.fr (.tup [.lst o1,.lst o2]))
 |_=>.no
noncomputable def initM(n:Nat):List W->List S
 |.lst ws1::.lst ws2::ws=>.own (some 0) ws1::.own (some 1) ws2::(ws.map .fr++List.replicate (n-2-ws.length) .no)
 |_=>[]
theorem x3d{r:FR}{P:List W->List W->Prop}(h:mres r P):r≠.no:=λz=>by rw[z]at h;exact h
theorem y2o{G H:Hp}{y:Str}{a1 a2:Addr}{ws1 ws2 ws:List W}{vs:List V}(m:MutAt K G H vs a1 a2 ws1 ws2 ws):Rel K ⟨H,G,[a1,a2]⟩ G (L2.start (x::y::N) vs) H (initM (x::y::N).length (.lst ws1::.lst ws2::ws)):=by
 obtain⟨xs1,xs2,us,rfl,s,ne,h1,h2,g1,g2,r1,r2,r⟩:=m;have hl:=r.length;have hk:(x::y::N).length-2-ws.length=N.length-ws.length:=by simp
 have hst:L2.start (x::y::N) (.ref a1::.ref a2::us)=some (.ref a1)::some (.ref a2)::(us.map some++List.replicate (N.length-us.length) none):=by
  unfold L2.start;simp
 have hin:initM (x::y::N).length (.lst ws1::.lst ws2::ws)=.own (some 0) ws1::.own (some 1) ws2::(ws.map .fr++List.replicate (N.length-ws.length) .no):=by
  show S.own (some 0) ws1::S.own (some 1) ws2::(ws.map S.fr++List.replicate ((x::y::N).length-2-ws.length) S.no)=_;rw[hk]
 rw[hst,hin]
 have hfr:∀(i:Nat)(s:S),(ws.map S.fr++List.replicate (N.length-ws.length) S.no)[i]?=some s->(s=.no)\/∃w,s=.fr w/\ws[i]?=some w:=λi s h=>by
  grind
 have hown:∀(i:Nat)(b:Option Nat)(w:List W),(S.own (some 0) ws1::S.own (some 1) ws2::(ws.map S.fr++List.replicate (N.length-ws.length) S.no))[i]?=some (.own b w)->i=0\/i=1:=λi b w h=>by
  grind
 refine⟨s,λi t h=>?_,by simp[hl],λi j b b' w1 w2 a z1 z2 z3 z4=>?_,λa o h _=>h,(λa h=>?_),λa _=>rfl⟩
 ·rcases i with _|_|i
  ·cases h;exact⟨a1,xs1,rfl,h1,g1,rfl,r1⟩
  ·cases h;exact⟨a2,xs2,rfl,h2,g2,rfl,r2⟩
  ·rcases hfr i t h with rfl|⟨w,rfl,q1⟩
   ·trivial
   ·obtain⟨v,q2,q3⟩:=r.get q1;refine⟨v,?_,q3⟩
    grind
 all_goals grind
section
variable{P:Program}{w:World}{mg:Str->Option Value}{base:Heap}
theorem z0p{F:List W->FR}{G H:Hp}{a1 a2:Addr}{ws:List W}{Q:VK}{E:XK}{r:SR}(he:r.fm=F ws)(h:mres (F ws) λo1 o2=>∀G' H',MutOk K G H G' H' a1 a2 o1 o2->Q .non H'):
  PostS K ⟨H,G,[a1,a2]⟩ (λ_=>E) {nx:=λ_ H'=>Q .non H',rt:=Q} G r:=by
 rw[<- he]at h;unfold SR.fm at h;split at h
 ·rename_i o1 o2 tl;intro G' σ' H' r s;obtain⟨b1,ys1,k1,k2,k3,k4,k5⟩:=r.own (i:=0) rfl;obtain⟨b2,ys2,m1,m2,m3,m4,m5⟩:=r.own (i:=1) rfl;have e1:a1=b1:=Option.some.inj k4;have e2:a2=b2:=Option.some.inj m4;subst e1;subst e2;refine h G' H' ⟨λa o z n1 n2=>r.ent a o z ?_,s,r.sub,λa z=>r.gen a z,⟨ys1,k2,k5⟩,⟨ys2,m2,m5⟩⟩
  grind
 ·exact h.elim
theorem conM2{y1 y2:Str}{st:Stmt}{k:Nat}{F:List W->FR}(A:At K mg x st ps)(sc:FnScope (y1::y2::N) ps (defScope st))(len:∀ws,F ws≠.no->ws.length=ps.length)
  (hb:∀ws,F ws≠.no->∀(f:Addr)(cdv:Value)(A:Around)(outer:List Env)(s:Shared)(H:Hp)(E:XK)(Z:Zt),Room k (A.deeper (envOfC x (defScope st) s.heap.objs.size f cdv)) ->
   ∃d,DSs Z (cxOf (CX1 P w) P w K mg base (y1::y2::N) x (defScope st) f cdv A outer s H E) (λ_=>E) (defBody st) d/\(d (initM (y1::y2::N).length ws)).fm=F ws):Cal P w K mg base (k+1) x ps (spM K F):=by
 refine A.cal sc (λvs H Q E h=>?_) (λf cdv A outer s H vs Q E hr h=>?_)
 ·obtain⟨G,a1,a2,ws1,ws2,ws,m,h⟩:=h;obtain⟨xs1,xs2,us,rfl,_,_,_,_,_,_,_,_,r⟩:=m
  grind [x3d,Reps.length]
 ·obtain⟨G,a1,a2,ws1,ws2,ws,m,h⟩:=h;obtain⟨d,hd,he⟩:=hb _ (x3d h) f cdv A outer s H E ⟨H,G,[a1,a2]⟩ hr;exact⟨_,hd,G,_,y2o m,z0p he h⟩
theorem con0M{st:Stmt}{F:List W->FR}(A:At K mg x st ps)(hF:∀ws,F ws=.no:=by intro _;rfl):Cal P w K mg base 0 x ps (spM K F):=by
 obtain⟨f,fd,F0,m,b⟩:=A.ex
 have no:∀{vs H Q E},spM K F vs H Q E->False:=λh=>by
  obtain⟨G,a1,a2,ws1,ws2,ws,m,h⟩:=h;exact x3d h (hF _)
 exact⟨f,fd,⟨λvs H Q E h=>(no h).elim,λA outer s H args us vs Q E _ _ _ _ h=>(no h).elim⟩,m,F0.kp,b⟩
end
theorem Rel.mut2{G G' H H':Hp}{σ:St}{e:List S}(r:Rel K Z G σ H e){i j:Nat}{b1 b2:Option Nat}{ws1 ws2 o1 o2:List W}{a1 a2:Addr}(hij:i≠j)(h1:e[i]?=some (.own b1 ws1))(h2:e[j]?=some (.own b2 ws2))
  (s1:σ[i]?=some (some (.ref a1)))(s2:σ[j]?=some (some (.ref a2)))(m:MutOk K G H G' H' a1 a2 o1 o2):Rel K Z G' σ H' ((e.set i (.own b1 o1)).set j (.own b2 o2)):=by
 obtain⟨c1,xs1,q1,q2,q3,q4,q5⟩:=r.own h1;obtain⟨c2,xs2,p1,p2,p3,p4,p5⟩:=r.own h2;rw[s1]at q1;cases q1;rw[s2]at p1;cases p1
 have ne:a1≠a2:=λz=>by
  subst z;exact hij (r.dis i j _ _ _ _ _ h1 h2 s1 s2)
 obtain⟨ys1,l1,t1⟩:=m.l1;obtain⟨ys2,l2,t2⟩:=m.l2
 let H1:Hp:=λa=>if a=a1\/a=a2 then H a else H' a
 have g:Grow G H G' H1:=by
  refine⟨λa o z=>?_,m.gg,λa o z=>?_,m.new⟩
  ·show(if a=a1\/a=a2 then H a else H' a)=some o;split
   ·exact z
   ·rename_i n;exact m.ent a o z (λk=>n (.inl k)) (λk=>n (.inr k))
  ·show(if a=a1\/a=a2 then H a else H' a)=some o;split
   ·rename_i n
    have:H a≠none:=by
     grind
    rw[m.new a this]at z;exact r.sub a o z
   ·exact m.sub a o z
 have r2:=(r.grow g).mut h1 s1 t1;have r3:=r2.mut (i:=j) (by rw[w0f hij];exact h2) s2 t2
 have he:upd (upd H1 a1 (.lst ys1)) a2 (.lst ys2)=H':=by
  funext a
  by_cases z2:a=a2
  ·grind [q0k]
  ·rw[q0g z2]
   by_cases z1:a=a1
   ·grind [q0k]
   ·rw[q0g z1]
    grind
 rw[he]at r3;exact r3
noncomputable def mut2C(i j:Nat)(e:List S)(b1 b2:Option Nat):FR->SR
 |.ok (.fr (.tup [.lst o1,.lst o2]))=>.nx ((e.set i (.own b1 o1)).set j (.own b2 o2))
 |_=>.no
noncomputable def mut2B(F:List W->FR)(i j:Nat)(us:List W)(e:List S):Option S->Option S->SR
 |some (.own b1 ws1),some (.own b2 ws2)=>mut2C i j e b1 b2 (F (.lst ws1::.lst ws2::us))
 |_,_=>.no
noncomputable def mut2A(F:List W->FR)(i j:Nat)(dA:Den (List W))(e:List S):Option S->Option S->SR
 |some (.own _ _),some (.own _ _)=>(dA e).stm λus e1=>mut2B F i j us e1 e1[i]? e1[j]?
 |_,_=>.no
noncomputable def dMut2(F:List W->FR)(i j:Nat)(dA:Den (List W)):List S->SR:=λe=>mut2A F i j dA e e[i]? e[j]?
section
variable{es:List Expr}{dA:Den (List W)}{pos' p2 pn:Pos}{k:Nat}{F:List W->FR}{y f:Str}
theorem x3e(i j:Nat)(hij:i≠j)(C:Cal X.prog X.w X.K X.mg X.base k f ps (spM X.K F))(hr:Room k X.A)(hx:PassX (CX1 X.prog X.w) X EE)(ha:DA Z X EE es dA)
  (hN:X.N[i]?=some x:=by rfl)(hvis:Vis X.env.scope x:=by walk_at "1")(hd:(x==("__debug__":Str))=false:=by decide)(hcd:(x==("__classdict__":Str))=false:=by decide)
  (hN2:X.N[j]?=some y:=by rfl)(hvis2:Vis X.env.scope y:=by walk_at "1")(hd2:(y==("__debug__":Str))=false:=by decide)(hcd2:(y==("__classdict__":Str))=false:=by decide)
  (hg:Gl X f:=by rfl)(hdb:(f==("__debug__":Str))=false:=by decide)(he:starEach (.Name x p::.Name y p2::es) X.env=(false,eval (.Name x p) X.env)::starEach (.Name y p2::es) X.env:=by rfl)(he2:starEach (.Name y p2::es) X.env=(false,eval (.Name y p2) X.env)::starEach es X.env:=by rfl)
  (hpl:(backTo pos (starEach (.Name y p2::es) X.env)).any (·.1)=false:=by rfl)(hs:swapsWith (.Call (.Name f pn) (.Name x p::.Name y p2::es) [] pos) none pos'.line X.env=pure false:=by rfl):
  DS Z X EE (.Expr (.Call (.Name f pn) (.Name x p::.Name y p2::es) [] pos) pos') (dMut2 F i j dA):=by
 refine PS.mono (q7s (x5u C hr hx (q5c (pv i hN hvis hd hcd) (q5c (pv j hN2 hvis2 hd2 hcd2) ha he2) he) hg hdb he hpl) hs) ?_;rintro D σ H ⟨G,e,rel,h⟩;unfold dMut2 mut2A at h;split at h
 ·rename_i b1 ws1 b2 ws2 q1 q2;obtain⟨a1,xs1,k1,k2,k3,k4,k5⟩:=rel.own q1;obtain⟨a2,xs2,m1,m2,m3,m4,m5⟩:=rel.own q2;refine⟨.ref a1,k1,.ref a2,m1,G,e,rel,(q0w h).imp (λus e1 h G1 vs H1 r1 s1 p1=>?_) λ_ _ h=>h⟩
  unfold mut2B at h;split at h
  ·rename_i c1 vs1 c2 vs2 t1 t2;obtain⟨a1',ys1,n1,n2,n3,n4,n5⟩:=r1.own t1;obtain⟨a2',ys2,l1,l2,l3,l4,l5⟩:=r1.own t2;rw[k1]at n1;cases n1;rw[m1]at l1;cases l1;refine⟨G1,a1,a2,vs1,vs2,us,⟨ys1,ys2,vs,by simp,r1.sub,λz=>?_,n2,l2,n3,l3,n5,l5,p1⟩,?_⟩
   ·subst z;exact hij (r1.dis i j _ _ _ _ _ t1 t2 k1 m1)
   ·unfold mut2C at h;split at h
    ·rename_i o1 o2 hF;rw[hF];intro G' H' m;exact h G' σ H' (r1.mut2 hij t1 t2 k1 m1 m) (s1.trans m.gg)
    ·exact h.elim
  ·exact h.elim
 ·exact h.elim
end
section
variable{e:List S}{ws1 ws2 us o1 o2:List W}{b1 b2:Option Nat}{i j n:Nat}{F:List W->FR}{dA:Den (List W)}
theorem z0q:dMut2 F i j dA e=mut2A F i j dA e e[i]? e[j]?:=rfl
theorem z0r:mut2A F i j dA e (some (.own b1 ws1)) (some (.own b2 ws2))=(dA e).stm λus e1=>mut2B F i j us e1 e1[i]? e1[j]?:=rfl
theorem z0s:mut2B F i j us e (some (.own b1 ws1)) (some (.own b2 ws2))=mut2C i j e b1 b2 (F (.lst ws1::.lst ws2::us)):=rfl
theorem z0t:mut2C i j e b1 b2 (.ok (.fr (.tup [.lst o1,.lst o2])))=.nx ((e.set i (.own b1 o1)).set j (.own b2 o2)):=rfl
theorem z0u:initM n (.lst ws1::.lst ws2::us)=.own (some 0) ws1::.own (some 1) ws2::(us.map .fr++List.replicate (n-2-us.length) .no):=rfl
theorem z85:SR.fm (.nx (.own (some 0) o1::.own (some 1) o2::e))=.ok (.fr (.tup [.lst o1,.lst o2])):=rfl
end
open PySem L2 PySem.Spec PyProof.Rows
open PySem.Builtin.Str (occurrences partsBetween strKind strSub)
theorem x4c:∀(tk:Nat)(xs:List Str),Vals (xs.map V.str) (strsFrom tk xs)
 |_,[]=>.nil
 |tk,x::xs=>.cons ⟨tk,rfl⟩ (x4c (tk+1) xs)
noncomputable def okSplit(x y:Str):Bool:=!(y.length==0)&&decide (x.length<=16777216)&&decide ((Txt.split x y).length<=16777216)
noncomputable def rSplit:V->List V->Hp->VK->Prop:=λv vs H Q=>∃x y:Str,v=.str x/\vs=[.str y]/\okSplit x y=true/\∀l,H l=none->Q (.ref l) (upd H l (.lst ((Txt.split x y).map V.str)))
theorem y5x{X:L2.Cx}:MtR X "str.split" rSplit:=by
 intro pins s σ H x vs v us Q I rx rv h;obtain⟨x0,y0,rfl,rfl,ok,q⟩:=h;unfold okSplit at ok;rw[w0l,w0l,w3i]at ok;obtain⟨⟨hy,hx⟩,hn⟩:=ok;have hx:=of_decide_eq_true hx;have hn:=of_decide_eq_true hn;obtain⟨t,rfl⟩:=rx;obtain⟨u,rfl,ru⟩:=rv.one;obtain⟨t2,rfl⟩:=ru
 have lay:∀(its:List Value)(tk:Nat),Vals ((Txt.split x0 y0).map V.str) its->EP X pins σ Q (.ref s.heap.objs.size) {s with toks:=tk,heap:=s.heap.push {cls:=.type "list", data:=.seq its.toArray}}:=λits tk hv=>
  ⟨.ref _,_,I.laid (t':=tk) (λb o e=>Heap.get?_push_of_some _ e) (w0a _) (show ObjOk X.prog X.w _ _ _ (.lst ((Txt.split x0 y0).map V.str))from⟨by grind [sizeLine_eq],its,0,hv,Heap.get?_push_size _ rfl⟩),rfl,q _ (I.hok.fresh (w0a _))⟩
 cases h1:(decide (x0.length<y0.length)||decide (strKind x0<strKind y0))
 ·cases hf:(occurrences x0 y0 0 x0.length (x0.length+1)).isEmpty
  ·have e:Txt.split x0 y0=partsBetween x0 (occurrences x0 y0 0 x0.length (x0.length+1)) y0.length:=(if_neg (ne_true_of_eq_false h1)).trans (if_neg (ne_true_of_eq_false hf));refine call_meets F.slot_str_split (typeIs_str _ _ _) F.entry_str_split (F.args_str_split_2 _ _) (meets_str_split_sep x0 y0 t t2 h1 hy hf (by grind [sizeLine_eq]) (by grind [sizeLine_eq])) ?_
   grind [x4c]
  ·have e:Txt.split x0 y0=[x0]:=(if_neg (ne_true_of_eq_false h1)).trans (if_pos hf);refine call_meets F.slot_str_split (typeIs_str _ _ _) F.entry_str_split (F.args_str_split_2 _ _) (meets_str_split_not_found x0 y0 t t2 h1 hy hf) ?_;exact lay [.str x0 t] s.toks (by rw[e];exact .cons ⟨t,rfl⟩ .nil)
 ·have e:Txt.split x0 y0=[x0]:=if_pos h1;refine call_meets F.slot_str_split (typeIs_str _ _ _) F.entry_str_split (F.args_str_split_2 _ _) (meets_str_split_cannot_occur x0 y0 t t2 h1) ?_;exact lay [.str x0 t] s.toks (by rw[e];exact .cons ⟨t,rfl⟩ .nil)
theorem q9c:∀xs:List Str,Reps K G (xs.map W.str) (xs.map V.str)
 |[]=>rfl
 |_::xs=>⟨_,_,rfl,rfl,q9c xs⟩
noncomputable def splitW:W->List W->Option W
 |.str x,[.str y]=>if okSplit x y=true then some (.lst ((Txt.split x y).map .str))else none
 |_,_=>none
theorem y5y:OpM K rSplit splitW:=by
 intro G H x xs wx ws w Q s px pr hf h;unfold splitW at hf;split at hf
 ·rename_i x0 y0;split at hf
  ·rename_i ok;cases hf;obtain⟨y,r,rfl,py,pr⟩:=pr;cases(show r=[]from pr);cases(show x=V.str x0 from px);cases(show y=V.str y0 from py);exact⟨x0,y0,rfl,rfl,ok,λl hl=>h _ (.ref l) _ (Grow.laid s hl _) ⟨l,_,rfl,SqL.of q0k,q9c _⟩⟩
  ·cases hf
 ·cases hf
noncomputable def partT(x y:Str):List Str:=match occurrences x y 0 x.length 1 with
 |i::_=>[strSub x 0 i,y,strSub x (i+y.length) x.length]
 |[]=>[x,Str.empty,Str.empty]
theorem y2p(x y):(partT x y).length=3:=by grind [partT]
noncomputable def okPart(x y:Str):Bool:=!(y.length==0)&&decide (x.length<=16777216)
noncomputable def rPart:V->List V->Hp->VK->Prop:=λv vs H Q=>∃x y:Str,v=.str x/\vs=[.str y]/\okPart x y=true/\∀l,H l=none->Q (.ref l) (upd H l (.tup ((partT x y).map V.str)))
theorem z0v{X:L2.Cx}:MtR X "str.partition" rPart:=by
 intro pins s σ H x vs v us Q I rx rv h;obtain⟨x0,y0,rfl,rfl,ok,q⟩:=h;unfold okPart at ok;rw[w0l,w3i]at ok;obtain⟨hy,hx⟩:=ok;have hx:=of_decide_eq_true hx;obtain⟨t,rfl⟩:=rx;obtain⟨u,rfl,ru⟩:=rv.one;obtain⟨t2,rfl⟩:=ru
 have lay:∀(its:List Value)(tk:Nat),Vals ((partT x0 y0).map V.str) its->EP X pins σ Q (.ref s.heap.objs.size) {s with toks:=tk,heap:=s.heap.push {cls:=.type "tuple", data:=.seq its.toArray}}:=λits tk hv=>
  ⟨.ref _,_,I.laid (t':=tk) (λb o e=>Heap.get?_push_of_some _ e) (w0a _) (show ObjOk X.prog X.w _ _ _ (.tup ((partT x0 y0).map V.str))from⟨by grind [y2p,sizeLine_eq],its,hv,IsTup.new _ _,_,Heap.get?_push_size _ rfl,rfl⟩),rfl,q _ (I.hok.fresh (w0a _))⟩
 refine call_meets F.slot_str_partition (typeIs_str _ _ _) F.entry_str_partition (F.args_str_partition_2 _ _) (meets_str_partition x0 y0 t t2 hy (by grind [sizeLine_eq])) ?_
 have e:partT x0 y0=match occurrences x0 y0 0 x0.length 1 with
  |i::_=>[strSub x0 0 i,y0,strSub x0 (i+y0.length) x0.length]
  |[]=>[x0,Str.empty,Str.empty]:=rfl
 revert e lay;generalize partT x0 y0=ps;cases occurrences x0 y0 0 x0.length 1 with
 |nil=>
  rintro lay rfl;exact lay _ _ (.cons ⟨_,rfl⟩ (.cons ⟨_,rfl⟩ (.cons ⟨_,rfl⟩ .nil)))
 |cons i r=>
  rintro lay rfl;exact lay _ _ (.cons ⟨_,rfl⟩ (.cons ⟨_,rfl⟩ (.cons ⟨_,rfl⟩ .nil)))
noncomputable def partW:W->List W->Option W
 |.str x,[.str y]=>if okPart x y=true then some (.tup ((partT x y).map .str))else none
 |_,_=>none
theorem z0w:OpM K rPart partW:=by
 intro G H x xs wx ws w Q s px pr hf h;unfold partW at hf;split at hf
 ·rename_i x0 y0;split at hf
  ·rename_i ok;cases hf;obtain⟨y,r,rfl,py,pr⟩:=pr;cases(show r=[]from pr);cases(show x=V.str x0 from px);cases(show y=V.str y0 from py);exact⟨x0,y0,rfl,rfl,ok,λl hl=>h _ (.ref l) _ (Grow.laid s hl _) ⟨l,_,rfl,SqT.of q0k,q9c _⟩⟩
  ·cases hf
 ·cases hf
section
variable{o e:Expr}{d:Den W}{dA:Den (List W)}
theorem x1j(ho:DE Z X EE o d)(ha:DA Z X EE [e] dA)
  (hbase:attributeBase o "split" X.env (eval o X.env)=eval o X.env:=by rfl)
  (hfew:((backTo cpos (starEach [e] X.env)).all (λx=>!x.1)&&(backToKw cpos (keywordEach [] X.env)).all (λx=>x.1.isSome)&&decide ([e].length+([]:List Keyword).length+(if([]:List Keyword).isEmpty then 0 else 1)<30))=true:=by rfl)
  (hline:(apos.endLine==cpos.line)=true:=by rfl)(hs:starEach [e] X.env=(false,eval e X.env)::starEach [] X.env:=by rfl)(hplain:(backTo cpos (starEach [] X.env)).any (·.1)=false:=by rfl):
  DE Z X EE (.Call (.Attribute o "split" apos) [e] [] cpos) (dMeth "str" splitW d dA):=
 x3b PySem.F.plainAttrs_str PySem.F.slot_str_split PySem.F.type_str_split y5x y5y ho ha hbase hfew hline hs hplain
theorem z0x(ho:DE Z X EE o d)(ha:DA Z X EE [e] dA)
  (hbase:attributeBase o "partition" X.env (eval o X.env)=eval o X.env:=by rfl)
  (hfew:((backTo cpos (starEach [e] X.env)).all (λx=>!x.1)&&(backToKw cpos (keywordEach [] X.env)).all (λx=>x.1.isSome)&&decide ([e].length+([]:List Keyword).length+(if([]:List Keyword).isEmpty then 0 else 1)<30))=true:=by rfl)
  (hline:(apos.endLine==cpos.line)=true:=by rfl)(hs:starEach [e] X.env=(false,eval e X.env)::starEach [] X.env:=by rfl)(hplain:(backTo cpos (starEach [] X.env)).any (·.1)=false:=by rfl):
  DE Z X EE (.Call (.Attribute o "partition" apos) [e] [] cpos) (dMeth "str" partW d dA):=
 x3b PySem.F.plainAttrs_str PySem.F.slot_str_partition PySem.F.type_str_partition z0v z0w ho ha hbase hfew hline hs hplain
end
open PySem.Builtin.Str (occurrences partsBetween tooLong)
end D
namespace L2
open PySem PySem.Spec PyProof.Rows
end L2
namespace D
open PySem L2 PySem.Spec PyProof.Rows
open PyProof.Rows (envOfC)
end D
namespace L2
open PySem PySem.Spec PyProof.Rows
end L2
namespace D
open PySem L2 PySem.Spec PyProof.Rows
end D
namespace L2
open PySem PySem.Spec PyProof.Rows
end L2
namespace D
open PySem L2 PySem.Spec PyProof.Rows
open Classical
variable{X:Cx}{G H:Hp}{σ:L2.St}{EE:L2.St->XK}{ks:List Kx}{e:List S}{ws:List W}{i:Nat}{pos:Pos}{K:PySem.W.Frag}{sh:Sh}{Z:Zt}
mutual
noncomputable def kxW:W->Option Kx
 |.non=>some .non
 |.bl b=>some (.bl b)
 |.int i=>some (.int i)
 |.str x=>some (.str x)
 |.tup ws=>(kxWs ws).map .tup
 |_=>none
noncomputable def kxWs:List W->Option (List Kx)
 |[]=>some []
 |w::ws=>match kxW w,kxWs ws with
  |some k,some ks=>some (k::ks)
  |_,_=>none
end
noncomputable def lkW:List Kx->List W->Kx->Option W
 |k::ks,w::ws,x=>if k=x then some w else lkW ks ws x
 |_,_,_=>none
theorem DAt.rd{fz:Bool}{a:Addr}{kvs:List (Kx×V)}{kas:List Addr}(s:Same G H)(h:DAt fz G a sh kvs kas):Rd H a (dwO sh kvs kas):=by
 cases fz with
 |true=>obtain⟨o,h⟩:=h;exact .inr ⟨o,s _ _ h⟩
 |false=>exact .inl (s _ _ h)
section
variable{a b e k o:Expr}{es:List Expr}{da db d dk:Den W}{dA:Den (List W)}{p tpos:Pos}{x:Str}{body:List Stmt}{s1:List S->SR}
noncomputable def isDw:S->Bool
 |.dw _ _ _=>true
 |.dic _=>true
 |_=>false
theorem Rel.dwX{e:List S}(r:Rel K Z G σ H e)(h:e[i]?=some (.dw sh ks ws)):∃a kvs kas,σ[i]?=some (some (.ref a))/\H a=some (dwO sh kvs kas)/\G a=none/\Z.H a=none/\kvs.map (·.1)=ks/\KeysS sh G ks kas/\RepsX K Z G sh ws (kvs.map (·.2)):=by
 obtain⟨a,kvs,kas,h1,h2,h3,h4,h5,h6,h7⟩:=r.slot i _ h;refine⟨a,kvs,kas,?_,h2,h3,h4,h5,h6,h7⟩;cases q:σ[i]? with
 |none=>rw[q]at h1;cases h1
 |some z=>rw[q]at h1;rw[show z=some (V.ref a)from h1]
theorem Rel.dw{e:List S}(r:Rel K Z G σ H e)(h:e[i]?=some (.dw sh ks ws)):∃a kvs kas,σ[i]?=some (some (.ref a))/\H a=some (dwO sh kvs kas)/\G a=none/\Z.H a=none/\kvs.map (·.1)=ks/\KeysS sh G ks kas/\Reps K G ws (kvs.map (·.2)):=by
 obtain⟨a,kvs,kas,h1,h2,h3,h4,h5,h6,h7⟩:=r.dwX h;exact⟨a,kvs,kas,h1,h2,h3,h4,h5,h6,h7.reps⟩
theorem Rel.setS{e:List S}(r:Rel K Z G σ H e){s:S}{v:V}(hs:∀b ws,s≠.own b ws)(q:SlotOk K Z G H s (some v)):Rel K Z G (σ.set i (some v)) H (e.set i s):=by
 refine⟨r.sub,λj t z=>?_,by simpa using r.len,λj k b1 b2 w1 w2 c z1 z2 z3 z4=>?_,r.ent,r.ion,r.gen⟩
 ·by_cases hj:j=i
  ·subst hj
   have hi:j<e.length:=by
    have:=(w0m.mp z).1;simpa using this
   rw[w0n hi]at z;cases z;rw[w0n (by rw[<- r.len];exact hi)];exact q
  ·rw[w0f (λz=>hj z.symm)]at z |-
   exact r.slot j t z
 ·have old:∀(k:Nat)(bb:Option Nat)(ww:List W),(e.set i s)[k]?=some (.own bb ww)->k≠i/\e[k]?=some (.own bb ww):=λk bb ww z=>by
   by_cases hk:k=i
   ·subst hk
    have hi:k<e.length:=by
     have:=(w0m.mp z).1;simpa using this
    rw[w0n hi]at z;cases z;exact absurd rfl (hs _ _)
   ·rw[w0f (λz=>hk z.symm)]at z;exact⟨hk,z⟩
  obtain⟨n1,q1⟩:=old _ _ _ z1;obtain⟨n2,q2⟩:=old _ _ _ z2;rw[w0f (λz=>n1 z.symm)]at z3
  rw[w0f (λz=>n2 z.symm)]at z4
  exact r.dis _ _ _ _ _ _ _ q1 q2 z3 z4
theorem Rel.mutDw{e:List S}(r:Rel K Z G σ H e){sh:Sh}{ks':List Kx}{ws':List W}{a:Addr}{kvs':List (Kx×V)}{kas':List Addr}(h:e[i]?=some (.dw sh ks ws))(ha:σ[i]?=some (some (.ref a)))(ho:∀s∈e.set i .no,isDw s=false)
  (h5:kvs'.map (·.1)=ks')(h6:KeysS sh G ks' kas')(h7:RepsX K Z G sh ws' (kvs'.map (·.2))):Rel K Z G σ (upd H a (dwO sh kvs' kas')) (e.set i (.dw sh ks' ws')):=by
 obtain⟨a',kvs,kas,h1,h2,h3,h4,_⟩:=r.dw h;rw[ha]at h1;cases h1;have hi:i<e.length:=(w0m.mp h).1;refine⟨λc o z=>?_,λj s z=>?_,by simpa using r.len,λj k b1 b2 w1 w2 c z1 z2 z3 z4=>?_,λc o z n=>?_,λc z=>?_,r.gen⟩
 ·rw[q0g (q0p z h3)];exact r.sub c o z
 ·by_cases hj:j=i
  ·subst hj;rw[w0n hi]at z;cases z;exact⟨a,kvs',kas',by rw[ha];rfl,q0k,h3,h4,h5,h6,h7⟩
  ·rw[w0f (λz=>hj z.symm)]at z
   have y:=r.slot j s z;cases s with
   |no=>trivial
   |fr w=>exact y
   |own b2 w2=>
    obtain⟨c,ys,y1,y2,y3,y4,y5⟩:=y;refine⟨c,ys,y1,?_,y3,y4,y5⟩;rw[q0g (q3o y2 h2 (λz=>q81 rfl z.symm))];exact y2
   |dic _=>
    have:=ho _ (w1o (i:=j) (by rw[w0f (λz=>hj z.symm)];exact z))
    cases this
   |dw _ _ _=>
    have:=ho _ (w1o (i:=j) (by rw[w0f (λz=>hj z.symm)];exact z))
    cases this
 ·have old:∀(k:Nat)(bb:Option Nat)(ww:List W),(e.set i (S.dw sh ks' ws'))[k]?=some (.own bb ww)->e[k]?=some (.own bb ww):=λk bb ww z=>by
   by_cases hk:k=i
   ·subst hk;rw[w0n hi]at z;cases z
   ·rw[w0f (λz=>hk z.symm)]at z;exact z
  exact r.dis _ _ _ _ _ _ _ (old _ _ _ z1) (old _ _ _ z2) z3 z4
 ·rw[q0g (q0p z h4)];exact r.ent c o z n
 ·by_cases hc:c=a
  ·subst hc;rw[q0k];exact λz=>nomatch z
  ·rw[q0g hc];exact r.ion c z
noncomputable def setDI(i:Nat)(e:List S):FR->SR
 |.ok (.dw sh ks ws)=>.nx (e.set i (.fr (.dw false sh ks ws)))
 |_=>.no
noncomputable def dSetDI(i:Nat)(F:List W->FR)(dA:Den (List W)):List S->SR:=λe=>(dA e).stm λws e1=>setDI i e1 (F ws)
theorem y5z(i:Nat){f:Str}{k:Nat}{ps:List Str}{F:List W->FR}{np cpos:Pos}(hN:X.N.Nodup)(C:Cal X.prog X.w X.K X.mg X.base k f ps (spF X.K F))(hr:Room k X.A)(hx:PassX (CX1 X.prog X.w) X EE)(ha:DA Z X EE (e::es) dA)(hg:Gl X f:=by rfl)
  (hdb:(f==("__debug__":Str))=false:=by decide)(he:starEach (e::es) X.env=(false,eval e X.env)::starEach es X.env:=by rfl)(hpl:(backTo cpos (starEach es X.env)).any (·.1)=false:=by rfl)
  (hi:X.N[i]?=some x:=by rfl)(hl:Loc X.env.scope x:=by walk_at "3")(hs:swapsWith (.Call (.Name f np) (e::es) [] cpos) (some (.Name x p)) pos.line X.env=pure false:=by rfl)(hf:X.fn x=true\/X.env.scope.names.lookup x=some .local:=by walk_at "2"):
  DS Z X EE (.Assign [.Name x p] (.Call (.Name f np) (e::es) [] cpos) pos) (dSetDI i F dA):=by
 refine PS.mono (x11 i hN (x5u C hr hx ha hg hdb he hpl) hi hl hs hf) ?_;rintro D σ H ⟨G,e,rel,h⟩;refine⟨G,e,rel,(q0w h).imp (λws e1 h G1 vs H1 r1 s1 p1=>?_) λ_ _ h=>h⟩
 refine⟨G1,ws,r1.sub,by grind,?_⟩;cases q:F ws with
 |ok s=>
  rw[q]at h;intro G' H' v g sl;cases s with
  |dw sh ks ws'=>
   obtain⟨a,kvs,kas,h1,h2,h3,h4,h5,h6,h7⟩:=sl;cases h1;have hn:H1 a=none:=h4;have sg:Same G' (upd G' a (dwO sh kvs kas)):=q28 h3 _
   have g2:Grow G1 H1 (upd G' a (dwO sh kvs kas)) H':=
    ⟨g.hh,g.gg.trans sg,λc u z=>by
     by_cases hc:c=a
     ·grind [q0k]
     ·rw[q0g hc]at z;exact g.sub _ _ z,λc z=>by rw[q0g (λy=>z (by rw[y];exact hn))];exact g.new c z⟩
   exact h _ _ _ ((r1.grow g2).set (w:=.dw false sh ks ws') (v:=.ref a) ⟨a,kvs,kas,rfl,q0k,h5,h6.mono sg,Reps.mono sg ws' h7.reps⟩) (s1.trans g2.gg)
  |_=>exact h.elim
 |ex c=>rw[q]at h;exact h.elim
 |no=>rw[q]at h;exact h.elim
theorem y50{F:List W->FR}{e:List S}:dSetDI i F dA e=(dA e).stm λws e1=>setDI i e1 (F ws):=rfl
theorem y51{e:List S}:setDI i e (.ok (.dw sh ks ws))=.nx (e.set i (.fr (.dw false sh ks ws))):=rfl
noncomputable def retW(e:List S):Option S->SR
 |some (.dw sh ks ws)=>.rt (.dw sh ks ws) e
 |_=>.no
noncomputable def dRetW(i:Nat):List S->SR:=λe=>retW e e[i]?
theorem z0y(i:Nat)(hN:X.N[i]?=some x:=by rfl)(hv:Vis X.env.scope x:=by walk_at "1")(hd:(x==("__debug__":Str))=false:=by decide)(hcd:(x==("__classdict__":Str))=false:=by decide):
  DS Z X EE (.Return (some (.Name x p)) pos) (dRetW i):=by
 refine PS.mono (q8x (pv i hN hv hd hcd)) ?_;rintro D σ H ⟨G,e,rel,h⟩;unfold dRetW retW at h;split at h
 ·rename_i sh ks ws hw;obtain⟨a,kvs,kas,h1,h2,h3,h4,h5,h6,h7⟩:=rel.dwX hw;exact⟨.ref a,h1,h G σ (.ref a) H rel (.refl _) ⟨a,kvs,kas,rfl,h2,h3,h4,h5,h6,h7⟩⟩
 ·exact h.elim
end
section
variable{w kw dflt:W}{x:Kx}{fz:Bool}
theorem z0z:dRetW i e=retW e e[i]?:=rfl
theorem z6b:retW e (some (.dw sh ks ws))=.rt (.dw sh ks ws) e:=rfl
theorem z00:hide1 (.dw sh ks ws)=.fr (.dw false sh ks ws):=rfl
end
open PySem L2
section
variable{a b:Expr}{da db:Den W}
noncomputable def ixS(d w:W):Option W:=match d,w with
 |.dw _ .str ks ws,.str n=>lkW ks ws (.str n)
 |_,_=>none
theorem x8l{n:Str}:∀{kvs:List (Kx×V)}{ws:List W}{w:W},(∀k∈kvs.map (·.1),∃i,k=Kx.str i)->Reps K G ws (kvs.map (·.2))->lkW (kvs.map (·.1)) ws (.str n)=some w->∃v,valV (kvs.map λp=>(kxK p.1,p.2)) (.inr n:Key)=some v/\Rep K G w v
 |[],_,_,_,_,e=>by grind [lkW]
 |p::l,[],_,_,h,_=>nomatch (show(p::l).map (·.2)=[]from h)
 |p::l,w0::ws,w,hk,⟨y,r,e0,h1,h2⟩,e=>by
  injection e0 with e0 e0'
  subst e0;subst e0';obtain⟨i,hi⟩:=hk p.1 (by simp);have e:(if p.1=Kx.str n then some w0 else lkW (l.map (·.1)) ws (.str n))=some w:=e
  by_cases hp:p.1=Kx.str n
  ·rw[if_pos hp]at e;cases e;refine⟨p.2,?_,h1⟩;rw[w0g,hp];exact q6z rfl
  ·rw[if_neg hp]at e;obtain⟨v,h3,h4⟩:=x8l (λk hk'=>hk k (by grind)) h2 e
   refine⟨v,?_,h4⟩;rw[w0g,q60]
   ·exact h3
   ·intro z;rw[hi]at z hp;injection z with z
    exact hp (by rw[z])
theorem z6c:Op2 K (λx y H Q=>∃a v,x=.ref a/\DGet H a y (some v)/\Q v H) ixS:=by
 intro G H x y wx wy w Q s px py hf h;unfold ixS at hf;split at hf
 ·rename_i fz ks ws n;cases(show y=V.str n from py);obtain⟨a,kvs,kas,rfl,h1,rfl,h3,h4⟩:=px;obtain⟨v,e1,e2⟩:=x8l h3 h4 hf;have rd:Rd H a (.dK (kvs.map λp=>(kxK p.1,p.2))):=h1.rd s
  exact⟨a,v,rfl,.inl ⟨_,.inr n,rd,rfl,e1.symm⟩,h G v H (.refl s) e2⟩
 ·cases hf
theorem q2d(hu:X.A.units+150<cLine)(ha:DE Z X EE a da)(hb:DE Z X EE b db)(hs:NoSl b:=by intro _ _;rfl):DE Z X EE (.Subscript a b pos) (dOp ixS da db):=
 PE.mono (x8i (by omega) ha hb hs) (q4k z6c)
end
end D
namespace L2
open PySem PySem.Spec PyProof.Rows
end L2
namespace D
open PySem PySem.Spec L2 PyProof.Rows
section
variable{prog:Program}{w:World}{A:Around}{E:Value->Shared->Prop}{s:Shared}
noncomputable def IsZp(h:Heap)(z I O c:Addr)(f:Bool):Prop:=h.get? z=some {cls:=.type "zip", data:=.fields #[rawInt c,.bool f,.bool false,.ref I,.ref O]}
theorem alive{a:Addr}{o:Obj}{Q:Option Obj->Shared->Prop}(h:s.heap.get? a=some o)(q:Q (some o) s):wpAny (model prog w) A (loadIfAlive a) Q E s:=by
 intro Γ p _;show Sem.wp _ _ (Sem.loadIfAlive a Sem.pure) _ _ _ _;rw[Sem.wp_loadIfAlive,h];exact q
theorem x6l{z I O c:Addr}{f:Bool}{Q:Bool->Shared->Prop}{oc:Obj}(gz:IsZp s.heap z I O c f)(hc:s.heap.get? c=some oc)(hQ:∀h',IsZp h' z I O c true->Heap.SameBut z s.heap h'->Q false {s with heap:=h'}):
  wpAny (model prog w) A (Builtin.SmallTypes.ownedTupleIsFree (.ref z)) Q E s:=by
 unfold Builtin.SmallTypes.ownedTupleIsFree;refine wpAny_bind (wpAny_field gz rfl (x:=rawInt c) rfl ?_);show wpAny _ _ (loadIfAlive (((c:Nat):Int).toNat) >>= _) _ _ _;refine wpAny_bind (alive (o:=oc) hc ?_);show wpAny _ _ (field (.ref z) 1 >>= _) _ _ _;refine wpAny_bind (wpAny_field gz rfl (x:=.bool f) rfl ?_);cases f with
 |true=>exact wpAny_pure (hQ s.heap gz (Heap.SameBut.refl _ _))
 |false=>
  show wpAny _ _ (setField (.ref z) 1 (.bool true) >>= _) _ _ _;exact wpAny_bind (wpAny_setField_rec gz (by simp) λha za sa=>wpAny_pure (hQ ha za sa))
theorem y52{z I O i j a b c:Addr}{t u f:Bool}{k:Nat}{xs ys:Array Value}{x y:Value}{oc:Obj}{Q:Value->Shared->Prop}(D:Apart z I O i j a b)
  (gz:IsZp s.heap z I O c f)(hc:s.heap.get? c=some oc)(gI:IsPair s.heap I (.ref i) (.ref j))
  (g1:IsIt t i a k s.heap)(g2:IsIt u j b k s.heap)(l1:IsSq t a xs s.heap)(l2:IsSq u b ys s.heap)(hx:xs[k]?=some x)(hy:ys[k]?=some y)
  (hQ:∀h',IsZp h' z I O c true->IsIt t i a (k+1) h'->IsIt u j b (k+1) h'->IsPair h' s.heap.objs.size x y->h'.objs.size=s.heap.objs.size+1 ->
   (∀c o,c≠z->c≠i->c≠j->s.heap.get? c=some o->h'.get? c=some o)->Q (.ref s.heap.objs.size) {s with heap:=h'}):
  wpAny (model prog w) A (Builtin.«zip.__next__» ⟨[.ref z],[]⟩) (λfin s'=>∃v,fin=.done (.ret v)/\Q v s') E s:=by
 show wpAny _ _ (field (.ref z) 2 >>= _) _ _ _;refine wpAny_bind (wpAny_field gz rfl (x:=.bool false) rfl ?_);show wpAny _ _ (field (.ref z) 3 >>= _) _ _ _;refine wpAny_bind (wpAny_field gz rfl (x:=.ref I) rfl (wpAny_bind (wpAny_seqItems gI rfl ?_)));show wpAny _ _ (Builtin.SmallTypes.ownedTupleIsFree (.ref z) >>= _) _ _ _;refine wpAny_bind (x6l gz hc λha za sa=>?_)
 simp only[w3z,if_false];refine wpAny_bind ?_;simp only[<- w3d,w2b,w4c];refine wpAny_bind (wpAny_bind (wpAny_holding ?_));show wpAny _ _ (Builtin.SmallTypes.nextOf (.ref i) >>= _) _ _ _;refine wpAny_bind (q6l (s:={s with heap:=ha}) (g1.keep λo e=>sa.extBut _ _ D.iz e) (l1.keep λo e=>sa.extBut _ _ D.az e) hx λhb ib sb=>wpAny_pure (wpAny_pure (wpAny_bind (wpAny_bind (wpAny_holding ?_)))))
 show wpAny _ _ (Builtin.SmallTypes.nextOf (.ref j) >>= _) _ _ _;refine wpAny_bind (q6l (s:={s with heap:=hb}) (g2.keep λo e=>sb.extBut _ _ D.ij.symm (sa.extBut _ _ D.jz e)) (l2.keep λo e=>sb.extBut _ _ D.bi (sa.extBut _ _ D.bz e)) hy λhd jd sd=>wpAny_pure (wpAny_pure (wpAny_pure (wpAny_bind (wpAny_newTuple (wpAny_pure ⟨_,rfl,?_⟩) (by rw[sizeLine_eq];simp))))))
 have sz:hd.objs.size=s.heap.objs.size:=by rw[sd.1,sb.1,sa.1]
 have up:∀c o,c≠z->c≠i->c≠j->s.heap.get? c=some o->(hd.push {cls:=.type "tuple", data:=.seq #[x,y]}).get? c=some o:=λc o c1 c3 c4 e=>Heap.get?_push_of_some _ (sd.extBut _ _ c4 (sb.extBut _ _ c3 (sa.extBut _ _ c1 e)))
 show Q (.ref hd.objs.size) _;have tk:IsPair (hd.push {cls:=.type "tuple", data:=.seq #[x,y]}) hd.objs.size x y:=Heap.get?_push_size _ rfl;rw[sz]at tk |-
 exact hQ _ (Heap.get?_push_of_some _ (sd.extBut _ _ D.jz.symm (sb.extBut _ _ D.iz.symm za))) (ib.keep λo e=>Heap.get?_push_of_some _ (sd.extBut _ _ D.ij e)) (jd.keep λo e=>Heap.get?_push_of_some _ e) tk (by rw[Heap.size_push,sz]) up
theorem z01{z I O i j a b c:Addr}{t u f:Bool}{k:Nat}{xs ys:Array Value}{oc:Obj}{Q:Fin->Shared->Prop}(hh:A.handled=none)(D:Apart z I O i j a b)
  (gz:IsZp s.heap z I O c f)(hc:s.heap.get? c=some oc)(gI:IsPair s.heap I (.ref i) (.ref j))
  (g1:IsIt t i a k s.heap)(g2:IsIt u j b k s.heap)(l1:IsSq t a xs s.heap)(l2:IsSq u b ys s.heap)(hend:xs[k]?=none\/ys[k]?=none)
  (hE:∀h' e,(∀c o,c≠z->c≠i->c≠j->s.heap.get? c=some o->h'.get? c=some o)->(∃o,h'.get? e=some o/\o.cls=.type "StopIteration")->E (.ref e) {s with heap:=h'}):
  wpAny (model prog w) A (Builtin.«zip.__next__» ⟨[.ref z],[]⟩) Q E s:=by
 show wpAny _ _ (field (.ref z) 2 >>= _) _ _ _;refine wpAny_bind (wpAny_field gz rfl (x:=.bool false) rfl ?_);show wpAny _ _ (field (.ref z) 3 >>= _) _ _ _;refine wpAny_bind (wpAny_field gz rfl (x:=.ref I) rfl (wpAny_bind (wpAny_seqItems gI rfl ?_)));show wpAny _ _ (Builtin.SmallTypes.ownedTupleIsFree (.ref z) >>= _) _ _ _;refine wpAny_bind (x6l gz hc λha za sa=>?_)
 simp only[w3z,if_false];refine wpAny_bind ?_;simp only[<- w3d,w2b,w4c];refine wpAny_bind (wpAny_bind (wpAny_holding ?_));show wpAny _ _ (Builtin.SmallTypes.nextOf (.ref i) >>= _) _ _ _;cases hx:xs[k]? with
 |none=>exact wpAny_bind (x2c (s:={s with heap:=ha}) hh (g1.keep λo e=>sa.extBut _ _ D.iz e) (l1.keep λo e=>sa.extBut _ _ D.az e) hx λhb e sb ge=>hE hb e (λc o c1 c3 _ x=>sb _ _ c3 (sa.extBut _ _ c1 x)) ge)
 |some x=>
  have hy:ys[k]?=none:=by rcases hend with h|h;rw[hx]at h;cases h;exact h
  refine wpAny_bind (q6l (s:={s with heap:=ha}) (g1.keep λo e=>sa.extBut _ _ D.iz e) (l1.keep λo e=>sa.extBut _ _ D.az e) hx λhb ib sb=>wpAny_pure (wpAny_pure (wpAny_bind (wpAny_bind (wpAny_holding ?_)))))
  show wpAny _ _ (Builtin.SmallTypes.nextOf (.ref j) >>= _) _ _ _;exact wpAny_bind (x2c (s:={s with heap:=hb}) hh (g2.keep λo e=>sb.extBut _ _ D.ij.symm (sa.extBut _ _ D.jz e)) (l2.keep λo e=>sb.extBut _ _ D.bi (sa.extBut _ _ D.bz e)) hy λhd e sd ge=>hE hd e (λc o c1 c3 c4 x=>sd _ _ c4 (sb.extBut _ _ c3 (sa.extBut _ _ c1 x))) ge)
noncomputable def ZSt(h:Heap)(z I O i j a b:Addr)(t u:Bool)(k:Nat)(cs:List Addr):Prop:=
 IsPair h I (.ref i) (.ref j)/\IsIt t i a k h/\IsIt u j b k h/\match cs with
  |[]=>IsZip h z I O .none/\∃p q,IsPair h O p q
  |c::_=>∃f,IsZp h z I O c f
theorem z02{z I O i j a b:Addr}{t u:Bool}{k:Nat}{cs:List Addr}{xs ys:Array Value}{x y:Value}{Q:Option Value->Shared->Prop}(D:Apart z I O i j a b)(st:ZSt s.heap z I O i j a b t u k cs)(hcs:∀c∈cs,∃o,s.heap.get? c=some o)
  (l1:IsSq t a xs s.heap)(l2:IsSq u b ys s.heap)(hx:xs[k]?=some x)(hy:ys[k]?=some y)
  (hQ:∀h',ZSt h' z I O i j a b t u (k+1) (cs++[s.heap.objs.size])->IsPair h' s.heap.objs.size x y->h'.objs.size=s.heap.objs.size+1 ->
   (∀c o,c≠z->c≠O->c≠i->c≠j->s.heap.get? c=some o->h'.get? c=some o)->Q (some (.ref s.heap.objs.size)) {s with heap:=h'}):wpAny (model prog w) A (pyNext (.ref z)) Q E s:=by
 obtain⟨gI,g1,g2,st⟩:=st;cases cs with
 |nil=>
  obtain⟨gz,p,q,gO⟩:=st;exact x8g D gz gI gO g1 g2 l1 l2 hx hy λh' a1 a2 a3 a4 a5 a6 a7=>hQ h' ⟨a7 _ _ D.Iz D.IO D.Ii D.Ij gI,a3,a4,false,a1⟩ a5 a6 a7
 |cons c cs=>
  obtain⟨f,gz⟩:=st;obtain⟨oc,hc⟩:=hcs c w0h;have hT:s.TypeIs (.ref z) "zip":=⟨_,gz,rfl⟩;unfold pyNext;exact wpAny_bind (wpAny_attempt (wpAny_callSpecial?_slot (name:=Str.ofString "__next__") hT F.slot_zip_next (wpAny_call_entry F.slot_zip_next hT F.entry_zip_next (y52 D gz hc gI g1 g2 l1 l2 hx hy λh' a1 a3 a4 a5 a6 a7=>wpAny_pure (hQ h' ⟨a7 _ _ D.Iz D.Ii D.Ij gI,a3,a4,true,a1⟩ a5 a6 λc o c1 _ c3 c4 e=>a7 c o c1 c3 c4 e)) (F.args_zip_next_1 _))))
theorem z03{z I O i j a b:Addr}{t u:Bool}{k:Nat}{cs:List Addr}{xs ys:Array Value}{Q:Option Value->Shared->Prop}(hh:A.handled=none)(D:Apart z I O i j a b)(st:ZSt s.heap z I O i j a b t u k cs)(hcs:∀c∈cs,∃o,s.heap.get? c=some o)
  (l1:IsSq t a xs s.heap)(l2:IsSq u b ys s.heap)(hend:xs[k]?=none\/ys[k]?=none)
  (hQ:∀h',(∀c o,c≠z->c≠O->c≠i->c≠j->s.heap.get? c=some o->h'.get? c=some o)->Q none {s with heap:=h'}):wpAny (model prog w) A (pyNext (.ref z)) Q E s:=by
 obtain⟨gI,g1,g2,st⟩:=st;cases cs with
 |nil=>
  obtain⟨gz,p,q,gO⟩:=st;exact x8h hh D gz gI gO g1 g2 l1 l2 hend hQ
 |cons c cs=>
  obtain⟨f,gz⟩:=st;obtain⟨oc,hc⟩:=hcs c w0h;have hT:s.TypeIs (.ref z) "zip":=⟨_,gz,rfl⟩;unfold pyNext;refine wpAny_bind (wpAny_attempt (wpAny_callSpecial?_slot (name:=Str.ofString "__next__") hT F.slot_zip_next (wpAny_call_entry F.slot_zip_next hT F.entry_zip_next (z01 hh D gz hc gI g1 g2 l1 l2 hend λh' e hk he=>?_) (F.args_zip_next_1 _))))
  obtain⟨o,ho,hc⟩:=he;exact wpAny_bind (wpAny_isInstance (T:="StopIteration") (b:=true) ⟨o,ho,hc⟩ isSubtype_stop (wpAny_pure (hQ _ λc o c1 _ c3 c4 e=>hk c o c1 c3 c4 e)))
noncomputable def PairsAt(h:Heap)(cs:List Addr)(ps:List (Value×Value)):Prop:=cs.length=ps.length/\∀(k:Nat)(c:Addr)(p:Value×Value),cs[k]?=some c->ps[k]?=some p->IsPair h c p.1 p.2
theorem PairsAt.keep{h h':Heap}{cs:List Addr}{ps:List (Value×Value)}(pa:PairsAt h cs ps)(e:∀c∈cs,∀o,h.get? c=some o->h'.get? c=some o):PairsAt h' cs ps:=⟨pa.1,λk c p h1 h2=>e c (w1o h1) _ (pa.2 k c p h1 h2)⟩
theorem PairsAt.there{h:Heap}{cs:List Addr}{ps:List (Value×Value)}(pa:PairsAt h cs ps):∀c∈cs,∃o,h.get? c=some o:=λc hc=>by
 obtain⟨q,hq,e⟩:=w3u hc;exact⟨_,pa.2 q c (ps[q]'(by rw[<- pa.1];exact hq)) (by rw[w0b hq,e]) (w0b _)⟩
theorem PairsAt.snoc{h:Heap}{cs:List Addr}{ps:List (Value×Value)}{c:Addr}{p:Value×Value}(pa:PairsAt h cs ps)(e:IsPair h c p.1 p.2):PairsAt h (cs++[c]) (ps++[p]):=by
 refine⟨by simp[pa.1],λk c' p' h1 h2=>?_⟩
 by_cases hk:k<cs.length
 ·rw[w2u hk]at h1;rw[w2u (by rw[<- pa.1];exact hk)]at h2;exact pa.2 k c' p' h1 h2
 ·rw[w1j (by omega)]at h1;rw[w1j (by rw[<- pa.1];omega)]at h2;rw[<- pa.1]at h2;cases hq:k-cs.length with
  |zero=>rw[hq]at h1 h2;cases h1;cases h2;exact e
  |succ q=>rw[hq]at h1;simp at h1
theorem z04{z I O i j a b S:Addr}{t u:Bool}{xs ys:Array Value}{R:Result->Shared->Prop}{res:Value}(hh:A.handled=none)(D:Apart z I O i j a b)(hS:S∉[z,O,i,j,a,b,I])(hn:(xs.toList.zip ys.toList).length<=sizeLine):
  ∀(m k:Nat)(s:Shared)(cs:List Addr)(n:Nat),(xs.toList.zip ys.toList).length-k=m->k<=(xs.toList.zip ys.toList).length->ZSt s.heap z I O i j a b t u k cs->PairsAt s.heap cs ((xs.toList.zip ys.toList).take k)->(∀c∈cs,c∉[z,O,i,j,S])->(∀d∈[z,O,i,j,S],d<s.heap.objs.size)->IsSq t a xs s.heap->IsSq u b ys s.heap ->
  s.heap.get? S=some {cls:=.type "list", dict:=none,data:=.seq (cs.map Value.ref).toArray n,slots:=#[]} ->
  (∀h' cs' n',(∃tl,cs'=cs++tl/\(∀c∈tl,s.heap.objs.size<=c)/\tl.Nodup)->PairsAt h' cs' (xs.toList.zip ys.toList)->h'.get? S=some {cls:=.type "list", dict:=none,data:=.seq (cs'.map Value.ref).toArray n',slots:=#[]} ->
   (∀c o,c∉[z,O,i,j,S]->s.heap.get? c=some o->h'.get? c=some o)->R (.ok (.ret res)) {s with heap:=h'}) ->
  codeAny (model prog w) A (.builtin "list.extend.loop" ⟨[.ref S,.ref z,res],[]⟩) R s:=by
 simp only[w0d,w0k,or_false,not_or]at hS;obtain⟨Sz,SO,Si,Sj,Sa,Sb,SI⟩:=hS;have no:∀c,c∉[z,O,i,j,S]↔c≠z/\c≠O/\c≠i/\c≠j/\c≠S:=λc=>by simp only[w0d,w0k,or_false,not_or]
 intro m
 induction m with
 |zero=>
  intro k s cs n hk hle st pa hcS hlt l1 l2 hSs hR;have ek:k=(xs.toList.zip ys.toList).length:=by omega
  refine codeAny_builtin F.entry_extend_loop ?_;rw[Around.under_plainId F.plain_extend_loop _];show wpAny _ A.in1 (pyNext (.ref z) >>= _) _ _ s;refine wpAny_bind (z03 hh D st pa.there l1 l2 ?_ λh' kp=>?_)
  ·rw[w2p]at ek;rcases Nat.le_total xs.toList.length ys.toList.length with h|h
   ·left;rw[w2e h]at ek;simp at ek |-;omega
   ·right;rw[Nat.min_eq_right h]at ek;simp at ek |-;omega
  ·rw[ek,w2x]at pa;refine wpAny_pure (hR h' cs n ⟨[],by simp,(λc hc=>nomatch hc),.nil⟩ (pa.keep λc hc o e=>?_) (kp S _ Sz SO Si Sj hSs) λc o hc e=>?_)
   ·obtain⟨c1,c2,c3,c4,_⟩:=(no c).mp (hcS c hc);exact kp c o c1 c2 c3 c4 e
   ·obtain⟨c1,c2,c3,c4,_⟩:=(no c).mp hc;exact kp c o c1 c2 c3 c4 e
 |succ m ih=>
  intro k s cs n hk hle st pa hcS hlt l1 l2 hSs hR;have hlk:k<(xs.toList.zip ys.toList).length:=by omega
  have hlk2:=hlk;rw[w2p]at hlk2;have kx:k<xs.size:=by simp at hlk2;omega
  have ky:k<ys.size:=by simp at hlk2;omega
  refine codeAny_builtin F.entry_extend_loop ?_;rw[Around.under_plainId F.plain_extend_loop _];show wpAny _ A.in1 (pyNext (.ref z) >>= _) _ _ s;refine wpAny_bind (z02 D st pa.there l1 l2 (w4d kx) (w4d ky) λh' st' pr sz kp=>?_)
  have hSs':=kp S _ Sz SO Si Sj hSs;have hcl:cs.length=k:=by rw[pa.1,w4l];omega
  show wpAny _ A.in1 (updateSeq S (·.push (.ref s.heap.objs.size)) >>= _) _ _ _;refine wpAny_bind ?_;have hl5:∀d∈[z,O,i,j,S],d≠s.heap.objs.size:=λd hd=>w0t (hlt d hd)
  obtain⟨n2,en⟩:∃n2,Obj.mapSeq (·.push (.ref s.heap.objs.size)) {cls:=.type "list", dict:=none,data:=.seq (cs.map Value.ref).toArray n,slots:=#[]}={cls:=.type "list", dict:=none,data:=.seq ((cs++[s.heap.objs.size]).map Value.ref).toArray n2,slots:=#[]}:=⟨_,by rw[w0o];unfold Obj.mapSeq;simp only[List.push_toArray];rfl⟩;have up:∀c o,c≠S->h'.get? c=some o->(h'.update S (Obj.mapSeq (·.push (.ref s.heap.objs.size)))).get? c=some o:=λc o hc e=>(Heap.get?_update_other _ _ (Ne.symm hc)).trans e
  have hcS':∀c∈cs++[s.heap.objs.size],c∉[z,O,i,j,S]:=λc hc=>by
   rcases w1f.mp hc with hc|hc
   ·exact hcS c hc
   ·rw[w1k.mp hc];exact λz=>hl5 _ z rfl
  have szu:(h'.update S (Obj.mapSeq (·.push (.ref s.heap.objs.size)))).objs.size=s.heap.objs.size+1:=by rw[Heap.size_update];exact sz
  refine wpAny_updateSeq hSs' rfl (wpAny_pure ⟨plainId_quiet F.plain_extend_loop _,ih (k+1) _ (cs++[s.heap.objs.size]) n2 (by omega) hlk ?_ ?_ hcS' ?_ ?_ ?_ ((Heap.get?_update_self _ hSs' rfl).trans (by rw[en])) λh'' cs' n' hcs' pa' hS'' kp'=>?_⟩)
   (by simp;omega) (by simp;omega)
  ·obtain⟨q1,q2,q3,q4⟩:=st';refine⟨up _ _ (Ne.symm SI) q1,q2.keep λo e=>up _ _ (Ne.symm Si) e,q3.keep λo e=>up _ _ (Ne.symm Sj) e,?_⟩
   cases cs with
   |nil=>obtain⟨f,q4⟩:=q4;exact⟨f,up _ _ (Ne.symm Sz) q4⟩
   |cons c cs=>obtain⟨f,q4⟩:=q4;exact⟨f,up _ _ (Ne.symm Sz) q4⟩
  ·have:(xs.toList.zip ys.toList).take (k+1)=(xs.toList.zip ys.toList).take k++[(xs[k],ys[k])]:=by
    rw[w3j,w0b hlk];simp
   rw[this];refine((pa.keep λc hc o e=>?_).snoc pr).keep λc hc o e=>?_
   ·obtain⟨c1,c2,c3,c4,_⟩:=(no c).mp (hcS c hc);exact kp c o c1 c2 c3 c4 e
   ·exact up c o ((no c).mp (hcS' c hc)).2.2.2.2 e
  ·intro d hd;show d<(h'.update S _).objs.size;rw[szu];exact w1n (hlt d hd)
  ·exact l1.keep λo e=>up _ _ (Ne.symm Sa) (kp _ _ D.az D.aO D.ai D.aj e)
  ·exact l2.keep λo e=>up _ _ (Ne.symm Sb) (kp _ _ D.bz D.bO D.bi D.bj e)
  ·obtain⟨tl,rfl,htl,hnd⟩:=hcs'
   have htl:∀c∈tl,s.heap.objs.size+1<=c:=λc hc=>by
    have this:(h'.update S (Obj.mapSeq (·.push (.ref s.heap.objs.size)))).objs.size<=c:=htl c hc;rw[szu]at this;exact this
   refine hR h'' _ n' ⟨s.heap.objs.size::tl,by simp,λc hc=>?_,w1p.mpr ⟨λhm=>?_,hnd⟩⟩ pa' hS'' λc o hc e=>?_
   ·rcases w0d.mp hc with rfl|hc
    ·exact w0a _
    ·exact Nat.le_of_succ_le (htl c hc)
   ·exact absurd (htl _ hm) (Nat.not_succ_le_self _)
   ·obtain⟨c1,c2,c3,c4,c5⟩:=(no c).mp hc;exact kp' c o hc (up c o c5 (kp c o c1 c2 c3 c4 e))
theorem y53:typeLookup (.type "zip") "__len__"=pure none:=by rw[typeLookup_type,builtinLookup_eq_fast];kernel_rfl
theorem y2q:typeLookup (.type "zip") "__length_hint__"=pure none:=by rw[typeLookup_type,builtinLookup_eq_fast];kernel_rfl
theorem x7n{z I O i j a b:Addr}{t u:Bool}{xs ys:Array Value}{Q:List Value->Shared->Prop}(hh:A.handled=none)(D:Apart z I O i j a b)(gz:IsZip s.heap z I O .none)(gO:∃p q,IsPair s.heap O p q)(gI:IsPair s.heap I (.ref i) (.ref j))(g1:IsIt t i a 0 s.heap)(g2:IsIt u j b 0 s.heap)(l1:IsSq t a xs s.heap)(l2:IsSq u b ys s.heap)(hn:(xs.toList.zip ys.toList).length<=sizeLine)(hlt:∀d∈[z,O,i,j,a,b,I],d<s.heap.objs.size)
  (hQ:∀h' cs,(∀c∈cs,s.heap.objs.size<=c)->cs.Nodup->PairsAt h' cs (xs.toList.zip ys.toList)->(∀c o,c∉[z,O,i,j]->s.heap.get? c=some o->h'.get? c=some o)->Q (cs.map Value.ref) {s with heap:=h'}):wpAny (model prog w) A (collect (.ref z)) Q E s:=by
 have hSf:s.heap.objs.size∉[z,O,i,j,a,b,I]:=λhm=>w2g _ (hlt _ hm)
 have hSI:s.heap.objs.size≠z:=λe=>hSf (by rw[e];simp)
 have hT:∀h',(∀c o,s.heap.get? c=some o->h'.get? c=some o)->Shared.TypeIs {s with heap:=h'} (.ref z) "zip":=λh' up=>⟨_,up _ _ gz,rfl⟩
 have up1:∀c o,s.heap.get? c=some o->(s.heap.push {cls:=.type "list", data:=.seq ([]:List Value).toArray}).get? c=some o:=λc o e=>Heap.get?_push_of_some _ e
 unfold collect;refine wpAny_bind (wpAny_runValue (codeAny_builtin F.entry_proto_collect ?_));rw[Around.under_plainId F.plain_proto_collect _];show wpAny _ A.in1 (newList [] >>= λl=>again (.builtin "list.__iadd__" ⟨[l,.ref z],[]⟩)) _ _ s
 refine wpAny_bind (wpAny_newObj_type ?_);refine wpAny_pure ⟨plainId_quiet F.plain_list_iadd _,codeAny_builtin F.entry_list_iadd ?_⟩;rw[Around.under_plainId F.plain_list_iadd _];have hS1:(s.heap.push {cls:=.type "list", data:=.seq ([]:List Value).toArray}).get? s.heap.objs.size=some {cls:=.type "list", data:=.seq ([]:List Value).toArray}:=Heap.get?_push_size _ rfl;have h1:Builtin.List.listSameRef (.ref s.heap.objs.size) (.ref z)=false:=by simp[Builtin.List.listSameRef,hSI]
 show wpAny _ A.in1 (Builtin.List.listExtendWith (.ref s.heap.objs.size) (.ref z) (.ref s.heap.objs.size)) _ _ _;unfold Builtin.List.listExtendWith;refine wpAny_bind (wpAny_typeOf (hT _ up1) ?_);rw[if_neg (by rw[h1];decide)];refine wpAny_bind (wpAny_pyIter_zip (up1 _ _ gz) ?_);refine wpAny_bind (wpAny_holding ?_);unfold Builtin.List.listLengthHint;refine wpAny_bind (wpAny_specialOf (hT _ up1) y53 ?_);show wpAny _ A.in1 (specialOf (Value.ref z) (Str.ofString "__length_hint__") >>= _) _ _ _;refine wpAny_bind (wpAny_specialOf (hT _ up1) y2q ?_);refine wpAny_pure ?_
 show wpAny _ A.in1 (rule "list.extend.makes-room" >>= λ_=>Builtin.List.listTouch (.ref s.heap.objs.size) >>= λ_=>
  again (.builtin "list.extend.loop" ⟨[.ref s.heap.objs.size,.ref z,.ref s.heap.objs.size],[]⟩)) _ _ _
 refine wpAny_bind (wpAny_rule (wpAny_bind ?_));show wpAny _ A.in1 (updateSeq s.heap.objs.size (·.push .none) >>= λ_=>updateSeq s.heap.objs.size (·.pop)) _ _ _
 refine wpAny_bind (wpAny_updateSeq hS1 rfl ?_);have hS2:=Heap.get?_update_self (Obj.mapSeq (·.push Value.none)) hS1 rfl;refine wpAny_updateSeq hS2 rfl ?_;have hS3:=Heap.get?_update_self (Obj.mapSeq (·.pop)) hS2 rfl
 have oth:∀b o,s.heap.get? b=some o->(((s.heap.push {cls:=.type "list", data:=.seq ([]:List Value).toArray}).update s.heap.objs.size (Obj.mapSeq (·.push Value.none))).update s.heap.objs.size (Obj.mapSeq (·.pop))).get? b=some o:=
  λb o e=>(Heap.get?_update_other _ _ (w2n (Heap.lt_size e))).trans ((Heap.get?_update_other _ _ (w2n (Heap.lt_size e))).trans (up1 b o e))
 have sz3:(((s.heap.push {cls:=.type "list", data:=.seq ([]:List Value).toArray}).update s.heap.objs.size (Obj.mapSeq (·.push Value.none))).update s.heap.objs.size (Obj.mapSeq (·.pop))).objs.size=s.heap.objs.size+1:=by rw[Heap.size_update,Heap.size_update,Heap.size_push]
 refine wpAny_pure ⟨plainId_quiet F.plain_extend_loop _,z04 hh D hSf hn _ 0 _ [] _ rfl (w1d _) ⟨oth _ _ gI,g1.keep λo e=>oth _ _ e,g2.keep λo e=>oth _ _ e,oth _ _ gz,?_⟩ ⟨rfl,λ_ _ _ h=>nomatch h⟩ (λ_ h=>nomatch h) (λd hd=>?_) (l1.keep λo e=>oth _ _ e) (l2.keep λo e=>oth _ _ e) hS3 λh' cs n' hcs pa hS' kp=>?_⟩
 ·obtain⟨p,q,gO⟩:=gO;exact⟨p,q,oth _ _ gO⟩
 ·show d<_;rw[sz3];simp only[w0d,w0k,or_false]at hd;rcases hd with rfl|rfl|rfl|rfl|rfl
  ·exact w1n (hlt _ (by simp))
  ·exact w1n (hlt _ (by simp))
  ·exact w1n (hlt _ (by simp))
  ·exact w1n (hlt _ (by simp))
  ·exact Nat.lt_succ_self _
 ·obtain⟨tl,rfl,htl,hnd⟩:=hcs;show wpAny _ A (load s.heap.objs.size >>= _) _ _ _;refine wpAny_bind (wpAny_load hS' (wpAny_pure ?_));refine hQ h' _ (λc hc=>?_) hnd pa λc o hc e=>kp c o (λhm=>?_) (oth c o e)
  ·have:=htl c hc;have this:(((s.heap.push {cls:=.type "list", data:=.seq ([]:List Value).toArray}).update s.heap.objs.size (Obj.mapSeq (·.push Value.none))).update s.heap.objs.size (Obj.mapSeq (·.pop))).objs.size<=c:=this;rw[sz3]at this;omega
  ·simp only[w0d,w0k,or_false]at hm hc;rcases hm with h|h|h|h|h
   ·exact hc (.inl h)
   ·exact hc (.inr (.inl h))
   ·exact hc (.inr (.inr (.inl h)))
   ·exact hc (.inr (.inr (.inr h)))
   ·exact absurd (Heap.lt_size e) (by rw[h];exact w2g _)
theorem x4w(z I O i j a b:Addr)(t u:Bool)(xs ys:Array Value)(D:Apart z I O i j a b)(hn:(xs.toList.zip ys.toList).length<=sizeLine):
  Meets (Builtin.«tuple.__new__» ⟨[.type "tuple", .ref z],[]⟩)
   (λA R s=>A.handled=none/\IsZip s.heap z I O .none/\(∃p q,IsPair s.heap O p q)/\IsPair s.heap I (.ref i) (.ref j)/\IsIt t i a 0 s.heap/\IsIt u j b 0 s.heap/\IsSq t a xs s.heap/\IsSq u b ys s.heap/\(∀d∈[z,O,i,j,a,b,I],d<s.heap.objs.size) /\
    ∀h' cs,(∀c∈cs,s.heap.objs.size<=c)->cs.Nodup->PairsAt h' cs (xs.toList.zip ys.toList)->(∀c o,c∉[z,O,i,j]->s.heap.get? c=some o->h'.get? c=some o) ->
    R (.ok (.ret (.ref h'.objs.size))) {s with heap:=h'.push {cls:=.type "tuple", data:=.seq (cs.map Value.ref).toArray}}):=
 .of_wp λprog w A R s h=>by
  obtain⟨hh,gz,gO,gI,g1,g2,l1,l2,hlt,h⟩:=h;have hsub:=sub_tuple_self;have hinit:=init_tuple_lookup;have hmh:=madeHere_tuple;have hT:s.TypeIs (.ref z) "zip":=⟨_,gz,rfl⟩;have hh1:A.in1.handled=none:=hh
  wp_walk using wpAny_typeOf hT,x7n hh1 D gz gO gI g1 g2 l1 l2 hn hlt
  intro h' cs hc hnd pa kp;show wpAny _ _ (Builtin.Tuple.tupleExact (cs.map Value.ref).toArray >>= λv=>ret v) _ _ _
  unfold Builtin.Tuple.tupleExact;refine wpAny_bind (wpAny_newObj_type ?_ (show(cs.map Value.ref).toArray.size<=sizeLine by rw[w2c,w0i,pa.1];exact hn));exact wpAny_pure ⟨_,rfl,h h' cs hc hnd pa kp⟩
end
end D
namespace L2
open PySem PySem.Spec PyProof.Rows
theorem Inv.adopt{X:Cx}{pins:List (Addr×Obj)}{σ:St}{H:Hp}{s:Shared}{p:Addr}{o:HO}(I:Inv X pins σ H s)(f:FpOk X pins H p)(new:ObjOk X.prog X.w (upd H p o) s.heap p o):Inv X pins σ (upd H p o) s:=by
 obtain⟨hn,hl,hf,h0,hc,hpn⟩:=f;refine⟨I.ok,I.os,I.bare,⟨I.base.keep,I.base.slot,λb u h1 h2 h3=>?_,I.base.there,λb xs h1=>?_,λb u v h1=>?_,λb ps h1=>?_⟩,I.loc,I.cell,?_,λx c h1=>?_,λq hq=>?_,λb u h1=>?_,I.len⟩
 ·rw[q0g (λz=>?_)]
  ·exact I.base.free b u h1 h2 h3
  ·subst z;exact h0.elim h3 λz=>absurd (w0q (Heap.lt_size h1) z) (w2g _)
 ·have:=I.base.tups b xs h1;rw[q0g (q0p this hn)];exact this
 ·have:=I.base.frzs b u v h1;rw[q0g (q0p this hn)];exact this
 ·obtain⟨m,this⟩:=I.base.tbls b ps h1;exact⟨m,by rw[q0g (q0p this hn)];exact this⟩
 ·rw[q0g (Ne.symm hl)];exact I.free
 ·rw[q0g (hc x c h1)];exact I.freeC x c h1
 ·obtain⟨a1,a2,a3,a4,a5⟩:=I.pin q hq;exact⟨a1,by rw[q0g (hpn q hq)];exact a2,a3,a4,a5⟩
 ·by_cases hb:b=p
  ·subst hb;rw[q0k]at h1;cases h1;exact new
  ·rw[q0g hb]at h1;exact(I.hok b u h1).stay (λc v _ q=>q) (λc q=>by rw[q0g (q0p q hn)];exact q) λc xs _ q=>by rw[q0g (q0p q hn)];exact q
end L2
namespace D
open PySem PySem.Spec L2 PyProof.Rows
noncomputable def layP(H:Hp):List Addr->List (V×V)->Hp
 |c::cs,p::ps=>layP (upd H c (.tup [p.1,p.2])) cs ps
 |_,_=>H
theorem x6m{X:Cx}{pins:List (Addr×Obj)}{σ:L2.St}{s:Shared}:∀{cs:List Addr}{ps:List (V×V)}{qs:List (Value×Value)}{H:Hp},Inv X pins σ H s->(∀c∈cs,FpOk X pins H c)->cs.Nodup->PairsAt s.heap cs qs->ps.length=qs.length->(∀(k:Nat)(p:V×V)(q:Value×Value),ps[k]?=some p->qs[k]?=some q->RelV p.1 q.1/\RelV p.2 q.2)->Inv X pins σ (layP H cs ps) s
 |[],_,_,_,I,_,_,_,_,_=>I
 |_::_,[],_,_,I,_,_,_,_,_=>I
 |_::_,_::_,[],_,_,_,_,_,h,_=>by cases h
 |c::cs,p::ps,q::qs,H,I,hf,hn,hp,hl,hr=>by
  have hc:=hp.2 0 c q rfl rfl;obtain⟨r1,r2⟩:=hr 0 p q rfl rfl;obtain⟨n1,n2⟩:=w1p.mp hn;have I2:Inv X pins σ (upd H c (.tup [p.1,p.2])) s:=I.adopt (hf c w0h) ⟨by rw[sizeLine_eq];simp,[q.1,q.2],.cons r1 (.cons r2 .nil),⟨_,hc,rfl,_,rfl⟩,⟨_,hc,rfl⟩⟩;show L2.Inv X pins σ (layP (upd H c (.tup [p.1,p.2])) cs ps) s;refine x6m (qs:=qs) I2 (λd hd=>?_) n2 ⟨by have:=hp.1;simpa using this,λk c' p' h1 h2=>hp.2 (k+1) c' p' h1 h2⟩ (by simpa using hl) λk p' q' h1 h2=>hr (k+1) p' q' h1 h2
  obtain⟨f1,f2⟩:=hf d (w0e _ hd);exact⟨by rw[q0g (λz=>n1 (by rw[<- z];exact hd))];exact f1,f2⟩
noncomputable def tTupZip(K:PySem.W.Frag)(ta:TA):TE:=λσ H Q=>ta σ H λvs H1=>∃t u a b xs ys,vs=[.ref a,.ref b]/\SqG K t H1 a xs/\SqG K u H1 b ys/\(xs.zip ys).length<=sizeLine/\∀cs l,cs.length=(xs.zip ys).length->cs.Nodup->(∀c∈cs,H1 c=none)->layP H1 cs (xs.zip ys) l=none->Q (.ref l) (upd (layP H1 cs (xs.zip ys)) l (.tup (cs.map V.ref)))
theorem x4d:∀cs:List Addr,Vals (cs.map V.ref) (cs.map Value.ref)
 |[]=>.nil
 |_::cs=>.cons rfl (x4d cs)
theorem Vals.rel{xs:List V}{us:List Value}(h:Vals xs us){k:Nat}{x:V}{u:Value}(h1:xs[k]?=some x)(h2:us[k]?=some u):RelV x u:=by
 obtain⟨v,hv,r⟩:=h.get h1;rw[h2]at hv;cases hv;exact r
theorem y2r{X:Cx}{a1 a2:Expr}{ta:TA}{p1 p2 pos1 pos2:Pos}(hc:X.calm=true)(hm1:X.mg "tuple"=none)(hm2:X.mg "zip"=none)(ha:PA X [a1,a2] ta)(hg1:Gl X "tuple":=by rfl)(hg2:Gl X "zip":=by rfl)
  (hs1:starEach [.Call (.Name "zip" p2) [a1,a2] [] pos2] X.env=(false,eval (.Call (.Name "zip" p2) [a1,a2] [] pos2) X.env)::starEach [] X.env:=by rfl)(hs:starEach [a1,a2] X.env=[(false,eval a1 X.env),(false,eval a2 X.env)]:=by rfl)(hs2:starEach [a2] X.env=[(false,eval a2 X.env)]:=by rfl):
  PE X (.Call (.Name "tuple" p1) [.Call (.Name "zip" p2) [a1,a2] [] pos2] [] pos1) (tTupZip X.K ta):=by
 intro pins s σ H Q I h;refine wpAny_Call_Name_kw (q3y I hg1 hm1 PyProof.Rows.Boot.«tuple» ?_ (by decide));refine PyProof.Rows.callWith_type1 ?_ hs1 rfl;rw[hs1];show wpAny _ _ (spliced ((false,eval (.Call (.Name "zip" p2) [a1,a2] [] pos2) X.env)::backTo pos1 (starEach [] X.env))) _ _ s;refine Calls.spliced_cons ?_;refine PyProof.Rows.Call_ (q3y I hg2 hm2 PyProof.Rows.boot_zip (PyProof.Rows.callWith_type1 (thn (ha pos2 pins s σ H _ I h) λus s1 ⟨vs,H1,I1,r1,q1⟩=>?_) (by rw[hs,hs2]) (by rw[hs2];rfl)))
 obtain⟨t,u,a,b,xs,ys,e,hx,hy,hz,q⟩:=q1;subst e;obtain⟨u1,u2,rfl,r1,r2⟩:=r1.two;cases r1;cases r2;obtain⟨is1,v1,k1⟩:=q5y I1 hx;obtain⟨is2,v2,k2⟩:=q5y I1 hy;obtain⟨oa,ea,_⟩:=k1.obj;obtain⟨ob,eb,_⟩:=k2.obj;have la:=Heap.lt_size ea;have lb:=Heap.lt_size eb;refine x39 k1 k2 λh1 z1 i1 o1 g1 g2 up=>?_
 refine Calls.spliced_nil ?_
 have D:Apart (s1.heap.objs.size+4) (s1.heap.objs.size+2) (s1.heap.objs.size+3) s1.heap.objs.size (s1.heap.objs.size+1) a b:=by
  have la':(a:Nat)<s1.heap.objs.size:=la;have lb':(b:Nat)<s1.heap.objs.size:=lb;generalize s1.heap.objs.size=n at la' lb';exact x4a n a b la' lb'
 have hh:X.A.handled=none:=I1.ok.hd hc;have hsz:(is1.toArray.toList.zip is2.toArray.toList).length=(xs.zip ys).length:=by simp[<- v1.length,<- v2.length]
 have zlt:=Heap.lt_size z1
 refine callType_new F.called_tuple (by decide) (F.typeCall_tuple_1 _) (F.newCall_tuple_1 _) (λobj=>F.args_object_init_2 obj _) F.entry_tuple_new
  (x4w _ _ _ _ _ a b t u is1.toArray is2.toArray D (by rw[hsz];exact hz)) ⟨hh,z1,⟨_,_,o1⟩,i1,g1,g2,k1.keep λo e=>up _ _ e,k2.keep λo e=>up _ _ e,λd hd=>?_,λh' cs hcs hnd pa kp=>⟨⟨_,Heap.get?_push_size _ rfl,rfl⟩,?_⟩⟩
 ·show d<h1.objs.size;have z4:(s1.heap.objs.size+4:Nat)<h1.objs.size:=zlt;have la':(a:Nat)<s1.heap.objs.size:=la;have lb':(b:Nat)<s1.heap.objs.size:=lb;simp only[w0d,w0k,or_false]at hd;rcases hd with rfl|rfl|rfl|rfl|rfl|rfl|rfl
  ·exact z4
  ·show(s1.heap.objs.size+3:Nat)<_;omega
  ·show(s1.heap.objs.size:Nat)<_;omega
  ·show(s1.heap.objs.size+1:Nat)<_;omega
  ·exact w5f la (by show(s1.heap.objs.size:Nat)<h1.objs.size;omega)
  ·exact w5f lb (by show(s1.heap.objs.size:Nat)<h1.objs.size;omega)
  ·show(s1.heap.objs.size+2:Nat)<_;omega
 ·have hcs':∀c∈cs,s1.heap.objs.size<=c:=λc hc=>by
   have h2:h1.objs.size<=c:=hcs c hc;have z4:(s1.heap.objs.size+4:Nat)<h1.objs.size:=zlt;show(s1.heap.objs.size:Nat)<=c;exact w0s (by omega) h2
  have fr:∀c∈cs,H1 c=none:=λc hc=>I1.hok.fresh (hcs' c hc)
  have I2:Inv X pins σ H1 {s1 with heap:=h',toks:=s1.toks}:=x0w (fp:=[s1.heap.objs.size+4,s1.heap.objs.size+3,s1.heap.objs.size,s1.heap.objs.size+1]) I1 (λc o hc e=>kp c o hc (up c o e)) λc hc=>by
   simp only[w0d,w0k,or_false]at hc;rcases hc with rfl|rfl|rfl|rfl<;>exact I1.fpOk (by omega) (I1.hok.fresh (by omega))
  have I3:Inv X pins σ (layP H1 cs (xs.zip ys)) {s1 with heap:=h',toks:=s1.toks}:=x6m I2 (λc hc=>I1.fpOk (hcs' c hc) (fr c hc)) hnd pa hsz.symm λk p q e1 e2=>by
   obtain⟨f1,f2⟩:=w2t.mp e1;obtain⟨f3,f4⟩:=w2t.mp e2;exact⟨Vals.rel v1 f1 (by simpa using f3),Vals.rel v2 f2 (by simpa using f4)⟩
  have hfr:=I3.hok.fresh (w0a h'.objs.size);have lc:cs.length=(xs.zip ys).length:=by rw[pa.1,hsz]
  have I4:=I3.laid (h':=h'.push {cls:=.type "tuple", data:=.seq (cs.map Value.ref).toArray}) (t':=s1.toks) (a:=h'.objs.size) (o:=.tup (cs.map V.ref)) (λb o e=>Heap.get?_push_of_some _ e) (w0a _) ⟨by rw[w0i,lc];exact hz,cs.map Value.ref,x4d cs,IsTup.new _ _,_,Heap.get?_push_size _ rfl,rfl⟩
  exact⟨.ref h'.objs.size,_,I4,rfl,q cs _ lc hnd fr hfr⟩
noncomputable def pairW(us vs:List W):List W:=(us.zip vs).map λp=>.tup [p.1,p.2]
noncomputable def zip1:List W->Option W
 |[x,y]=>match seqW x,seqW y with
  |some us,some vs=>if(us.zip vs).length<=16777216 then some (.tup (pairW us vs))else none
  |_,_=>none
 |_=>none
theorem x4e{K:PySem.W.Frag}:∀{cs:List Addr}{us vs:List W}{xs ys:List V}{G H:Hp},Same G H->cs.Nodup->(∀c∈cs,H c=none)->cs.length=(xs.zip ys).length->Reps K G us xs->Reps K G vs ys->∃G',Grow G H G' (layP H cs (xs.zip ys))/\Reps K G' (pairW us vs) (cs.map V.ref)
 |cs,[],vs,xs,ys,G,H,sg,_,_,hl,r1,_=>by
  cases(show xs=[]from r1);cases cs with
  |nil=>exact⟨G,.refl sg,rfl⟩
  |cons _ _=>cases hl
 |cs,_::_,[],xs,ys,G,H,sg,_,_,hl,_,r2=>by
  cases(show ys=[]from r2);rw[List.zip_nil_right]at hl |-
  cases cs with
  |nil=>exact⟨G,.refl sg,rfl⟩
  |cons _ _=>cases hl
 |[],u::us,v::vs,xs,ys,G,H,sg,_,_,hl,r1,r2=>by
  obtain⟨x,xs',rfl,_,_⟩:=r1;obtain⟨y,ys',rfl,_,_⟩:=r2;cases hl
 |c::cs,u::us,v::vs,xs,ys,G,H,sg,hn,hf,hl,r1,r2=>by
  obtain⟨x,xs',rfl,p1,r1⟩:=r1;obtain⟨y,ys',rfl,p2,r2⟩:=r2;obtain⟨n1,n2⟩:=w1p.mp hn;have g:=Grow.laid sg (hf c w0h) (.tup [x,y]);obtain⟨G',g',r'⟩:=x4e (K:=K) (cs:=cs) (us:=us) (vs:=vs) (xs:=xs') (ys:=ys') (G:=upd G c (.tup [x,y])) (H:=upd H c (.tup [x,y])) g.sub n2 (λd hd=>by rw[q0g (λz=>n1 (by rw[<- z];exact hd))];exact hf d (w0e _ hd)) (by simpa using hl) (Reps.mono g.gg _ r1) (Reps.mono g.gg _ r2)
  refine⟨G',g.trans g',⟨.ref c,cs.map V.ref,rfl,?_,r'⟩⟩;exact⟨c,[x,y],rfl,SqT.of (g'.gg c _ q0k),⟨x,[y],rfl,Rep.mono (g.gg.trans g'.gg) u p1,⟨y,[],rfl,Rep.mono (g.gg.trans g'.gg) v p2,rfl⟩⟩⟩
section
variable{X:Cx}{Z:Zt}{EE:L2.St->XK}{a1 a2:Expr}{dA:Den (List W)}
theorem y2s{p1 p2 pos1 pos2:Pos}(hc:X.calm=true)(hm1:X.mg "tuple"=none)(hm2:X.mg "zip"=none)(ha:DA Z X EE [a1,a2] dA)(hg1:Gl X "tuple":=by rfl)(hg2:Gl X "zip":=by rfl)
  (hs1:starEach [.Call (.Name "zip" p2) [a1,a2] [] pos2] X.env=(false,eval (.Call (.Name "zip" p2) [a1,a2] [] pos2) X.env)::starEach [] X.env:=by rfl)(hs:starEach [a1,a2] X.env=[(false,eval a1 X.env),(false,eval a2 X.env)]:=by rfl)(hs2:starEach [a2] X.env=[(false,eval a2 X.env)]:=by rfl):
  DE Z X EE (.Call (.Name "tuple" p1) [.Call (.Name "zip" p2) [a1,a2] [] pos2] [] pos1) (dFn zip1 dA):=by
 refine PE.mono (y2r hc hm1 hm2 ha hg1 hg2 hs1 hs hs2) ?_;rintro σ H Q ⟨G,e,rel,h⟩;simp only[dFn,R.holds_bind,ofOpt_holds]at h;refine⟨G,e,rel,h.imp (λws e1 h G1 vs H1 r1 s1 p1=>?_) λ_ _ h=>h⟩
 obtain⟨out,hf,h⟩:=h;unfold zip1 at hf;split at hf
 ·rename_i x y;split at hf
  ·rename_i us vs' hx hy;split at hf
   ·rename_i hz;cases hf;obtain⟨v1,r,rfl,q1,⟨v2,r',e2,q2,q3⟩⟩:=p1;subst e2;cases(show r'=[]from q3);obtain⟨t,a,xs,rfl,g1,g2⟩:=x0b hx q1;obtain⟨u,b,ys,rfl,g3,g4⟩:=x0b hy q2;refine⟨t,u,a,b,xs,ys,rfl,q04 r1.sub g1,q04 r1.sub g3,by rw[w2p,g2.length,g4.length,<- w2p,sizeLine_eq];exact hz,λcs l lc hnd hcs hl=>?_⟩
    obtain⟨G',g',r'⟩:=x4e (K:=X.K) r1.sub hnd hcs lc g2 g4;have g'':=Grow.laid g'.sub hl (.tup (cs.map V.ref));have g:=g'.trans g'';exact h _ _ _ (r1.grow g) (s1.trans g.gg) ⟨l,_,rfl,SqT.of q0k,Reps.mono g''.gg _ r'⟩
   ·cases hf
  ·cases hf
 ·cases hf
end
end D
namespace L2
open PySem PySem.Spec PyProof.Rows
variable{X:Cx}{es:List Expr}{ks:List Str}{t:TA}
noncomputable def keyLits:List (Option Expr)->Option (List Str)
 |[]=>some []
 |some (.Constant (.str k) _ _)::r=>(keyLits r).map (k::·)
 |_=>none
theorem q9d{o:Option Expr}{r:List (Option Expr)}(h:keyLits (o::r)=some ks):∃k kk p ks',o=some (.Constant (.str k) kk p)/\keyLits r=some ks'/\ks=k::ks':=by
 unfold keyLits at h;split at h
 ·rename_i h2;cases h2
 ·rename_i k kk p r' e;cases e;obtain⟨ks',h1,h2⟩:=w0w.mp h;exact⟨k,kk,p,ks',rfl,h1,h2.symm⟩
 ·cases h
noncomputable def kz(ks:List Str)(vs:List V):List (Key×V):=(ks.map Sum.inr).zip vs
noncomputable def PV(X:Cx)(es:List Expr)(t:TA):Prop:=
 ∀(keys:List (Option Expr))(ks:List Str),keyLits keys=some ks->keys.length=es.length->∀(pos:Pos)(pins:List (Addr×Obj))(s:Shared)(σ:St)(H:Hp)(Q:List V->Hp->Prop),Inv X pins σ H s->t σ H Q ->
  wpAny (model X.prog X.w) X.A (evalPairs (pairTrees keys es X.env pos)) (λus s'=>∃vs H' kv,Inv X pins σ H' s'/\vs.length=ks.length/\Carries (mixKind X.prog X.w) us kv/\KV (kz ks vs) kv/\Q vs H') X.xe s
theorem z6d:PV X [] tNil:=by
 intro keys ks hk hl pos pins s σ H Q I h;cases keys with
 |cons _ _=>cases hl
 |nil=>cases hk;exact evalPairs_nil ⟨[],H,[],I,rfl,trivial,.nil,h⟩
theorem z05{e:Expr}{te:TE}(he:PE X e te)(hr:PV X es t):PV X (e::es) (tCons te t):=by
 intro keys ks hk hl pos pins s σ H Q I h;cases keys with
 |nil=>cases hl
 |cons o r=>
  obtain⟨k,kk,p,ks',rfl,h1,rfl⟩:=q9d hk;show wpAny _ _ (evalPairs ((eval (.Constant (.str k) kk p) X.env,do let x <- eval e X.env;standAt pos;pure x)::pairTrees r es X.env pos)) _ _ _;refine evalPairs_cons (thn (y0o (X:=X) pins s σ H (λv H1=>v=.str k/\H1=H) I ⟨rfl,rfl⟩) λku s1 ⟨v,H1,I1,rk,e1,e2⟩=>?_)
  subst e1 e2;refine wpAny_bind (thn (he pins s1 σ H1 _ I1 h) λvu s2 ⟨v,H2,I2,rv,q⟩=>wpAny_bind (wpAny_standAt (wpAny_pure ?_)))
  refine thn (hr r ks' h1 (by simpa using hl) pos pins s2 σ H2 _ I2 q) λus s3 ⟨vs,H3,kv,I3,l3,c3,kv3,q3⟩=>?_
  exact⟨v::vs,H3,(.inr k,vu)::kv,I3,by simp[l3],⟨x5b (k:=.inr k) rk,rfl,c3⟩,.cons ⟨rfl,rv⟩ kv3,q3⟩
theorem PV.mono{t':TA}(h:PV X es t)(m:∀σ H Q,t' σ H Q->t σ H Q):PV X es t':=λkeys ks hk hl pos pins s σ H Q I q=>h keys ks hk hl pos pins s σ H Q I (m σ H Q q)
noncomputable def tDS(ks:List Str)(t:TA):TE:=λσ H Q=>t σ H λvs H1=>∀p,H1 p=none->Q (.ref p) (upd H1 p (.dK (kz ks vs)))
noncomputable def okKeys(keys:List (Option Expr))(ks:List Str):Bool:=decide (keyLits keys=some ks)&&decide (ks.length<=15)&&decide (ks≠[])&&decide ks.Nodup
theorem x0y:∀{keys:List (Option Expr)}{ks:List Str},keyLits keys=some ks->keys.all (·.isSome)=true/\keys.length=ks.length
 |[],_,h=>by cases h;exact⟨rfl,rfl⟩
 |o::r,ks,h=>by
  obtain⟨k,kk,p,ks',rfl,h1,rfl⟩:=q9d h;obtain⟨a,b⟩:=x0y h1;exact⟨by rw[w2h,a];rfl,by simp[b]⟩
theorem x6n{vs:List V}(h:vs.length=ks.length):(kz ks vs).length=ks.length:=by simp[kz,h]
theorem z06{vs:List V}(h:vs.length=ks.length):(kz ks vs).map (·.1)=ks.map Sum.inr:=by
 unfold kz;rw[List.map_fst_zip];simp[h]
theorem y7l{keys:List (Option Expr)}{pos:Pos}(ok:okKeys keys ks=true)(hl:keys.length=es.length)(h:PV X es t):PE X (.Dict keys es pos) (tDS ks t):=by
 intro pins s σ H Q I q;simp only[okKeys,w0l,decide_eq_true_eq]at ok;obtain⟨⟨⟨k1,k2⟩,k3⟩,k4⟩:=ok;obtain⟨ka,kl⟩:=x0y k1;refine wpAny_Dict_any ka hl (λz=>by subst z;cases k1;exact k3 rfl) (by omega) ?_
 have fr:H s.heap.objs.size=none:=I.hok.fresh (w0a _);have f:=I.fpOk (w0a _) fr
 have I0:Inv X ((s.heap.objs.size,{cls:=.type "dict", data:=.dict #[]})::pins) σ H {s with heap:=s.heap.push {cls:=.type "dict", data:=.dict #[]}}:=(I.kept (t':=s.toks) (λb u z=>Heap.get?_push_of_some _ z)).pins_of λp hp=>by
  rcases w0d.mp hp with rfl|hp
  ·exact⟨Heap.get?_push_size _ rfl,fr,f.2.1,f.2.2.1,λ_ z=>nomatch z⟩
  ·obtain⟨a1,a2⟩:=I.pin p (w0c _ hp);exact⟨Heap.get?_push_of_some _ a1,a2⟩
 have hd:(s.heap.objs.size==sysModules)=false:=beq_eq_false_iff_ne.mpr (Ne.symm (w0t I.big));refine thn (h keys ks k1 hl pos _ _ σ H _ I0 q) λus s1 ⟨vs,H1,kv,I1,l1,c1,kv1,q1⟩=>?_
 have hp:=(I1.pin _ (w0c _ w0h));have I2:Inv X pins σ (upd H1 s.heap.objs.size (.dK [])) s1:=(I1.pins_of λq hq=>I1.pin q (w0c _ (w0e _ hq))).adopt ⟨hp.2.1,f.2⟩ ⟨w1d _,hd,[],.nil,⟨_,#[],0,hp.1,⟨rfl,rfl,rfl⟩,rfl,(λ_ he=>by simp at he),Pairs.nil,w2v⟩⟩
 obtain⟨z,hd',xs,rel,dd⟩:=x5d I2.hok (q0k (H:=H1) (a:=s.heap.objs.size) (o:=.dK []));cases rel;have hkv:kv.length=ks.length:=by have:=congrArg List.length kv1.keys;simp only[w0i]at this;rw[<- this,x6n l1]
 have hm:merged [] kv=kv:=merged_nil_of_nodup kv (by
  rw[<- kv1.keys,z06 l1];exact(List.pairwise_map.mpr (k4.imp λz h=>z (by injection h))))
 refine wpAny_storeAll (knd:=mixKind X.prog X.w) us kv [] s1 _ c1 dd (by rw[sizeLine_eq,hkv];simp;omega) λh' dd' hs=>?_
 rw[hm]at dd';have he:∃q,h'.get? s.heap.objs.size=some q:=let ⟨q,_,_,hq,_⟩:=dd';⟨q,hq⟩;have w:=x0c (t':=s1.toks+us.length) I2 (by rw[q0k];exact True.intro) hs he (x6i (kvs:=kz ks vs) (by rw[sizeLine_eq,x6n l1];omega) hd kv1 dd');rw[y7p]at w;exact⟨.ref s.heap.objs.size,_,w,rfl,q1 _ hp.2.1⟩
noncomputable def putAll(kvs more:List (Key×V)):List (Key×V):=more.foldl (λacc p=>putK acc p.1 p.2) kvs
theorem KV.all:∀{more:List (Key×V)}{mv:List (Key×Value)}{kvs:List (Key×V)}{vs:List (Key×Value)},KV kvs vs->KV more mv->KV (putAll kvs more) (merged vs mv)
 |[],[],_,_,h,_=>h
 |p::l,q::r,_,_,h,.cons h1 h2=>by
  have:=KV.all (h.put p.1 h1.2) h2;rw[show merged _ (q::r)=merged (stored _ q.1 q.2) r from rfl,<- h1.1];exact this
noncomputable def rUpd:V->List V->Hp->VK->Prop:=λx vs H Q=>∃a b kvs more,x=.ref a/\vs=[.ref b]/\a≠b/\H a=some (.dK kvs)/\H b=some (.dK more)/\kvs.length+more.length<=sizeLine/\(putAll kvs more).length<=sizeLine/\Q .non (upd H a (.dK (putAll kvs more)))
theorem z6e:MtM X "dict.update" rUpd:=by
 intro pins s σ H x vs v us Q I rx rv h;obtain⟨a,b,kvs,more,rfl,rfl,hab,ha,hb,hz,hz2,q⟩:=h;cases(show v=Value.ref a from rx);obtain⟨u,rfl,ru⟩:=rv.one;cases(show u=Value.ref b from ru);obtain⟨z1,d1,xs,r1,dd1⟩:=x5d I.hok ha;obtain⟨z2,d2,ys,r2,dd2⟩:=x5d I.hok hb;have l1:=congrArg List.length r1.keys;have l2:=congrArg List.length r2.keys;simp only[w0i]at l1 l2;refine call_meetsIn F.slot_dict_update dd1.typeIs F.entry_dict_update (F.args_dict_update_2 _ _) (meets_dict_update (mixKind X.prog X.w) a b hab d2) ⟨xs,ys,dd1,dd2,by omega,λh' dd' _ hs=>?_⟩
 have he:∃q,h'.get? a=some q:=let ⟨q,_,_,hq,_⟩:=dd';⟨q,hq⟩;exact⟨.non,_,x0c (t':=s.toks) I (by rw[ha];exact True.intro) hs he (x6i hz2 d1 (KV.all r1 r2) dd'),rfl,q⟩
end L2
namespace D
open PySem L2
section
variable{X:Cx}{Z:Zt}{EE:L2.St->XK}{e:Expr}{es:List Expr}{d:Den W}{dA:Den (List W)}{pos:Pos}{x:Str}{keys:List (Option Expr)}
noncomputable def DV(Z:Zt)(X:Cx)(EE:L2.St->XK)(es:List Expr)(dA:Den (List W)):Prop:=PV X es (liftA X.K Z EE dA)
theorem x2f:DV Z X EE [] dNil:=PV.mono z6d λσ H Q ⟨G,e,r,h⟩=>h G [] H r (.refl _) rfl
theorem q1x(ha:DE Z X EE e d)(hr:DV Z X EE es dA):DV Z X EE (e::es) (dCons d dA):=by
 refine PV.mono (z05 ha hr) ?_;rintro σ H Q ⟨G,e,rel,h⟩;simp only[dCons,R.holds_bind]at h;refine⟨G,e,rel,h.imp (λx e1 h G1 v1 H1 r1 s1 p1=>?_) λ_ _ h=>h⟩
 refine⟨G1,e1,r1,h.imp (λxs e2 h G2 vs H2 r2 s2 p2=>?_) λ_ _ h=>XH.trans s1 h⟩
 exact h G2 (v1::vs) H2 r2 (s1.trans s2) ⟨v1,vs,rfl,Rep.mono s2 x p1,p2⟩
noncomputable def kxz(ks:List Str)(vs:List V):List (Kx×V):=(ks.map Kx.str).zip vs
theorem y2t:∀(ks:List Str)(vs:List V),(kxz ks vs).map (λp=>(kxK p.1,p.2))=kz ks vs
 |[],_=>rfl
 |_::_,[]=>rfl
 |k::ks,v::vs=>by
  have:=y2t ks vs;simp only[kxz,kz,w0g,List.zip_cons_cons]at this |-
  rw[this];rfl
theorem z86{ks:List Str}{vs:List V}(h:vs.length=ks.length):(kxz ks vs).map (·.1)=ks.map Kx.str:=by
 unfold kxz;rw[List.map_fst_zip];simp[h]
theorem z87{ks:List Str}{vs:List V}(h:vs.length=ks.length):(kxz ks vs).map (·.2)=vs:=by
 unfold kxz;rw[List.map_snd_zip];simp[h]
noncomputable def dSetDS(i:Nat)(ks:List Str)(dA:Den (List W)):List S->SR:=λe=>(dA e).stm λws e1=>if ws.length=ks.length then .nx (e1.set i (.dw .str (ks.map Kx.str) ws))else .no
theorem y54(i:Nat)(ks:List Str){pos' dpos:Pos}(hN:X.N.Nodup)(ha:DV Z X EE es dA)(ok:okKeys keys ks=true:=by decide)(hl:keys.length=es.length:=by rfl)(hi:X.N[i]?=some x:=by rfl)(hx:Loc X.env.scope x:=by walk_at "3")(hs:swapsWith (.Dict keys es dpos) (some (.Name x pos')) pos.line X.env=pure false:=by rfl)(hf:X.fn x=true\/X.env.scope.names.lookup x=some .local:=by walk_at "2"):
  DS Z X EE (.Assign [.Name x pos'] (.Dict keys es dpos) pos) (dSetDS i ks dA):=by
 refine PS.mono (x11 i hN (y7l ok hl ha) hi hx hs hf) ?_;rintro D σ H ⟨G,e,rel,h⟩;refine⟨G,e,rel,(q0w h).imp (λws e1 h G1 vs H1 r1 s1 p1=>?_) λ_ _ h=>h⟩
 split at h
 ·rename_i hw;intro q hq;have lv:vs.length=ks.length:=by rw[p1.length];exact hw
  have g:=Grow.hid r1.sub hq (.dK (kz ks vs));refine h G1 _ _ ((r1.grow g).setS (s:=.dw .str (ks.map Kx.str) ws) (λ_ _ z=>nomatch z) ⟨q,kxz ks vs,[],rfl,?_,r1.sub.free hq,q7u r1 hq,z86 lv,(λk hk=>?_),.of rfl ?_⟩) s1
  ·rw[q0k];show _=some (HO.dK ((kxz ks vs).map λp=>(kxK p.1,p.2)));rw[y2t]
  ·obtain⟨y,_,hy⟩:=w0r.mp hk;exact⟨y,hy.symm⟩
  ·rw[z87 lv];exact p1
 ·exact h.elim
noncomputable def setW:List Kx->List W->Kx->W->List W
 |k::ks,w::ws,x,y=>(if k=x then y else w)::setW ks ws x y
 |_,_,_,_=>[]
noncomputable def updW(ks2:List Kx):List W->List Str->List W->List W
 |ws2,k::ks,w::ws=>updW ks2 (setW ks2 ws2 (.str k) w) ks ws
 |ws2,_,_=>ws2
theorem x8m{k:Str}{v:V}:∀{kvs:List (Kx×V)},(∀p∈kvs,∃y,p.1=Kx.str y)->(kvs.map λp=>(kxK p.1,p.2)).map (λkv=>if kv.1=(.inr k:Key)then(kv.1,v)else kv)=(kvs.map λp=>if p.1=Kx.str k then(p.1,v)else p).map λp=>(kxK p.1,p.2)
 |[],_=>rfl
 |p::l,h=>by
  obtain⟨y,hy⟩:=h p (by simp);rw[w0g,w0g,w0g,w0g,x8m λq hq=>h q (w0e _ hq)]
  obtain⟨p1,p2⟩:=p;cases hy
  by_cases e:y=k
  ·subst e;rw[if_pos rfl,if_pos (by rfl)]
  ·rw[if_neg (λz=>e (by injection z)),if_neg (λz=>e (by injection z))]
theorem x6o{K:PySem.W.Frag}{G:Hp}{k:Kx}{w:W}{v:V}(r:Rep K G w v):∀{kvs:List (Kx×V)}{ws:List W},Reps K G ws (kvs.map (·.2))->Reps K G (setW (kvs.map (·.1)) ws k w) ((kvs.map λp=>if p.1=k then(p.1,v)else p).map (·.2))
 |[],[],_=>rfl
 |[],_::_,h=>by obtain⟨_,_,z,_⟩:=h;cases z
 |p::l,[],h=>nomatch (show(p::l).map (·.2)=[]from h)
 |p::l,w0::ws,⟨y,r1,e0,h1,h2⟩=>by
  injection e0 with e0 e0'
  subst e0;subst e0';refine⟨_,_,rfl,?_,x6o r h2⟩
  by_cases e:p.1=k
  ·simp only[e,if_pos];exact r
  ·simp only[if_neg e];exact h1
theorem x8n{K:PySem.W.Frag}{G:Hp}:∀{ks:List Str}{vs:List V}{ws:List W}{kvs:List (Kx×V)}{ws2:List W},Reps K G ws vs->ws.length=ks.length->(∀p∈kvs,∃y,p.1=Kx.str y)->(∀k∈ks,Kx.str k∈kvs.map (·.1))->Reps K G ws2 (kvs.map (·.2)) ->
  ∃kvs':List (Kx×V),putAll (kvs.map λp=>(kxK p.1,p.2)) (kz ks vs)=kvs'.map (λp=>(kxK p.1,p.2))/\kvs'.map (·.1)=kvs.map (·.1)/\Reps K G (updW (kvs.map (·.1)) ws2 ks ws) (kvs'.map (·.2))
 |[],_,ws,kvs,ws2,_,hl,_,_,h=>by
  cases ws with
  |cons _ _=>cases hl
  |nil=>exact⟨kvs,rfl,rfl,h⟩
 |k::ks,vs,[],_,_,_,hl,_,_,_=>by cases hl
 |k::ks,vs,w::ws,kvs,ws2,⟨v,vs',e0,h1,h2⟩,hl,hk,hm,h=>by
  subst e0
  have hk2:∀p∈kvs.map (λp=>if p.1=Kx.str k then(p.1,v)else p),∃y,p.1=Kx.str y:=λp hp=>by
   obtain⟨q,hq,rfl⟩:=w0r.mp hp;obtain⟨y,hy⟩:=hk q hq;refine⟨y,?_⟩;split<;>exact hy
  have e1:(kvs.map λp=>if p.1=Kx.str k then(p.1,v)else p).map (·.1)=kvs.map (·.1):=by
   rw[w0x];refine w1y λp _=>?_
   show(if p.1=Kx.str k then(p.1,v)else p).1=p.1;split<;>rfl
  have hany:((kvs.map λp=>(kxK p.1,p.2)).any λkv=>decide (kv.1=(.inr k:Key)))=true:=by
   obtain⟨p,hp,e⟩:=w0r.mp (hm k (by simp));refine List.any_eq_true.mpr ⟨(kxK p.1,p.2),w0r.mpr ⟨p,hp,rfl⟩,?_⟩;rw[e];exact decide_eq_true rfl
  have st:=x6o (k:=Kx.str k) h1 h;obtain⟨kvs',g1,g2,g3⟩:=x8n (ks:=ks) (vs:=vs') (ws:=ws) h2 (by simpa using hl) hk2 (λy hy=>by rw[e1];exact hm y (w0e _ hy)) st
  refine⟨kvs',?_,g2.trans e1,by rw[e1]at g3;exact g3⟩;rw[show kz (k::ks) (v::vs')=(.inr k,v)::kz ks vs' from rfl,show putAll (kvs.map λp=>(kxK p.1,p.2)) ((.inr k,v)::kz ks vs')=putAll (putK (kvs.map λp=>(kxK p.1,p.2)) (.inr k) v) (kz ks vs')from rfl]
  rw[<- g1];congr 1;unfold putK;rw[if_pos hany,x8m hk]
noncomputable def updC(i:Nat)(ks:List Str)(ws:List W)(e:List S):Option S->SR
 |some (.dw .str ks2 ws2)=>if ws.length=ks.length/\ks2.length+ks.length<=16777216/\(∀k∈ks,Kx.str k∈ks2)/\(e.set i .no).all (λs=>!isDw s)=true then .nx (e.set i (.dw .str ks2 (updW ks2 ws2 ks ws)))else .no
 |_=>.no
noncomputable def upd0(k:SR):Option S->SR
 |some (.dw .str _ _)=>k
 |_=>.no
noncomputable def dUpd(i:Nat)(ks:List Str)(dA:Den (List W)):List S->SR:=λe=>upd0 ((dA e).stm λws e1=>updC i ks ws e1 e1[i]?) e[i]?
theorem x6p(i:Nat)(ks:List Str){apos cpos dpos p:Pos}(ha:DV Z X EE es dA)(ok:okKeys keys ks=true:=by decide)(hl:keys.length=es.length:=by rfl)(hN:X.N[i]?=some x:=by rfl)(hv:Vis X.env.scope x:=by walk_at "1")(hd:(x==("__debug__":Str))=false:=by decide)(hcd:(x==("__classdict__":Str))=false:=by decide)
  (hbase:attributeBase (.Name x p) "update" X.env (eval (.Name x p) X.env)=eval (.Name x p) X.env:=by rfl)
  (hfew:((backTo cpos (starEach [.Dict keys es dpos] X.env)).all (λx=>!x.1)&&(backToKw cpos (keywordEach [] X.env)).all (λx=>x.1.isSome)
   && decide ([Expr.Dict keys es dpos].length+([]:List Keyword).length+(if([]:List Keyword).isEmpty then 0 else 1)<30))=true:=by rfl)
  (hline:(apos.endLine==cpos.line)=true:=by rfl)(hs:starEach [.Dict keys es dpos] X.env=(false,eval (.Dict keys es dpos) X.env)::starEach [] X.env:=by rfl)(hplain:(backTo cpos (starEach [] X.env)).any (·.1)=false:=by rfl)(hsw:swapsWith (.Call (.Attribute (.Name x p) "update" apos) [.Dict keys es dpos] [] cpos) none pos.line X.env=pure false:=by rfl):
  DS Z X EE (.Expr (.Call (.Attribute (.Name x p) "update" apos) [.Dict keys es dpos] [] cpos) pos) (dUpd i ks dA):=by
 refine PS.mono (q7s (x47 PySem.F.plainAttrs_dict PySem.F.slot_dict_update PySem.F.type_dict_update z6e (pv i hN hv hd hcd) (q5c (y7l ok hl ha) x1x hs) hbase hfew hline hs hplain) hsw) ?_;rintro D σ H ⟨G,e,rel,h⟩;unfold dUpd upd0 at h;split at h
 ·rename_i ks0 ws0 he0;obtain⟨a,kvs0,kas0,q1,q2,_⟩:=rel.dw he0;refine⟨.ref a,q1,.inr (.inr (.inl ⟨rfl,.inl ⟨_,q2⟩⟩)),G,e,rel,(q0w (σ:=σ) h).imp (λws e1 h G1 vs H1 r1 s1 p1=>?_) λ_ _ h=>h⟩
  intro q hq;unfold updC at h;split at h
  ·rename_i ks2 ws2 he2;obtain⟨a',kvs,kas,g1,g2,g3,g4,g5,g6,g7⟩:=r1.dw he2;rw[q1]at g1;cases g1;split at h
   ·rename_i hc;subst g5;have g2:H1 a=some (.dK (kvs.map λp=>(kxK p.1,p.2))):=g2
    have hne:a≠q:=λz=>by rw[z,hq]at g2;cases g2
    have g6:∀k∈kvs.map (·.1),∃y,k=Kx.str y:=g6;obtain⟨kvs',u1,u2,u3⟩:=x8n (K:=X.K) (G:=G1) (ks:=ks) (vs:=vs) (ws:=ws) (kvs:=kvs) (ws2:=ws2) p1 hc.1 (λp hp=>g6 p.1 (w0r.mpr ⟨p,hp,rfl⟩)) hc.2.2.1 g7
    have lv:vs.length=ks.length:=by rw[p1.length];exact hc.1
    have lk:kvs'.length=kvs.length:=by have:=congrArg List.length u2;simpa using this
    have l2:=hc.2.1;rw[w0i]at l2;refine⟨a,q,_,_,rfl,rfl,hne,by rw[q0g hne];exact g2,q0k,by rw[sizeLine_eq,w0i,x6n lv];exact l2,by rw[u1,sizeLine_eq,w0i,lk];omega,?_⟩;rw[u1];have g:=Grow.hid r1.sub hq (.dK (kz ks vs));refine h G1 σ _ (((r1.grow g).mutDw (sh:=.str) (kvs':=kvs') (kas':=kas) (ks':=kvs.map (λp:Kx×V=>p.1)) (ws':=updW (kvs.map (λp:Kx×V=>p.1)) ws2 ks ws) he2 q1 (λs hs=>?_) u2 (by exact g6) (.of rfl u3))) s1
    have:=w0y.mp hc.2.2.2 s hs;simpa using this
   ·exact h.elim
  ·exact h.elim
 ·exact h.elim
theorem y55{i:Nat}{ks:List Str}{e:List S}:dSetDS i ks dA e=(dA e).stm λws e1=>if ws.length=ks.length then .nx (e1.set i (.dw .str (ks.map Kx.str) ws))else .no:=rfl
theorem z6f{i:Nat}{ks:List Str}{e:List S}:dUpd i ks dA e=upd0 ((dA e).stm λws e1=>updC i ks ws e1 e1[i]?) e[i]?:=rfl
theorem z6g{k:SR}{ks:List Kx}{ws:List W}:upd0 k (some (.dw .str ks ws))=k:=rfl
theorem y2u{i:Nat}{ks:List Str}{ws:List W}{e:List S}{ks2:List Kx}{ws2:List W}(h:ws.length=ks.length/\ks2.length+ks.length<=16777216/\(∀k∈ks,Kx.str k∈ks2)/\(e.set i .no).all (λs=>!isDw s)=true):updC i ks ws e (some (.dw .str ks2 ws2))=.nx (e.set i (.dw .str ks2 (updW ks2 ws2 ks ws))):=if_pos h
end
noncomputable def keyIs(k:Str):Value->Bool
 |.str s _=>s==k
 |_=>false
noncomputable def entOk(K:PySem.W.Frag):List (Str×W)->List DictEntry->Bool
 |[],[]=>true
 |p::tb,e::es=>keyIs p.1 e.key&&(conIn K p.2 e.val&&entOk K tb es)
 |_,_=>false
noncomputable def isTab(K:PySem.W.Frag)(tb:List (Str×W))(o:Obj):Bool:=match o.cls,o.dict,o.slots.toList,o.data with
 |.type c,none,[],.dict es _=>c=="dict"&&entOk K tb es.toList
 |_,_,_,_=>false
noncomputable def hashO(o:Obj):List Int:=match o.data with
 |.dict es _=>es.toList.map (·.hash)
 |_=>[]
noncomputable def TabC(P:Program)(w:World)(K:PySem.W.Frag)(d:Addr)(tb:List (Str×W)):Prop:=∃o,K.lookup d=some o/\isTab K tb o=true/\hashO o=tb.map λp=>(strKind P w).hash p.1
theorem keyIs_shape{k:Str}{v:Value}(h:keyIs k v=true):∃t,v=.str k t:=by
 cases v with
 |str y t=>exact⟨t,by rw[show y=k from beq_iff_eq.mp h]⟩
 |_=>cases h
theorem x6q{P:Program}{w:World}{K:PySem.W.Frag}{k:Str}{wv:W}:∀{tb:List (Str×W)}{es:List DictEntry},entOk K tb es=true->tb.lookup k=some wv->∃e,es.find? (λe=>(strKind P w).is k e.key)=some e/\conIn K wv e.val=true
 |[],_,_,h=>by cases h
 |_::_,[],h,_=>by cases h
 |p::tb,e::es,h,hl=>by
  unfold entOk at h;simp only[w0l]at h;obtain⟨h1,h3,h4⟩:=h;obtain⟨t,ht⟩:=keyIs_shape h1;rw[List.lookup_cons]at hl
  by_cases e0:k=p.1
  ·subst e0;rw[beq_self_eq_true]at hl;cases hl;refine⟨e,?_,h3⟩;rw[w2d,ht,strKind_is]
  ·rw[beq_eq_false_iff_ne.mpr e0]at hl;obtain⟨e',q1,q2⟩:=x6q (P:=P) (w:=w) h4 hl;refine⟨e',?_,q2⟩;rw[w2d,ht];cases q:(strKind P w).is k (.str p.1 t)with
   |false=>exact q1
   |true=>exact absurd ((strKind P w).inj _ _ _ q (strKind_is _ _ _ _)) e0
theorem x6r{P:Program}{w:World}{K:PySem.W.Frag}:∀{tb:List (Str×W)}{es:List DictEntry},entOk K tb es=true->es.map (·.hash)=(tb.map λp=>(strKind P w).hash p.1)->∀e∈es,∃k,(strKind P w).is k e.key=true/\e.hash=(strKind P w).hash k
 |[],[],_,_,_,h=>nomatch h
 |_::_,[],h,_,_,_=>by cases h
 |[],_::_,h,_,_,_=>by cases h
 |p::tb,e::es,h,hh,e',he=>by
  unfold entOk at h;simp only[w0l]at h;obtain⟨h1,h3,h4⟩:=h;injection hh with h2 hh
  rcases w0d.mp he with rfl|he
  ·obtain⟨t,ht⟩:=keyIs_shape h1;exact⟨p.1,by rw[ht];exact strKind_is _ _ _ _,h2⟩
  ·exact x6r h4 hh e' he
noncomputable def tabCW(tb:List (Str×W)):W->Option W
 |.str k=>tb.lookup k
 |_=>none
section
variable{X:Cx}{Z:Zt}{EE:L2.St->XK}{k:Expr}{dk:Den W}{pos p:Pos}{x:Str}{d:Addr}{tb:List (Str×W)}
noncomputable def rTabC(K:PySem.W.Frag)(d:Addr)(tb:List (Str×W)):R2:=λx y H Q=>∃k w,x=.ref d/\y=.str k/\tb.lookup k=some w/\∀v,(∀G,Rep K G w v)->Q v H
theorem z07(T:TabC X.prog X.w X.K d tb):IxR X (rTabC X.K d tb):=by
 intro value slice pins s σ H x y v u Q I rx ry h hs;obtain⟨k,w,rfl,rfl,hl,q⟩:=h;cases rx;obtain⟨t,rfl⟩:=ry;obtain⟨o,h1,h2,h5⟩:=T;unfold isTab at h2;split at h2
 ·rename_i c es ep hc hd hsl hdt;rw[w0l]at h2;obtain⟨e,e1,e2⟩:=x6q (P:=X.prog) (w:=X.w) h2.2 hl;obtain⟨v',rv,rp⟩:=x3a w e2;have hm:s.heap.MapOf (strKind X.prog X.w) d (findBy (strKind X.prog X.w).is es):=⟨o,es,ep,I.kIn d o h1,⟨by rw[hc,beq_iff_eq.mp h2.1],hd,by apply Array.toList_inj.mp;rw[hsl]⟩,hdt,λe he=>x6r h2.2 (by unfold hashO at h5;rw[hdt]at h5;exact h5) e (by simpa using he),λ_=>rfl⟩
  refine PyProof.Rows.tail_any hm.typeIs F.slot_dict_getitem.lookup (wpAny_getItem_of (knd:=strKind X.prog X.w) (strKind_is _ _ _ _) hm (v:=e.val) ?_ ⟨v',H,I.tok _,rv,q v' rp⟩) hs;unfold findBy;rw[<- Array.find?_toList,e1];rfl
 ·cases h2
theorem z08(T:∃d,X.mg x=some (.ref d)/\TabC X.prog X.w X.K d tb)(hk:DE Z X EE k dk)(hg:Gl X x:=by rfl)(hd:(x==("__debug__":Str))=false:=by decide)(hs:PlainIx k:=by intro _ _;rfl):
  DE Z X EE (.Subscript (.Name x p) k pos) (dUn (tabCW tb) dk):=by
 obtain⟨d,hm,T⟩:=T;refine PE.mono (x46 (z07 T) (q7r (v:=.ref d) hg hm rfl hd) hk hs) ?_;rintro σ H Q ⟨G,e,rel,h⟩;simp only[dUn,R.holds_bind,ofOpt_holds]at h;refine⟨G,e,rel,h.imp (λw e1 h G1 v1 H1 r1 s1 p1=>?_) λ_ _ h=>h⟩
 obtain⟨w',hw,h⟩:=h;unfold tabCW at hw;split at hw
 ·cases p1;exact⟨_,w',rfl,rfl,hw,λv rv=>h G1 v H1 r1 s1 (rv G1)⟩
 ·cases hw
end
end D
namespace L2
open PySem PySem.Spec PyProof.Rows
theorem Inv.goes{X:Cx}{pins:List (Addr×Obj)}{σ:St}{H:Hp}{s:Shared}{i:Nat}{n:Str}{pos:Pos}{R:Unit->Shared->Prop}{E:Value->Shared->Prop}(I:Inv X pins σ H s)(hN:X.N.Nodup)(hi:X.N[i]?=some n)(hx:X.env.scope.names.lookup n=some .local)(hk:(X.env.scope.kind==.class||(X.env.scope.kind==.module&&X.env.locals != X.env.globals))=false)(hR:∀s',Inv X pins (σ.set i none) H s'->R () s'):wpAny (model X.prog X.w) X.A (do bindName X.env n .none;unbindBehindTheSuite X.env n pos) R E s:=by
 obtain⟨m,hn,hl⟩:=id I.loc;obtain⟨oL,_,_,hoL,_⟩:=id hn;refine wpAny_nameGoes_keeps hx hn hk λh' v hn' hs=>hR _ ?_
 have tracked:HOk X.prog X.w H h':=λb ob e=>by
  refine(I.hok b ob e).stay (λc w' hc q=>(hs.2 c ?_).trans q) (λ_ q=>q) λ_ _ _ q=>q
  grind [free]
 refine⟨I.ok,I.os,I.bare,⟨λb o e n hb hx=>?_,λb o e n hb hx=>?_,I.base.free,λb o e hx=>?_,I.base.tups,I.base.frzs,I.base.tbls⟩,⟨_,hn',λj y v' e1 e2 e3=>?_⟩,λy c e=>?_,I.free,I.freeC,λp hp=>?_,tracked,by rw[w3e];exact I.len⟩
 ·exact(hs.2 b (w0t (w0q (Heap.lt_size e) I.ok.above))).trans (I.base.keep b o e n hb hx)
 ·obtain⟨sl,e1⟩:=I.base.slot b o e n hb hx;exact⟨sl,(hs.2 b (w0t (w0q (Heap.lt_size e) I.ok.above))).trans e1⟩
 ·obtain⟨o',e1⟩:=I.base.there b o e hx;exact⟨o',(hs.2 b (w0t (w0q (Heap.lt_size e) I.ok.above))).trans e1⟩
 ·by_cases hj:j=i
  ·subst hj;rw[List.getElem?_set]at e2;split at e2
   ·split at e2<;>cases e2
   ·contradiction
  ·rw[w0f (λz=>hj z.symm)]at e2
   obtain⟨u,r,lk⟩:=hl j y v' e1 e2 e3;refine⟨u,r,?_⟩;rcases lk with⟨k1,k2⟩|⟨k1,c,k2,k3⟩
   ·refine .inl ⟨k1,?_⟩;show(if y=n then v else m y)=some u;rw[if_neg λz=>hj ?_]
    ·exact k2
    ·subst z;exact(List.getElem?_inj (w0m.mp e1).1 hN).mp (e1.trans hi.symm)
   ·exact .inr ⟨k1,c,k2,k3.sameBut hs (I.cne y c k2)⟩
 ·obtain⟨w',z⟩:=I.cell y c e;exact⟨w',z.sameBut hs (I.cne y c e)⟩
 ·obtain⟨e,n,ne,nf,d⟩:=I.pin p hp;exact⟨(hs.2 p.1 ne).trans e,n,ne,nf,d⟩
noncomputable def tTryK(K:PySem.W.Frag)(c:Addr)(i:Nat)(tb:(St->XK)->TS)(th:TS):TS:=λD σ H=>
 tb (λσ' cls _ H'=>exmOne K cls (.ref c)=some true/\∀e,H' e=none ->
  th {nx:=λσ'' H''=>D.nx (σ''.set i none) H'',rt:=D.rt,bk:=λσ'' H''=>D.bk (σ''.set i none) H'',ct:=λσ'' H''=>D.ct (σ''.set i none) H''} (σ'.set i (some (.ref e))) (upd H' e (excO e cls))) D σ H
theorem z09{X:Cx}{body suite:List Stmt}{b₀:Stmt}{c n:Str}{i:Nat}{Cc:Addr}{np hpos pos:Pos}{tb:(St->XK)->TS}{th:TS}
  (hg:Gl X c)(hm:X.mg c=some (.ref Cc))(hN:X.N.Nodup)(hi:X.N[i]?=some n)(hx:X.env.scope.names.lookup n=some .local)
  (hb:∀(EE:L2.St->XK)(pn:List (Addr×Obj))(xe:Value->Shared->Prop),PassX (CX1 X.prog X.w) (X.tr pn xe) EE->PSs (X.tr pn xe) body (tb EE))
  (hh:∀e:Addr,PSs (X.hn e) (b₀::suite) th)
  (hs:X.stack=X.env::X.outer:=by rfl)(hf:X.env.frame=some X.env.locals:=by rfl)(hdb:(c==("__debug__":Str))=false:=by decide):
  PS X (.Try body [.ExceptHandler (some (.Name c np)) (some n) (b₀::suite) hpos] [] [] pos) (tTryK X.K Cc i tb th):=by
 intro pins s σ H D I h;refine wpAny_Try_except (wpAny_mono (hb _ (X.pn++pins) _ ?pass [] s σ H D (I.tr _) h) (λf s1 q=>?_) λ_ _ z=>z)
 case pass=>
  intro pins' σ' H1 s1 ev s2 I1 hx1;obtain⟨e,cls,H2,B,rfl,hos,hgn,un,hok,fly,hmt,hE⟩:=hx1;have I0:Inv X pins σ' H1 s1:=I1.untr;have un:Un (frs X.stack) [] H1 H2 s1.heap s2.heap:=un;have fly:Fly X.stack H1 H2 s1.heap s2.heap e cls B:=fly;have hfr:=fly.free hok;obtain⟨a0,fl⟩:=fly.fl;have fl':Heap.FlyingW B (X.env::X.outer) e cls a0 s2.heap:=hs ▸ fl;have fr':X.A.frames=some (X.env::X.outer):=hs ▸ I0.ok.frames;have noch:∀b∈([]:List Addr),(b∈X.ex\/X.s₀.heap.objs.size<=b)/\b≠X.env.locals/\(∀x c,X.env.cells.lookup x=some c->c≠b)/\∀p∈X.pn++pins,p.1≠b:=λb z=>nomatch z
  have land:∀h5 tk,Heap.FlyingW B (X.env::X.outer) e cls a0 h5->s2.heap.UpToSlots h5->Inv X pins σ' H2 {s2 with heap:=h5,toks:=tk}:=λh5 tk fl5 up5=>by
   have fl5':Heap.FlyingW B X.stack e cls a0 h5:=hs.symm ▸ fl5;exact I0.call' (s':={s2 with heap:=h5,toks:=tk}) (ch:=[]) hos (fly.un un fl5' up5) (fly.hok hok fl5') hgn noch
  refine wpAny_looks_onW (base:=B) fr' hf fl' λh₄ held up₄=>?_
  refine wpAny_landsW held λh₅ fl₅ up₅'=>?_
  have up₅:s2.heap.UpToSlots h₅:=up₄.trans up₅';have I5:=land h₅ s2.toks fl₅ up₅;refine wpAny_handleBy_cons (codeAny_handlers_test ?_) (by intro q;cases q);refine q92 (X:=X.hn e) (I5.hn e) hg hm ?_ hdb;obtain⟨ob,hob,hoc⟩:=fl₅.there;have LT:PySem.W.Looks (model X.prog X.w) h₅ (typeOf (.ref e)) cls:=hoc ▸ (PySem.W.Looks.ld hob).andThen .now;refine(PySem.W.exm_one (M:=model X.prog X.w) I5.kIn LT hmt).at ?_;show codeAny _ _ _ _ _;refine codeAny_handlers_suite_as ?_;refine lands_againW fl₅ λh₆ fl₆ up₆'=>?_
  have up₆:s2.heap.UpToSlots h₆:=up₅.trans up₆';obtain⟨oe,ws,hoe,hoec,hoed,_⟩:=fl₆.first
  have fl6':Heap.FlyingW B X.stack e cls a0 h₆:=hs.symm ▸ fl₆
  have I7:Inv X pins σ' (upd H2 e (excO e cls)) {s2 with heap:=h₆}:=
   I0.call' (s':={s2 with heap:=h₆}) (ch:=[]) hos ((fly.un un fl6' up₆).taken fly.new hfr) ((fly.hok hok fl6').taken hfr (y75 ⟨oe,ws,hoe,hoec,hoed⟩)) hgn noch
  refine x1a (X:=X.hn e) (I7.hn e) hN hi (.inl hx) (v:=.ref e) rfl (λs8 I8=>?_) (.inr hx)
  refine wpAny_mono (hh e pins s8 _ _ _ I8 (hE e hfr)) (λf s9 q=>?_) λ_ _ z=>z.elim
  show wpAny _ _ _ _ _ _
  have go:∀{σ9:St}{H9:Hp},Inv (X.hn e) pins σ9 H9 s9->∀R:Unit->Shared->Prop,(∀s',Inv X pins (σ9.set i none) H9 s'->R () s')->wpAny (model X.prog X.w) X.A (do bindName X.env n .none;unbindBehindTheSuite X.env n hpos) R X.xe s9:=λ{σ9 H9} I9 R hR=>by
   exact(I9.unhn I0.ok).goes hN hi hx (by rw[I0.ok.kind];rfl) λs' I'=>hR s' I'
  cases f with
  |next=>obtain⟨σ9,H9,I9,q⟩:=q;exact go I9 _ λs' I'=>⟨_,H9,I',q⟩
  |brk=>obtain⟨σ9,H9,I9,q⟩:=q;exact go I9 _ λs' I'=>⟨_,H9,I',q⟩
  |cont=>obtain⟨σ9,H9,I9,q⟩:=q;exact go I9 _ λs' I'=>⟨_,H9,I',q⟩
  |ret u=>obtain⟨v,σ9,H9,I9,r,q⟩:=q;exact go I9 _ λs' I'=>⟨v,_,H9,I',r,q⟩
 ·cases f with
  |next=>obtain⟨σ',H',I',q⟩:=q;exact wpAny_execs_nil ⟨σ',H',I'.untr,q⟩
  |brk=>obtain⟨σ',H',I',q⟩:=q;exact⟨σ',H',I'.untr,q⟩
  |cont=>obtain⟨σ',H',I',q⟩:=q;exact⟨σ',H',I'.untr,q⟩
  |ret u=>obtain⟨v,σ',H',I',r,q⟩:=q;exact⟨v,σ',H',I'.untr,r,q⟩
end L2
namespace D
open PySem L2
variable{e:List S}{i:Nat}{K:PySem.W.Frag}
noncomputable def dTryK(K:PySem.W.Frag)(c:Addr)(i:Nat)(b h:List S->SR):List S->SR:=λe=>match b e with
 |.ex cls e'=>if exmOne K cls (.ref c)=some true then(match h (e'.set i (.fr (.exc cls)))with
  |.nx e2=>.nx (e2.set i .no)
  |.bk e2=>.bk (e2.set i .no)
  |.ct e2=>.ct (e2.set i .no)
  |.rt s e''=>.rt s e''
  |_=>.no)else .no
 |r=>r
section
variable{X:Cx}{Z:Zt}{EE:L2.St->XK}{pos:Pos}
theorem Rel.goes{G H:Hp}{σ:L2.St}(r:Rel K Z G σ H e)(i:Nat):Rel K Z G (σ.set i none) H (e.set i .no):=by
 refine⟨r.sub,λj s z=>?_,by simpa using r.len,λj k b1 b2 w1 w2 c z1 z2 z3 z4=>?_,r.ent,r.ion,r.gen⟩
 ·by_cases hj:j=i
  ·subst hj;rw[List.getElem?_set]at z;split at z
   ·split at z
    ·cases z;trivial
    ·cases z
   ·contradiction
  ·rw[w0f (λz=>hj z.symm)]at z |-
   exact r.slot j s z
 ·have old:∀(k:Nat)(bb:Option Nat)(ww:List W),(e.set i .no)[k]?=some (.own bb ww)->k≠i/\e[k]?=some (.own bb ww):=λk bb ww z=>by
   grind
  obtain⟨n1,q1⟩:=old _ _ _ z1;obtain⟨n2,q2⟩:=old _ _ _ z2;rw[w0f (λz=>n1 z.symm)]at z3
  rw[w0f (λz=>n2 z.symm)]at z4
  exact r.dis _ _ _ _ _ _ _ q1 q2 z3 z4
theorem z1a{body suite:List Stmt}{b₀:Stmt}{c n:Str}{Cc:Addr}{np hpos:Pos}{dB dH:List S->SR}
  (hm:X.mg c=some (.ref Cc))(hN:X.N.Nodup)(hi:X.N[i]?=some n)(hx:X.env.scope.names.lookup n=some .local)
  (hb:∀(EE:L2.St->XK)(pn:List (Addr×Obj))(xe:Value->Shared->Prop),PassX (CX1 X.prog X.w) (X.tr pn xe) EE->DSs Z (X.tr pn xe) EE body dB)
  (hh:∀e:Addr,DSs Z (X.hn e) (λ_=>E0) (b₀::suite) dH)(hg:Gl X c:=by rfl)
  (hs:X.stack=X.env::X.outer:=by rfl)(hf:X.env.frame=some X.env.locals:=by rfl)(hdb:(c==("__debug__":Str))=false:=by decide):
  DS Z X EE (.Try body [.ExceptHandler (some (.Name c np)) (some n) (b₀::suite) hpos] [] [] pos) (dTryK X.K Cc i dB dH):=by
 refine PS.mono (z09 (tb:=λEE=>liftS X.K Z EE dB) (th:=liftS X.K Z (λ_=>E0) dH) hg hm hN hi hx hb hh hs hf hdb) ?_
 rintro D σ H ⟨G,e,rel,h⟩;refine⟨G,e,rel,?_⟩;unfold dTryK at h;cases q:dB e with
 |nx e'=>rw[q]at h;exact h
 |bk e'=>rw[q]at h;exact h
 |ct e'=>rw[q]at h;exact h
 |rt w e'=>rw[q]at h;exact h
 |no=>rw[q]at h;exact h
 |ex cls e'=>
  rw[q]at h;intro G1 σ1 H1 r1 s1;dsimp only at h;split at h
  ·rename_i hq;refine⟨hq,λex hex=>?_⟩
   have g:=Grow.laid r1.sub hex (excO ex cls);refine⟨_,e'.set i (.fr (.exc cls)),(r1.grow g).set (v:=.ref ex) ⟨ex,rfl,q0k⟩,?_⟩;have sg:=s1.trans g.gg;cases q2:dH (e'.set i (.fr (.exc cls)))with
   |nx e2=>rw[q2]at h;exact λG2 σ2 H2 r2 s2=>h G2 _ H2 (r2.goes _) (sg.trans s2)
   |bk e2=>rw[q2]at h;exact λG2 σ2 H2 r2 s2=>h G2 _ H2 (r2.goes _) (sg.trans s2)
   |ct e2=>rw[q2]at h;exact λG2 σ2 H2 r2 s2=>h G2 _ H2 (r2.goes _) (sg.trans s2)
   |rt w e2=>rw[q2]at h;exact λG2 σ2 v H2 r2 s2 p2=>h G2 σ2 v H2 r2 (sg.trans s2) p2
   |ex c2 e2=>rw[q2]at h;exact h.elim
   |no=>rw[q2]at h;exact h.elim
  ·exact h.elim
end
noncomputable def trgH(i:Nat):SR->SR
 |.nx e=>.nx (e.set i .no)
 |.bk e=>.bk (e.set i .no)
 |.ct e=>.ct (e.set i .no)
 |.rt s e=>.rt s e
 |_=>.no
noncomputable def trgK(K:PySem.W.Frag)(c:Addr)(i:Nat)(h:List S->SR):SR->SR
 |.ex cls e'=>if exmOne K cls (.ref c)=some true then trgH i (h (e'.set i (.fr (.exc cls))))else .no
 |r=>r
theorem z1b{c : Addr}{b h : List S -> SR} : dTryK K c i b h e = trgK K c i h (b e) := by
  unfold dTryK trgK;cases b e with
  | ex cls e' => dsimp only; split
                 . cases h (e'.set i (.fr (.exc cls))) <;> rfl
                 . rfl
  | _ => rfl
theorem z6h{c:Addr}{h:List S->SR}{v:Value}(hx:exmOne K v (.ref c)=some true):trgK K c i h (.ex v e)=trgH i (h (e.set i (.fr (.exc v)))):=by show(if _ then _ else _)=_;rw[if_pos hx]
theorem z1c:trgH i (.nx e)=.nx (e.set i .no):=rfl
end D
namespace Q
open PySem L2 D
variable{cs:List Nat}{kn ns ts:List Str}{ws:List W}{n:Nat}{K:PySem.W.Frag}{mg:Str->Option Value}{α:Type}
seal DE DF DT DW DA DS DSs DTs DO DFm PE PT PW PA PS PSs PG PGs PI PF PTs PC OpR UnR IxR CallR TruR MtR MtM SlR PO
theorem us1{P:List α->Prop}(h:∀x0,P [x0]):∀us:List α,us.length=1->P us
 |[x0],_=>h x0
theorem us2{P:List α->Prop}(h:∀x0 x1,P [x0,x1]):∀us:List α,us.length=2->P us
 |[x0,x1],_=>h x0 x1
theorem us3{P:List α->Prop}(h:∀x0 x1 x2,P [x0,x1,x2]):∀us:List α,us.length=3->P us
 |[x0,x1,x2],_=>h x0 x1 x2
noncomputable def top(i:Nat):Stmt:=PySem.Challenge.pw_circuits_k74_sheets_shown.main.body.getD i (.Pass ⟨0,0,0,0⟩)
noncomputable def q9e:List (Str×W):=[("in", (.tup [(.str "")])),("held", (.tup [(.str "in"),(.str "held")])),("out", (.tup [(.str "in"),(.str "held"),(.str "out")]))]
noncomputable def q1c:List (Str×Int):=[("(", 0),("or", 1),("odd", 2),("and", 3),("not", 4)]
noncomputable def q52:List (Str×Int):=[("in", 3),("held", 4),("out", 6)]
structure Blt(P:Program)(w:World)(K:PySem.W.Frag)(mg:Str->Option Value):Prop where
 b_ValueError:mg "ValueError"=none
 b_all:mg "all"=none
 b_enumerate:mg "enumerate"=none
 b_int:mg "int"=none
 b_isinstance:mg "isinstance"=none
 b_len:mg "len"=none
 b_list:mg "list"=none
 b_max:mg "max"=none
 b_range:mg "range"=none
 b_str:mg "str"=none
 b_tuple:mg "tuple"=none
 b_zip:mg "zip"=none
 t_TIGHTNESS:∃d,mg "TIGHTNESS"=some (.ref d)/\TabK P w K d q1c
 t_MOST_NAMES:∃d,mg "MOST_NAMES"=some (.ref d)/\TabK P w K d q52
 t_BEHIND:∃d,mg "BEHIND"=some (.ref d)/\TabC P w K d q9e
structure Adr where
 CircuitError:Addr
 NoPlace:Addr
 NoName:Addr
 BadText:Addr
 BadSheet:Addr
 WORDS:Value
 JOINING:Value
 LONGEST_NAME:Value
 MOST_BRACKETS:Value
 LOOSEST_WORD:Value
 WHOLE:Value
 ROW_WORDS:Value
 FIRST_TRUTHS:Value
variable{a:Adr}
structure Exs(K:PySem.W.Frag)(mg:Str->Option Value)(a:Adr):Prop where
 z:True
 m_CircuitError:mg "CircuitError"=some (.ref a.CircuitError)
 m_NoPlace:mg "NoPlace"=some (.ref a.NoPlace)
 m_NoName:mg "NoName"=some (.ref a.NoName)
 m_BadText:mg "BadText"=some (.ref a.BadText)
 m_BadSheet:mg "BadSheet"=some (.ref a.BadSheet)
 m_WORDS:mg "WORDS"=some a.WORDS
 m_JOINING:mg "JOINING"=some a.JOINING
 m_LONGEST_NAME:mg "LONGEST_NAME"=some a.LONGEST_NAME
 m_MOST_BRACKETS:mg "MOST_BRACKETS"=some a.MOST_BRACKETS
 m_LOOSEST_WORD:mg "LOOSEST_WORD"=some a.LOOSEST_WORD
 m_WHOLE:mg "WHOLE"=some a.WHOLE
 m_ROW_WORDS:mg "ROW_WORDS"=some a.ROW_WORDS
 m_FIRST_TRUTHS:mg "FIRST_TRUTHS"=some a.FIRST_TRUTHS
 g_WORDS:conIn K (.tup [(.str "yes"),(.str "no"),(.str "not"),(.str "and"),(.str "odd"),(.str "or")]) a.WORDS=true
 g_JOINING:conIn K (.tup [(.str "and"),(.str "odd"),(.str "or")]) a.JOINING=true
 g_LONGEST_NAME:conIn K (.int 8) a.LONGEST_NAME=true
 g_MOST_BRACKETS:conIn K (.int 12) a.MOST_BRACKETS=true
 g_LOOSEST_WORD:conIn K (.int 1) a.LOOSEST_WORD=true
 g_WHOLE:conIn K (.int 5) a.WHOLE=true
 g_ROW_WORDS:conIn K (.tup [(.str "in"),(.str "held"),(.str "out")]) a.ROW_WORDS=true
 g_FIRST_TRUTHS:conIn K (.tup [(.str "yes"),(.str "no")]) a.FIRST_TRUTHS=true
 e_BadSheet:excIn K a.BadSheet a.CircuitError=true
 e_BadText:excIn K a.BadText a.CircuitError=true
 e_NoName:excIn K a.NoName a.CircuitError=true
 e_NoPlace:excIn K a.NoPlace a.CircuitError=true
 c_BadSheet:excClsIn K a.BadSheet=true
 x_BadSheet_CircuitError:exmOne K (.ref a.BadSheet) (.ref a.CircuitError)=some true
 k_BadSheet_ValueError:kitOne K (.ref a.BadSheet) (.type "ValueError")=some true
 k_BadSheet_NoName:kitOne K (.ref a.BadSheet) (.ref a.NoName)=some false
 k_BadSheet_NoPlace:kitOne K (.ref a.BadSheet) (.ref a.NoPlace)=some false
 c_BadText:excClsIn K a.BadText=true
 x_BadText_CircuitError:exmOne K (.ref a.BadText) (.ref a.CircuitError)=some true
 k_BadText_ValueError:kitOne K (.ref a.BadText) (.type "ValueError")=some true
 k_BadText_NoName:kitOne K (.ref a.BadText) (.ref a.NoName)=some false
 k_BadText_NoPlace:kitOne K (.ref a.BadText) (.ref a.NoPlace)=some false
 c_NoName:excClsIn K a.NoName=true
 x_NoName_CircuitError:exmOne K (.ref a.NoName) (.ref a.CircuitError)=some true
 k_NoName_ValueError:kitOne K (.ref a.NoName) (.type "ValueError")=some true
 k_NoName_NoName:kitOne K (.ref a.NoName) (.ref a.NoName)=some true
 k_NoName_NoPlace:kitOne K (.ref a.NoName) (.ref a.NoPlace)=some false
 c_NoPlace:excClsIn K a.NoPlace=true
 x_NoPlace_CircuitError:exmOne K (.ref a.NoPlace) (.ref a.CircuitError)=some true
 k_NoPlace_ValueError:kitOne K (.ref a.NoPlace) (.type "ValueError")=some true
 k_NoPlace_NoName:kitOne K (.ref a.NoPlace) (.ref a.NoName)=some false
 k_NoPlace_NoPlace:kitOne K (.ref a.NoPlace) (.ref a.NoPlace)=some true
 t_NoneType_str:kitOne K (.type "NoneType") (.type "str")=some false
 t_bool_str:kitOne K (.type "bool") (.type "str")=some false
 t_int_str:kitOne K (.type "int") (.type "str")=some false
 t_str_str:kitOne K (.type "str") (.type "str")=some true
 t_tuple_str:kitOne K (.type "tuple") (.type "str")=some false
 t_list_str:kitOne K (.type "list") (.type "str")=some false
noncomputable abbrev q4z:Nat:=0
noncomputable abbrev q4m:Nat:=1
noncomputable abbrev q9f:Nat:=2
noncomputable abbrev q7x:Nat:=3
noncomputable abbrev q0y:Nat:=4
noncomputable abbrev q4n:Nat:=5
noncomputable abbrev q1f:Nat:=6
noncomputable abbrev q05:Nat:=7
noncomputable abbrev q14:Nat:=8
noncomputable abbrev q2x:Nat:=9
noncomputable abbrev q2e:Nat:=10
noncomputable abbrev q1y:Nat:=11
noncomputable abbrev q32:Nat:=12
noncomputable abbrev q3b:Nat:=13
noncomputable abbrev q1t:Nat:=14
noncomputable abbrev q4b:Nat:=15
noncomputable abbrev q3c:Nat:=16
noncomputable abbrev q2f:Nat:=17
noncomputable abbrev q33:Nat:=18
noncomputable abbrev q1i:Nat:=19
noncomputable abbrev q3q:Nat:=20
noncomputable abbrev q0z:Nat:=21
noncomputable abbrev q34:Nat:=22
noncomputable abbrev q1q:Nat:=23
noncomputable abbrev q1g:Nat:=24
noncomputable abbrev q03:Nat:=25
noncomputable abbrev q1d:Nat:=26
noncomputable abbrev q1r:Nat:=27
noncomputable abbrev q2g:Nat:=28
noncomputable abbrev q12:Nat:=29
noncomputable abbrev q1p:Nat:=30
noncomputable abbrev q2h:Nat:=31
noncomputable abbrev q1m:Nat:=32
noncomputable abbrev q13:Nat:=33
noncomputable abbrev q1j:Nat:=34
noncomputable abbrev q40:Nat:=35
noncomputable abbrev q2i:Nat:=36
noncomputable abbrev x0d:Nat:=37
noncomputable abbrev x2g:Stmt:=top 7
theorem x7o:FnScope ["things", "place"] ["things", "place"] (defScope x2g):=⟨rfl,rfl,rfl,by decide +kernel,rfl,by decide +kernel,by decide +kernel⟩
noncomputable abbrev x8o:Stmt:=top 16
theorem y56:FnScope ["form", "names"] ["form", "names"] (defScope x8o):=⟨rfl,rfl,rfl,by decide +kernel,rfl,by decide +kernel,by decide +kernel⟩
noncomputable abbrev y2v:Stmt:=top 17
theorem sc_read:FnScope ["text", "names", "places", "pieces", "wrong"] ["text", "names"] (defScope y2v):=⟨rfl,rfl,rfl,by decide +kernel,rfl,by decide +kernel,by decide +kernel⟩
noncomputable abbrev x8p:Stmt:=top 18
theorem sc_fault:FnScope ["text", "names", "places"] ["text", "names"] (defScope x8p):=⟨rfl,rfl,rfl,by decide +kernel,rfl,by decide +kernel,by decide +kernel⟩
noncomputable abbrev q61:Stmt:=top 19
theorem sc_places_by_name:FnScope ["names", "places", "place", "name"] ["names"] (defScope q61):=⟨rfl,rfl,rfl,by decide +kernel,rfl,by decide +kernel,by decide +kernel⟩
noncomputable abbrev q9g:Stmt:=top 20
theorem x91:FnScope ["name"] ["name"] (defScope q9g):=⟨rfl,rfl,rfl,by decide +kernel,rfl,by decide +kernel,by decide +kernel⟩
noncomputable abbrev q6a:Stmt:=top 21
theorem q9h:FnScope ["sign"] ["sign"] (defScope q6a):=⟨rfl,rfl,rfl,by decide +kernel,rfl,by decide +kernel,by decide +kernel⟩
noncomputable abbrev x4f:Stmt:=top 22
theorem sc_text_of:FnScope ["form", "names", "word", "own", "inner", "left", "right"] ["form", "names"] (defScope x4f):=⟨rfl,rfl,rfl,by decide +kernel,rfl,by decide +kernel,by decide +kernel⟩
noncomputable abbrev x0z:Stmt:=top 23
theorem sc_bracketed:FnScope ["form", "least", "names", "text"] ["form", "least", "names"] (defScope x0z):=⟨rfl,rfl,rfl,by decide +kernel,rfl,by decide +kernel,by decide +kernel⟩
noncomputable abbrev x00:Stmt:=top 24
theorem sc_pieces_of:FnScope ["text", "pieces", "place", "end"] ["text"] (defScope x00):=⟨rfl,rfl,rfl,by decide +kernel,rfl,by decide +kernel,by decide +kernel⟩
noncomputable abbrev q7y:Stmt:=top 25
theorem sc_end_of_piece:FnScope ["text", "place", "end"] ["text", "place"] (defScope q7y):=⟨rfl,rfl,rfl,by decide +kernel,rfl,by decide +kernel,by decide +kernel⟩
noncomputable abbrev q8r:Stmt:=top 26
theorem sc_first_fault:FnScope ["pieces", "places", "length", "awaits_form", "brackets", "place", "piece", "fine"] ["pieces", "places", "length"] (defScope q8r):=⟨rfl,rfl,rfl,by decide +kernel,rfl,by decide +kernel,by decide +kernel⟩
noncomputable abbrev x01:Stmt:=top 27
theorem x6s:FnScope ["piece", "brackets", "places"] ["piece", "brackets", "places"] (defScope x01):=⟨rfl,rfl,rfl,by decide +kernel,rfl,by decide +kernel,by decide +kernel⟩
noncomputable abbrev q9i:Stmt:=top 28
theorem x4x:FnScope ["piece", "brackets"] ["piece", "brackets"] (defScope q9i):=⟨rfl,rfl,rfl,by decide +kernel,rfl,by decide +kernel,by decide +kernel⟩
noncomputable abbrev q62:Stmt:=top 29
theorem sc_form_of_pieces:FnScope ["pieces", "places", "forms", "waiting", "place", "piece"] ["pieces", "places"] (defScope q62):=⟨rfl,rfl,rfl,by decide +kernel,rfl,by decide +kernel,by decide +kernel⟩
noncomputable abbrev x6t:Stmt:=top 30
theorem sc_settle:FnScope ["forms", "waiting", "least", "word", "last"] ["forms", "waiting", "least"] (defScope x6t):=⟨rfl,rfl,rfl,by decide +kernel,rfl,by decide +kernel,by decide +kernel⟩
noncomputable abbrev q9j:Stmt:=top 31
theorem x4y:FnScope ["piece", "places"] ["piece", "places"] (defScope q9j):=⟨rfl,rfl,rfl,by decide +kernel,rfl,by decide +kernel,by decide +kernel⟩
noncomputable abbrev q3d:Stmt:=top 37
theorem sc_read_sheet:FnScope ["text", "parts", "names", "forms", "firsts", "cells"] ["text"] (defScope q3d):=⟨rfl,rfl,rfl,by decide +kernel,rfl,by decide +kernel,by decide +kernel⟩
noncomputable abbrev x02:Stmt:=top 38
theorem sc_fault_row:FnScope ["text", "found", "names", "part"] ["text"] (defScope x02):=⟨rfl,rfl,rfl,by decide +kernel,rfl,by decide +kernel,by decide +kernel⟩
noncomputable abbrev q63:Stmt:=top 39
theorem sc_standing_parts:FnScope ["rows", "parts", "number", "row", "part"] ["rows"] (defScope q63):=⟨rfl,rfl,rfl,by decide +kernel,rfl,by decide +kernel,by decide +kernel⟩
noncomputable abbrev q8c:Stmt:=top 40
theorem x7p:FnScope ["text"] ["text"] (defScope q8c):=⟨rfl,rfl,rfl,by decide +kernel,rfl,by decide +kernel,by decide +kernel⟩
noncomputable abbrev q8s:Stmt:=top 41
theorem sc_part_of_row:FnScope ["row", "number", "sides", "words", "part"] ["row", "number"] (defScope q8s):=⟨rfl,rfl,rfl,by decide +kernel,rfl,by decide +kernel,by decide +kernel⟩
noncomputable abbrev x03:Stmt:=top 42
theorem sc_can_stand:FnScope ["part", "ahead", "word", "last", "taken", "other", "name"] ["part", "ahead"] (defScope x03):=⟨rfl,rfl,rfl,by decide +kernel,rfl,by decide +kernel,by decide +kernel⟩
noncomputable abbrev x2h:Stmt:=top 43
theorem sc_names_of:FnScope ["parts", "word", "names", "part"] ["parts", "word"] (defScope x2h):=⟨rfl,rfl,rfl,by decide +kernel,rfl,by decide +kernel,by decide +kernel⟩
noncomputable abbrev q53:Stmt:=top 44
theorem sc_shown_sheet:FnScope ["names", "circuit", "known", "rows", "name", "cell", "first", "form", "answer"] ["names", "circuit"] (defScope q53):=⟨rfl,rfl,rfl,by decide +kernel,rfl,by decide +kernel,by decide +kernel⟩
noncomputable abbrev q7z:Stmt:=top 46
theorem x2i:FnScope ["_law_script", "_law_k"] ["_law_script", "_law_k"] (defScope q7z):=⟨rfl,rfl,rfl,by decide +kernel,rfl,by decide +kernel,by decide +kernel⟩
noncomputable abbrev q9k:Stmt:=top 47
theorem x4z:FnScope ["_law_cell", "_law_k"] ["_law_cell", "_law_k"] (defScope q9k):=⟨rfl,rfl,rfl,by decide +kernel,rfl,by decide +kernel,by decide +kernel⟩
noncomputable abbrev q70:Stmt:=top 48
theorem x2j:FnScope ["_law_cell", "_law_many"] ["_law_cell", "_law_many"] (defScope q70):=⟨rfl,rfl,rfl,by decide +kernel,rfl,by decide +kernel,by decide +kernel⟩
noncomputable abbrev q71:Stmt:=top 49
theorem sc__law_form_by:FnScope ["_law_cells", "_law_many", "_law_stack", "_law_cell", "_law_word_here", "_law_rest", "_law_last", "_law_made", "_law_k"] ["_law_cells", "_law_many"] (defScope q71):=⟨rfl,rfl,rfl,by decide +kernel,rfl,by decide +kernel,by decide +kernel⟩
noncomputable abbrev q41:Stmt:=top 51
theorem sc__law_names_by:FnScope ["_law_cell", "_law_count", "_law_letters", "_law_some", "_law_k", "_law_letter", "_law_size", "_law_at", "_law_name", "_law_tail"] ["_law_cell", "_law_count"] (defScope q41):=⟨rfl,rfl,rfl,by decide +kernel,rfl,by decide +kernel,by decide +kernel⟩
noncomputable abbrev q16:Stmt:=top 52
theorem sc__law_circuit_by:FnScope ["_law_script", "_law_most", "_law_cell", "_law_many", "_law_cells", "_law_outs", "_law_forms", "_law_k", "_law_seed", "_law_count", "_law_some", "_law_first", "_law_held"] ["_law_script", "_law_most"] (defScope q16):=⟨rfl,rfl,rfl,by decide +kernel,rfl,by decide +kernel,by decide +kernel⟩
noncomputable abbrev q9l:Stmt:=top 53
theorem sc__law_three:FnScope ["_law_script", "_law_circuit", "_law_count", "_law_names"] ["_law_script", "_law_circuit"] (defScope q9l):=⟨rfl,rfl,rfl,by decide +kernel,rfl,by decide +kernel,by decide +kernel⟩
noncomputable abbrev x04:Stmt:=top 54
theorem sc__law_word:FnScope ["_law_names", "_law_circuit", "_law_caught", "e", "_law_words"] ["_law_names", "_law_circuit"] (defScope x04):=⟨rfl,rfl,rfl,by decide +kernel,rfl,by decide +kernel,by decide +kernel⟩
noncomputable abbrev x2k:Stmt:=top 55
theorem x7q:FnScope ["_law_some", "_law_at", "_law_thing"] ["_law_some", "_law_at", "_law_thing"] (defScope x2k):=⟨rfl,rfl,rfl,by decide +kernel,rfl,by decide +kernel,by decide +kernel⟩
noncomputable abbrev q64:Stmt:=top 56
theorem sc__law_bad_names:FnScope ["_law_names", "_law_cell", "_law_known", "_law_bad", "_law_at"] ["_law_names", "_law_cell"] (defScope q64):=⟨rfl,rfl,rfl,by decide +kernel,rfl,by decide +kernel,by decide +kernel⟩
noncomputable abbrev x2l:Stmt:=top 57
theorem sc__law_far:FnScope ["_law_circuit", "_law_cell", "_law_far_here", "_law_at"] ["_law_circuit", "_law_cell"] (defScope x2l):=⟨rfl,rfl,rfl,by decide +kernel,rfl,by decide +kernel,by decide +kernel⟩
noncomputable abbrev q72:Stmt:=top 58
theorem sc__law_refused:FnScope ["_law_names", "_law_circuit", "_law_cell", "_law_way", "_law_bent"] ["_law_names", "_law_circuit", "_law_cell"] (defScope q72):=⟨rfl,rfl,rfl,by decide +kernel,rfl,by decide +kernel,by decide +kernel⟩
noncomputable abbrev x0e:Stmt:=top 59
theorem sc_law:FnScope ["_law_script", "_law_circuit", "_law_names", "_law_known", "_law_due", "_law_k", "_law_word_here", "_law_told", "_law_cell", "_law_found"] ["_law_script"] (defScope x0e):=⟨rfl,rfl,rfl,by decide +kernel,rfl,by decide +kernel,by decide +kernel⟩
noncomputable def q6d(K:PySem.W.Frag)(a:Adr)(r:Nat->List W->FR):List S->SR:=
 (dSeq (dIfS (dOr (dTest (dOp ltW (dVar 1) (dC (.int 0)))) (dTest (dOp geW (dVar 1) (dFn len1 (dCons (dVar 0) dNil)))))
  (dRaise a.NoPlace (dCons (dC (.str "there is nothing for a place of the form")) dNil))
  dNx)
  (dRet (dOp ixW (dVar 0) (dVar 1))))
noncomputable def x0f(K:PySem.W.Frag)(a:Adr)(r:Nat->List W->FR):List S->SR:=
 (dSeq (dDrop (dCall (r q0y) (dCons (dVar 1) dNil)))
  (dRet (dCall (r q05) (dCons (dVar 0) (dCons (dVar 1) dNil)))))
noncomputable def x2m(K:PySem.W.Frag)(a:Adr)(r:Nat->List W->FR):List S->SR:=
 (dSeq (dSet 2 (dCall (r q0y) (dCons (dVar 1) dNil)))
  (dSeq (dSet 3 (dCall (r q2x) (dCons (dVar 0) dNil)))
  (dSeq (dSet 4 (dCall (r q1y) (dCons (dVar 3) (dCons (dVar 2) (dCons (dFn len1 (dCons (dVar 0) dNil)) dNil)))))
  (dSeq (dIfS (dTest (dOp nisW (dVar 4) (dC .non)))
  (dRaise a.BadText (dCons (dFstr (fTxt "the text can't be read from " (fVal (dVar 4) (fTxt " on" fNil)))) dNil))
  dNx)
  (dRet (dCall (r q1t) (dCons (dVar 3) (dCons (dVar 2) dNil))))))))
noncomputable def x0g(K:PySem.W.Frag)(a:Adr)(r:Nat->List W->FR):List S->SR:=
 (dSeq (dSet 2 (dCall (r q0y) (dCons (dVar 1) dNil)))
  (dRet (dCall (r q1y) (dCons (dCall (r q2x) (dCons (dVar 0) dNil)) (dCons (dVar 2) (dCons (dFn len1 (dCons (dVar 0) dNil)) dNil))))))
noncomputable def q09(K:PySem.W.Frag)(a:Adr)(r:Nat->List W->FR):List S->SR:=
 (dSeq (dIfS (dNot (dTru (dCall (r q4n) (dCons (dVar 3) dNil))))
  (dRaise a.NoName (dCons (dFstr (fRepr (dVar 3) (fTxt " is no name" fNil))) dNil))
  dNx)
  (dSeq (dIfS (dBorrowT (dTest (dOp inD (dVar 3) (dVar 1))))
  (dRaise a.NoName (dCons (dFstr (fTxt "the name " (fVal (dVar 3) (fTxt " stands twice" fNil)))) dNil))
  dNx)
  (dPutD 1 (dVar 2) (dVar 3))))
noncomputable def q2n(K:PySem.W.Frag)(a:Adr)(r:Nat->List W->FR):List S->SR:=
 (dSeq (dSetD 1)
  (dSeq (dForP 2 3 (srcET (dCons (dVar 0) dNil))
  (q09 K a r))
  (dRetD 1)))
noncomputable def x05(K:PySem.W.Frag)(a:Adr)(r:Nat->List W->FR):Den W:=
 (dCall (r q1f) (dCons (dVar 0) dNil))
noncomputable def q7i(K:PySem.W.Frag)(a:Adr)(r:Nat->List W->FR):List S->SR:=
 (dSeq (dIfS (dOr (dTest (dOp ltW (dFn len1 (dCons (dVar 0) dNil)) (dC (.int 1)))) (dOr (dTest (dOp gtW (dFn len1 (dCons (dVar 0) dNil)) (dC (.int 8)))) (dTest (dOp inW (dVar 0) (dC (.tup [(.str "yes"),(.str "no"),(.str "not"),(.str "and"),(.str "odd"),(.str "or")]))))))
  (dRet (dC (.bl false)))
  dNx)
  (dRet (dFn all1 (dCons (dFz (dCompS [] (dVar 0) dYes (x05 K a r))) dNil))))
noncomputable def q17(K:PySem.W.Frag)(a:Adr)(r:Nat->List W->FR):List S->SR:=
 (dRet (dAndV (dOp leS (dC (.str "a")) (dVar 0)) (dOp leS (dVar 0) (dC (.str "z")))))
noncomputable def q3e(K:PySem.W.Frag)(a:Adr)(r:Nat->List W->FR):List S->SR:=
 (dSeq (dSet 2 (dOp ixW (dVar 0) (dC (.int 0))))
  (dSeq (dIfS (dTest (dOp eq2 (dVar 2) (dC (.str "is"))))
  (dRet (dIf (dTru (dOp ixW (dVar 0) (dC (.int 1)))) (dC (.str "yes")) (dC (.str "no"))))
  dNx)
  (dSeq (dIfS (dTest (dOp eq2 (dVar 2) (dC (.str "at"))))
  (dRet (dCall (r q4z) (dCons (dVar 1) (dCons (dOp ixW (dVar 0) (dC (.int 1))) dNil))))
  dNx)
  (dSeq (dSet 3 (dUn (tabW q1c) (dVar 2)))
  (dSeq (dIfS (dTest (dOp eq2 (dVar 2) (dC (.str "not"))))
  (dSeq (dSet 4 (dCall (r q14) (dCons (dOp ixW (dVar 0) (dC (.int 1))) (dCons (dVar 3) (dCons (dVar 1) dNil)))))
  (dRet (dFstr (fTxt "not " (fVal (dVar 4) fNil)))))
  dNx)
  (dSeq (dSet 5 (dCall (r q14) (dCons (dOp ixW (dVar 0) (dC (.int 1))) (dCons (dVar 3) (dCons (dVar 1) dNil)))))
  (dSeq (dSet 6 (dCall (r q14) (dCons (dOp ixW (dVar 0) (dC (.int 2))) (dCons (dOp addX (dVar 3) (dC (.int 1))) (dCons (dVar 1) dNil)))))
  (dRet (dFstr (fVal (dVar 5) (fTxt " " (fVal (dVar 2) (fTxt " " (fVal (dVar 6) fNil))))))))))))))
noncomputable def q5q(K:PySem.W.Frag)(a:Adr)(r:Nat->List W->FR):List S->SR:=
 (dSeq (dSet 3 (dCall (r q05) (dCons (dVar 0) (dCons (dVar 2) dNil))))
  (dSeq (dIfS (dTest (dOp ltW (dFn (tabGet q1c) (dCons (dOp ixW (dVar 0) (dC (.int 0))) (dCons (dC (.int 5)) dNil))) (dVar 1)))
  (dRet (dFstr (fTxt "(" (fVal (dVar 3) (fTxt ")" fNil)))))
  dNx)
  (dRet (dVar 3))))
noncomputable def q2u(K:PySem.W.Frag)(a:Adr)(r:Nat->List W->FR):Den Bool:=
 (dTest (dOp ltW (dVar 2) (dFn len1 (dCons (dVar 0) dNil))))
noncomputable def q2v(K:PySem.W.Frag)(a:Adr)(r:Nat->List W->FR):List S->SR:=
 (dSeq (dSet 3 (dCall (r q2e) (dCons (dVar 0) (dCons (dVar 2) dNil))))
  (dSeq (dIfS (dTest (dOp ne2 (dOp ixW (dVar 0) (dVar 2)) (dC (.str " "))))
  (dApp 1 (dCons (dTup (dCons (dVar 2) (dCons (dSlX (dVar 0) (dPart (dVar 2)) (dPart (dVar 3))) dNil))) dNil))
  dNx)
  (dSet 2 (dVar 3))))
noncomputable def q5r(K:PySem.W.Frag)(a:Adr)(r:Nat->List W->FR):List S->SR:=
 (dSeq (dSetO 1 (dLst dNil))
  (dSeq (dSet 2 (dC (.int 0)))
  (dSeq (whileD (q2u K a r)
  (q2v K a r) 1000000)
  (dRetO 1))))
noncomputable def q2o(K:PySem.W.Frag)(a:Adr)(r:Nat->List W->FR):Den Bool:=
 (dAnd (dTest (dOp ltW (dVar 2) (dFn len1 (dCons (dVar 0) dNil)))) (dTru (dCall (r q1f) (dCons (dOp ixW (dVar 0) (dVar 2)) dNil))))
noncomputable def q2p(K:PySem.W.Frag)(a:Adr)(r:Nat->List W->FR):List S->SR:=
 (dSet 2 (dOp addX (dVar 2) (dC (.int 1))))
noncomputable def q3r(K:PySem.W.Frag)(a:Adr)(r:Nat->List W->FR):List S->SR:=
 (dSeq (dSet 2 (dVar 1))
  (dSeq (whileD (q2o K a r)
  (q2p K a r) 1000000)
  (dRet (dFn max2 (dCons (dVar 2) (dCons (dOp addX (dVar 1) (dC (.int 1))) dNil))))))
noncomputable def q1e(K:PySem.W.Frag)(a:Adr)(r:Nat->List W->FR):List S->SR:=
 (dSeq (dIfS (dTru (dVar 3))
  (dSet 7 (dCall (r q32) (dCons (dVar 6) (dCons (dVar 4) (dCons (dVar 1) dNil)))))
  (dSet 7 (dCall (r q3b) (dCons (dVar 6) (dCons (dVar 4) dNil)))))
  (dSeq (dIfS (dNot (dTru (dVar 7)))
  (dRet (dVar 5))
  dNx)
  (dIfS (dTest (dOp eq2 (dVar 6) (dC (.str "("))))
  (dSet 4 (dOp addX (dVar 4) (dC (.int 1))))
  (dIfS (dTest (dOp eq2 (dVar 6) (dC (.str ")"))))
  (dSet 4 (dOp subW (dVar 4) (dC (.int 1))))
  (dSet 3 (dOrV (dOp eq2 (dVar 6) (dC (.str "not"))) (dOp inW (dVar 6) (dC (.tup [(.str "and"),(.str "odd"),(.str "or")])))))))))
noncomputable def q36(K:PySem.W.Frag)(a:Adr)(r:Nat->List W->FR):List S->SR:=
 (dSeq (dSet 3 (dC (.bl true)))
  (dSeq (dSet 4 (dC (.int 0)))
  (dSeq (dForP 5 6 (srcP (dVar 0))
  (q1e K a r))
  (dSeq (dIfS (dOr (dTru (dVar 3)) (dTest (dOp gtW (dVar 4) (dC (.int 0)))))
  (dRet (dVar 2))
  dNx)
  (dRet (dC .non))))))
noncomputable def q5s(K:PySem.W.Frag)(a:Adr)(r:Nat->List W->FR):List S->SR:=
 (dSeq (dIfS (dTest (dOp eq2 (dVar 0) (dC (.str "("))))
  (dRet (dOp ltW (dVar 1) (dC (.int 12))))
  dNx)
  (dRet (dOrV (dOp inW (dVar 0) (dTup (dCons (dC (.str "yes")) (dCons (dC (.str "no")) (dCons (dC (.str "not")) dNil))))) (dOp inD (dVar 0) (dVar 2)))))
noncomputable def q42(K:PySem.W.Frag)(a:Adr)(r:Nat->List W->FR):List S->SR:=
 (dSeq (dIfS (dTest (dOp eq2 (dVar 0) (dC (.str ")"))))
  (dRet (dOp gtW (dVar 1) (dC (.int 0))))
  dNx)
  (dRet (dOp inW (dVar 0) (dC (.tup [(.str "and"),(.str "odd"),(.str "or")])))))
noncomputable def q0x(K:PySem.W.Frag)(a:Adr)(r:Nat->List W->FR):List S->SR:=
 (dIfS (dOr (dTest (dOp eq2 (dVar 5) (dC (.str "(")))) (dTest (dOp eq2 (dVar 5) (dC (.str "not")))))
  (dApp 3 (dCons (dVar 5) dNil))
  (dIfS (dTest (dOp eq2 (dVar 5) (dC (.str ")"))))
  (dSeq (dMut2 (r q4b) 2 3 (dCons (dC (.int 1)) dNil))
  (dDrop (dPop 3)))
  (dIfS (dTest (dOp inW (dVar 5) (dC (.tup [(.str "and"),(.str "odd"),(.str "or")]))))
  (dSeq (dMut2 (r q4b) 2 3 (dCons (dUn (tabW q1c) (dVar 5)) dNil))
  (dApp 3 (dCons (dVar 5) dNil)))
  (dApp 2 (dCons (dCall (r q3c) (dCons (dVar 5) (dCons (dVar 1) dNil))) dNil)))))
noncomputable def q2q(K:PySem.W.Frag)(a:Adr)(r:Nat->List W->FR):List S->SR:=
 (dSeq (dSetO 2 (dLst dNil))
  (dSeq (dSetO 3 (dLst dNil))
  (dSeq (dForP 4 5 (srcP (dVar 0))
  (q0x K a r))
  (dSeq (dMut2 (r q4b) 2 3 (dCons (dC (.int 1)) dNil))
  (dRet (dIxV 2 (dC (.int 0))))))))
noncomputable def q3s(K:PySem.W.Frag)(a:Adr)(r:Nat->List W->FR):Den Bool:=
 (dAnd (dTest (dOp gtW (dFnV 1 len1) (dC (.int 0)))) (dTest (dOp geW (dUn (tabW q1c) (dIxV 1 (dUn negW (dC (.int 1))))) (dVar 2))))
noncomputable def q43(K:PySem.W.Frag)(a:Adr)(r:Nat->List W->FR):List S->SR:=
 (dSeq (dSet 3 (dPop 1))
  (dSeq (dSet 4 (dPop 0))
  (dIfS (dTest (dOp eq2 (dVar 3) (dC (.str "not"))))
  (dApp 0 (dCons (dTup (dCons (dC (.str "not")) (dCons (dVar 4) dNil))) dNil))
  (dApp 0 (dCons (dTup (dCons (dVar 3) (dCons (dPop 0) (dCons (dVar 4) dNil)))) dNil)))))
noncomputable def q8d(K:PySem.W.Frag)(a:Adr)(r:Nat->List W->FR):List S->SR:=
 (whileD (q3s K a r)
  (q43 K a r) 1000000)
noncomputable def q44(K:PySem.W.Frag)(a:Adr)(r:Nat->List W->FR):List S->SR:=
 (dSeq (dIfS (dTest (dOp eq2 (dVar 0) (dC (.str "yes"))))
  (dRet (dTup (dCons (dC (.str "is")) (dCons (dC (.bl true)) dNil))))
  dNx)
  (dSeq (dIfS (dTest (dOp eq2 (dVar 0) (dC (.str "no"))))
  (dRet (dTup (dCons (dC (.str "is")) (dCons (dC (.bl false)) dNil))))
  dNx)
  (dRet (dTup (dCons (dC (.str "at")) (dCons (dOp ixD (dVar 1) (dVar 0)) dNil))))))
noncomputable def q5e(K:PySem.W.Frag)(a:Adr)(r:Nat->List W->FR):Den W:=
 (dOp eq2 (dOp ixS (dVar 0) (dC (.str "first"))) (dC (.str "yes")))
noncomputable def q5f(K:PySem.W.Frag)(a:Adr)(r:Nat->List W->FR):Den Bool:=
 (dTest (dOp eq2 (dOp ixS (dVar 0) (dC (.str "word"))) (dC (.str "held"))))
noncomputable def q5g(K:PySem.W.Frag)(a:Adr)(r:Nat->List W->FR):Den W:=
 (dCall (r q9f) (dCons (dOp ixS (dVar 0) (dC (.str "form"))) (dCons (dOp addX (dOp ixW (dVar 1) (dC (.int 0))) (dOp ixW (dVar 1) (dC (.int 1)))) dNil)))
noncomputable def q5h(K:PySem.W.Frag)(a:Adr)(r:Nat->List W->FR):Den Bool:=
 (dTest (dOp ne2 (dOp ixS (dVar 0) (dC (.str "word"))) (dC (.str "in"))))
noncomputable def q73(K:PySem.W.Frag)(a:Adr)(r:Nat->List W->FR):Den W:=
 (dCall (r q1q) (dCons (dVar 1) (dCons (dVar 0) dNil)))
noncomputable def q45(K:PySem.W.Frag)(a:Adr)(r:Nat->List W->FR):List S->SR:=
 (dSeq (dIfS (dTest (dOp nisW (dCall (r q33) (dCons (dVar 0) dNil)) (dC .non)))
  (dRaise a.BadSheet (dCons (dC (.str "the text is no sheet")) dNil))
  dNx)
  (dSeq (dSet 1 (dOp ixW (dCall (r q1i) (dCons (dMeth "str" splitW (dVar 0) (dCons (dC (.str "\n")) dNil)) dNil)) (dC (.int 0))))
  (dSeq (dSet 2 (dFn tup1 (dCons (dFz (dComp [1] (dC (.tup [(.str "in"),(.str "held"),(.str "out")])) dYes (q73 K a r))) dNil)))
  (dSeq (dSet 3 (dFz (dComp [2] (dVar 1) (q5h K a r) (q5g K a r))))
  (dSeq (dSet 4 (dFz (dComp [] (dVar 1) (q5f K a r) (q5e K a r))))
  (dSeq (dSet 5 (dFn len1 (dCons (dVar 4) dNil)))
  (dRet (dTup (dCons (dVar 2) (dCons (dTup (dCons (dFn len1 (dCons (dOp ixW (dVar 2) (dC (.int 0))) dNil)) (dCons (dFn zip1 (dCons (dVar 4) (dCons (dSlX (dVar 3) dNoPart (dPart (dVar 5))) dNil))) (dCons (dFn tup1 (dCons (dSlX (dVar 3) (dPart (dVar 5)) dNoPart) dNil)) dNil)))) dNil))))))))))
noncomputable def q37(K:PySem.W.Frag)(a:Adr)(r:Nat->List W->FR):List S->SR:=
 (dIfS (dAnd (dTest (dOp ne2 (dOp ixS (dVar 3) (dC (.str "word"))) (dC (.str "in")))) (dTest (dOp nisW (dCall (r q7x) (dCons (dOp ixS (dVar 3) (dC (.str "form"))) (dCons (dVar 2) dNil))) (dC .non))))
  (dRet (dOp ixS (dVar 3) (dC (.str "row"))))
  dNx)
noncomputable def q5t(K:PySem.W.Frag)(a:Adr)(r:Nat->List W->FR):List S->SR:=
 (dSeq (dSet 1 (dCall (r q1i) (dCons (dMeth "str" splitW (dVar 0) (dCons (dC (.str "\n")) dNil)) dNil)))
  (dSeq (dIfS (dTest (dOp nisW (dOp ixW (dVar 1) (dC (.int 1))) (dC .non)))
  (dRet (dOp ixW (dVar 1) (dC (.int 1))))
  dNx)
  (dSeq (dSet 2 (dOp addX (dCall (r q1q) (dCons (dOp ixW (dVar 1) (dC (.int 0))) (dCons (dC (.str "in")) dNil))) (dCall (r q1q) (dCons (dOp ixW (dVar 1) (dC (.int 0))) (dCons (dC (.str "held")) dNil)))))
  (dSeq (dFor 3 (dOp ixW (dVar 1) (dC (.int 0)))
  (q37 K a r))
  (dRet (dC .non))))))
noncomputable def q1a(K:PySem.W.Frag)(a:Adr)(r:Nat->List W->FR):List S->SR:=
 (dIfS (dTest (dOp gtW (dFn len1 (dCons (dCall (r q3q) (dCons (dVar 3) dNil)) dNil)) (dC (.int 0))))
  (dSeq (dSetDI 4 (r q0z) (dCons (dVar 3) (dCons (dVar 2) dNil)))
  (dSeq (dIfS (dNot (dTru (dBorrow (dCall (r q34) (dCons (dVar 4) (dCons (dVar 1) dNil))))))
  (dRet (dTup (dCons (dVar 1) (dCons (dVar 2) dNil))))
  dNx)
  (dApp 1 (dCons (dVar 4) dNil))))
  dNx)
noncomputable def q2r(K:PySem.W.Frag)(a:Adr)(r:Nat->List W->FR):List S->SR:=
 (dSeq (dSetO 1 (dLst dNil))
  (dSeq (dForP 2 3 (srcE (dCons (dVar 0) dNil))
  (q1a K a r))
  (dRet (dTup (dCons (dVar 1) (dCons (dIf (dTest (dOp eq2 (dFnV 1 len1) (dC (.int 0)))) (dFn len1 (dCons (dVar 0) dNil)) (dC .non)) dNil))))))
noncomputable def q9m(K:PySem.W.Frag)(a:Adr)(r:Nat->List W->FR):Den W:=
 (dVar 0)
noncomputable def q9n(K:PySem.W.Frag)(a:Adr)(r:Nat->List W->FR):Den Bool:=
 (dTest (dOp ne2 (dVar 0) (dC (.str ""))))
noncomputable def q6e(K:PySem.W.Frag)(a:Adr)(r:Nat->List W->FR):List S->SR:=
 (dRetF (dComp [] (dMeth "str" splitW (dVar 0) (dCons (dC (.str " ")) dNil)) (q9n K a r) (q9m K a r)))
noncomputable def ptT(K:PySem.W.Frag)(a:Adr)(r:Nat->List W->FR):List S->SR:=
 (dSeq (dIfS (dAnd (dTest (dOp eq2 (dSlX (dVar 3) dNoPart (dPart (dC (.int 1)))) (dFz (dLst (dCons (dC (.str "in")) dNil))))) (dTest (dOp eq2 (dOp ixW (dVar 2) (dC (.int 1))) (dC (.str "")))))
  (dUpd 4 ["word", "names"] (dCons (dC (.str "in")) (dCons (dFn tup1 (dCons (dSlX (dVar 3) (dPart (dC (.int 1))) dNoPart) dNil)) dNil)))
  (dIfS (dAnd (dTest (dOp eq2 (dSlX (dVar 3) dNoPart (dPart (dC (.int 1)))) (dFz (dLst (dCons (dC (.str "held")) dNil))))) (dAnd (dTest (dOp eq2 (dOp ixW (dVar 2) (dC (.int 1))) (dC (.str "=")))) (dAnd (dTest (dOp eq2 (dFn len1 (dCons (dVar 3) dNil)) (dC (.int 3)))) (dTest (dOp inW (dOp ixW (dVar 3) (dC (.int 2))) (dC (.tup [(.str "yes"),(.str "no")])))))))
  (dUpd 4 ["word", "names", "first"] (dCons (dC (.str "held")) (dCons (dTup (dCons (dOp ixW (dVar 3) (dC (.int 1))) dNil)) (dCons (dOp ixW (dVar 3) (dC (.int 2))) dNil))))
  (dIfS (dAnd (dTest (dOp eq2 (dSlX (dVar 3) dNoPart (dPart (dC (.int 1)))) (dFz (dLst (dCons (dC (.str "out")) dNil))))) (dAnd (dTest (dOp eq2 (dOp ixW (dVar 2) (dC (.int 1))) (dC (.str "=")))) (dTest (dOp eq2 (dFn len1 (dCons (dVar 3) dNil)) (dC (.int 2))))))
  (dUpd 4 ["word", "names"] (dCons (dC (.str "out")) (dCons (dTup (dCons (dOp ixW (dVar 3) (dC (.int 1))) dNil)) dNil)))
  dNx)))
  (dRetW 4))
noncomputable def q38(K:PySem.W.Frag)(a:Adr)(r:Nat->List W->FR):List S->SR:=
 (dSeq (dSet 2 (dMeth "str" partW (dVar 0) (dCons (dC (.str "=")) dNil)))
  (dSeq (dSet 3 (dCall (r q3q) (dCons (dOp ixW (dVar 2) (dC (.int 0))) dNil)))
  (dSeq (dSetDS 4 ["row", "word", "names", "first", "form"] (dCons (dVar 1) (dCons (dC (.str "")) (dCons (dTup dNil) (dCons (dC .non) (dCons (dOp ixW (dVar 2) (dC (.int 2))) dNil))))))
  (ptT K a r))))
noncomputable def q39(K:PySem.W.Frag)(a:Adr)(r:Nat->List W->FR):List S->SR:=
 (dSeq (dIfS (dOr (dBorrowT (dTest (dOp inW (dVar 6) (dVar 4)))) (dOr (dTest (dOp inW (dVar 6) (dC (.tup [(.str "in"),(.str "held"),(.str "out")])))) (dNot (dTru (dCall (r q4n) (dCons (dVar 6) dNil))))))
  (dRet (dC (.bl false)))
  dNx)
  (dApp 4 (dCons (dVar 6) dNil)))
noncomputable def q02(K:PySem.W.Frag)(a:Adr)(r:Nat->List W->FR):List S->SR:=
 (dExt 4 (dCons (dCall (r q1q) (dCons (dVar 1) (dCons (dVar 5) dNil))) dNil))
noncomputable def q5u(K:PySem.W.Frag)(a:Adr)(r:Nat->List W->FR):List S->SR:=
 (dSeq (dSet 2 (dOp ixS (dVar 0) (dC (.str "word"))))
  (dSeq (dSet 3 (dIf (dTest (dOp gtW (dFn len1 (dCons (dVar 1) dNil)) (dC (.int 0)))) (dOp ixS (dOp ixW (dVar 1) (dUn negW (dC (.int 1)))) (dC (.str "word"))) (dC (.str ""))))
  (dSeq (dIfS (dOr (dTest (dOp ninW (dVar 2) (dC (.tup [(.str "in"),(.str "held"),(.str "out")])))) (dTest (dOp ninW (dVar 3) (dUn (tabCW q9e) (dVar 2)))))
  (dRet (dC (.bl false)))
  dNx)
  (dSeq (dIfS (dTest (dOp gtW (dFn len1 (dCons (dOp addX (dCall (r q1q) (dCons (dVar 1) (dCons (dVar 2) dNil))) (dOp ixS (dVar 0) (dC (.str "names")))) dNil)) (dUn (tabW q52) (dVar 2))))
  (dRet (dC (.bl false)))
  dNx)
  (dSeq (dSetO 4 (dLst dNil))
  (dSeq (dFor 5 (dC (.tup [(.str "in"),(.str "held"),(.str "out")]))
  (q02 K a r))
  (dSeq (dFor 6 (dOp ixS (dVar 0) (dC (.str "names")))
  (q39 K a r))
  (dRet (dC (.bl true))))))))))
noncomputable def q3f(K:PySem.W.Frag)(a:Adr)(r:Nat->List W->FR):List S->SR:=
 (dIfS (dTest (dOp eq2 (dOp ixS (dVar 3) (dC (.str "word"))) (dVar 1)))
  (dSet 2 (dOp addX (dVar 2) (dOp ixS (dVar 3) (dC (.str "names")))))
  dNx)
noncomputable def q6f(K:PySem.W.Frag)(a:Adr)(r:Nat->List W->FR):List S->SR:=
 (dSeq (dSet 2 (dTup dNil))
  (dSeq (dFor 3 (dVar 0)
  (q3f K a r))
  (dRet (dVar 2))))
noncomputable def q46(K:PySem.W.Frag)(a:Adr)(r:Nat->List W->FR):Den W:=
 (dFstr (fVal (dVar 0) (fTxt "\n" fNil)))
noncomputable def q25(K:PySem.W.Frag)(a:Adr)(r:Nat->List W->FR):List S->SR:=
 (dSeq (dSet 7 (dCall (r q4m) (dCons (dVar 8) (dCons (dVar 2) dNil))))
  (dApp 3 (dCons (dFstr (fTxt "out " (fVal (dVar 4) (fTxt " = " (fVal (dVar 7) fNil))))) dNil)))
noncomputable def q26(K:PySem.W.Frag)(a:Adr)(r:Nat->List W->FR):List S->SR:=
 (dSeq (dSet 6 (dIf (dTru (dOp ixW (dVar 5) (dC (.int 0)))) (dC (.str "yes")) (dC (.str "no"))))
  (dSeq (dSet 7 (dCall (r q4m) (dCons (dOp ixW (dVar 5) (dC (.int 1))) (dCons (dVar 2) dNil))))
  (dApp 3 (dCons (dFstr (fTxt "held " (fVal (dVar 4) (fTxt " " (fVal (dVar 6) (fTxt " = " (fVal (dVar 7) fNil))))))) dNil))))
noncomputable def q4a(K:PySem.W.Frag)(a:Adr)(r:Nat->List W->FR):List S->SR:=
 (dSeq (dSet 2 (dOp addX (dOp ixW (dVar 0) (dC (.int 0))) (dOp ixW (dVar 0) (dC (.int 1)))))
  (dSeq (dSetO 3 (dLst (dCons (dMeth "str" joinW (dC (.str " ")) (dCons (dOp addX (dTup (dCons (dC (.str "in")) dNil)) (dOp ixW (dVar 0) (dC (.int 0)))) dNil)) dNil)))
  (dSeq (dForP 4 5 (srcZ (dCons (dOp ixW (dVar 0) (dC (.int 1))) (dCons (dOp ixW (dVar 1) (dC (.int 1))) dNil)))
  (q26 K a r))
  (dSeq (dForP 4 8 (srcZ (dCons (dOp ixW (dVar 0) (dC (.int 2))) (dCons (dOp ixW (dVar 1) (dC (.int 2))) dNil)))
  (q25 K a r))
  (dRet (dMeth "str" joinW (dC (.str "")) (dCons (dFz (dComp [] (dVar 3) dYes (q46 K a r))) dNil)))))))
noncomputable def q3t(K:PySem.W.Frag)(a:Adr)(r:Nat->List W->FR):List S->SR:=
 (dSeq (dIfS (dTest (dOp ltW (dVar 1) (dFn len1 (dCons (dVar 0) dNil))))
  (dRet (dOp ixW (dVar 0) (dVar 1)))
  dNx)
  (dRet (dC (.int 0))))
noncomputable def q47(K:PySem.W.Frag)(a:Adr)(r:Nat->List W->FR):List S->SR:=
 (dRet (dOp modW (dOp powW (dOp modW (dOp addX (dOp mulW (dVar 0) (dC (.int 48271))) (dOp mulW (dOp addX (dVar 1) (dC (.int 1))) (dC (.int 1299721)))) (dC (.int 2147483647))) (dC (.int 5))) (dC (.int 2147483647))))
noncomputable def q3u(K:PySem.W.Frag)(a:Adr)(r:Nat->List W->FR):List S->SR:=
 (dSeq (dIfS (dOr (dTest (dOp eq2 (dVar 1) (dC (.int 0)))) (dTest (dOp eq2 (dOp modW (dVar 0) (dC (.int 8))) (dC (.int 7)))))
  (dRet (dTup (dCons (dC (.str "is")) (dCons (dOp eq2 (dOp modW (dOp fdivW (dVar 0) (dC (.int 8))) (dC (.int 2))) (dC (.int 1))) dNil))))
  dNx)
  (dRet (dTup (dCons (dC (.str "at")) (dCons (dOp modW (dOp fdivW (dVar 0) (dC (.int 8))) (dVar 1)) dNil)))))
noncomputable def q4c(K:PySem.W.Frag)(a:Adr)(r:Nat->List W->FR):List S->SR:=
 (dSet 7 (dTup (dCons (dOp ixW (dFz (dLst (dCons (dC (.str "or")) (dCons (dC (.str "odd")) (dCons (dC (.str "and")) dNil))))) (dOp modW (dOp addX (dVar 8) (dFn len1 (dCons (dVar 0) dNil))) (dC (.int 3)))) (dCons (dVar 7) (dCons (dIxV 2 (dVar 8)) dNil)))))
noncomputable def q2s(K:PySem.W.Frag)(a:Adr)(r:Nat->List W->FR):List S->SR:=
 (dSeq (dSet 4 (dOp modW (dVar 3) (dC (.int 9))))
  (dSeq (dSet 5 (dOp fdivW (dVar 3) (dC (.int 9))))
  (dIfS (dTest (dOp eq2 (dVar 4) (dC (.int 0))))
  (dApp 2 (dCons (dTup (dCons (dC (.str "not")) (dCons (dPop 2) dNil))) dNil))
  (dIfS (dAnd (dTest (dOp ltW (dVar 4) (dC (.int 5)))) (dTest (dOp gtW (dFnV 2 len1) (dC (.int 1)))))
  (dSeq (dSet 6 (dPop 2))
  (dApp 2 (dCons (dTup (dCons (dOp ixW (dFz (dLst (dCons (dC (.str "and")) (dCons (dC (.str "or")) (dCons (dC (.str "odd")) dNil))))) (dOp modW (dVar 5) (dC (.int 3)))) (dCons (dPop 2) (dCons (dVar 6) dNil)))) dNil)))
  (dApp 2 (dCons (dCall (r q1r) (dCons (dVar 5) (dCons (dVar 1) dNil))) dNil))))))
noncomputable def q3v(K:PySem.W.Frag)(a:Adr)(r:Nat->List W->FR):List S->SR:=
 (dSeq (dSetO 2 (dLst (dCons (dCall (r q1r) (dCons (dFn len1 (dCons (dVar 0) dNil)) (dCons (dVar 1) dNil))) dNil)))
  (dSeq (dFor 3 (dVar 0)
  (q2s K a r))
  (dSeq (dSet 7 (dIxV 2 (dC (.int 0))))
  (dSeq (dForR 8 rng2 (dCons (dC (.int 1)) (dCons (dFnV 2 len1) dNil))
  (q4c K a r))
  (dRet (dVar 7))))))
noncomputable def q18(K:PySem.W.Frag)(a:Adr)(r:Nat->List W->FR):Den W:=
 (dOp ixW (dVar 2) (dOp modW (dCall (r q1d) (dCons (dVar 1) (dCons (dOp addX (dOp mulW (dC (.int 9)) (dVar 3)) (dVar 0)) dNil))) (dC (.int 26))))
noncomputable def nmE(K:PySem.W.Frag)(a:Adr)(r:Nat->List W->FR):List S->SR:=
 (dSeq (dIfS (dTest (dOp inW (dVar 8) (dTup (dCons (dC (.str "yes")) (dCons (dC (.str "no")) (dCons (dC (.str "not")) (dCons (dC (.str "and")) (dCons (dC (.str "odd")) (dCons (dC (.str "or")) (dCons (dC (.str "in")) (dCons (dC (.str "held")) (dCons (dC (.str "out")) dNil))))))))))))
  (dSet 8 (dOp addX (dVar 8) (dC (.str "x"))))
  dNx)
  (dApp 3 (dCons (dVar 8) dNil)))
noncomputable def nmS(K:PySem.W.Frag)(a:Adr)(r:Nat->List W->FR):List S->SR:=
 (dSeq (dSet 7 (dOp modW (dOp fdivW (dVar 0) (dC (.int 624))) (dOp addX (dVar 6) (dC (.int 1)))))
  (dSeq (dSet 8 (dOp addX (dOp addX (dOp mulS (dC (.str "q")) (dVar 7)) (dVar 5)) (dOp mulS (dC (.str "q")) (dOp subW (dVar 6) (dVar 7)))))
  (dSeq (dIfS (dTest (dOp eq2 (dOp modW (dVar 0) (dC (.int 3))) (dC (.int 2))))
  (dSeq (dSet 9 (dFz (dCompR rng1 [0,2,4] (dCons (dVar 6) dNil) dYes (q18 K a r))))
  (dSet 8 (dOp addX (dVar 5) (dMeth "str" joinW (dC (.str "")) (dCons (dVar 9) dNil)))))
  dNx)
  (nmE K a r))))
noncomputable def q19(K:PySem.W.Frag)(a:Adr)(r:Nat->List W->FR):List S->SR:=
 (dSeq (dSet 5 (dOp ixW (dVar 2) (dOp modW (dOp addX (dOp fdivW (dVar 0) (dC (.int 3))) (dOp mulW (dC (.int 7)) (dVar 4))) (dC (.int 26)))))
  (dSeq (dSet 6 (dOp ixW (dFz (dLst (dCons (dC (.int 0)) (dCons (dC (.int 1)) (dCons (dC (.int 2)) (dCons (dC (.int 0)) (dCons (dC (.int 5)) (dCons (dC (.int 7)) (dCons (dC (.int 3)) (dCons (dC (.int 0)) dNil)))))))))) (dOp modW (dOp fdivW (dVar 0) (dC (.int 78))) (dC (.int 8)))))
  (dSeq (dIfS (dTest (dOp eq2 (dOp modW (dVar 0) (dC (.int 3))) (dC (.int 0))))
  (dSet 6 (dOp modW (dCall (r q1d) (dCons (dVar 0) (dCons (dVar 4) dNil))) (dC (.int 8))))
  dNx)
  (nmS K a r))))
noncomputable def q27(K:PySem.W.Frag)(a:Adr)(r:Nat->List W->FR):List S->SR:=
 (dSeq (dSet 2 (dC (.str "abcdefghijklmnopqrstuvwxyz")))
  (dSeq (dSetO 3 (dLst dNil))
  (dSeq (dForR 4 rng1 (dCons (dVar 1) dNil)
  (q19 K a r))
  (dRetO 3))))
noncomputable def q22(K:PySem.W.Frag)(a:Adr)(r:Nat->List W->FR):Den W:=
 (dTup (dCons (dOp eq2 (dOp modW (dOp fdivW (dVar 2) (dOp addX (dVar 0) (dC (.int 1)))) (dC (.int 2))) (dC (.int 1))) (dCons (dOp ixW (dVar 1) (dVar 0)) dNil)))
noncomputable def q1v(K:PySem.W.Frag)(a:Adr)(r:Nat->List W->FR):Den W:=
 (dCall (r q1d) (dCons (dVar 2) (dCons (dOp addX (dOp mulW (dC (.int 11)) (dVar 1)) (dVar 0)) dNil)))
noncomputable def q1w(K:PySem.W.Frag)(a:Adr)(r:Nat->List W->FR):List S->SR:=
 (dSeq (dSet 8 (dCall (r q03) (dCons (dVar 0) (dCons (dOp addX (dC (.int 2)) (dVar 7)) dNil))))
  (dSeq (dSet 9 (dOp addX (dC (.int 1)) (dOp modW (dCall (r q1d) (dCons (dVar 8) (dCons (dVar 7) dNil))) (dVar 1))))
  (dSeq (dSet 10 (dFz (dCompR rng1 [7,8] (dCons (dVar 9) dNil) dYes (q1v K a r))))
  (dApp 6 (dCons (dCall (r q2g) (dCons (dVar 10) (dCons (dOp addX (dVar 3) (dVar 4)) dNil))) dNil)))))
noncomputable def ciT(K:PySem.W.Frag)(a:Adr)(r:Nat->List W->FR):List S->SR:=
 (dSeq (dSetO 6 (dLst dNil))
  (dSeq (dForR 7 rng1 (dCons (dOp addX (dVar 4) (dVar 5)) dNil)
  (q1w K a r))
  (dSeq (dSet 11 (dCall (r q03) (dCons (dVar 0) (dCons (dC (.int 1)) dNil))))
  (dSeq (dSet 12 (dFz (dCompR rng1 [6,11] (dCons (dVar 4) dNil) dYes (q22 K a r))))
  (dRet (dTup (dCons (dVar 3) (dCons (dFn tup1 (dCons (dVar 12) dNil)) (dCons (dFn tup1 (dCons (dSlX (dVar 6) (dPart (dVar 4)) dNoPart) dNil)) dNil)))))))))
noncomputable def ciO(K:PySem.W.Frag)(a:Adr)(r:Nat->List W->FR):List S->SR:=
 (dSeq (dSet 5 (dOp ixW (dFz (dLst (dCons (dC (.int 1)) (dCons (dC (.int 2)) (dCons (dC (.int 3)) (dCons (dC (.int 0)) dNil)))))) (dOp modW (dOp fdivW (dVar 2) (dC (.int 12))) (dC (.int 4)))))
  (dSeq (dIfS (dTest (dOp eq2 (dOp modW (dOp fdivW (dVar 2) (dC (.int 48))) (dC (.int 8))) (dC (.int 3))))
  (dSet 5 (dC (.int 6)))
  dNx)
  (ciT K a r)))
noncomputable def q2a(K:PySem.W.Frag)(a:Adr)(r:Nat->List W->FR):List S->SR:=
 (dSeq (dSet 2 (dCall (r q03) (dCons (dVar 0) (dCons (dC (.int 0)) dNil))))
  (dSeq (dSet 3 (dOp modW (dVar 2) (dC (.int 3))))
  (dSeq (dSet 4 (dOp modW (dOp fdivW (dVar 2) (dC (.int 3))) (dC (.int 4))))
  (dSeq (dIfS (dAnd (dTest (dOp eq2 (dOp modW (dOp fdivW (dVar 2) (dC (.int 48))) (dC (.int 8))) (dC (.int 1)))) (dTest (dOp ltW (dVar 3) (dC (.int 2)))))
  (dSet 4 (dC (.int 4)))
  dNx)
  (dSeq (dIfS (dTest (dOp eq2 (dOp modW (dOp fdivW (dVar 2) (dC (.int 48))) (dC (.int 8))) (dC (.int 2))))
  (dSeq (dSet 3 (dC (.int 3)))
  (dSet 4 (dOp modW (dVar 4) (dC (.int 3)))))
  dNx)
  (ciO K a r))))))
noncomputable def q48(K:PySem.W.Frag)(a:Adr)(r:Nat->List W->FR):List S->SR:=
 (dSeq (dSet 2 (dOp addX (dOp ixW (dVar 1) (dC (.int 0))) (dFn len1 (dCons (dOp ixW (dVar 1) (dC (.int 1))) dNil))))
  (dSeq (dSet 3 (dCall (r q12) (dCons (dCall (r q03) (dCons (dVar 0) (dCons (dC (.int 9)) dNil))) (dCons (dOp addX (dVar 2) (dFn len1 (dCons (dOp ixW (dVar 1) (dC (.int 2))) dNil))) dNil))))
  (dRet (dTup (dCons (dFn tup1 (dCons (dSlX (dVar 3) dNoPart (dPart (dOp ixW (dVar 1) (dC (.int 0))))) dNil)) (dCons (dFn tup1 (dCons (dSlX (dVar 3) (dPart (dOp ixW (dVar 1) (dC (.int 0)))) (dPart (dVar 2))) dNil)) (dCons (dFn tup1 (dCons (dSlX (dVar 3) (dPart (dVar 2)) dNoPart) dNil)) dNil)))))))
noncomputable def q5v(K:PySem.W.Frag)(a:Adr)(r:Nat->List W->FR):List S->SR:=
 (dSeq (dSet 2 (dC .non))
  (dSeq (dTryK K a.CircuitError 3
  (dDrop (dCall (r q1g) (dCons (dVar 0) (dCons (dVar 1) dNil))))
  (dSet 2 (dVar 3)))
  (dSeq (dIfS (dTest (dOp isW (dVar 2) (dC .non)))
  (dRet (dC (.str "")))
  dNx)
  (dSeq (dSet 4 (dOp addX (dOp repW (dFz (dLst (dCons (dC (.str "name")) dNil))) (dFn int1 (dCons (dIsi K (.ref a.NoName) (dVar 2)) dNil))) (dOp repW (dFz (dLst (dCons (dC (.str "place")) dNil))) (dFn int1 (dCons (dIsi K (.ref a.NoPlace) (dVar 2)) dNil)))))
  (dSeq (dIfS (dAnd (dTest (dOp eq2 (dFn len1 (dCons (dVar 4) dNil)) (dC (.int 1)))) (dTru (dIsi K (.type "ValueError") (dVar 2))))
  (dRet (dOp ixW (dVar 4) (dC (.int 0))))
  dNx)
  (dRet (dC (.str "other"))))))))
noncomputable def q6g(K:PySem.W.Frag)(a:Adr)(r:Nat->List W->FR):List S->SR:=
 (dRet (dOp addX (dOp addX (dSlX (dVar 0) dNoPart (dPart (dVar 1))) (dTup (dCons (dVar 2) dNil))) (dSlX (dVar 0) (dPart (dOp addX (dVar 1) (dC (.int 1)))) dNoPart)))
noncomputable def q2t(K:PySem.W.Frag)(a:Adr)(r:Nat->List W->FR):List S->SR:=
 (dSeq (dSet 2 (dOp addX (dOp ixW (dVar 0) (dC (.int 0))) (dOp ixW (dVar 0) (dC (.int 1)))))
  (dSeq (dSet 3 (dOp ixW (dFz (dLst (dCons (dC (.str "and")) (dCons (dC (.str "abcdefghi")) (dCons (dC (.str "aB")) (dCons (dC (.str "a1")) (dCons (dC (.str "")) (dCons (dC (.str "not")) (dCons (dC (.str "a b")) (dCons (dOp ixW (dVar 2) (dOp modW (dOp fdivW (dVar 1) (dC (.int 7))) (dFn len1 (dCons (dVar 2) dNil)))) dNil)))))))))) (dOp modW (dVar 1) (dC (.int 8)))))
  (dSeq (dSet 4 (dOp modW (dOp fdivW (dVar 1) (dC (.int 64))) (dFn len1 (dCons (dVar 2) dNil))))
  (dSeq (dIfS (dTest (dOp eq2 (dOp ixW (dVar 2) (dVar 4)) (dVar 3)))
  (dSet 3 (dC (.str "or")))
  dNx)
  (dSeq (dIfS (dTest (dOp ltW (dVar 4) (dFn len1 (dCons (dOp ixW (dVar 0) (dC (.int 0))) dNil))))
  (dRet (dTup (dCons (dCall (r q13) (dCons (dOp ixW (dVar 0) (dC (.int 0))) (dCons (dVar 4) (dCons (dVar 3) dNil)))) (dCons (dOp ixW (dVar 0) (dC (.int 1))) (dCons (dOp ixW (dVar 0) (dC (.int 2))) dNil)))))
  dNx)
  (dRet (dTup (dCons (dOp ixW (dVar 0) (dC (.int 0))) (dCons (dCall (r q13) (dCons (dOp ixW (dVar 0) (dC (.int 1))) (dCons (dOp subW (dVar 4) (dFn len1 (dCons (dOp ixW (dVar 0) (dC (.int 0))) dNil))) (dCons (dVar 3) dNil)))) (dCons (dOp ixW (dVar 0) (dC (.int 2))) dNil))))))))))
noncomputable def q6h(K:PySem.W.Frag)(a:Adr)(r:Nat->List W->FR):List S->SR:=
 (dSeq (dSet 2 (dTup (dCons (dC (.str "not")) (dCons (dTup (dCons (dC (.str "at")) (dCons (dOp addX (dOp addX (dOp ixW (dVar 0) (dC (.int 0))) (dFn len1 (dCons (dOp ixW (dVar 0) (dC (.int 1))) dNil))) (dOp modW (dVar 1) (dC (.int 3)))) dNil))) dNil))))
  (dSeq (dSet 3 (dOp modW (dOp fdivW (dVar 1) (dC (.int 3))) (dOp addX (dFn len1 (dCons (dOp ixW (dVar 0) (dC (.int 1))) dNil)) (dFn len1 (dCons (dOp ixW (dVar 0) (dC (.int 2))) dNil)))))
  (dSeq (dIfS (dTest (dOp ltW (dVar 3) (dFn len1 (dCons (dOp ixW (dVar 0) (dC (.int 1))) dNil))))
  (dRet (dTup (dCons (dOp ixW (dVar 0) (dC (.int 0))) (dCons (dCall (r q13) (dCons (dOp ixW (dVar 0) (dC (.int 1))) (dCons (dVar 3) (dCons (dTup (dCons (dOp ixW (dOp ixW (dOp ixW (dVar 0) (dC (.int 1))) (dVar 3)) (dC (.int 0))) (dCons (dVar 2) dNil))) dNil)))) (dCons (dOp ixW (dVar 0) (dC (.int 2))) dNil)))))
  dNx)
  (dRet (dTup (dCons (dOp ixW (dVar 0) (dC (.int 0))) (dCons (dOp ixW (dVar 0) (dC (.int 1))) (dCons (dCall (r q13) (dCons (dOp ixW (dVar 0) (dC (.int 2))) (dCons (dOp subW (dVar 3) (dFn len1 (dCons (dOp ixW (dVar 0) (dC (.int 1))) dNil))) (dCons (dVar 2) dNil)))) dNil))))))))
noncomputable def q3w(K:PySem.W.Frag)(a:Adr)(r:Nat->List W->FR):List S->SR:=
 (dSeq (dSet 3 (dOp modW (dVar 2) (dC (.int 3))))
  (dSeq (dIfS (dTest (dOp eq2 (dOp addX (dOp ixW (dVar 0) (dC (.int 0))) (dOp ixW (dVar 0) (dC (.int 1)))) (dTup dNil)))
  (dSet 3 (dC (.int 1)))
  dNx)
  (dSeq (dSetO 4 (dLst (dCons (dVar 0) (dCons (dVar 1) dNil))))
  (dSeq (dIfS (dTest (dOp ne2 (dVar 3) (dC (.int 1))))
  (dPut 4 (dCall (r q1j) (dCons (dVar 0) (dCons (dOp fdivW (dVar 2) (dC (.int 3))) dNil))) (dC (.int 0)))
  dNx)
  (dSeq (dIfS (dTest (dOp gtW (dVar 3) (dC (.int 0))))
  (dPut 4 (dCall (r q40) (dCons (dVar 1) (dCons (dOp fdivW (dVar 2) (dC (.int 3))) dNil))) (dC (.int 1)))
  dNx)
  (dRet (dOp eq2 (dCall (r q1m) (dCons (dIxV 4 (dC (.int 0))) (dCons (dIxV 4 (dC (.int 1))) dNil))) (dOp ixW (dFz (dLst (dCons (dC (.str "name")) (dCons (dC (.str "place")) (dCons (dC (.str "name")) dNil))))) (dVar 3)))))))))
noncomputable def x0h(K:PySem.W.Frag)(a:Adr)(r:Nat->List W->FR):List S->SR:=
 (dSet 4 (dOp addX (dOp addX (dOp addX (dOp addX (dOp addX (dVar 4) (dC (.str "out "))) (dOp ixW (dOp ixW (dVar 2) (dC (.int 2))) (dVar 5))) (dC (.str " = "))) (dCall (r q4m) (dCons (dOp ixW (dOp ixW (dVar 1) (dC (.int 2))) (dVar 5)) (dCons (dVar 3) dNil)))) (dC (.str "\n"))))
noncomputable def x0i(K:PySem.W.Frag)(a:Adr)(r:Nat->List W->FR):List S->SR:=
 (dSeq (dSet 6 (dOp ixW (dFz (dLst (dCons (dC (.str "no")) (dCons (dC (.str "yes")) dNil)))) (dFn int1 (dCons (dOp ixW (dOp ixW (dOp ixW (dVar 1) (dC (.int 1))) (dVar 5)) (dC (.int 0))) dNil))))
  (dSeq (dSet 7 (dCall (r q4m) (dCons (dOp ixW (dOp ixW (dOp ixW (dVar 1) (dC (.int 1))) (dVar 5)) (dC (.int 1))) (dCons (dVar 3) dNil))))
  (dSet 4 (dOp addX (dOp addX (dOp addX (dOp addX (dOp addX (dOp addX (dOp addX (dVar 4) (dC (.str "held "))) (dOp ixW (dOp ixW (dVar 2) (dC (.int 1))) (dVar 5))) (dC (.str " "))) (dVar 6)) (dC (.str " = "))) (dVar 7)) (dC (.str "\n"))))))
noncomputable def x5f(K:PySem.W.Frag)(a:Adr)(r:Nat->List W->FR):List S->SR:=
 (dSeq (dSet 1 (dCall (r q1p) (dCons (dVar 0) (dCons (dC (.int 5)) dNil))))
  (dSeq (dSet 2 (dCall (r q2h) (dCons (dVar 0) (dCons (dVar 1) dNil))))
  (dSeq (dSet 3 (dOp addX (dOp ixW (dVar 2) (dC (.int 0))) (dOp ixW (dVar 2) (dC (.int 1)))))
  (dSeq (dSet 4 (dOp addX (dMeth "str" joinW (dC (.str " ")) (dCons (dOp addX (dFz (dLst (dCons (dC (.str "in")) dNil))) (dFz (dList (dCons (dOp ixW (dVar 2) (dC (.int 0))) dNil)))) dNil)) (dC (.str "\n"))))
  (dSeq (dForR 5 rng1 (dCons (dFn len1 (dCons (dOp ixW (dVar 1) (dC (.int 1))) dNil)) dNil)
  (x0i K a r))
  (dSeq (dForR 5 rng1 (dCons (dFn len1 (dCons (dOp ixW (dVar 1) (dC (.int 2))) dNil)) dNil)
  (x0h K a r))
  (dSeq (dSet 8 (dCall (r q1d) (dCons (dCall (r q03) (dCons (dVar 0) (dCons (dC (.int 11)) dNil))) (dCons (dC (.int 3)) dNil))))
  (dSeq (dIfS (dAnd (dTest (dOp ne2 (dOp addX (dOp ixW (dVar 1) (dC (.int 1))) (dOp ixW (dVar 1) (dC (.int 2)))) (dTup dNil))) (dAnd (dTest (dOp eq2 (dOp modW (dVar 8) (dC (.int 4))) (dC (.int 1)))) (dNot (dTru (dCall (r q2i) (dCons (dVar 2) (dCons (dVar 1) (dCons (dOp fdivW (dVar 8) (dC (.int 4))) dNil))))))))
  (dRet (dC (.bl false)))
  dNx)
  (dSeq (dSet 9 (dCall (r q1g) (dCons (dVar 2) (dCons (dVar 1) dNil))))
  (dRet (dAndV (dIsi K (.type "str") (dVar 9)) (dAndV (dOp eq2 (dVar 9) (dVar 4)) (dOp eq2 (dCall (r q2f) (dCons (dVar 9) dNil)) (dTup (dCons (dVar 2) (dCons (dVar 1) dNil))))))))))))))))
noncomputable def body(K:PySem.W.Frag)(a:Adr)(r:Nat->List W->FR)(ws:List W):Nat->FR
 |0=>if ws.length=2 then(q6d K a r (init 2 ws)).fn else .no
 |1=>if ws.length=2 then(x0f K a r (init 2 ws)).fn else .no
 |2=>if ws.length=2 then(x2m K a r (init 5 ws)).fn else .no
 |3=>if ws.length=2 then(x0g K a r (init 3 ws)).fn else .no
 |4=>if ws.length=1 then(q2n K a r (init 4 ws)).fn else .no
 |5=>if ws.length=1 then(q7i K a r (init 1 ws)).fn else .no
 |6=>if ws.length=1 then(q17 K a r (init 1 ws)).fn else .no
 |7=>if ws.length=2 then(q3e K a r (init 7 ws)).fn else .no
 |8=>if ws.length=3 then(q5q K a r (init 4 ws)).fn else .no
 |9=>if ws.length=1 then(q5r K a r (init 4 ws)).fn else .no
 |10=>if ws.length=2 then(q3r K a r (init 3 ws)).fn else .no
 |11=>if ws.length=3 then(q36 K a r (init 8 ws)).fn else .no
 |12=>if ws.length=3 then(q5s K a r (init 3 ws)).fn else .no
 |13=>if ws.length=2 then(q42 K a r (init 2 ws)).fn else .no
 |14=>if ws.length=2 then(q2q K a r (init 6 ws)).fn else .no
 |15=>if ws.length=3 then(q8d K a r (initM 5 ws)).fm else .no
 |16=>if ws.length=2 then(q44 K a r (init 2 ws)).fn else .no
 |17=>if ws.length=1 then(q45 K a r (init 6 ws)).fn else .no
 |18=>if ws.length=1 then(q5t K a r (init 4 ws)).fn else .no
 |19=>if ws.length=1 then(q2r K a r (init 5 ws)).fn else .no
 |20=>if ws.length=1 then(q6e K a r (init 1 ws)).fn else .no
 |21=>if ws.length=2 then(q38 K a r (init 5 ws)).fn else .no
 |22=>if ws.length=2 then(q5u K a r (init 7 ws)).fn else .no
 |23=>if ws.length=2 then(q6f K a r (init 4 ws)).fn else .no
 |24=>if ws.length=2 then(q4a K a r (init 9 ws)).fn else .no
 |25=>if ws.length=2 then(q3t K a r (init 2 ws)).fn else .no
 |26=>if ws.length=2 then(q47 K a r (init 2 ws)).fn else .no
 |27=>if ws.length=2 then(q3u K a r (init 2 ws)).fn else .no
 |28=>if ws.length=2 then(q3v K a r (init 9 ws)).fn else .no
 |29=>if ws.length=2 then(q27 K a r (init 10 ws)).fn else .no
 |30=>if ws.length=2 then(q2a K a r (init 13 ws)).fn else .no
 |31=>if ws.length=2 then(q48 K a r (init 4 ws)).fn else .no
 |32=>if ws.length=2 then(q5v K a r (init 5 ws)).fn else .no
 |33=>if ws.length=3 then(q6g K a r (init 3 ws)).fn else .no
 |34=>if ws.length=2 then(q2t K a r (init 5 ws)).fn else .no
 |35=>if ws.length=2 then(q6h K a r (init 4 ws)).fn else .no
 |36=>if ws.length=3 then(q3w K a r (init 5 ws)).fn else .no
 |37=>if ws.length=1 then(x5f K a r (init 10 ws)).fn else .no
 |_=>.no
noncomputable def run(K:PySem.W.Frag)(a:Adr):Nat->Nat->List W->FR
 |0,_,_=>.no
 |n+1,i,ws=>body K a (run K a n) ws i
theorem q65:run K a (n+1) q4z ws=if ws.length=2 then(q6d K a (run K a n) (init 2 ws)).fn else .no:=rfl
theorem q9o:run K a (n+1) q4m ws=if ws.length=2 then(x0f K a (run K a n) (init 2 ws)).fn else .no:=rfl
theorem x1k:run K a (n+1) q9f ws=if ws.length=2 then(x2m K a (run K a n) (init 5 ws)).fn else .no:=rfl
theorem q9p:run K a (n+1) q7x ws=if ws.length=2 then(x0g K a (run K a n) (init 3 ws)).fn else .no:=rfl
theorem q3g:run K a (n+1) q0y ws=if ws.length=1 then(q2n K a (run K a n) (init 4 ws)).fn else .no:=rfl
theorem q7p:run K a (n+1) q4n ws=if ws.length=1 then(q7i K a (run K a n) (init 1 ws)).fn else .no:=rfl
theorem q23:run K a (n+1) q1f ws=if ws.length=1 then(q17 K a (run K a n) (init 1 ws)).fn else .no:=rfl
theorem q2y:run K a (n+1) q05 ws=if ws.length=2 then(q3e K a (run K a n) (init 7 ws)).fn else .no:=rfl
theorem q54:run K a (n+1) q14 ws=if ws.length=3 then(q5q K a (run K a n) (init 4 ws)).fn else .no:=rfl
theorem q55:run K a (n+1) q2x ws=if ws.length=1 then(q5r K a (run K a n) (init 4 ws)).fn else .no:=rfl
theorem q4d:run K a (n+1) q2e ws=if ws.length=2 then(q3r K a (run K a n) (init 3 ws)).fn else .no:=rfl
theorem q49:run K a (n+1) q1y ws=if ws.length=3 then(q36 K a (run K a n) (init 8 ws)).fn else .no:=rfl
theorem q56:run K a (n+1) q32 ws=if ws.length=3 then(q5s K a (run K a n) (init 3 ws)).fn else .no:=rfl
theorem q5i:run K a (n+1) q3b ws=if ws.length=2 then(q42 K a (run K a n) (init 2 ws)).fn else .no:=rfl
theorem q3h:run K a (n+1) q1t ws=if ws.length=2 then(q2q K a (run K a n) (init 6 ws)).fn else .no:=rfl
theorem q8e:run K a (n+1) q4b ws=if ws.length=3 then(q8d K a (run K a n) (initM 5 ws)).fm else .no:=rfl
theorem q5j:run K a (n+1) q3c ws=if ws.length=2 then(q44 K a (run K a n) (init 2 ws)).fn else .no:=rfl
theorem q5k:run K a (n+1) q2f ws=if ws.length=1 then(q45 K a (run K a n) (init 6 ws)).fn else .no:=rfl
theorem q57:run K a (n+1) q33 ws=if ws.length=1 then(q5t K a (run K a n) (init 4 ws)).fn else .no:=rfl
theorem q3i:run K a (n+1) q1i ws=if ws.length=1 then(q2r K a (run K a n) (init 5 ws)).fn else .no:=rfl
theorem q66:run K a (n+1) q3q ws=if ws.length=1 then(q6e K a (run K a n) (init 1 ws)).fn else .no:=rfl
theorem q5a:run K a (n+1) q0z ws=if ws.length=2 then(q38 K a (run K a n) (init 5 ws)).fn else .no:=rfl
theorem q58:run K a (n+1) q34 ws=if ws.length=2 then(q5u K a (run K a n) (init 7 ws)).fn else .no:=rfl
theorem q67:run K a (n+1) q1q ws=if ws.length=2 then(q6f K a (run K a n) (init 4 ws)).fn else .no:=rfl
theorem q5b:run K a (n+1) q1g ws=if ws.length=2 then(q4a K a (run K a n) (init 9 ws)).fn else .no:=rfl
theorem q4e:run K a (n+1) q03 ws=if ws.length=2 then(q3t K a (run K a n) (init 2 ws)).fn else .no:=rfl
theorem q5l:run K a (n+1) q1d ws=if ws.length=2 then(q47 K a (run K a n) (init 2 ws)).fn else .no:=rfl
theorem q4f:run K a (n+1) q1r ws=if ws.length=2 then(q3u K a (run K a n) (init 2 ws)).fn else .no:=rfl
theorem q4g:run K a (n+1) q2g ws=if ws.length=2 then(q3v K a (run K a n) (init 9 ws)).fn else .no:=rfl
theorem q3x:run K a (n+1) q12 ws=if ws.length=2 then(q27 K a (run K a n) (init 10 ws)).fn else .no:=rfl
theorem q24:run K a (n+1) q1p ws=if ws.length=2 then(q2a K a (run K a n) (init 13 ws)).fn else .no:=rfl
theorem q5m:run K a (n+1) q2h ws=if ws.length=2 then(q48 K a (run K a n) (init 4 ws)).fn else .no:=rfl
theorem q59:run K a (n+1) q1m ws=if ws.length=2 then(q5v K a (run K a n) (init 5 ws)).fn else .no:=rfl
theorem q68:run K a (n+1) q13 ws=if ws.length=3 then(q6g K a (run K a n) (init 3 ws)).fn else .no:=rfl
theorem q3j:run K a (n+1) q1j ws=if ws.length=2 then(q2t K a (run K a n) (init 5 ws)).fn else .no:=rfl
theorem q69:run K a (n+1) q40 ws=if ws.length=2 then(q6h K a (run K a n) (init 4 ws)).fn else .no:=rfl
theorem q4h:run K a (n+1) q2i ws=if ws.length=3 then(q3w K a (run K a n) (init 5 ws)).fn else .no:=rfl
theorem q74:run K a (n+1) x0d ws=if ws.length=1 then(x5f K a (run K a n) (init 10 ws)).fn else .no:=rfl
section
variable{P:Program}{w:World}{base:Heap}
structure Ats(K:PySem.W.Frag)(mg:Str->Option Value):Prop where
 thing_at:At K mg "thing_at" x2g ["things", "place"]
 shown:At K mg "shown" x8o ["form", "names"]
 read:At K mg "read" y2v ["text", "names"]
 fault:At K mg "fault" x8p ["text", "names"]
 places_by_name:At K mg "places_by_name" q61 ["names"]
 is_name:At K mg "is_name" q9g ["name"]
 is_small_letter:At K mg "is_small_letter" q6a ["sign"]
 text_of:At K mg "text_of" x4f ["form", "names"]
 bracketed:At K mg "bracketed" x0z ["form", "least", "names"]
 pieces_of:At K mg "pieces_of" x00 ["text"]
 end_of_piece:At K mg "end_of_piece" q7y ["text", "place"]
 first_fault:At K mg "first_fault" q8r ["pieces", "places", "length"]
 can_begin:At K mg "can_begin" x01 ["piece", "brackets", "places"]
 can_follow:At K mg "can_follow" q9i ["piece", "brackets"]
 form_of_pieces:At K mg "form_of_pieces" q62 ["pieces", "places"]
 settle:At K mg "settle" x6t ["forms", "waiting", "least"]
 plain_form:At K mg "plain_form" q9j ["piece", "places"]
 read_sheet:At K mg "read_sheet" q3d ["text"]
 fault_row:At K mg "fault_row" x02 ["text"]
 standing_parts:At K mg "standing_parts" q63 ["rows"]
 words_in:At K mg "words_in" q8c ["text"]
 part_of_row:At K mg "part_of_row" q8s ["row", "number"]
 can_stand:At K mg "can_stand" x03 ["part", "ahead"]
 names_of:At K mg "names_of" x2h ["parts", "word"]
 shown_sheet:At K mg "shown_sheet" q53 ["names", "circuit"]
 _law_cell_at:At K mg "_law_cell_at" q7z ["_law_script", "_law_k"]
 _law_mixed:At K mg "_law_mixed" q9k ["_law_cell", "_law_k"]
 _law_leaf_by:At K mg "_law_leaf_by" q70 ["_law_cell", "_law_many"]
 _law_form_by:At K mg "_law_form_by" q71 ["_law_cells", "_law_many"]
 _law_names_by:At K mg "_law_names_by" q41 ["_law_cell", "_law_count"]
 _law_circuit_by:At K mg "_law_circuit_by" q16 ["_law_script", "_law_most"]
 _law_three:At K mg "_law_three" q9l ["_law_script", "_law_circuit"]
 _law_word:At K mg "_law_word" x04 ["_law_names", "_law_circuit"]
 _law_put:At K mg "_law_put" x2k ["_law_some", "_law_at", "_law_thing"]
 _law_bad_names:At K mg "_law_bad_names" q64 ["_law_names", "_law_cell"]
 _law_far:At K mg "_law_far" x2l ["_law_circuit", "_law_cell"]
 _law_refused:At K mg "_law_refused" q72 ["_law_names", "_law_circuit", "_law_cell"]
 law:At K mg "law" x0e ["_law_script"]
structure Cals(P:Program)(w:World)(K:PySem.W.Frag)(mg:Str->Option Value)(base:Heap)(a:Adr)(n:Nat):Prop where
 thing_at:Cal P w K mg base n "thing_at" ["things", "place"] (spF K (run K a n q4z))
 shown:Cal P w K mg base n "shown" ["form", "names"] (spF K (run K a n q4m))
 read:Cal P w K mg base n "read" ["text", "names"] (spF K (run K a n q9f))
 fault:Cal P w K mg base n "fault" ["text", "names"] (spF K (run K a n q7x))
 places_by_name:Cal P w K mg base n "places_by_name" ["names"] (spF K (run K a n q0y))
 is_name:Cal P w K mg base n "is_name" ["name"] (spF K (run K a n q4n))
 is_small_letter:Cal P w K mg base n "is_small_letter" ["sign"] (spF K (run K a n q1f))
 text_of:Cal P w K mg base n "text_of" ["form", "names"] (spF K (run K a n q05))
 bracketed:Cal P w K mg base n "bracketed" ["form", "least", "names"] (spF K (run K a n q14))
 pieces_of:Cal P w K mg base n "pieces_of" ["text"] (spF K (run K a n q2x))
 end_of_piece:Cal P w K mg base n "end_of_piece" ["text", "place"] (spF K (run K a n q2e))
 first_fault:Cal P w K mg base n "first_fault" ["pieces", "places", "length"] (spF K (run K a n q1y))
 can_begin:Cal P w K mg base n "can_begin" ["piece", "brackets", "places"] (spF K (run K a n q32))
 can_follow:Cal P w K mg base n "can_follow" ["piece", "brackets"] (spF K (run K a n q3b))
 form_of_pieces:Cal P w K mg base n "form_of_pieces" ["pieces", "places"] (spF K (run K a n q1t))
 settle:Cal P w K mg base n "settle" ["forms", "waiting", "least"] (spM K (run K a n q4b))
 plain_form:Cal P w K mg base n "plain_form" ["piece", "places"] (spF K (run K a n q3c))
 read_sheet:Cal P w K mg base n "read_sheet" ["text"] (spF K (run K a n q2f))
 fault_row:Cal P w K mg base n "fault_row" ["text"] (spF K (run K a n q33))
 standing_parts:Cal P w K mg base n "standing_parts" ["rows"] (spF K (run K a n q1i))
 words_in:Cal P w K mg base n "words_in" ["text"] (spF K (run K a n q3q))
 part_of_row:Cal P w K mg base n "part_of_row" ["row", "number"] (spF K (run K a n q0z))
 can_stand:Cal P w K mg base n "can_stand" ["part", "ahead"] (spF K (run K a n q34))
 names_of:Cal P w K mg base n "names_of" ["parts", "word"] (spF K (run K a n q1q))
 shown_sheet:Cal P w K mg base n "shown_sheet" ["names", "circuit"] (spF K (run K a n q1g))
 _law_cell_at:Cal P w K mg base n "_law_cell_at" ["_law_script", "_law_k"] (spF K (run K a n q03))
 _law_mixed:Cal P w K mg base n "_law_mixed" ["_law_cell", "_law_k"] (spF K (run K a n q1d))
 _law_leaf_by:Cal P w K mg base n "_law_leaf_by" ["_law_cell", "_law_many"] (spF K (run K a n q1r))
 _law_form_by:Cal P w K mg base n "_law_form_by" ["_law_cells", "_law_many"] (spF K (run K a n q2g))
 _law_names_by:Cal P w K mg base n "_law_names_by" ["_law_cell", "_law_count"] (spF K (run K a n q12))
 _law_circuit_by:Cal P w K mg base n "_law_circuit_by" ["_law_script", "_law_most"] (spF K (run K a n q1p))
 _law_three:Cal P w K mg base n "_law_three" ["_law_script", "_law_circuit"] (spF K (run K a n q2h))
 _law_word:Cal P w K mg base n "_law_word" ["_law_names", "_law_circuit"] (spF K (run K a n q1m))
 _law_put:Cal P w K mg base n "_law_put" ["_law_some", "_law_at", "_law_thing"] (spF K (run K a n q13))
 _law_bad_names:Cal P w K mg base n "_law_bad_names" ["_law_names", "_law_cell"] (spF K (run K a n q1j))
 _law_far:Cal P w K mg base n "_law_far" ["_law_circuit", "_law_cell"] (spF K (run K a n q40))
 _law_refused:Cal P w K mg base n "_law_refused" ["_law_names", "_law_circuit", "_law_cell"] (spF K (run K a n q2i))
 law:Cal P w K mg base n "law" ["_law_script"] (spF K (run K a n x0d))
structure CalsH(P:Program)(w:World)(K:PySem.W.Frag)(mg:Str->Option Value)(base:Heap)(a:Adr)(n:Nat):Prop where
 z:True
section
variable(B:Blt P w K mg)(M:Exs K mg a)(C:Cals P w K mg base a n)(CH:CalsH P w K mg base a n)
theorem lof{c:Prop} [Decidable c]{x r:FR}(e:r=if c then x else .no)(h:r≠.no):c/\x=r:=by
 rw[e]at h |-;split at h
 ·rename_i hl;rw[if_pos hl];exact⟨hl,rfl⟩
 ·exact absurd rfl h
include B M C CH
theorem x7r  (A:Ats K mg):Cal P w K mg base (n+1) "thing_at" ["things", "place"] (spF K (run K a (n+1) q4z)):=
 con A.thing_at x7o (λws hw=>(lof q65 hw).1) λws hw f cdv A outer s H E Z hr=>⟨q6d K a (run K a n),(q0d (q0q (dt_w (q6c (q5p (dv 1) q0c) (q6v (y7f (dv 1) (q0s B.b_len (q0a (dv 0) q0b))))))
  (q0e (q6w rais1 M.e_NoPlace M.m_NoPlace rfl (q0a q0f q0b)))
  q0o)
  (q0e (q0n (q0j (dv 0) (dv 1))))),(lof q65 hw).2⟩
theorem y57  (A:Ats K mg):Cal P w K mg base (n+1) "shown" ["form", "names"] (spF K (run K a (n+1) q4m)):=
 con A.shown y56 (λws hw=>(lof q9o hw).1) λws hw f cdv A outer s H E Z hr=>⟨x0f K a (run K a n),(q0d (x24 (q0l C.places_by_name hr pass1 (q0a (dv 1) q0b)))
  (q0e (q0n (q0l C.text_of hr pass1 (q0a (dv 0) (q0a (dv 1) q0b)))))),(lof q9o hw).2⟩
theorem z1d  (A:Ats K mg):Cal P w K mg base (n+1) "read" ["text", "names"] (spF K (run K a (n+1) q9f)):=
 con A.read sc_read (λws hw=>(lof x1k hw).1) λws hw f cdv A outer s H E Z hr=>⟨x2m K a (run K a n),(q0d (q0i 2 sc_read.nd (q0l C.places_by_name hr pass1 (q0a (dv 1) q0b)))
  (q0d (q0i 3 sc_read.nd (q0l C.pieces_of hr pass1 (q0a (dv 0) q0b)))
  (q0d (q0i 4 sc_read.nd (q0l C.first_fault hr pass1 (q0a (dv 3) (q0a (dv 2) (q0a (q0s B.b_len (q0a (dv 0) q0b)) q0b)))))
  (q0d (q0q (x17 (dv 4) q3z)
  (q0e (q6w rais1 M.e_BadText M.m_BadText rfl (q0a (q3p (q1o (q2c (dv 4) (q1o q4w))) (by decide)) q0b)))
  q0o)
  (q0e (q0n (q0l C.form_of_pieces hr pass1 (q0a (dv 3) (q0a (dv 2) q0b))))))))),(lof x1k hw).2⟩
theorem y58  (A:Ats K mg):Cal P w K mg base (n+1) "fault" ["text", "names"] (spF K (run K a (n+1) q7x)):=
 con A.fault sc_fault (λws hw=>(lof q9p hw).1) λws hw f cdv A outer s H E Z hr=>⟨x0g K a (run K a n),(q0d (q0i 2 sc_fault.nd (q0l C.places_by_name hr pass1 (q0a (dv 1) q0b)))
  (q0e (q0n (q0l C.first_fault hr pass1 (q0a (q0l C.pieces_of hr pass1 (q0a (dv 0) q0b)) (q0a (dv 2) (q0a (q0s B.b_len (q0a (dv 0) q0b)) q0b))))))),(lof q9p hw).2⟩
theorem x0r  (A:Ats K mg):Cal P w K mg base (n+1) "places_by_name" ["names"] (spF K (run K a (n+1) q0y)):=
 con A.places_by_name sc_places_by_name (λws hw=>(lof q3g hw).1) λws hw f cdv A outer s H E Z hr=>⟨q2n K a (run K a n),(q0d (y96 1 sc_places_by_name.nd)
  (q0d (q6k 2 3 sc_places_by_name.nd PassesOwn.leaving rfl (y5s B.b_enumerate (q0a (dv 0) q0b))
  (q0d (q0q (q83 (q29 (q0l C.is_name hr pass1 (q0a (dv 3) q0b))))
  (q0e (q6w rais1 M.e_NoName M.m_NoName rfl (q0a (q3p (z0i (dv 3) (q1o q4w)) (by decide)) q0b)))
  q0o)
  (q0d (q0q (x4b λ_=>(z54 (q0h hr) (dv 3) (dv 1)))
  (q0e (q6w rais1 M.e_NoName M.m_NoName rfl (q0a (q3p (q1o (q2c (dv 3) (q1o q4w))) (by decide)) q0b)))
  q0o)
  (q0e (y99 1 (q0h hr) (dv 2) (dv 3))))))
  (q0e (y97 1)))),(lof q3g hw).2⟩
theorem x92  (A:Ats K mg):Cal P w K mg base (n+1) "is_name" ["name"] (spF K (run K a (n+1) q4n)):=
 con A.is_name x91 (λws hw=>(lof q7p hw).1) λws hw f cdv A outer s H E Z hr=>⟨q7i K a (run K a n),(q0d (q0q (dt_w (q6c (q5p (q0s B.b_len (q0a (dv 0) q0b)) q0c) (q6c (q7g (q0s B.b_len (q0a (dv 0) q0b)) (q11 M.m_LONGEST_NAME M.g_LONGEST_NAME)) (q6v (q99 (q0h hr) (dv 0) (q11 M.m_WORDS M.g_WORDS))))))
  (q0e (q0n q6b))
  q0o)
  (q0e (q0n (z5b rfl B.b_all (q0a (q10 (y5q (x:="sign") (Nf:=[]) (js:=[]) (sc:=defScope q9g) (N:=["name"]) rfl (dv 0) (by decide +kernel)
   (λ_ _ _ _ _ _=>q6j)
   (λ_ _ _ _ _ _=>(q0l C.is_small_letter hr passE (q0a (dv 0) q0b)))
   (λ_ _ _ _ _=>q15 0 (show(["sign"]:List Str).Nodup by decide +kernel)))) q0b))))),(lof q7p hw).2⟩
theorem q9q  (A:Ats K mg):Cal P w K mg base (n+1) "is_small_letter" ["sign"] (spF K (run K a (n+1) q1f)):=
 con A.is_small_letter q9h (λws hw=>(lof q23 hw).1) λws hw f cdv A outer s H E Z hr=>⟨q17 K a (run K a n),(q0e (q0n (x5v (y1v q0f (dv 0)) (x12 (y1v (dv 0) q0f))))),(lof q23 hw).2⟩
theorem x93  (A:Ats K mg):Cal P w K mg base (n+1) "text_of" ["form", "names"] (spF K (run K a (n+1) q05)):=
 con A.text_of sc_text_of (λws hw=>(lof q2y hw).1) λws hw f cdv A outer s H E Z hr=>⟨q3e K a (run K a n),(q0d (q0i 2 sc_text_of.nd (q0j (dv 0) q0c))
  (q0d (q0q (q0v (q0h hr) (dv 2) q0f)
  (q0e (q0n (x48 (q29 (q0j (dv 0) q0c)) q0f q0f)))
  q0o)
  (q0d (q0q (q0v (q0h hr) (dv 2) q0f)
  (q0e (q0n (q0l C.thing_at hr pass1 (q0a (dv 1) (q0a (q0j (dv 0) q0c) q0b)))))
  q0o)
  (q0d (q0i 3 sc_text_of.nd (q7h B.t_TIGHTNESS (dv 2)))
  (q0d (q0q (q0v (q0h hr) (dv 2) q0f)
  (q0d (q0i 4 sc_text_of.nd (q0l C.bracketed hr pass1 (q0a (q0j (dv 0) q0c) (q0a (dv 3) (q0a (dv 1) q0b)))))
  (q0e (q0n (q3p (q1o (q2c (dv 4) q4w)) (by decide)))))
  q0o)
  (q0d (q0i 5 sc_text_of.nd (q0l C.bracketed hr pass1 (q0a (q0j (dv 0) q0c) (q0a (dv 3) (q0a (dv 1) q0b)))))
  (q0d (q0i 6 sc_text_of.nd (q0l C.bracketed hr pass1 (q0a (q0j (dv 0) q0c) (q0a (q0m (dv 3) q0c) (q0a (dv 1) q0b)))))
  (q0e (q0n (q3p (q2c (dv 5) (q1o (q2c (dv 2) (q1o (q2c (dv 6) q4w))))) (by decide))))))))))),(lof q2y hw).2⟩
theorem x6u  (A:Ats K mg):Cal P w K mg base (n+1) "bracketed" ["form", "least", "names"] (spF K (run K a (n+1) q14)):=
 con A.bracketed sc_bracketed (λws hw=>(lof q54 hw).1) λws hw f cdv A outer s H E Z hr=>⟨q5q K a (run K a n),(q0d (q0i 3 sc_bracketed.nd (q0l C.text_of hr pass1 (q0a (dv 0) (q0a (dv 2) q0b))))
  (q0d (q0q (q5p (x90 B.t_TIGHTNESS (q0a (q0j (dv 0) q0c) (q0a (q11 M.m_WHOLE M.g_WHOLE) q0b))) (dv 1))
  (q0e (q0n (q3p (q1o (q2c (dv 3) (q1o q4w))) (by decide))))
  q0o)
  (q0e (q0n (dv 3))))),(lof q54 hw).2⟩
theorem x6v  (A:Ats K mg):Cal P w K mg base (n+1) "pieces_of" ["text"] (spF K (run K a (n+1) q2x)):=
 con A.pieces_of sc_pieces_of (λws hw=>(lof q55 hw).1) λws hw f cdv A outer s H E Z hr=>⟨q5r K a (run K a n),(q0d (q31 1 sc_pieces_of.nd (q00 q0b))
  (q0d (q0i 2 sc_pieces_of.nd q0c)
  (q0d (x1e 1000000 PassesOwn.leaving (q5p (dv 2) (q0s B.b_len (q0a (dv 0) q0b)))
  (q0d (q0i 3 sc_pieces_of.nd (q0l C.end_of_piece hr pass1 (q0a (dv 0) (q0a (dv 2) q0b))))
  (q0d (q0q (q96 (q0h hr) (q0j (dv 0) (dv 2)) q0f)
  (q0e (q1s 1 (q0a (q0r (q0a (dv 2) (q0a (q08 (dv 0) (q1h (dv 2)) (q1h (dv 3))) q0b))) q0b)))
  q0o)
  (q0e (q0i 2 sc_pieces_of.nd (dv 3))))))
  (q0e (x79 1))))),(lof q55 hw).2⟩
theorem x2n  (A:Ats K mg):Cal P w K mg base (n+1) "end_of_piece" ["text", "place"] (spF K (run K a (n+1) q2e)):=
 con A.end_of_piece sc_end_of_piece (λws hw=>(lof q4d hw).1) λws hw f cdv A outer s H E Z hr=>⟨q3r K a (run K a n),(q0d (q0i 2 sc_end_of_piece.nd (dv 1))
  (q0d (x1e 1000000 PassesOwn.leaving (dt_w (q1z (q5p (dv 2) (q0s B.b_len (q0a (dv 0) q0b))) (q2w (q29 (q0l C.is_small_letter hr pass1 (q0a (q0j (dv 0) (dv 2)) q0b))))))
  (q0e (q0i 2 sc_end_of_piece.nd (q0m (dv 2) q0c))))
  (q0e (q0n (y9l rfl B.b_max (q0a (dv 2) (q0a (q0m (dv 1) q0c) q0b))))))),(lof q4d hw).2⟩
theorem x3f  (A:Ats K mg):Cal P w K mg base (n+1) "first_fault" ["pieces", "places", "length"] (spF K (run K a (n+1) q1y)):=
 con A.first_fault sc_first_fault (λws hw=>(lof q49 hw).1) λws hw f cdv A outer s H E Z hr=>⟨q36 K a (run K a n),(q0d (q0i 3 sc_first_fault.nd q6b)
  (q0d (q0i 4 sc_first_fault.nd q0c)
  (q0d (q6k 5 6 sc_first_fault.nd PassesOwn.leaving rfl (x6d (dv 0))
  (q0d (q0q (q29 (dv 3))
  (q0e (q0i 7 sc_first_fault.nd (q0l C.can_begin hr pass1 (q0a (dv 6) (q0a (dv 4) (q0a (dv 1) q0b))))))
  (q0e (q0i 7 sc_first_fault.nd (q0l C.can_follow hr pass1 (q0a (dv 6) (q0a (dv 4) q0b))))))
  (q0d (q0q (q83 (q29 (dv 7)))
  (q0e (q0n (dv 5)))
  q0o)
  (q0e (q0q (q0v (q0h hr) (dv 6) q0f)
  (q0e (q0i 4 sc_first_fault.nd (q0m (dv 4) q0c)))
  (q0e (q0q (q0v (q0h hr) (dv 6) q0f)
  (q0e (q0i 4 sc_first_fault.nd (x16 (dv 4) q0c)))
  (q0e (q0i 3 sc_first_fault.nd (y69 (q79 (q0h hr) (dv 6) q0f) (x12 (x9p (q0h hr) (dv 6) (q11 M.m_JOINING M.g_JOINING)))))))))))))
  (q0d (q0q (dt_w (q6c (q29 (dv 3)) (q6v (q7g (dv 4) q0c))))
  (q0e (q0n (dv 2)))
  q0o)
  (q0e (q0n q3z)))))),(lof q49 hw).2⟩
theorem x6w  (A:Ats K mg):Cal P w K mg base (n+1) "can_begin" ["piece", "brackets", "places"] (spF K (run K a (n+1) q32)):=
 con A.can_begin x6s (λws hw=>(lof q56 hw).1) λws hw f cdv A outer s H E Z hr=>⟨q5s K a (run K a n),(q0d (q0q (q0v (q0h hr) (dv 0) q0f)
  (q0e (q0n (z7j (dv 1) (q11 M.m_MOST_BRACKETS M.g_MOST_BRACKETS))))
  q0o)
  (q0e (q0n (y69 (x9p (q0h hr) (dv 0) (q0r (q0a q0f (q0a q0f (q0a q0f q0b))))) (x12 (z53 (q0h hr) (dv 0) (dv 2))))))),(lof q56 hw).2⟩
theorem x40  (A:Ats K mg):Cal P w K mg base (n+1) "can_follow" ["piece", "brackets"] (spF K (run K a (n+1) q3b)):=
 con A.can_follow x4x (λws hw=>(lof q5i hw).1) λws hw f cdv A outer s H E Z hr=>⟨q42 K a (run K a n),(q0d (q0q (q0v (q0h hr) (dv 0) q0f)
  (q0e (q0n (z7k (dv 1) q0c)))
  q0o)
  (q0e (q0n (x9p (q0h hr) (dv 0) (q11 M.m_JOINING M.g_JOINING))))),(lof q5i hw).2⟩
theorem x0s  (A:Ats K mg):Cal P w K mg base (n+1) "form_of_pieces" ["pieces", "places"] (spF K (run K a (n+1) q1t)):=
 con A.form_of_pieces sc_form_of_pieces (λws hw=>(lof q3h hw).1) λws hw f cdv A outer s H E Z hr=>⟨q2q K a (run K a n),(q0d (q31 2 sc_form_of_pieces.nd (q00 q0b))
  (q0d (q31 3 sc_form_of_pieces.nd (q00 q0b))
  (q0d (q6k 4 5 sc_form_of_pieces.nd PassesOwn.leaving rfl (x6d (dv 0))
  (q0e (q0q (dt_w (q6c (q0v (q0h hr) (dv 5) q0f) (q6v (q0v (q0h hr) (dv 5) q0f))))
  (q0e (q1s 3 (q0a (dv 5) q0b)))
  (q0e (q0q (q0v (q0h hr) (dv 5) q0f)
  (q0d (x3e 2 3 (by decide) C.settle hr pass1 (q0a (q11 M.m_LOOSEST_WORD M.g_LOOSEST_WORD) q0b))
  (q0e (x24 (q6x 3))))
  (q0e (q0q (q99 (q0h hr) (dv 5) (q11 M.m_JOINING M.g_JOINING))
  (q0d (x3e 2 3 (by decide) C.settle hr pass1 (q0a (q7h B.t_TIGHTNESS (dv 5)) q0b))
  (q0e (q1s 3 (q0a (dv 5) q0b))))
  (q0e (q1s 2 (q0a (q0l C.plain_form hr pass1 (q0a (dv 5) (q0a (dv 1) q0b))) q0b))))))))))
  (q0d (x3e 2 3 (by decide) C.settle hr pass1 (q0a (q11 M.m_LOOSEST_WORD M.g_LOOSEST_WORD) q0b))
  (q0e (q0n (q7v 2 q0c))))))),(lof q3h hw).2⟩
theorem y2w  (A:Ats K mg):Cal P w K mg base (n+1) "settle" ["forms", "waiting", "least"] (spM K (run K a (n+1) q4b)):=
 conM2 A.settle sc_settle (λws hw=>(lof q8e hw).1) λws hw f cdv A outer s H E Z hr=>⟨q8d K a (run K a n),(q0e (x1e 1000000 PassesOwn.leaving (dt_w (q1z (q7g (q97 1 B.b_len) q0c) (q2w (y7f (q7h B.t_TIGHTNESS (q7v 1 (y1f q0c))) (dv 2)))))
  (q0d (q0i 3 sc_settle.nd (q6x 1))
  (q0d (q0i 4 sc_settle.nd (q6x 0))
  (q0e (q0q (q0v (q0h hr) (dv 3) q0f)
  (q0e (q1s 0 (q0a (q0r (q0a q0f (q0a (dv 4) q0b))) q0b)))
  (q0e (q1s 0 (q0a (q0r (q0a (dv 3) (q0a (q6x 0) (q0a (dv 4) q0b)))) q0b))))))))),(lof q8e hw).2⟩
theorem x41  (A:Ats K mg):Cal P w K mg base (n+1) "plain_form" ["piece", "places"] (spF K (run K a (n+1) q3c)):=
 con A.plain_form x4y (λws hw=>(lof q5j hw).1) λws hw f cdv A outer s H E Z hr=>⟨q44 K a (run K a n),(q0d (q0q (q0v (q0h hr) (dv 0) q0f)
  (q0e (q0n (q0r (q0a q0f (q0a q6b q0b)))))
  q0o)
  (q0d (q0q (q0v (q0h hr) (dv 0) q0f)
  (q0e (q0n (q0r (q0a q0f (q0a q6b q0b)))))
  q0o)
  (q0e (q0n (q0r (q0a q0f (q0a (z55 (q0h hr) (dv 1) (dv 0)) q0b))))))),(lof q5j hw).2⟩
theorem x42  (A:Ats K mg):Cal P w K mg base (n+1) "read_sheet" ["text"] (spF K (run K a (n+1) q2f)):=
 con A.read_sheet sc_read_sheet (λws hw=>(lof q5k hw).1) λws hw f cdv A outer s H E Z hr=>⟨q45 K a (run K a n),(q0d (q0q (x17 (q0l C.fault_row hr pass1 (q0a (dv 0) q0b)) q3z)
  (q0e (q6w rais1 M.e_BadSheet M.m_BadSheet rfl (q0a q0f q0b)))
  q0o)
  (q0d (q0i 1 sc_read_sheet.nd (q0j (q0l C.standing_parts hr pass1 (q0a (x1j (dv 0) (q0a q0f q0b)) q0b)) q0c))
  (q0d (q0i 2 sc_read_sheet.nd (q3a B.b_tuple (q0a (q10 (x26 (x:="word") (Nf:=["parts"]) (js:=[1]) (sc:=defScope q3d) (N:=["text", "parts", "names", "forms", "firsts", "cells"]) rfl (q11 M.m_ROW_WORDS M.g_ROW_WORDS) (by decide +kernel)
   (λ_ _ _ _ _ _=>q6j)
   (λ_ _ _ _ _ _=>(q0l C.names_of hr passE (q0a (dv 1) (q0a (dv 0) q0b))))
   (λ_ _ _ _ _=>q15 0 (show(["word", "parts"]:List Str).Nodup by decide +kernel)))) q0b)))
  (q0d (x15 3 sc_read_sheet.nd (x:="part") (Nf:=["names"]) (js:=[2]) (sc:=defScope q3d) (N:=["text", "parts", "names", "forms", "firsts", "cells"]) rfl (dv 1) (by decide +kernel)
   (λ_ _ _ _ _ _=>(x25 (q96 (q0h hr) (q2d (q0h hr) (dv 0) q0f) q0f)))
   (λ_ _ _ _ _ _=>(q0l C.read hr passE (q0a (q2d (q0h hr) (dv 0) q0f) (q0a (q0m (q0j (dv 1) q0c) (q0j (dv 1) q0c)) q0b))))
   (λ_ _ _ _ _=>q15 0 (show(["part", "names"]:List Str).Nodup by decide +kernel)))
  (q0d (x15 4 sc_read_sheet.nd (x:="part") (Nf:=[]) (js:=[]) (sc:=defScope q3d) (N:=["text", "parts", "names", "forms", "firsts", "cells"]) rfl (dv 1) (by decide +kernel)
   (λ_ _ _ _ _ _=>(x25 (q0v (q0h hr) (q2d (q0h hr) (dv 0) q0f) q0f)))
   (λ_ _ _ _ _ _=>(q79 (q0h hr) (q2d (q0h hr) (dv 0) q0f) q0f))
   (λ_ _ _ _ _=>q15 0 (show(["part"]:List Str).Nodup by decide +kernel)))
  (q0d (q0i 5 sc_read_sheet.nd (q0s B.b_len (q0a (dv 4) q0b)))
  (q0e (q0n (q0r (q0a (dv 2) (q0a (q0r (q0a (q0s B.b_len (q0a (q0j (dv 2) q0c) q0b)) (q0a (y2s rfl B.b_tuple B.b_zip (q0a (dv 4) (q0a (q08 (dv 3) q2b (q1h (dv 5))) q0b))) (q0a (q3a B.b_tuple (q0a (q08 (dv 3) (q1h (dv 5)) q2b) q0b)) q0b)))) q0b))))))))))),(lof q5k hw).2⟩
theorem x6x  (A:Ats K mg):Cal P w K mg base (n+1) "fault_row" ["text"] (spF K (run K a (n+1) q33)):=
 con A.fault_row sc_fault_row (λws hw=>(lof q57 hw).1) λws hw f cdv A outer s H E Z hr=>⟨q5t K a (run K a n),(q0d (q0i 1 sc_fault_row.nd (q0l C.standing_parts hr pass1 (q0a (x1j (dv 0) (q0a q0f q0b)) q0b)))
  (q0d (q0q (x17 (q0j (dv 1) q0c) q3z)
  (q0e (q0n (q0j (dv 1) q0c)))
  q0o)
  (q0d (q0i 2 sc_fault_row.nd (q0m (q0l C.names_of hr pass1 (q0a (q0j (dv 1) q0c) (q0a q0f q0b))) (q0l C.names_of hr pass1 (q0a (q0j (dv 1) q0c) (q0a q0f q0b)))))
  (q0d (q84 3 sc_fault_row.nd PassesOwn.leaving rfl (q0j (dv 1) q0c)
  (q0e (q0q (dt_w (q1z (q96 (q0h hr) (q2d (q0h hr) (dv 3) q0f) q0f) (q2w (x17 (q0l C.fault hr pass1 (q0a (q2d (q0h hr) (dv 3) q0f) (q0a (dv 2) q0b))) q3z))))
  (q0e (q0n (q2d (q0h hr) (dv 3) q0f)))
  q0o)))
  (q0e (q0n q3z)))))),(lof q57 hw).2⟩
theorem x0t  (A:Ats K mg):Cal P w K mg base (n+1) "standing_parts" ["rows"] (spF K (run K a (n+1) q1i)):=
 con A.standing_parts sc_standing_parts (λws hw=>(lof q3i hw).1) λws hw f cdv A outer s H E Z hr=>⟨q2r K a (run K a n),(q0d (q31 1 sc_standing_parts.nd (q00 q0b))
  (q0d (q6k 2 3 sc_standing_parts.nd PassesOwn.leaving rfl (y9s B.b_enumerate (q0a (dv 0) q0b))
  (q0e (q0q (q7g (q0s B.b_len (q0a (q0l C.words_in hr pass1 (q0a (dv 3) q0b)) q0b)) q0c)
  (q0d (y5z 4 sc_standing_parts.nd C.part_of_row hr pass1 (q0a (dv 3) (q0a (dv 2) q0b)))
  (q0d (q0q (q83 (q29 (y2b λ_=>(q0l C.can_stand hr pass1 (q0a (dv 4) (q0a (dv 1) q0b))))))
  (q0e (q0n (q0r (q0a (dv 1) (q0a (dv 2) q0b)))))
  q0o)
  (q0e (q1s 1 (q0a (dv 4) q0b)))))
  q0o)))
  (q0e (q0n (q0r (q0a (dv 1) (q0a (x48 (q0v (q0h hr) (q97 1 B.b_len) q0c) (q0s B.b_len (q0a (dv 0) q0b)) q3z) q0b))))))),(lof q3i hw).2⟩
theorem x7s  (A:Ats K mg):Cal P w K mg base (n+1) "words_in" ["text"] (spF K (run K a (n+1) q3q)):=
 con A.words_in x7p (λws hw=>(lof q66 hw).1) λws hw f cdv A outer s H E Z hr=>⟨q6e K a (run K a n),(q0e (y8d (x26 (x:="word") (Nf:=[]) (js:=[]) (sc:=defScope q8c) (N:=["text"]) rfl (x1j (dv 0) (q0a q0f q0b)) (by decide +kernel)
   (λ_ _ _ _ _ _=>(x25 (q96 (q0h hr) (dv 0) q0f)))
   (λ_ _ _ _ _ _=>(dv 0))
   (λ_ _ _ _ _=>q15 0 (show(["word"]:List Str).Nodup by decide +kernel))))),(lof q66 hw).2⟩
theorem x3g  (A:Ats K mg):Cal P w K mg base (n+1) "part_of_row" ["row", "number"] (spF K (run K a (n+1) q0z)):=
 con A.part_of_row sc_part_of_row (λws hw=>(lof q5a hw).1) λws hw f cdv A outer s H E Z hr=>⟨q38 K a (run K a n),(q0d (q0i 2 sc_part_of_row.nd (z0x (dv 0) (q0a q0f q0b)))
  (q0d (q0i 3 sc_part_of_row.nd (q0l C.words_in hr pass1 (q0a (q0j (dv 2) q0c) q0b)))
  (q0d (y54 4 ["row", "word", "names", "first", "form"] sc_part_of_row.nd (q1x (dv 1) (q1x q0f (q1x (q0r q0b) (q1x q3z (q1x (q0j (dv 2) q0c) x2f))))))
  (q0d (q0q (dt_w (q1z (q0v (q0h hr) (q08 (dv 3) q2b (q1h q0c)) (q10 (q00 (q0a q0f q0b)))) (q2w (q0v (q0h hr) (q0j (dv 2) q0c) q0f))))
  (q0e (x6p 4 ["word", "names"] (q1x q0f (q1x (q3a B.b_tuple (q0a (q08 (dv 3) (q1h q0c) q2b) q0b)) x2f))))
  (q0e (q0q (dt_w (q1z (q0v (q0h hr) (q08 (dv 3) q2b (q1h q0c)) (q10 (q00 (q0a q0f q0b)))) (q1z (q0v (q0h hr) (q0j (dv 2) q0c) q0f) (q1z (q0v (q0h hr) (q0s B.b_len (q0a (dv 3) q0b)) q0c) (q2w (q99 (q0h hr) (q0j (dv 3) q0c) (q11 M.m_FIRST_TRUTHS M.g_FIRST_TRUTHS)))))))
  (q0e (x6p 4 ["word", "names", "first"] (q1x q0f (q1x (q0r (q0a (q0j (dv 3) q0c) q0b)) (q1x (q0j (dv 3) q0c) x2f)))))
  (q0e (q0q (dt_w (q1z (q0v (q0h hr) (q08 (dv 3) q2b (q1h q0c)) (q10 (q00 (q0a q0f q0b)))) (q1z (q0v (q0h hr) (q0j (dv 2) q0c) q0f) (q2w (q0v (q0h hr) (q0s B.b_len (q0a (dv 3) q0b)) q0c)))))
  (q0e (x6p 4 ["word", "names"] (q1x q0f (q1x (q0r (q0a (q0j (dv 3) q0c) q0b)) x2f))))
  q0o)))))
  (q0e (z0y 4)))))),(lof q5a hw).2⟩
theorem x6y  (A:Ats K mg):Cal P w K mg base (n+1) "can_stand" ["part", "ahead"] (spF K (run K a (n+1) q34)):=
 con A.can_stand sc_can_stand (λws hw=>(lof q58 hw).1) λws hw f cdv A outer s H E Z hr=>⟨q5u K a (run K a n),(q0d (q0i 2 sc_can_stand.nd (q2d (q0h hr) (dv 0) q0f))
  (q0d (q0i 3 sc_can_stand.nd (x48 (q7g (q0s B.b_len (q0a (dv 1) q0b)) q0c) (q2d (q0h hr) (q0j (dv 1) (y1f q0c)) q0f) q0f))
  (q0d (q0q (dt_w (q6c (y1q (q0h hr) (dv 2) (q11 M.m_ROW_WORDS M.g_ROW_WORDS)) (q6v (y1q (q0h hr) (dv 3) (z08 B.t_BEHIND (dv 2))))))
  (q0e (q0n q6b))
  q0o)
  (q0d (q0q (q7g (q0s B.b_len (q0a (q0m (q0l C.names_of hr pass1 (q0a (dv 1) (q0a (dv 2) q0b))) (q2d (q0h hr) (dv 0) q0f)) q0b)) (q7h B.t_MOST_NAMES (dv 2)))
  (q0e (q0n q6b))
  q0o)
  (q0d (q31 4 sc_can_stand.nd (q00 q0b))
  (q0d (q84 5 sc_can_stand.nd PassesOwn.leaving rfl (q11 M.m_ROW_WORDS M.g_ROW_WORDS)
  (q0e (z5h 4 (q0a (q0l C.names_of hr pass1 (q0a (dv 1) (q0a (dv 5) q0b))) q0b))))
  (q0d (q84 6 sc_can_stand.nd PassesOwn.leaving rfl (q2d (q0h hr) (dv 0) q0f)
  (q0d (q0q (dt_w (q6c (x4b λ_=>(q99 (q0h hr) (dv 6) (dv 4))) (q6c (q99 (q0h hr) (dv 6) (q11 M.m_ROW_WORDS M.g_ROW_WORDS)) (q6v (q83 (q29 (q0l C.is_name hr pass1 (q0a (dv 6) q0b))))))))
  (q0e (q0n q6b))
  q0o)
  (q0e (q1s 4 (q0a (dv 6) q0b)))))
  (q0e (q0n q6b))))))))),(lof q58 hw).2⟩
theorem x7t  (A:Ats K mg):Cal P w K mg base (n+1) "names_of" ["parts", "word"] (spF K (run K a (n+1) q1q)):=
 con A.names_of sc_names_of (λws hw=>(lof q67 hw).1) λws hw f cdv A outer s H E Z hr=>⟨q6f K a (run K a n),(q0d (q0i 2 sc_names_of.nd (q0r q0b))
  (q0d (q84 3 sc_names_of.nd PassesOwn.leaving rfl (dv 0)
  (q0e (q0q (q0v (q0h hr) (q2d (q0h hr) (dv 3) q0f) (dv 1))
  (q0e (q0i 2 sc_names_of.nd (q0m (dv 2) (q2d (q0h hr) (dv 3) q0f))))
  q0o)))
  (q0e (q0n (dv 2))))),(lof q67 hw).2⟩
theorem x3h  (A:Ats K mg):Cal P w K mg base (n+1) "shown_sheet" ["names", "circuit"] (spF K (run K a (n+1) q1g)):=
 con A.shown_sheet sc_shown_sheet (λws hw=>(lof q5b hw).1) λws hw f cdv A outer s H E Z hr=>⟨q4a K a (run K a n),(q0d (q0i 2 sc_shown_sheet.nd (q0m (q0j (dv 0) q0c) (q0j (dv 0) q0c)))
  (q0d (q31 3 sc_shown_sheet.nd (q00 (q0a (x0a q0f (q0a (q0m (q0r (q0a q0f q0b)) (q0j (dv 0) q0c)) q0b)) q0b)))
  (q0d (q6k 4 5 sc_shown_sheet.nd PassesOwn.leaving rfl (y2a B.b_zip (q0a (q0j (dv 0) q0c) (q0a (q0j (dv 1) q0c) q0b)))
  (q0d (q0i 6 sc_shown_sheet.nd (x48 (q29 (q0j (dv 5) q0c)) q0f q0f))
  (q0d (q0i 7 sc_shown_sheet.nd (q0l C.shown hr pass1 (q0a (q0j (dv 5) q0c) (q0a (dv 2) q0b))))
  (q0e (q1s 3 (q0a (q3p (q1o (q2c (dv 4) (q1o (q2c (dv 6) (q1o (q2c (dv 7) q4w)))))) (by decide)) q0b))))))
  (q0d (q6k 4 8 sc_shown_sheet.nd PassesOwn.leaving rfl (y2a B.b_zip (q0a (q0j (dv 0) q0c) (q0a (q0j (dv 1) q0c) q0b)))
  (q0d (q0i 7 sc_shown_sheet.nd (q0l C.shown hr pass1 (q0a (dv 8) (q0a (dv 2) q0b))))
  (q0e (q1s 3 (q0a (q3p (q1o (q2c (dv 4) (q1o (q2c (dv 7) q4w)))) (by decide)) q0b)))))
  (q0e (q0n (x0a q0f (q0a (q10 (x26 (x:="row") (Nf:=[]) (js:=[]) (sc:=defScope q53) (N:=["names", "circuit", "known", "rows", "name", "cell", "first", "form", "answer"]) rfl (dv 3) (by decide +kernel)
   (λ_ _ _ _ _ _=>q6j)
   (λ_ _ _ _ _ _=>(q3p (q2c (dv 0) (q1o q4w)) (by decide)))
   (λ_ _ _ _ _=>q15 0 (show(["row"]:List Str).Nodup by decide +kernel)))) q0b)))))))),(lof q5b hw).2⟩
theorem x2o  (A:Ats K mg):Cal P w K mg base (n+1) "_law_cell_at" ["_law_script", "_law_k"] (spF K (run K a (n+1) q03)):=
 con A._law_cell_at x2i (λws hw=>(lof q4e hw).1) λws hw f cdv A outer s H E Z hr=>⟨q3t K a (run K a n),(q0d (q0q (q5p (dv 1) (q0s B.b_len (q0a (dv 0) q0b)))
  (q0e (q0n (q0j (dv 0) (dv 1))))
  q0o)
  (q0e (q0n q0c))),(lof q4e hw).2⟩
theorem x43  (A:Ats K mg):Cal P w K mg base (n+1) "_law_mixed" ["_law_cell", "_law_k"] (spF K (run K a (n+1) q1d)):=
 con A._law_mixed x4z (λws hw=>(lof q5l hw).1) λws hw f cdv A outer s H E Z hr=>⟨q47 K a (run K a n),(q0e (q0n (q0t (z3u (q0t (q0m (q86 (dv 0) q0c) (q86 (q0m (dv 1) q0c) q0c)) q0c) q0c) q0c))),(lof q5l hw).2⟩
theorem x2p  (A:Ats K mg):Cal P w K mg base (n+1) "_law_leaf_by" ["_law_cell", "_law_many"] (spF K (run K a (n+1) q1r)):=
 con A._law_leaf_by x2j (λws hw=>(lof q4f hw).1) λws hw f cdv A outer s H E Z hr=>⟨q3u K a (run K a n),(q0d (q0q (dt_w (q6c (q0v (q0h hr) (dv 1) q0c) (q6v (q0v (q0h hr) (q0t (dv 0) q0c) q0c))))
  (q0e (q0n (q0r (q0a q0f (q0a (q79 (q0h hr) (q0t (q06 (dv 0) q0c) q0c) q0c) q0b)))))
  q0o)
  (q0e (q0n (q0r (q0a q0f (q0a (q0t (q06 (dv 0) q0c) (dv 1)) q0b)))))),(lof q4f hw).2⟩
theorem x2q  (A:Ats K mg):Cal P w K mg base (n+1) "_law_form_by" ["_law_cells", "_law_many"] (spF K (run K a (n+1) q2g)):=
 con A._law_form_by sc__law_form_by (λws hw=>(lof q4g hw).1) λws hw f cdv A outer s H E Z hr=>⟨q3v K a (run K a n),(q0d (q31 2 sc__law_form_by.nd (q00 (q0a (q0l C._law_leaf_by hr pass1 (q0a (q0s B.b_len (q0a (dv 0) q0b)) (q0a (dv 1) q0b))) q0b)))
  (q0d (q84 3 sc__law_form_by.nd PassesOwn.leaving rfl (dv 0)
  (q0d (q0i 4 sc__law_form_by.nd (q0t (dv 3) q0c))
  (q0d (q0i 5 sc__law_form_by.nd (q06 (dv 3) q0c))
  (q0e (q0q (q0v (q0h hr) (dv 4) q0c)
  (q0e (q1s 2 (q0a (q0r (q0a q0f (q0a (q6x 2) q0b))) q0b)))
  (q0e (q0q (dt_w (q1z (q5p (dv 4) q0c) (q2w (q7g (q97 2 B.b_len) q0c))))
  (q0d (q0i 6 sc__law_form_by.nd (q6x 2))
  (q0e (q1s 2 (q0a (q0r (q0a (q0j (q10 (q00 (q0a q0f (q0a q0f (q0a q0f q0b))))) (q0t (dv 5) q0c)) (q0a (q6x 2) (q0a (dv 6) q0b)))) q0b))))
  (q0e (q1s 2 (q0a (q0l C._law_leaf_by hr pass1 (q0a (dv 5) (q0a (dv 1) q0b))) q0b))))))))))
  (q0d (q0i 7 sc__law_form_by.nd (q7v 2 q0c))
  (q0d (y8e 8 sc__law_form_by.nd PassesOwn.leaving rfl B.b_range (q0a q0c (q0a (q97 2 B.b_len) q0b))
  (q0e (q0i 7 sc__law_form_by.nd (q0r (q0a (q0j (q10 (q00 (q0a q0f (q0a q0f (q0a q0f q0b))))) (q0t (q0m (dv 8) (q0s B.b_len (q0a (dv 0) q0b))) q0c)) (q0a (dv 7) (q0a (q7v 2 (dv 8)) q0b)))))))
  (q0e (q0n (dv 7))))))),(lof q4g hw).2⟩
theorem x1l  (A:Ats K mg):Cal P w K mg base (n+1) "_law_names_by" ["_law_cell", "_law_count"] (spF K (run K a (n+1) q12)):=
 con A._law_names_by sc__law_names_by (λws hw=>(lof q3x hw).1) λws hw f cdv A outer s H E Z hr=>⟨q27 K a (run K a n),(q0d (q0i 2 sc__law_names_by.nd q0f)
  (q0d (q31 3 sc__law_names_by.nd (q00 q0b))
  (q0d (q93 4 sc__law_names_by.nd PassesOwn.leaving rfl B.b_range (q0a (dv 1) q0b)
  (q0d (q0i 5 sc__law_names_by.nd (q0j (dv 2) (q0t (q0m (q06 (dv 0) q0c) (q86 q0c (dv 4))) q0c)))
  (q0d (q0i 6 sc__law_names_by.nd (q0j (q10 (q00 (q0a q0c (q0a q0c (q0a q0c (q0a q0c (q0a q0c (q0a q0c (q0a q0c (q0a q0c q0b)))))))))) (q0t (q06 (dv 0) q0c) q0c)))
  (q0d (q0q (q0v (q0h hr) (q0t (dv 0) q0c) q0c)
  (q0e (q0i 6 sc__law_names_by.nd (q0t (q0l C._law_mixed hr pass1 (q0a (dv 0) (q0a (dv 4) q0b))) q0c)))
  q0o)
  (q0d (q0i 7 sc__law_names_by.nd (q0t (q06 (dv 0) q0c) (q0m (dv 6) q0c)))
  (q0d (q0i 8 sc__law_names_by.nd (q0m (q0m (x8k q0f (dv 7)) (dv 5)) (x8k q0f (x16 (dv 6) (dv 7)))))
  (q0d (q0q (q0v (q0h hr) (q0t (dv 0) q0c) q0c)
  (q0d (q7n 9 sc__law_names_by.nd (x:="_law_j") (Nf:=["_law_cell", "_law_letters", "_law_k"]) (js:=[0,2,4]) (sc:=defScope q41) (N:=["_law_cell", "_law_count", "_law_letters", "_law_some", "_law_k", "_law_letter", "_law_size", "_law_at", "_law_name", "_law_tail"]) rfl B.b_range (q0a (dv 6) q0b) (by decide +kernel)
   (λ_ _ _ _ _ _=>q6j)
   (λ_ _ _ _ _ _=>(q0j (dv 2) (q0t (q0l C._law_mixed hr passE (q0a (dv 1) (q0a (q0m (q86 q0c (dv 3)) (dv 0)) q0b))) q0c)))
   (λ_ _ _ _ _=>q15 0 (show(["_law_j", "_law_cell", "_law_letters", "_law_k"]:List Str).Nodup by decide +kernel)))
  (q0e (q0i 8 sc__law_names_by.nd (q0m (dv 5) (x0a q0f (q0a (dv 9) q0b))))))
  q0o)
  (q0d (q0q (q99 (q0h hr) (dv 8) (q0r (q0a q0f (q0a q0f (q0a q0f (q0a q0f (q0a q0f (q0a q0f (q0a q0f (q0a q0f (q0a q0f q0b)))))))))))
  (q0e (q0i 8 sc__law_names_by.nd (q0m (dv 8) q0f)))
  q0o)
  (q0e (q1s 3 (q0a (dv 8) q0b)))))))))))
  (q0e (x79 3))))),(lof q3x hw).2⟩
theorem q9r  (A:Ats K mg):Cal P w K mg base (n+1) "_law_circuit_by" ["_law_script", "_law_most"] (spF K (run K a (n+1) q1p)):=
 con A._law_circuit_by sc__law_circuit_by (λws hw=>(lof q24 hw).1) λws hw f cdv A outer s H E Z hr=>⟨q2a K a (run K a n),(q0d (q0i 2 sc__law_circuit_by.nd (q0l C._law_cell_at hr pass1 (q0a (dv 0) (q0a q0c q0b))))
  (q0d (q0i 3 sc__law_circuit_by.nd (q0t (dv 2) q0c))
  (q0d (q0i 4 sc__law_circuit_by.nd (q0t (q06 (dv 2) q0c) q0c))
  (q0d (q0q (dt_w (q1z (q0v (q0h hr) (q0t (q06 (dv 2) q0c) q0c) q0c) (q2w (q5p (dv 3) q0c))))
  (q0e (q0i 4 sc__law_circuit_by.nd q0c))
  q0o)
  (q0d (q0q (q0v (q0h hr) (q0t (q06 (dv 2) q0c) q0c) q0c)
  (q0d (q0i 3 sc__law_circuit_by.nd q0c)
  (q0e (q0i 4 sc__law_circuit_by.nd (q0t (dv 4) q0c))))
  q0o)
  (q0d (q0i 5 sc__law_circuit_by.nd (q0j (q10 (q00 (q0a q0c (q0a q0c (q0a q0c (q0a q0c q0b)))))) (q0t (q06 (dv 2) q0c) q0c)))
  (q0d (q0q (q0v (q0h hr) (q0t (q06 (dv 2) q0c) q0c) q0c)
  (q0e (q0i 5 sc__law_circuit_by.nd q0c))
  q0o)
  (q0d (q31 6 sc__law_circuit_by.nd (q00 q0b))
  (q0d (q93 7 sc__law_circuit_by.nd PassesOwn.leaving rfl B.b_range (q0a (q0m (dv 4) (dv 5)) q0b)
  (q0d (q0i 8 sc__law_circuit_by.nd (q0l C._law_cell_at hr pass1 (q0a (dv 0) (q0a (q0m q0c (dv 7)) q0b))))
  (q0d (q0i 9 sc__law_circuit_by.nd (q0m q0c (q0t (q0l C._law_mixed hr pass1 (q0a (dv 8) (q0a (dv 7) q0b))) (dv 1))))
  (q0d (q7n 10 sc__law_circuit_by.nd (x:="_law_j") (Nf:=["_law_k", "_law_seed"]) (js:=[7,8]) (sc:=defScope q16) (N:=["_law_script", "_law_most", "_law_cell", "_law_many", "_law_cells", "_law_outs", "_law_forms", "_law_k", "_law_seed", "_law_count", "_law_some", "_law_first", "_law_held"]) rfl B.b_range (q0a (dv 9) q0b) (by decide +kernel)
   (λ_ _ _ _ _ _=>q6j)
   (λ_ _ _ _ _ _=>(q0l C._law_mixed hr passE (q0a (dv 2) (q0a (q0m (q86 q0c (dv 1)) (dv 0)) q0b))))
   (λ_ _ _ _ _=>q15 0 (show(["_law_j", "_law_k", "_law_seed"]:List Str).Nodup by decide +kernel)))
  (q0e (q1s 6 (q0a (q0l C._law_form_by hr pass1 (q0a (dv 10) (q0a (q0m (dv 3) (dv 4)) q0b))) q0b)))))))
  (q0d (q0i 11 sc__law_circuit_by.nd (q0l C._law_cell_at hr pass1 (q0a (dv 0) (q0a q0c q0b))))
  (q0d (q7n 12 sc__law_circuit_by.nd (x:="_law_k") (Nf:=["_law_forms", "_law_first"]) (js:=[6,11]) (sc:=defScope q16) (N:=["_law_script", "_law_most", "_law_cell", "_law_many", "_law_cells", "_law_outs", "_law_forms", "_law_k", "_law_seed", "_law_count", "_law_some", "_law_first", "_law_held"]) rfl B.b_range (q0a (dv 4) q0b) (by decide +kernel)
   (λ_ _ _ _ _ _=>q6j)
   (λ_ _ _ _ _ _=>(q0r (q0a (q79 (q0h hr) (q0t (q06 (dv 2) (q0m (dv 0) q0c)) q0c) q0c) (q0a (q0j (dv 1) (dv 0)) q0b))))
   (λ_ _ _ _ _=>q15 0 (show(["_law_k", "_law_forms", "_law_first"]:List Str).Nodup by decide +kernel)))
  (q0e (q0n (q0r (q0a (dv 3) (q0a (q3a B.b_tuple (q0a (dv 12) q0b)) (q0a (q3a B.b_tuple (q0a (q08 (dv 6) (q1h (dv 4)) q2b) q0b)) q0b))))))))))))))))),(lof q24 hw).2⟩
theorem x44  (A:Ats K mg):Cal P w K mg base (n+1) "_law_three" ["_law_script", "_law_circuit"] (spF K (run K a (n+1) q2h)):=
 con A._law_three sc__law_three (λws hw=>(lof q5m hw).1) λws hw f cdv A outer s H E Z hr=>⟨q48 K a (run K a n),(q0d (q0i 2 sc__law_three.nd (q0m (q0j (dv 1) q0c) (q0s B.b_len (q0a (q0j (dv 1) q0c) q0b))))
  (q0d (q0i 3 sc__law_three.nd (q0l C._law_names_by hr pass1 (q0a (q0l C._law_cell_at hr pass1 (q0a (dv 0) (q0a q0c q0b))) (q0a (q0m (dv 2) (q0s B.b_len (q0a (q0j (dv 1) q0c) q0b))) q0b))))
  (q0e (q0n (q0r (q0a (q3a B.b_tuple (q0a (q08 (dv 3) q2b (q1h (q0j (dv 1) q0c))) q0b)) (q0a (q3a B.b_tuple (q0a (q08 (dv 3) (q1h (q0j (dv 1) q0c)) (q1h (dv 2))) q0b)) (q0a (q3a B.b_tuple (q0a (q08 (dv 3) (q1h (dv 2)) q2b) q0b)) q0b)))))))),(lof q5m hw).2⟩
theorem x6z  (A:Ats K mg):Cal P w K mg base (n+1) "_law_word" ["_law_names", "_law_circuit"] (spF K (run K a (n+1) q1m)):=
 con A._law_word sc__law_word (λws hw=>(lof q59 hw).1) λws hw f cdv A outer s H E Z hr=>⟨q5v K a (run K a n),(q0d (q0i 2 sc__law_word.nd q3z)
  (q0d (z1a M.m_CircuitError sc__law_word.nd (i:=3) rfl rfl (λEE pn xe hx1=>(q0e (x24 (q0l C.shown_sheet hr hx1 (q0a (dv 0) (q0a (dv 1) q0b))))))
  (λe=>(q0e (q0i 2 sc__law_word.nd (dv 3)))))
  (q0d (q0q (z7l (dv 2) q3z)
  (q0e (q0n q0f))
  q0o)
  (q0d (q0i 4 sc__law_word.nd (q0m (y17 (q10 (q00 (q0a q0f q0b))) (x29 B.b_int (q0a (x18 (c0:=.ref _) rfl (x8e M.m_NoName) B.b_isinstance (dv 2)) q0b))) (y17 (q10 (q00 (q0a q0f q0b))) (x29 B.b_int (q0a (x18 (c0:=.ref _) rfl (x8e M.m_NoPlace) B.b_isinstance (dv 2)) q0b)))))
  (q0d (q0q (dt_w (q1z (q0v (q0h hr) (q0s B.b_len (q0a (dv 4) q0b)) q0c) (q2w (q29 (x18 (c0:=.ty _) rfl (x8f PyProof.Rows.Boot.«ValueError» B.b_ValueError) B.b_isinstance (dv 2))))))
  (q0e (q0n (q0j (dv 4) q0c)))
  q0o)
  (q0e (q0n q0f))))))),(lof q59 hw).2⟩
theorem x7u  (A:Ats K mg):Cal P w K mg base (n+1) "_law_put" ["_law_some", "_law_at", "_law_thing"] (spF K (run K a (n+1) q13)):=
 con A._law_put x7q (λws hw=>(lof q68 hw).1) λws hw f cdv A outer s H E Z hr=>⟨q6g K a (run K a n),(q0e (q0n (q0m (q0m (q08 (dv 0) q2b (q1h (dv 1))) (q0r (q0a (dv 2) q0b))) (q08 (dv 0) (q1h (q0m (dv 1) q0c)) q2b)))),(lof q68 hw).2⟩
theorem x0u  (A:Ats K mg):Cal P w K mg base (n+1) "_law_bad_names" ["_law_names", "_law_cell"] (spF K (run K a (n+1) q1j)):=
 con A._law_bad_names sc__law_bad_names (λws hw=>(lof q3j hw).1) λws hw f cdv A outer s H E Z hr=>⟨q2t K a (run K a n),(q0d (q0i 2 sc__law_bad_names.nd (q0m (q0j (dv 0) q0c) (q0j (dv 0) q0c)))
  (q0d (q0i 3 sc__law_bad_names.nd (q0j (q10 (q00 (q0a q0f (q0a q0f (q0a q0f (q0a q0f (q0a q0f (q0a q0f (q0a q0f (q0a (q0j (dv 2) (q0t (q06 (dv 1) q0c) (q0s B.b_len (q0a (dv 2) q0b)))) q0b)))))))))) (q0t (dv 1) q0c)))
  (q0d (q0i 4 sc__law_bad_names.nd (q0t (q06 (dv 1) q0c) (q0s B.b_len (q0a (dv 2) q0b))))
  (q0d (q0q (q0v (q0h hr) (q0j (dv 2) (dv 4)) (dv 3))
  (q0e (q0i 3 sc__law_bad_names.nd q0f))
  q0o)
  (q0d (q0q (q5p (dv 4) (q0s B.b_len (q0a (q0j (dv 0) q0c) q0b)))
  (q0e (q0n (q0r (q0a (q0l C._law_put hr pass1 (q0a (q0j (dv 0) q0c) (q0a (dv 4) (q0a (dv 3) q0b)))) (q0a (q0j (dv 0) q0c) (q0a (q0j (dv 0) q0c) q0b))))))
  q0o)
  (q0e (q0n (q0r (q0a (q0j (dv 0) q0c) (q0a (q0l C._law_put hr pass1 (q0a (q0j (dv 0) q0c) (q0a (x16 (dv 4) (q0s B.b_len (q0a (q0j (dv 0) q0c) q0b))) (q0a (dv 3) q0b)))) (q0a (q0j (dv 0) q0c) q0b))))))))))),(lof q3j hw).2⟩
theorem x7v  (A:Ats K mg):Cal P w K mg base (n+1) "_law_far" ["_law_circuit", "_law_cell"] (spF K (run K a (n+1) q40)):=
 con A._law_far sc__law_far (λws hw=>(lof q69 hw).1) λws hw f cdv A outer s H E Z hr=>⟨q6h K a (run K a n),(q0d (q0i 2 sc__law_far.nd (q0r (q0a q0f (q0a (q0r (q0a q0f (q0a (q0m (q0m (q0j (dv 0) q0c) (q0s B.b_len (q0a (q0j (dv 0) q0c) q0b))) (q0t (dv 1) q0c)) q0b))) q0b))))
  (q0d (q0i 3 sc__law_far.nd (q0t (q06 (dv 1) q0c) (q0m (q0s B.b_len (q0a (q0j (dv 0) q0c) q0b)) (q0s B.b_len (q0a (q0j (dv 0) q0c) q0b)))))
  (q0d (q0q (q5p (dv 3) (q0s B.b_len (q0a (q0j (dv 0) q0c) q0b)))
  (q0e (q0n (q0r (q0a (q0j (dv 0) q0c) (q0a (q0l C._law_put hr pass1 (q0a (q0j (dv 0) q0c) (q0a (dv 3) (q0a (q0r (q0a (q0j (q0j (q0j (dv 0) q0c) (dv 3)) q0c) (q0a (dv 2) q0b))) q0b)))) (q0a (q0j (dv 0) q0c) q0b))))))
  q0o)
  (q0e (q0n (q0r (q0a (q0j (dv 0) q0c) (q0a (q0j (dv 0) q0c) (q0a (q0l C._law_put hr pass1 (q0a (q0j (dv 0) q0c) (q0a (x16 (dv 3) (q0s B.b_len (q0a (q0j (dv 0) q0c) q0b))) (q0a (dv 2) q0b)))) q0b))))))))),(lof q69 hw).2⟩
theorem x2r  (A:Ats K mg):Cal P w K mg base (n+1) "_law_refused" ["_law_names", "_law_circuit", "_law_cell"] (spF K (run K a (n+1) q2i)):=
 con A._law_refused sc__law_refused (λws hw=>(lof q4h hw).1) λws hw f cdv A outer s H E Z hr=>⟨q3w K a (run K a n),(q0d (q0i 3 sc__law_refused.nd (q0t (dv 2) q0c))
  (q0d (q0q (q0v (q0h hr) (q0m (q0j (dv 0) q0c) (q0j (dv 0) q0c)) (q0r q0b))
  (q0e (q0i 3 sc__law_refused.nd q0c))
  q0o)
  (q0d (q31 4 sc__law_refused.nd (q00 (q0a (dv 0) (q0a (dv 1) q0b))))
  (q0d (q0q (q96 (q0h hr) (dv 3) q0c)
  (q0e (y1u 4 (q0l C._law_bad_names hr pass1 (q0a (dv 0) (q0a (q06 (dv 2) q0c) q0b))) q0c))
  q0o)
  (q0d (q0q (q7g (dv 3) q0c)
  (q0e (y1u 4 (q0l C._law_far hr pass1 (q0a (dv 1) (q0a (q06 (dv 2) q0c) q0b))) q0c))
  q0o)
  (q0e (q0n (q79 (q0h hr) (q0l C._law_word hr pass1 (q0a (q7v 4 q0c) (q0a (q7v 4 q0c) q0b))) (q0j (q10 (q00 (q0a q0f (q0a q0f (q0a q0f q0b))))) (dv 3)))))))))),(lof q4h hw).2⟩
theorem y7m  {f:Addr}{cdv:Value}{A:Around}{outer:List Env}{s:Shared}{H:Hp}{E:XK}{Z:Zt}(hr:Room n (A.deeper (PyProof.Rows.envOfC "law" (defScope x0e) s.heap.objs.size f cdv))):
  DSs Z (cxOf (CX1 P w) P w K mg base ["_law_script", "_law_circuit", "_law_names", "_law_known", "_law_due", "_law_k", "_law_word_here", "_law_told", "_law_cell", "_law_found"] "law" (defScope x0e) f cdv A outer s H E) (λ_=>E) (defBody x0e) (x5f K a (run K a n)):=
 (q0d (q0i 1 sc_law.nd (q0l C._law_circuit_by hr pass1 (q0a (dv 0) (q0a q0c q0b))))
  (q0d (q0i 2 sc_law.nd (q0l C._law_three hr pass1 (q0a (dv 0) (q0a (dv 1) q0b))))
  (q0d (q0i 3 sc_law.nd (q0m (q0j (dv 2) q0c) (q0j (dv 2) q0c)))
  (q0d (q0i 4 sc_law.nd (q0m (x0a q0f (q0a (q0m (q10 (q00 (q0a q0f q0b))) (q10 (y8k B.b_list (q0a (q0j (dv 2) q0c) q0b)))) q0b)) q0f))
  (q0d (q93 5 sc_law.nd PassesOwn.leaving rfl B.b_range (q0a (q0s B.b_len (q0a (q0j (dv 1) q0c) q0b)) q0b)
  (q0d (q0i 6 sc_law.nd (q0j (q10 (q00 (q0a q0f (q0a q0f q0b)))) (x29 B.b_int (q0a (q0j (q0j (q0j (dv 1) q0c) (dv 5)) q0c) q0b))))
  (q0d (q0i 7 sc_law.nd (q0l C.shown hr pass1 (q0a (q0j (q0j (q0j (dv 1) q0c) (dv 5)) q0c) (q0a (dv 3) q0b))))
  (q0e (q0i 4 sc_law.nd (q0m (q0m (q0m (q0m (q0m (q0m (q0m (dv 4) q0f) (q0j (q0j (dv 2) q0c) (dv 5))) q0f) (dv 6)) q0f) (dv 7)) q0f))))))
  (q0d (q93 5 sc_law.nd PassesOwn.leaving rfl B.b_range (q0a (q0s B.b_len (q0a (q0j (dv 1) q0c) q0b)) q0b)
  (q0e (q0i 4 sc_law.nd (q0m (q0m (q0m (q0m (q0m (dv 4) q0f) (q0j (q0j (dv 2) q0c) (dv 5))) q0f) (q0l C.shown hr pass1 (q0a (q0j (q0j (dv 1) q0c) (dv 5)) (q0a (dv 3) q0b)))) q0f))))
  (q0d (q0i 8 sc_law.nd (q0l C._law_mixed hr pass1 (q0a (q0l C._law_cell_at hr pass1 (q0a (dv 0) (q0a q0c q0b))) (q0a q0c q0b))))
  (q0d (q0q (dt_w (q1z (q96 (q0h hr) (q0m (q0j (dv 1) q0c) (q0j (dv 1) q0c)) (q0r q0b)) (q1z (q0v (q0h hr) (q0t (dv 8) q0c) q0c) (q2w (q83 (q29 (q0l C._law_refused hr pass1 (q0a (dv 2) (q0a (dv 1) (q0a (q06 (dv 8) q0c) q0b))))))))))
  (q0e (q0n q6b))
  q0o)
  (q0d (q0i 9 sc_law.nd (q0l C.shown_sheet hr pass1 (q0a (dv 2) (q0a (dv 1) q0b))))
  (q0e (q0n (x5v (x18 (c0:=.ty _) rfl (x8f PyProof.Rows.Boot.«str» B.b_str) B.b_isinstance (dv 9)) (x5v (q79 (q0h hr) (dv 9) (dv 4)) (x12 (q79 (q0h hr) (q0l C.read_sheet hr pass1 (q0a (dv 9) q0b)) (q0r (q0a (dv 2) (q0a (dv 1) q0b))))))))))))))))))
theorem z6i  (A:Ats K mg):Cal P w K mg base (n+1) "law" ["_law_script"] (spF K (run K a (n+1) x0d)):=
 con A.law sc_law (λws hw=>(lof q74 hw).1) λws hw f cdv A outer s H E Z hr=>⟨_,y7m B M C CH hr,(lof q74 hw).2⟩
end
theorem allH(A:Ats K mg)(B:Blt P w K mg)(M:Exs K mg a):∀n,CalsH P w K mg base a n
 |0=>⟨trivial⟩
 |n+1=>⟨trivial⟩
theorem all(A:Ats K mg)(B:Blt P w K mg)(M:Exs K mg a):∀n,Cals P w K mg base a n
 |0=>⟨con0 A.thing_at,con0 A.shown,con0 A.read,con0 A.fault,con0 A.places_by_name,con0 A.is_name,con0 A.is_small_letter,con0 A.text_of,con0 A.bracketed,con0 A.pieces_of,con0 A.end_of_piece,con0 A.first_fault,con0 A.can_begin,con0 A.can_follow,con0 A.form_of_pieces,con0M A.settle,con0 A.plain_form,con0 A.read_sheet,con0 A.fault_row,con0 A.standing_parts,con0 A.words_in,con0 A.part_of_row,con0 A.can_stand,con0 A.names_of,con0 A.shown_sheet,con0 A._law_cell_at,con0 A._law_mixed,con0 A._law_leaf_by,con0 A._law_form_by,con0 A._law_names_by,con0 A._law_circuit_by,con0 A._law_three,con0 A._law_word,con0 A._law_put,con0 A._law_bad_names,con0 A._law_far,con0 A._law_refused,con0 A.law⟩
 |n+1=>⟨x7r B M (all A B M n) (allH A B M n) A,y57 B M (all A B M n) (allH A B M n) A,z1d B M (all A B M n) (allH A B M n) A,y58 B M (all A B M n) (allH A B M n) A,x0r B M (all A B M n) (allH A B M n) A,x92 B M (all A B M n) (allH A B M n) A,q9q B M (all A B M n) (allH A B M n) A,x93 B M (all A B M n) (allH A B M n) A,x6u B M (all A B M n) (allH A B M n) A,x6v B M (all A B M n) (allH A B M n) A,x2n B M (all A B M n) (allH A B M n) A,x3f B M (all A B M n) (allH A B M n) A,x6w B M (all A B M n) (allH A B M n) A,x40 B M (all A B M n) (allH A B M n) A,x0s B M (all A B M n) (allH A B M n) A,y2w B M (all A B M n) (allH A B M n) A,x41 B M (all A B M n) (allH A B M n) A,x42 B M (all A B M n) (allH A B M n) A,x6x B M (all A B M n) (allH A B M n) A,x0t B M (all A B M n) (allH A B M n) A,x7s B M (all A B M n) (allH A B M n) A,x3g B M (all A B M n) (allH A B M n) A,x6y B M (all A B M n) (allH A B M n) A,x7t B M (all A B M n) (allH A B M n) A,x3h B M (all A B M n) (allH A B M n) A,x2o B M (all A B M n) (allH A B M n) A,x43 B M (all A B M n) (allH A B M n) A,x2p B M (all A B M n) (allH A B M n) A,x2q B M (all A B M n) (allH A B M n) A,x1l B M (all A B M n) (allH A B M n) A,q9r B M (all A B M n) (allH A B M n) A,x44 B M (all A B M n) (allH A B M n) A,x6z B M (all A B M n) (allH A B M n) A,x7u B M (all A B M n) (allH A B M n) A,x0u B M (all A B M n) (allH A B M n) A,x7v B M (all A B M n) (allH A B M n) A,x2r B M (all A B M n) (allH A B M n) A,z6i B M (all A B M n) (allH A B M n) A⟩
theorem law_fn{f:Addr}{fd:FuncData}(A:Ats K mg)(B:Blt P w K mg)(M:Exs K mg a)(F:Fun K "law" "law" x0e f fd)(n:Nat):FnOk P w K mg base (CX1 P w) (n+1) f fd ["_law_script"] (spF K (run K a (n+1) x0d)):=
 conF F sc_law (λws hw=>(lof q74 hw).1) λws hw cdv A' outer s H E Z hr=>⟨_,y7m B M (all A B M n) (allH A B M n) hr,(lof q74 hw).2⟩
end
theorem at_k{h:Heap}{x:Str}{st:Stmt}{ps:List Str}{f:Addr}{od an:Option Addr}{sl:Array (Option Value)}{oc kV dc pm cd ct:Value}(X:K.In h)(G:h.Ns mainGlobals mg)(a:PySem.W.nsIn K mainGlobals x=some (some (.ref f)))(l:K.lookup f=some ⟨oc,od,.func (PySem.W.fnOf x x (defArgs st) (defBody st) (defScope st) .none kV dc pm an cd ct),sl⟩)(c:PySem.W.codeIn K cd x=true)(k:keepIn K (.ref f)=true)(hb:∀(kV doc pm:Value)(an:Option Addr)(cdv ct:Value)(us:List Value),us.length=ps.length->bindArgs (PySem.W.fnOf x x (defArgs st) (defBody st) (defScope st) .none kV doc pm an cdv ct) ⟨us,[]⟩=pure (ps.zip us)):At K mg x st ps:=
 ⟨⟨_,_,y01 l c k,PySem.W.mg_of X G a,(y01 l c k).binds hb⟩⟩
theorem mk{l:PySem.W.OpenLaw}{w:World}{fa:Addr}{p0 p1 p2 p3 p4:Addr}{p5 p6 p7 p8 p9 p10 p11 p12:Value}(hfa:mg "law"=some (.ref fa))(A:Ats K mg)(B:Blt l.prog w K mg)(M:Exs K mg ⟨p0,p1,p2,p3,p4,p5,p6,p7,p8,p9,p10,p11,p12⟩)(n:Nat)(hL:∀a:Adr,Exs K mg a->∀ns:List Int,ns.length<=63->run K a (n+1) x0d [.lst (ns.map .int)]=.ok (.fr (.bl true))):
  ∃fd:FuncData,(∀(s:Shared)(v:Value),BindsTo s fd ⟨[v],[]⟩ [("_law_script", v)])/\∀base:Heap,K.In base->base.Ns mainGlobals mg->FnOk l.prog w K mg base (CX1 l.prog w) (n+1) fa fd ["_law_script"] (spLaw K):=by
 obtain⟨f,fd,F,m,_⟩:=A.law.ex;cases hfa.symm.trans m;obtain⟨_,_,_,_,_,_,_,_,_,rfl,_⟩:=F.ex;exact⟨_,λs v=>.of_eq rfl,λbase _ _=>(law_fn A B M F n).imp λvs H Q E q=>y4p (hL _ M) q⟩
local macro_rules | `(tactic| walk_at "d") => do
 let l:=(("z1b z1c y55 z6f z6g y50 y51 z0z z6b z00 z0q z0r z0s z0t z0u z85 z59 z80 z82 y5t y5u z0j y5v z0k z83 z84 y5w z0m z0n y4r z0a z0b z0c z0d y5n y5o z8z y9z y90 y91 y92 y5k y2g y2h y2c x9t y2d y2e x9u x9v x9w x7j y5i y2f y5j y9x y9y z5y y5d y5e y5f y5g z5m y43 y44 y1y y9p y1z y10 y45 z5n y46 y47 y11 y9q z5o z5p z5q le_str y9t q07 y48 y49 y5a x6e y5b y14 z5r y9u z5s x9s x55 z30 z31 z32 z33 z34 z35 y8q y8m y8n y8o y4q z3x z3y z3z y8p z7n z7o z7p z7q z36 x9l x9m y1i z37 z38 y8r dC_s z7r z7s y8s y8t z39 z4a z7t z4b y8u z4c z4d z7u z7v z4e y8v z4f z4g z7w z7x y8w z7y y8x z4h y8y y8z y80 z4i z4j x56 y81 y82 y83 y4s y84 y85 y4t y1j y4u y1k z4k y86 y1l x28 y87 y88 y89 y9a y9b y4v z4l y1m z7z z4m z4n z4o y9c z4p z70 z71 z4q y9d y4w y1n y9e y4x z4r z4s y9g y9h y4y x9n x9o y1o y4z y1p y9i y40 z4t z4u z4v z4w z4x y9j z4y z4z z72 z73 z74 z75 z76 z77 z78 z79 y7g z8a z8b z8c z8d z8e z8f z8g z8h z40 z41 z42 z43 z44 z45 z46 ix_t ix_l z8i z8j z8k z8l z8m z8n z8o z8p z8q z8r z8s z8t z8u sc_i sc_b sc_s sc_n sl_l at0 at1 at2 q4x rng1 rng2 init Option.map_some Option.bind_some List.map_cons List.map_nil List.length_cons List.length_nil List.replicate_succ List.replicate_zero List.cons_append List.nil_append List.getElem?_cons_zero List.getElem?_cons_succ List.set_cons_zero List.set_cons_succ if_true if_false decide_eq_true_eq reduceIte Bool.false_eq_true ite_true ite_false Nat.reduceSub Nat.reduceAdd Nat.reduceLeDiff Nat.zero_add Nat.le_refl Int.reduceLT Int.reduceLE Int.reduceNeg true_and and_true true_or or_true false_and and_false false_or or_false not_true_eq_false not_false_eq_true decide_true decide_false Bool.not_true Bool.not_false String.reduceEq Nat.reduceEqDiff y41 z5c z8w z8x z5d z5e z5f y1r y9m Int.reduceToNat Int.reducePow Nat.reduceLT cast0 cast1 Int.reduceEq Int.reduceMod Int.reduceDiv Int.reduceAdd Int.reduceSub Int.reduceMul".splitOn " ").map fun s=>Lean.mkIdent s.toName).toArray
 `(tactic| try simp only [$[$l:ident],*])
theorem q7a(n)(ns:List Int)(hk:0<=k):run K a (n+1) q03 [.lst (ns.map .int),.int k]=.ok (.fr (.int (ns.getD k.toNat 0))):=by
 rw[q4e];unfold q3t;walk_at "d"
 by_cases h:k<ns.length
 ·rw[if_pos (by simpa using h),x59 hk]
  have e:(ns.map W.int)[k.toNat]?=some (.int (ns.getD k.toNat 0)):=by
   have:k.toNat<ns.length:=by omega
   simp[List.getD,this]
  rw[e];walk_at "d"
 grind
set_option genInjectivity true in
inductive Fm where
 |is (b:Bool)|at (p:Nat)|not (f:Fm)|and (f g:Fm)|or (f g:Fm)|odd (f g:Fm)
noncomputable def enc:Fm->W
 |.is b=>.tup [.str "is", .bl b]
 |.at p=>.tup [.str "at", .int p]
 |.not f=>.tup [.str "not", enc f]
 |.and f g=>.tup [.str "and", enc f,enc g]
 |.or f g=>.tup [.str "or", enc f,enc g]
 |.odd f g=>.tup [.str "odd", enc f,enc g]
noncomputable def Fm.depth:Fm->Nat
 |.is _=>1
 |.at _=>1
 |.not f=>f.depth+1
 |.and f g=>max f.depth g.depth+1
 |.or f g=>max f.depth g.depth+1
 |.odd f g=>max f.depth g.depth+1
noncomputable def Fm.inb(m:Nat):Fm->Prop
 |.is _=>True
 |.at p=>p<m
 |.not f=>f.inb m
 |.and f g=>f.inb m/\g.inb m
 |.or f g=>f.inb m/\g.inb m
 |.odd f g=>f.inb m/\g.inb m
theorem Fm.depth_pos:∀f:Fm,1<=f.depth
 |.is _=>w0a _
 |.at _=>w0a _
 |.not f=>by simp only[Fm.depth];omega
 |.and f g=>by simp only[Fm.depth];omega
 |.or f g=>by simp only[Fm.depth];omega
 |.odd f g=>by simp only[Fm.depth];omega
noncomputable def Fm.size:Fm->Nat
 |.is _=>1
 |.at _=>1
 |.not f=>f.size+1
 |.and f g=>f.size+g.size+1
 |.or f g=>f.size+g.size+1
 |.odd f g=>f.size+g.size+1
noncomputable def leafB(c:Int)(m:Nat):Fm:=if m=0\/c%8=7 then .is (decide (c / 8%2=1))else .at (c / 8%m).toNat
theorem x4g(c)(m):(leafB c m).inb m:=by
 unfold leafB;split
 ·trivial
 ·rename_i h;show(c / 8%m).toNat<m;have h1:=w1g (c / 8) (show(m:Int)≠0 by omega);have h2:=w1c (c / 8) (show(0:Int)<m by omega);omega
theorem x06(c)(m):(leafB c m).depth=1:=by
 unfold leafB;split<;>rfl
theorem x2s(c)(m):(leafB c m).size=1:=by
 unfold leafB;split<;>rfl
theorem q9s(n)(c)(m:Nat):run K a (n+1) q1r [.int c,.int m]=.ok (.fr (enc (leafB c m))):=by
 rw[q4f];unfold q3u;walk_at "d";unfold leafB
 by_cases h:m=0
 ·subst h;simp[enc]
 ·rw[if_neg (by omega)]
  by_cases h9:c%8=7
  ·rw[if_pos h9,if_pos (.inr h9)];rfl
  ·rw[if_neg h9,if_pos (show(0:Int)<m by omega),if_neg (show ¬(m=0\/c%8=7) by omega)];walk_at "d";have h1:=w1g (c / 8) (show(m:Int)≠0 by omega);simp only[enc];congr 4;simp;omega
noncomputable def Ok(m:Nat)(st:List Fm)(k z:Nat):Prop:=(∀f∈st,f.inb m)/\(st.map Fm.depth).sum<=k/\(st.map Fm.size).sum<=z
theorem Ok.len:∀{st:List Fm}{k z:Nat},Ok m st k z->st.length<=k
 |[],k,_,_=>by simp
 |f::st,k,z,h=>by
  have h2:Ok m st (k-f.depth) (z-f.size):=⟨λg hg=>h.1 g (by simp[hg]),by have:=h.2.1;simp at this;omega,by have:=h.2.2;simp at this;omega⟩
  have:=h2.len;have:=f.depth_pos;have:=h.2.1;simp at this |-
  omega
theorem Ok.push(h : Ok m st k z)(hf : f.inb m)(hk : k + f.depth <= k')(hz : z + f.size <= z') : Ok m (st ++ [f]) k' z' :=
  ⟨fun g hg => by rcases w1f.mp hg with z | z
                  . exact h.1 g z
                  . rw [w1k.mp z]; exact hf, by have := h.2.1; simp; omega, by have := h.2.2; simp; omega⟩
theorem Ok.pop(h:Ok m (st++[f]) k z):f.inb m/\(f.depth<=k/\f.size<=z)/\Ok m st (k-f.depth) (z-f.size):=
 ⟨h.1 f (by simp),⟨by have:=h.2.1;simp at this;omega,by have:=h.2.2;simp at this;omega⟩,λg hg=>h.1 g (by simp[hg]),by have:=h.2.1;simp at this;omega,by have:=h.2.2;simp at this;omega⟩
theorem q75(st:List Fm):(st.map enc).length=st.length:=w0i ..
theorem words3(h:j=0\/j=1\/j=2):atI [W.str "and", W.str "or", W.str "odd"] j=some (.str (if j=0 then "and" else if j=1 then "or" else "odd")):=by
 rcases h with rfl|rfl|rfl<;>rfl
noncomputable def bin3(j:Int)(f g:Fm):Fm:=if j=0 then .and f g else if j=1 then .or f g else .odd f g
theorem y59(f g):(W.tup [.str (if j=0 then "and" else if j=1 then "or" else "odd"),enc f,enc g])=enc (bin3 j f g):=by
 unfold bin3;split
 ·rfl
 ·split<;>rfl
theorem y6a(h1:f.inb m)(h2:g.inb m):(bin3 j f g).inb m:=by
 unfold bin3;split
 ·exact⟨h1,h2⟩
 ·split<;>exact⟨h1,h2⟩
theorem x94(f g):(bin3 j f g).depth=max f.depth g.depth+1:=by
 unfold bin3;split
 ·rfl
 ·split<;>rfl
theorem y2x(f g):(bin3 j f g).size=f.size+g.size+1:=by
 unfold bin3;split
 ·rfl
 ·split<;>rfl
theorem x3i{l:List α}(h:0<l.length):∃s x,l=s++[x]:=by
 rcases List.eq_nil_or_concat l with rfl|⟨s,x,rfl⟩
 ·simp at h
 ·exact⟨s,x,by simp⟩
theorem x60{i:Nat}{b:List S->SR}(B:Nat)(I:Nat->List S->Prop):∀(ws:List W)(k:Nat)(e:List S),I k e->k+ws.length<=B->(∀(j:Nat)(w:W)(e:List S),j<B->w∈ws->I j e->∃e',b (e.set i (.fr w))=.nx e'/\I (j+1) e')->∃e',forD i b ws e=.nx e'/\I (k+ws.length) e'
 |[],k,e,h0,_,_=>⟨e,rfl,h0⟩
 |w::ws,k,e,h0,hB,h=>by
  rw[w0v]at hB;obtain⟨e1,h1,h2⟩:=h k w e (by omega) (by simp) h0;obtain⟨e2,h3,h4⟩:=x60 B I ws (k+1) e1 h2 (by omega) λj u e hj hu=>h j u e hj (by simp[hu])
  grind [x57,x28]
theorem x7w(n)(cs)(m:Nat)(j)(c)(e)(hj:j<1000)(h:∃(st:List Fm)(z3 z4 z5 z6:S),e=[.fr cs,.fr (.int m),.own none (st.map enc),z3,z4,z5,z6,.no,.no]/\0<st.length/\Ok m st (j+1) (j+1)):
  ∃e',q2s K a (run K a (n+1)) (e.set 3 (.fr (.int c)))=.nx e'/\∃(st:List Fm)(z3 z4 z5 z6:S),e'=[.fr cs,.fr (.int m),.own none (st.map enc),z3,z4,z5,z6,.no,.no]/\0<st.length/\Ok m st (j+1+1) (j+1+1):=by
 obtain⟨st,z3,z4,z5,z6,rfl,hp,ok⟩:=h;have hl:=ok.len;unfold q2s;walk_at "d"
 have pushed:∃e',(if(st.map enc).length<16777216 then SR.nx [.fr cs,.fr (.int m),.own none (st.map enc++[enc (leafB (c / 9) m)]),.fr (.int c),.fr (.int (c%9)),.fr (.int (c / 9)),z6,.no,.no]else SR.no)=.nx e'/\∃(st:List Fm)(z3 z4 z5 z6:S),e'=[.fr cs,.fr (.int m),.own none (st.map enc),z3,z4,z5,z6,.no,.no]/\0<st.length/\Ok m st (j+1+1) (j+1+1):=by
  rw[if_pos (by rw[q75];omega)];exact⟨_,rfl,st++[leafB (c / 9) m],_,_,_,_,by rw[w0o];rfl,by simp,ok.push (x4g _ m) (by rw[x06];omega) (by rw[x2s];omega)⟩
 by_cases c4:c%9=0
 ·rw[if_pos c4];obtain⟨s,f,rfl⟩:=x3i hp;rw[w0o];walk_at "d";obtain⟨p1,p2,p3⟩:=ok.pop;rw[if_pos (by rw[w0u,w4r]at hl;rw[q75];omega)];exact⟨_,rfl,s++[.not f],_,_,_,_,by rw[w0o];rfl,by simp,p3.push (f:=.not f) p1 (by simp only[Fm.depth];omega) (by simp only[Fm.size];omega)⟩
 ·rw[if_neg c4]
  by_cases c5:c%9<5
  ·rw[if_pos c5]
   by_cases hp2:1<st.length
   ·obtain⟨s,g,rfl⟩:=x3i (show 0<st.length by omega);obtain⟨s,f,rfl⟩:=x3i (l:=s) (by simp at hp2;omega);rw[if_pos (by rw[q75];omega),w0o];walk_at "d";rw[words3 (by omega),w0o];walk_at "d";obtain⟨p1,p2,p3⟩:=ok.pop;obtain⟨p4,p5,p6⟩:=p3.pop;rw[if_pos (by rw[w0u,w0u,w4r]at hl;rw[q75];omega),y59];exact⟨_,rfl,s++[bin3 (c / 9%3) f g],_,_,_,_,by rw[w0o];rfl,by simp,p6.push (y6a p4 p1) (by rw[x94];have:=f.depth_pos;have:=g.depth_pos;omega) (by rw[y2x];omega)⟩
   ·rw[if_neg (by rw[q75];omega),q9s n _ m];walk_at "d";exact pushed
  ·rw[if_neg c5,q9s n _ m];walk_at "d";exact pushed
theorem words3b(h:j=0\/j=1\/j=2):atI [W.str "or", W.str "odd", W.str "and"] j=some (.str (if j=2 then "and" else if j=0 then "or" else "odd")):=by
 rcases h with rfl|rfl|rfl<;>rfl
noncomputable def bin3b(j:Int)(f g:Fm):Fm:=if j=2 then .and f g else if j=0 then .or f g else .odd f g
theorem y2y(f g):(W.tup [.str (if j=2 then "and" else if j=0 then "or" else "odd"),enc f,enc g])=enc (bin3b j f g):=by
 unfold bin3b;split
 ·rfl
 ·split<;>rfl
theorem y2z(h1:f.inb m)(h2:g.inb m):(bin3b j f g).inb m:=by
 unfold bin3b;split
 ·exact⟨h1,h2⟩
 ·split<;>exact⟨h1,h2⟩
theorem x7x(f g):(bin3b j f g).depth=max f.depth g.depth+1:=by
 unfold bin3b;split
 ·rfl
 ·split<;>rfl
theorem x95(f g):(bin3b j f g).size=f.size+g.size+1:=by
 unfold bin3b;split
 ·rfl
 ·split<;>rfl
theorem x07:∀(l:List Nat)(k:Nat),(l.take k).sum<=l.sum
 |[],k=>by simp
 |x::l,0=>by simp
 |x::l,k+1=>by have:=x07 l k;simp;omega
theorem y20(n)(ns:List Int)(m:Nat)(hl:ns.length<=900):∃f:Fm,run K a (n+2) q2g [.lst (ns.map .int),.int m]=.ok (.fr (enc f))/\f.inb m/\f.depth<=ns.length+1/\f.size<=2*ns.length+2:=by
 rw[q4g];unfold q3v;walk_at "d";rw[q9s n _ m];walk_at "d"
 obtain⟨e',h1,st,z1,z2,z3,z4,rfl,hp,ok⟩:=x60 (i:=3) (b:=q2s K a (run K a (n+1))) 1000 (λk e=>∃(st:List Fm)(z3 z4 z5 z6:S),e=[.fr (.lst (ns.map .int)),.fr (.int m),.own none (st.map enc),z3,z4,z5,z6,.no,.no]/\0<st.length/\Ok m st (k+1) (k+1)) (ns.map W.int) 0 [.fr (.lst (ns.map .int)),.fr (.int m),.own none [enc (leafB ((ns.map W.int).length) m)],.no,.no,.no,.no,.no,.no] ⟨[leafB ((ns.map W.int).length) m],_,_,_,_,rfl,by simp,(λf hf=>by rw[w1k.mp hf];exact x4g _ _),by simp[x06],by simp[x2s]⟩ (by simp;omega) (λj w e hj hw h=>by
  obtain⟨c,_,rfl⟩:=w0r.mp hw;exact x7w n _ m j c e hj h)
 rw[h1];rw[w0i,w4b]at ok;have hlen:=ok.len;walk_at "d"
 obtain⟨f0,rest,rfl⟩:∃f0 r,st=f0::r:=by
  cases st with
  |nil=>simp at hp
  |cons x r=>exact⟨x,r,rfl⟩
 rw[w0g];walk_at "d";rw[if_pos ⟨q30 (by omega) (by omega),q30 (by omega) (by simp;simp at hlen;omega)⟩];walk_at "d"
 obtain⟨e',h2,f,z,rfl,h3,h4,h5⟩:=q4y (b:=q4c K a (run K a (n+1))) (i:=8) (lo:=1) (hi:=(((rest.map enc).length+1:Nat):Int)) rest.length (by rw[w0i];omega)
  (λj e=>∃(f:Fm)(z:S),e=[.fr (.lst (ns.map .int)),.fr (.int m),.own none (enc f0::rest.map enc),z1,z2,z3,z4,.fr (enc f),z]/\f.inb m/\f.depth<=f0.depth+((rest.map Fm.depth).take j).sum/\f.size<=f0.size+((rest.map Fm.size).take j).sum+j)
  [.fr (.lst (ns.map .int)),.fr (.int m),.own none (enc f0::rest.map enc),z1,z2,z3,z4,.fr (enc f0),.no] ⟨f0,_,rfl,ok.1 f0 (by simp),by simp,by simp⟩ (by
  rintro j e hj ⟨f,z,rfl,q1,q2,q3⟩;unfold q4c;walk_at "d";rw[words3b (by omega)];walk_at "d"
  have hx:atI (enc f0::rest.map enc) (1+(j:Int))=some (enc rest[j]):=by
   rw[show(1:Int)+j=((j+1:Nat):Int) by omega];refine q4j ?_;simp[hj]
  rw[hx];walk_at "d";rw[y2y];refine⟨_,rfl,bin3b _ f rest[j],_,rfl,y2z q1 (ok.1 _ (by simp)),?_,?_⟩
  ·grind [x7x,List.take_add_one,Fm.depth_pos]
  grind [x95,List.take_add_one])
 rw[w0v]at *;rw[h2];walk_at "d";have o2:=ok.2.1;have o3:=ok.2.2
 grind [x07]
theorem q7b(n)(c k):∃v:Int,run K a (n+1) q1d [.int c,.int k]=.ok (.fr (.int v)):=by
 rw[q5l];unfold q47;walk_at "d";generalize hx:(c*48271+(k+1)*1299721)%2147483647=x;have h1:0<=x:=by rw[<- hx];exact w1g _ (by decide)
 have h2:x<2147483647:=by rw[<- hx];exact w1c _ (by decide)
 rw[if_pos ⟨by omega,by omega⟩];walk_at "d";exact⟨_,rfl⟩
noncomputable def isL(c:Nat):Bool:=decide (97<=c)&&decide (c<=122)
noncomputable def six(x:Str):Bool:=decide (x∈(["yes", "no", "not", "and", "odd", "or"]:List Str))
noncomputable def okN(x:Str):Bool:=!six x&&(decide (1<=x.length)&&(decide (x.length<=8)&&x.cps.toList.all isL))
noncomputable def limS(x:Str):Prop:=x.length<=1000/\∀c∈x.cps.toList,c<1000
theorem z88:eqS (.str y) (.str x)=decide (x=y):=by
 show(some (decide (y=x))).getD false=_;simp only[Option.getD_some,eq_comm]
theorem q8f:∀ys:List Str,(ys.map W.str).any (λy=>eqS y (.str x))=decide (x∈ys)
 |[]=>by simp
 |y::ys=>by
  rw[w0g,w4g,q8f ys,z88,<- Bool.decide_or];simp
theorem q7j:∀ys:List Str,(ys.map W.str).all scalW=true
 |[]=>rfl
 |y::ys=>by rw[w0g,w2h,q7j ys];rfl
theorem x2t(ys:List Str):inW (.str x) (.tup (ys.map .str))=some (.bl (decide (x∈ys))):=by
 show(if scalW (.str x)=true/\(ys.map W.str).all scalW=true then some (W.bl ((ys.map W.str).any λy=>eqS y (.str x)))else none)=_
 rw[if_pos ⟨rfl,q7j ys⟩,q8f]
theorem z89(ys:List Str):inW (.str x) (.lst (ys.map .str))=some (.bl (decide (x∈ys))):=by
 show(if scalW (.str x)=true/\(ys.map W.str).all scalW=true then some (W.bl ((ys.map W.str).any λy=>eqS y (.str x)))else none)=_
 rw[if_pos ⟨rfl,q7j ys⟩,q8f]
theorem z6j:inW (.str x) (.tup [.str "yes", .str "no", .str "not", .str "and", .str "odd", .str "or"])=some (.bl (six x)):=x2t ["yes", "no", "not", "and", "odd", "or"]
theorem y21(h:x.length<=1000):len1 [.str x]=some (.int x.length):=by rw[y7h,if_pos (by omega)]
theorem x4h(n)(c):run K a (n+1) q1f [.str ⟨#[c]⟩]=.ok (.fr (.bl (isL c))):=by
 rw[q23];unfold q17;walk_at "d";have e1:("a":Str).cps.toList=[97]:=by decide +kernel
 have e2:("z":Str).cps.toList=[122]:=by decide +kernel
 have e3:∀x y:Nat,decide ([x]<[y])=decide (x<y):=λx y=>by
  rw[decide_eq_decide,List.cons_lt_cons_iff];simp
 have e4:(!decide ((Str.mk #[c]).cps.toList<("a":Str).cps.toList))=decide (97<=c):=by
  rw[e1];show(!decide ([c]<[97]))=_;rw[e3];simp only[<- decide_not,w4f]
 have e5:(!decide (("z":Str).cps.toList<(Str.mk #[c]).cps.toList))=decide (c<=122):=by
  rw[e2];show(!decide ([122]<[c]))=_;rw[e3];simp only[<- decide_not,w4f]
 grind [isL]
theorem y22(h:∀c:Nat,∃e',d [.fr (.str ⟨#[c]⟩)]=.ok (.bl (isL c)) e')(x):compD dYes d [] (signsW x)=some ((x.cps.toList.map isL).map .bl):=by
 have:=x58 (d:=d) (pe:=[]) (g:=λw=>match w with|.str z=>.bl (z.cps.toList.all isL)|w=>w) (signsW x) λw hw=>by
  obtain⟨c,_,rfl⟩:=w0r.mp hw;obtain⟨e',h⟩:=h c;exact⟨e',by rw[h];simp⟩
 rw[this];simp[signsW]
theorem y23(h:x.length<=1000):(signsW x).length<=16777216:=by
 unfold signsW;rw[w0i,w3a];have:x.cps.size<=1000:=h;omega
theorem x2u(n)(x)(hx:x.length<=1000):run K a (n+2) q4n [.str x]=.ok (.fr (.bl (okN x))):=by
 rw[q7p];unfold q7i;walk_at "d";rw[y21 hx];walk_at "d"
 by_cases h1:(x.length:Int)<1
 ·simp only[h1];walk_at "d";have:¬1<=x.length:=by omega
  simp[okN,this]
 ·simp only[h1];walk_at "d";rw[y21 hx];walk_at "d"
  by_cases h2:(x.length:Int)>8
  ·simp only[h2];walk_at "d";have:¬x.length<=8:=by omega
   simp[okN,this]
  ·simp only[h2];walk_at "d";rw[z6j];walk_at "d";cases h3:six x with
   |true=>
    walk_at "d";simp[okN,h3]
   |false=>
    walk_at "d";rw[if_pos (y23 hx),y22 (λc=>⟨[.fr (.str ⟨#[c]⟩)],by unfold x05;walk_at "d";rw[x4h n c];walk_at "d"⟩) x]
    walk_at "d";rw[z8v];walk_at "d";have g1:1<=x.length:=by omega
    have g2:x.length<=8:=by omega
    simp[okN,h3,g1,g2]
noncomputable def letters(t:Str):Prop:=∀c∈t.cps.toList,isL c=true
noncomputable def tx(cs:List Nat):Str:=⟨cs.toArray⟩
theorem q1k(cs):(tx cs).cps.toList=cs:=by simp[tx]
theorem q0u(cs):(tx cs).length=cs.length:=by show cs.toArray.size=_;simp
theorem q1l(x):tx x.cps.toList=x:=by cases x;simp[tx]
theorem q35(as bs):tx as++tx bs=tx (as++bs):=by
 show Str.mk (as.toArray++bs.toArray)=_;simp[tx]
theorem z6k(h:tx x=tx y):x=y:=by rw[<- q1k x,h,q1k]
noncomputable def pN:Nat->List Str->List (Key×Sv)
 |_,[]=>[]
 |k,x::xs=>(.inr x,.inl (k:Int))::pN (k+1) xs
theorem x8q:∀(k:Nat)(xs:List Str)(x:Str),pN k (xs++[x])=pN k xs++[(.inr x,.inl ((k+xs.length:Nat):Int))]
 |k,[],x=>by simp[pN]
 |k,y::xs,x=>by
  show(_,_)::pN (k+1) (xs++[x])=_;rw[x8q (k+1) xs x];have:k+1+xs.length=k+(y::xs).length:=by simp;omega
  rw[this];rfl
theorem y24:∀(k:Nat)(xs:List Str),(pN k xs).length=xs.length
 |_,[]=>rfl
 |k,x::xs=>by simp[pN,y24 (k+1) xs]
theorem y25:∀(k:Nat)(xs:List Str),((pN k xs).any λp=>decide (p.1=.inr x))=decide (x∈xs)
 |_,[]=>by simp[pN]
 |k,y::xs=>by
  show(decide ((Sum.inr y:Key)=.inr x)||_)=_;rw[y25 (k+1) xs,<- Bool.decide_or,decide_eq_decide];simp[eq_comm]
theorem x5g:∀(k:Nat)(xs:List Str),lk (pN k xs) (.inr x)=(idxS x xs).map λj=>.inl ((k+j:Nat):Int)
 |_,[]=>rfl
 |k,y::xs=>by
  have ih:=x5g (x:=x) (k+1) xs;unfold lk at ih |-
  show Option.map _ (List.find? _ ((.inr y,.inl (k:Int))::pN (k+1) xs))=_
  by_cases h:y=x
  ·subst h;simp[idxS]
  ·have h1:decide ((Sum.inr y:Key)=.inr x)=false:=by simp[h]
   rw[w2d,h1,ih];show _=Option.map _ (if y=x then _ else _);rw[if_neg h,Option.map_map];congr 1;funext j
   simp only[Function.comp];congr 2;omega
theorem x0j:∀xs:List Str,(idxS x xs).isSome=decide (x∈xs)
 |[]=>by simp[idxS]
 |y::xs=>by
  unfold idxS
  by_cases h:y=x
  ·simp[h]
  ·rw[if_neg h,w1x,x0j xs,decide_eq_decide,w0d];exact⟨.inr,λz=>z.elim (λe=>absurd e.symm h) id⟩
noncomputable def okAll:List Str->List Str->Bool
 |_,[]=>true
 |done,x::xs=>okN x&&(!decide (x∈done)&&okAll (done++[x]) xs)
theorem q4o:∀(done xs:List Str),done.Nodup->(okAll done xs=true↔(∀x∈xs,okN x=true)/\(done++xs).Nodup)
 |done,[],h=>by simp[okAll,h]
 |done,x::xs,h=>by
  unfold okAll;rw[w0l,w0l]
  by_cases hx:x∈done
  ·grind
  ·have h2:(done++[x]).Nodup:=by
    grind
   rw[q4o (done++[x]) xs h2];simp[hx,and_assoc]
theorem y6b(h:limS x):(reprText x).length<=1000000:=by
 have:=PySem.StrLaws.reprText_len x λc hc=>w0q (h.2 c hc) (by decide)
 have:=h.1;omega
theorem z1e(h:x.length<=1000):fmtW (.str x)=some x:=if_pos (by omega)
theorem x96(n k)(w)(x)(done:List Str)(hx:limS x)(hd:done.length<1000)(hk:k=done.length):
  (okN x=true/\x∉done->q09 K a (run K a (n+2)) [.fr w,.dic (.k (pN 0 done)),.fr (.int k),.fr (.str x)]=.nx [.fr w,.dic (.k (pN 0 (done++[x]))),.fr (.int k),.fr (.str x)]) /\
  (¬(okN x=true/\x∉done)->∃e,q09 K a (run K a (n+2)) [.fr w,.dic (.k (pN 0 done)),.fr (.int k),.fr (.str x)]=.ex (.ref a.NoName) e):=by
 unfold q09;walk_at "d";rw[x2u n x hx.1];walk_at "d";cases h1:okN x with
 |false=>
  walk_at "d";refine⟨λq=>(by first|exact False.elim q|exact absurd q.1 (by simp)),λ_=>?_⟩
  rw[z0l (y6b hx)];simp only[x9z];walk_at "d";exact⟨_,rfl⟩
 |true=>
  walk_at "d";rw[x5g,w1x,x0j]
  by_cases h2:x∈done
  ·simp only[h2,decide_true];walk_at "d";refine⟨λq=>(by first|exact False.elim q|exact absurd h2 (by simpa using q)),λ_=>?_⟩
   rw[z1e hx.1];walk_at "d";exact⟨_,rfl⟩
  ·simp only[h2,decide_false];walk_at "d";refine⟨λ_=>?_,λq=>(by first|exact False.elim q|exact absurd ⟨trivial,h2⟩ q)⟩
   rw[if_pos ⟨by rw[y24];omega,rfl⟩]
   simp_all [putL,y25,x8q]
theorem x2v(n:Nat)(w:W):∀(xs done:List Str)(z2 z3:S),(∀x∈xs,limS x)->done.length+xs.length<1000 ->
  (okAll done xs=true->∃y2 y3,forP 2 3 (q09 K a (run K a (n+2))) (enumL done.length (xs.map .str)) [.fr w,.dic (.k (pN 0 done)),z2,z3]=.nx [.fr w,.dic (.k (pN 0 (done++xs))),y2,y3]) /\
  (okAll done xs=false->∃e,forP 2 3 (q09 K a (run K a (n+2))) (enumL done.length (xs.map .str)) [.fr w,.dic (.k (pN 0 done)),z2,z3]=.ex (.ref a.NoName) e)
 |[],done,z2,z3,_,_=>⟨λ_=>⟨z2,z3,by rw[w1a];rfl⟩,λh=>by simp[okAll]at h⟩
 |x::xs,done,z2,z3,hl,hd=>by
  have t:=x96 (K:=K) (a:=a) n done.length w x done (hl x (by simp)) (by simp at hd;omega) rfl;rw[w0g];show(_->∃y2 y3,forP 2 3 _ ((.int (done.length:Nat),.str x)::enumL (done.length+1) (xs.map .str)) _=_)/\(_->∃e,forP 2 3 _ ((.int (done.length:Nat),.str x)::enumL (done.length+1) (xs.map .str)) _=_);rw[q2l];simp only[w1q,w1r];have ih:=x2v n w xs (done++[x]) (.fr (.int done.length)) (.fr (.str x)) (λy hy=>hl y (by simp[hy])) (by simp at hd |-;omega)
  have e1:(done++[x]).length=done.length+1:=by simp
  have e2:done++[x]++xs=done++x::xs:=by simp
  rw[e1,e2]at ih
  by_cases g:okN x=true/\x∉done
  ·have e3:okAll done (x::xs)=okAll (done++[x]) xs:=by
    show(okN x&&(!decide (x∈done)&&okAll (done++[x]) xs))=_;simp[g.1,g.2]
   rw[e3,t.1 g,q07];exact ih
  grind [okAll,x6e]
theorem x8r(n)(xs)(hl:∀x∈xs,limS x)(hd:xs.length<1000):
  (okAll [] xs=true->run K a (n+3) q0y [.tup (xs.map .str)]=.ok (.dic (.k (pN 0 xs))))/\(okAll [] xs=false->run K a (n+3) q0y [.tup (xs.map .str)]=.ex (.ref a.NoName)):=by
 rw[q3g];unfold q2n;walk_at "d";have t:=x2v (K:=K) (a:=a) n (.tup (xs.map .str)) xs [] .no .no hl (by simpa using hd);refine⟨λh=>?_,λh=>?_⟩
 ·obtain⟨y2,y3,q⟩:=t.1 h;rw[show(pN 0 []:List (Key×Sv))=[]from rfl,show([]:List Str).length=0 from rfl,w2f]at q;rw[q];walk_at "d"
 ·obtain⟨e,q⟩:=t.2 h;rw[show(pN 0 []:List (Key×Sv))=[]from rfl,show([]:List Str).length=0 from rfl]at q;rw[q];walk_at "d"
theorem z6l(h:isL c=true):c<1000:=by
 unfold isL at h;rw[<- Bool.decide_and]at h;have:=of_decide_eq_true h;omega
theorem q01(h:okN x=true):six x=false/\1<=x.length/\x.length<=8/\letters x:=by
 unfold okN at h;simp only[w0l,w3i,decide_eq_true_eq,w0y]at h;exact⟨h.1,h.2.1,h.2.2.1,h.2.2.2⟩
theorem q4p(h:okN x=true):limS x:=by
 obtain⟨_,_,h2,h3⟩:=q01 h;exact⟨by omega,λc hc=>z6l (h3 c hc)⟩
theorem q7c{k:Nat}(h:k<=l.length):cutW l (some (k:Int)) none=l.drop k:=by
 unfold cutW;rw[HT.sIx_none,HT.sIx_nat,w2e h,w2l (by simp)]
theorem z1f{xs:List Str}(h:k<xs.length):atI (xs.map W.str) (k:Int)=some (.str xs[k]):=by
 rw[x59 (by omega),w1w,w2q,w0b h];rfl
theorem x2w{k:Nat}(h:k<=l.length):cutW l none (some (k:Int))=l.take k:=by
 unfold cutW;rw[HT.sIx_none,HT.sIx_nat,w2e h];simp
noncomputable def lvl:Fm->Nat
 |.or _ _=>0
 |.odd _ _=>1
 |.and _ _=>2
 |.not _=>3
 |.is _=>4
 |.at _=>5
noncomputable def par(b:Bool)(x:Str):Str:=if b=true then "("++(x++")")else x
noncomputable def mid(w:Str)(x y:Str):Str:=x++(" "++(w++(" "++y)))
noncomputable def txt(ns:List Str):Fm->Str
 |.is b=>if b=true then "yes" else "no"
 |.at p=>ns.getD p ""
 |.not f=>"not "++par (decide (lvl f<3)) (txt ns f)
 |.and f g=>mid "and" (par (decide (lvl f<2)) (txt ns f)) (par (decide (lvl g<3)) (txt ns g))
 |.or f g=>mid "or" (par (decide (lvl f<0)) (txt ns f)) (par (decide (lvl g<1)) (txt ns g))
 |.odd f g=>mid "odd" (par (decide (lvl f<1)) (txt ns f)) (par (decide (lvl g<2)) (txt ns g))
theorem z6m(h:p<ns.length):atI (ns.map W.str) (p:Int)=some (.str (ns.getD p "")):=by
 refine q4j ?_;simp[List.getD,h]
theorem x97(n)(ns:List Str)(p:Nat):run K a (n+1) q4z [.tup (ns.map .str),.int p]=if p<ns.length then .ok (.fr (.str (ns.getD p "")))else .ex (.ref a.NoPlace):=by
 rw[q65];unfold q6d;walk_at "d";rw[if_neg (by omega),w0i]
 by_cases h:p<ns.length
 ·rw[if_pos h,if_neg (by omega),z6m h];walk_at "d"
 ·rw[if_neg h,if_pos (by omega)]
theorem z1g:tabW q1c (.str "not")=some (.int 4):=rfl
noncomputable def head:Fm->Str
 |.is _=>"is"
 |.at _=>"at"
 |.not _=>"not"
 |.and _ _=>"and"
 |.or _ _=>"or"
 |.odd _ _=>"odd"
theorem y6c(f):tabGet q1c [.str (head f),.int 5]=some (.int (if lvl f<4 then(lvl f:Int)+1 else 5)):=by
 cases f<;>rfl
theorem z9a(f):ixW (enc f) (.int 0)=some (.str (head f)):=by
 cases f<;>rfl
noncomputable def inF(m:Nat):Fm->Bool
 |.is _=>true
 |.at p=>decide (p<m)
 |.not f=>inF m f
 |.and f g=>inF m f&&inF m g
 |.or f g=>inF m f&&inF m g
 |.odd f g=>inF m f&&inF m g
theorem q4q(m):∀f:Fm,inF m f=true↔f.inb m
 |.is _=>by simp[inF,Fm.inb]
 |.at p=>by simp[inF,Fm.inb]
 |.not f=>by simp only[inF,Fm.inb];exact q4q m f
 |.and f g=>by simp only[inF,Fm.inb,w0l];rw[q4q m f,q4q m g]
 |.or f g=>by simp only[inF,Fm.inb,w0l];rw[q4q m f,q4q m g]
 |.odd f g=>by simp only[inF,Fm.inb,w0l];rw[q4q m f,q4q m g]
noncomputable def textR(a:Adr)(b:Bool)(x:Str):FR:=if b=true then .ok (.fr (.str x))else .ex (.ref a.NoPlace)
theorem q2j(h:x.length<=1000000):fmtW (.str x)=some x:=by
 unfold fmtW;simp[h]
theorem q6m(x):x++Str.empty=x:=by
 cases x with
 |mk c=>show Str.mk (c++#[])=_;rw[Array.append_empty]
theorem q2k(x y:Str):(x++y).length=x.length+y.length:=by
 cases x;cases y;exact Array.size_append
theorem q2z(b)(x):(par b x).length<=x.length+2:=by
 unfold par;split
 ·rw[q2k,q2k];have e1:(Str.ofString "(").length=1:=by decide +kernel
  have e2:(Str.ofString ")").length=1:=by decide +kernel
  omega
 ·omega
theorem x3j(n)(f)(ns)(l:Nat)(hl:l<=4)(hx:(txt ns f).length<=1000000)(h:run K a (n+1) q05 [enc f,.tup (ns.map .str)]=textR a b (txt ns f)):
  run K a (n+2) q14 [enc f,.int ((l:Int)+1),.tup (ns.map .str)]=textR a b (par (decide (lvl f<l)) (txt ns f)):=by
 rw[q54];unfold q5q;walk_at "d";rw[h];unfold textR;cases b
 ·rfl
 rw[if_pos rfl,if_pos rfl];walk_at "d";rw[z9a];walk_at "d";rw[y6c]
 have e:((if lvl f<4 then(lvl f:Int)+1 else 5)<(l:Int)+1)↔lvl f<l:=by
  split<;>omega
 walk_at "d";simp only[e,q2j hx];unfold par
 by_cases q:lvl f<l
 ·simp only[q,decide_true,if_true];walk_at "d";rw[q6m]
 ·simp only[q,decide_false,if_false];walk_at "d"
theorem z1h(n)(b)(ns):run K a (n+1) q05 [enc (.is b),.tup (ns.map .str)]=textR a true (txt ns (.is b)):=by
 rw[q2y];unfold q3e;simp only[enc];walk_at "d";cases b<;>rfl
theorem z1i(n p)(ns):run K a (n+2) q05 [enc (.at p),.tup (ns.map .str)]=textR a (inF ns.length (.at p)) (txt ns (.at p)):=by
 rw[q2y];unfold q3e;simp only[enc];walk_at "d";rw[x97];simp only[inF,textR,txt,decide_eq_true_eq];split<;>rfl
theorem y6d(n)(f)(ns)(hx:(txt ns f).length<=900000)(h:run K a (n+1) q05 [enc f,.tup (ns.map .str)]=textR a b (txt ns f)):
  run K a (n+3) q05 [enc (.not f),.tup (ns.map .str)]=textR a b (txt ns (.not f)):=by
 rw[q2y];unfold q3e;simp only[enc];walk_at "d";rw[z1g];walk_at "d";have e:=x3j (l:=3) n f ns (by omega) (by omega) h;have e4:((3:Nat):Int)+1=4:=rfl;rw[e4]at e;rw[e];unfold textR;cases b
 ·rfl
 rw[if_pos rfl,if_pos rfl];walk_at "d";rw[q2j (w0s (q2z _ _) (by omega))];walk_at "d";rw[q6m];rfl
theorem x1m{mk:Fm->Fm->Fm}{w:String}{l:Nat}(hm:enc (mk f g)=.tup [.str w,enc f,enc g])(h1:w≠"is")(h2:w≠"at")(h3:w≠"not")
  (ht:tabW q1c (.str w)=some (.int ((l:Int)+1)))(hl:l<=3)(hw:(Str.ofString w).length<=100)(hT:txt ns (mk f g)=mid w (par (decide (lvl f<l)) (txt ns f)) (par (decide (lvl g<l+1)) (txt ns g)))
  (hx:(txt ns f).length<=900000)(hy:(txt ns g).length<=900000)
  (hf:run K a (n+1) q05 [enc f,.tup (ns.map .str)]=textR a b (txt ns f))(hg:run K a (n+1) q05 [enc g,.tup (ns.map .str)]=textR a c (txt ns g)):
  run K a (n+3) q05 [enc (mk f g),.tup (ns.map .str)]=textR a (b&&c) (txt ns (mk f g)):=by
 rw[q2y];unfold q3e;rw[hm,hT];walk_at "d";rw[if_neg (by simpa using h1),if_neg (by simpa using h2),ht];walk_at "d";rw[if_neg (by simpa using h3)];walk_at "d";rw[x3j (l:=l) n f ns (by omega) (by omega) hf];unfold textR;cases b
 ·rfl
 rw[if_pos rfl];walk_at "d";have e:(l:Int)+1+1=((l+1:Nat):Int)+1:=by omega
 rw[e,x3j (l:=l+1) n g ns (by omega) (by omega) hg];unfold textR;cases c
 ·rfl
 rw[if_pos rfl,if_pos (by rfl)];walk_at "d";rw[q2j (w0s (q2z _ _) (by omega))];walk_at "d";rw[q2j (by omega)];walk_at "d";rw[q2j (w0s (q2z _ _) (by omega))];walk_at "d";rw[q6m];rfl
theorem q1b(hn:∀x∈ns,x.length<=8):∀f:Fm,(txt ns f).length<=10*f.size
 |.is b=>by cases b<;>simp only[txt,Fm.size]<;>decide +kernel
 |.at p=>by
  simp only[txt,Fm.size]
  by_cases h:p<ns.length
  ·grind
  ·rw[w0z,w3n (by omega)];decide +kernel
 |.not f=>by
  have h:=q1b hn f;have q:=q2z (decide (lvl f<3)) (txt ns f);have e:(Str.ofString "not ").length=4:=by decide +kernel
  simp only[txt,Fm.size,q2k];omega
 |.and f g=>by
  have h1:=q1b hn f;have h2:=q1b hn g;have q1:=q2z (decide (lvl f<2)) (txt ns f);have q2:=q2z (decide (lvl g<3)) (txt ns g);have e:(Str.ofString " ").length=1:=by decide +kernel
  have e1:(Str.ofString "and").length=3:=by decide +kernel
  simp only[txt,Fm.size,mid,q2k];omega
 |.or f g=>by
  have h1:=q1b hn f;have h2:=q1b hn g;have q1:=q2z (decide (lvl f<0)) (txt ns f);have q2:=q2z (decide (lvl g<1)) (txt ns g);have e:(Str.ofString " ").length=1:=by decide +kernel
  have e1:(Str.ofString "or").length=2:=by decide +kernel
  simp only[txt,Fm.size,mid,q2k];omega
 |.odd f g=>by
  have h1:=q1b hn f;have h2:=q1b hn g;have q1:=q2z (decide (lvl f<1)) (txt ns f);have q2:=q2z (decide (lvl g<2)) (txt ns g);have e:(Str.ofString " ").length=1:=by decide +kernel
  have e1:(Str.ofString "odd").length=3:=by decide +kernel
  simp only[txt,Fm.size,mid,q2k];omega
theorem q3k(hn:∀x∈ns,x.length<=8):∀(f:Fm)(n:Nat),2*f.depth<=n->f.size<=800->run K a (n+1) q05 [enc f,.tup (ns.map .str)]=textR a (inF ns.length f) (txt ns f)
 |.is b,n,hd,hs=>z1h n b ns
 |.at p,n,hd,hs=>by
  obtain⟨n,rfl⟩:∃k,n=k+1:=⟨n-1,by simp only[Fm.depth]at hd;omega⟩;exact z1i n p ns
 |.not f,n,hd,hs=>by
  obtain⟨n,rfl⟩:∃k,n=k+2:=⟨n-2,by simp only[Fm.depth]at hd;omega⟩;simp only[Fm.depth,Fm.size]at hd hs;have:=q1b hn f;exact y6d n f ns (by omega) (q3k hn f n (by omega) (by omega))
 |.and f g,n,hd,hs=>by
  obtain⟨n,rfl⟩:∃k,n=k+2:=⟨n-2,by simp only[Fm.depth]at hd;omega⟩;simp only[Fm.depth,Fm.size]at hd hs;have:=q1b hn f;have:=q1b hn g;exact x1m (mk:=.and) (w:="and") (l:=2) rfl (by decide) (by decide) (by decide) rfl (by omega) (by decide +kernel) rfl (by omega) (by omega) (q3k hn f n (by omega) (by omega)) (q3k hn g n (by omega) (by omega))
 |.or f g,n,hd,hs=>by
  obtain⟨n,rfl⟩:∃k,n=k+2:=⟨n-2,by simp only[Fm.depth]at hd;omega⟩;simp only[Fm.depth,Fm.size]at hd hs;have:=q1b hn f;have:=q1b hn g;exact x1m (mk:=.or) (w:="or") (l:=0) rfl (by decide) (by decide) (by decide) rfl (by omega) (by decide +kernel) rfl (by omega) (by omega) (q3k hn f n (by omega) (by omega)) (q3k hn g n (by omega) (by omega))
 |.odd f g,n,hd,hs=>by
  obtain⟨n,rfl⟩:∃k,n=k+2:=⟨n-2,by simp only[Fm.depth]at hd;omega⟩;simp only[Fm.depth,Fm.size]at hd hs;have:=q1b hn f;have:=q1b hn g;exact x1m (mk:=.odd) (w:="odd") (l:=1) rfl (by decide) (by decide) (by decide) rfl (by omega) (by decide +kernel) rfl (by omega) (by omega) (q3k hn f n (by omega) (by omega)) (q3k hn g n (by omega) (by omega))
noncomputable def upto(cs:List Nat):Nat:=(cs.takeWhile isL).length
noncomputable def stp(cs:List Nat):Nat:=max 1 (upto cs)
theorem x8s(cs):upto cs<=cs.length:=(List.takeWhile_sublist _).length_le
theorem lenB(h:cs.length<=100000):len1 [.str (tx cs)]=some (.int cs.length):=by rw[y7h,q0u,if_pos (by omega)]
theorem ixB(h:cs.length<=100000){k:Nat}(hc:cs[k]?=some c):ixW (.str (tx cs)) (.int k)=some (.str ⟨#[c]⟩):=by
 show(if(tx cs).length<=16777216 then(atI (tx cs).cps.toList k).map λc=>W.str ⟨#[c]⟩else none)=_
 rw[if_pos (by rw[q0u];omega),x59 (by omega),w1w,q1k,hc];rfl
theorem y26(hc:cs[k]?=some c):upto (cs.drop k)=if isL c=true then upto (cs.drop (k+1))+1 else 0:=by
 obtain⟨hk,rfl⟩:=w0m.mp hc;rw[w1m hk];unfold upto;rw[w3v];split<;>rfl
theorem y6e(h:cs.length<=k):upto (cs.drop k)=0:=by
 rw[w4m h];rfl
theorem x61(n:Nat)(cs:List Nat)(hcs:cs.length<=100000)(p:Int):∀(m k fuel:Nat),upto (cs.drop k)=m->m<fuel ->
  whileD (q2o K a (run K a (n+1))) (q2p K a (run K a (n+1))) fuel [.fr (.str (tx cs)),.fr (.int p),.fr (.int k)]=.nx [.fr (.str (tx cs)),.fr (.int p),.fr (.int ((k+m:Nat):Int))]
 |m,k,0,_,hf=>by omega
 |m,k,fuel+1,hm,hf=>by
  rw[q98];unfold q2o;walk_at "d";rw[lenB hcs];walk_at "d"
  by_cases hk:k<cs.length
  ·have hg:cs[k]?=some cs[k]:=w0b hk;have h1:(k:Int)<(cs.length:Int):=by omega
   simp only[h1];walk_at "d";rw[ixB hcs hg];walk_at "d";rw[x4h n];walk_at "d";rw[y26 hg]at hm;cases q:isL cs[k]with
   |false=>
    rw[q,if_neg (by simp)]at hm;subst hm;walk_at "d";simp only[Nat.add_zero]
   |true=>
    rw[q,if_pos rfl]at hm;obtain⟨m',rfl⟩:∃m',m=m'+1:=⟨upto (cs.drop (k+1)),hm.symm⟩;have ih:=x61 n cs hcs p m' (k+1) fuel (by omega) (by omega);unfold q2p;walk_at "d"
    grind [q2o,q2p]
  ·rw[y6e (by omega)]at hm
   grind
theorem z1j{k:Nat}:(if(k:Int)+1>((k+m:Nat):Int)then(k:Int)+1 else((k+m:Nat):Int))=((k+max 1 m:Nat):Int):=by
 split<;>omega
theorem z1k(n)(cs)(hcs:cs.length<=100000)(k:Nat):run K a (n+2) q2e [.str (tx cs),.int k]=.ok (.fr (.int ((k+stp (cs.drop k):Nat):Int))):=by
 rw[q4d];unfold q3r;walk_at "d";have hu:=x8s (cs.drop k);rw[w1e]at hu;rw[x61 n cs hcs k (upto (cs.drop k)) k 1000000 rfl (by omega)];walk_at "d"
 first|rw[z1j]|rw[max_stp2]|skip
 rfl
noncomputable def pcs:Nat->List Nat->Nat->List (Nat×List Nat)
 |0,_,_=>[]
 |f+1,cs,k=>if k<cs.length then(if cs[k]?=some 32 then[]else[(k,(cs.drop k).take (stp (cs.drop k)))])++pcs f cs (k+stp (cs.drop k))else[]
theorem x8t:∀(f:Nat)(cs:List Nat)(k:Nat),(pcs f cs k).length<=f
 |0,_,_=>w0a _
 |f+1,cs,k=>by
  unfold pcs;split
  ·rw[w0u];have:=x8t f cs (k+stp (cs.drop k));split
   ·simp only[List.length_nil];omega
   ·simp only[w0v,List.length_nil];omega
  ·simp
noncomputable def encP(p:Nat×List Nat):W:=.tup [.int p.1,.str (tx p.2)]
theorem x4i(c):(Str.mk #[c]=(" ":Str))=(c=32):=by
 have e:(" ":Str)=tx [32]:=by decide +kernel
 simp_all [tx]
theorem y27(cs)(k m:Nat)(hm:1<=m)(h:k+m<=cs.length):Txt.slice (tx cs) (some (k:Int)) (some ((k+m:Nat):Int))=tx ((cs.drop k).take m):=by
 unfold Txt.slice;rw[StrLaws.sliced_plain (tx cs) (show k<=k+m by omega) (by rw[q0u];exact h),q1k];split
 ·rename_i q;rw[StrLaws.strSliceIndices_plain (show k<=k+m by omega) (by rw[q0u];exact h),q0u]at q;simp at q;have:k=0:=by omega
  subst this;rw[w4v,w2l (by omega)]
 ·rw[show k+m-k=m by omega];simp[tx]
theorem z6n(h:k<cs.length):1<=stp (cs.drop k)/\k+stp (cs.drop k)<=cs.length:=by
 have:=x8s (cs.drop k);rw[w1e]at this;unfold stp;omega
theorem z1l(h:cs.length<=k):pcs m cs k=[]:=by
 cases m with
 |zero=>rfl
 |succ m=>unfold pcs;rw[if_neg (by omega)]
theorem y28(h:k<cs.length)(hc:cs[k]?=some 32):pcs (m+1) cs k=pcs m cs (k+stp (cs.drop k)):=by
 rw[pcs,if_pos h,if_pos hc,w2f]
theorem y6f(h:k<cs.length)(hc:cs[k]?≠some 32):pcs (m+1) cs k=(k,(cs.drop k).take (stp (cs.drop k)))::pcs m cs (k+stp (cs.drop k)):=by
 rw[pcs,if_pos h,if_neg hc,w3o]
theorem q8g(n:Nat)(cs:List Nat)(hcs:cs.length<=100000):∀(m k fuel:Nat)(acc:List W)(s3:S),cs.length-k<=m->m<fuel->acc.length+m<=200000 ->
  ∃q s3',whileD (q2u K a (run K a (n+2))) (q2v K a (run K a (n+2))) fuel [.fr (.str (tx cs)),.own none acc,.fr (.int k),s3]=.nx [.fr (.str (tx cs)),.own none (acc++(pcs m cs k).map encP),.fr (.int q),s3']
 |m,k,0,acc,s3,_,hf,_=>by omega
 |m,k,fuel+1,acc,s3,hm,hf,ha=>by
  rw[q98];unfold q2u;walk_at "d";rw[lenB hcs];walk_at "d"
  by_cases hk:k<cs.length
  ·obtain⟨m',rfl⟩:∃m',m=m'+1:=⟨m-1,by omega⟩;have hg:cs[k]?=some cs[k]:=w0b hk;have hs:=z6n hk;have h1:(k:Int)<(cs.length:Int):=by omega
   simp only[h1];unfold q2v;walk_at "d";rw[z1k n cs hcs k];walk_at "d";rw[ixB hcs hg];walk_at "d"
   by_cases hb:cs[k]=32
   ·have ih:=q8g n cs hcs m' (k+stp (cs.drop k)) fuel acc (.fr (.int ((k+stp (cs.drop k):Nat):Int))) (by omega) (by omega) (by omega);rw[y28 hk (by rw[hg,hb])];simp only[show(Str.mk #[cs[k]]=(" ":Str))=True by rw[x4i];simpa using hb];walk_at "d";unfold q2u q2v at ih;exact ih
   ·have ih:=q8g n cs hcs m' (k+stp (cs.drop k)) fuel (acc++[encP (k,(cs.drop k).take (stp (cs.drop k)))]) (.fr (.int ((k+stp (cs.drop k):Nat):Int))) (by omega) (by omega) (by simp;omega);rw[y6f hk (by rw[hg];simpa using hb)];simp only[show(Str.mk #[cs[k]]=(" ":Str))=False by rw[x4i];simpa using hb];walk_at "d";rw[z81 (by rw[q0u];omega),y27 cs k _ hs.1 hs.2];walk_at "d";rw[if_pos (by omega)];walk_at "d";unfold q2u q2v at ih;rw[w0j]at ih;exact ih
  ·rw[z1l (by omega)];have h1:¬(k:Int)<(cs.length:Int):=by omega
   simp only[h1];walk_at "d";exact⟨k,s3,by simp⟩
noncomputable def pieces(cs:List Nat):List (Nat×List Nat):=pcs cs.length cs 0
theorem x2x(n)(cs)(hcs:cs.length<=100000):run K a (n+3) q2x [.str (tx cs)]=.ok (.own none ((pieces cs).map encP)):=by
 rw[q55];unfold q5r;walk_at "d";obtain⟨q,s3,h⟩:=q8g (K:=K) (a:=a) n cs hcs cs.length 0 1000000 [] .no (by omega) (by omega) (by simp;omega);rw[show(.fr (.int ((0:Nat):Int)):S)=.fr (.int 0)from rfl]at h;rw[h];walk_at "d";rfl
noncomputable def jw:List Str:=["and", "odd", "or"]
noncomputable def flt0(xs:List Str):List (Nat×List Nat)->Bool->Nat->Nat ⊕ (Bool×Nat)
 |[],aw,br=>.inr (aw,br)
 |(k,p)::ps,true,br=>
  if tx p="(" /\ br<12 then flt0 xs ps true (br+1)
  else if tx p∈xs\/tx p="yes"\/tx p="no" then flt0 xs ps false br
  else if tx p="not" then flt0 xs ps true br else .inl k
 |(k,p)::ps,false,br=>
  if tx p=")" /\ 0<br then flt0 xs ps false (br-1)
  else if tx p∈jw then flt0 xs ps true br else .inl k
noncomputable def flt(xs:List Str)(L:Nat)(ps:List (Nat×List Nat)):Option Nat:=match flt0 xs ps true 0 with
 |.inl k=>some k
 |.inr (aw,br)=>if aw=true\/0<br then some L else none
noncomputable def encO:Option Nat->W
 |none=>.non
 |some k=>.int (k:Int)
theorem q8h:inW (.str t) (.tup [.str "and", .str "odd", .str "or"])=some (.bl (decide (t∈jw))):=x2t jw
theorem y29(n)(t)(br:Nat)(xs):run K a (n+1) q32 [.str t,.int br,.dic (.k (pN 0 xs))]=.ok (.fr (.bl (if t="(" then decide (br<12)else decide (t∈(["yes", "no", "not"]:List Str))||decide (t∈xs)))):=by
 rw[q56];unfold q5s;walk_at "d"
 by_cases h1:t="("
 ·simp only[eq_true h1];walk_at "d";simp only[show((br:Int)<12)=(br<12)from propext (by omega)]
 ·simp only[eq_false h1];walk_at "d";have e:inW (.str t) (.tup [.str "yes", .str "no", .str "not"])=some (.bl (decide (t∈(["yes", "no", "not"]:List Str)))):=x2t ["yes", "no", "not"];rw[e];cases q:decide (t∈(["yes", "no", "not"]:List Str))with
  |true=>walk_at "d";rfl
  |false=>
   walk_at "d";rw[x5g,w1x,x0j];rfl
theorem x98(n)(t)(br:Nat):run K a (n+1) q3b [.str t,.int br]=.ok (.fr (.bl (if t=")" then decide (0<br)else decide (t∈jw)))):=by
 rw[q5i];unfold q42;walk_at "d"
 by_cases h1:t=")"
 ·simp_all
 ·simp only[eq_false h1];walk_at "d";rw[q8h];walk_at "d"
theorem z1m(n)(w)(xs)(hx:∀x∈xs,okN x=true)(L)(k:Nat)(p)(br:Nat)(s7):∃t7,
  q1e K a (run K a (n+1)) [.fr w,.fr (.dic (.k (pN 0 xs))),.fr (.int L),.fr (.bl true),.fr (.int br),.fr (.int k),.fr (.str (tx p)),s7] =
   (if tx p="(" /\ br<12 then .nx [.fr w,.fr (.dic (.k (pN 0 xs))),.fr (.int L),.fr (.bl true),.fr (.int ((br+1:Nat):Int)),.fr (.int k),.fr (.str (tx p)),t7]
   else if tx p∈xs\/tx p="yes"\/tx p="no" then .nx [.fr w,.fr (.dic (.k (pN 0 xs))),.fr (.int L),.fr (.bl false),.fr (.int br),.fr (.int k),.fr (.str (tx p)),t7]
   else if tx p="not" then .nx [.fr w,.fr (.dic (.k (pN 0 xs))),.fr (.int L),.fr (.bl true),.fr (.int br),.fr (.int k),.fr (.str (tx p)),t7]else .rt (.fr (.int k)) [.fr w,.fr (.dic (.k (pN 0 xs))),.fr (.int L),.fr (.bl true),.fr (.int br),.fr (.int k),.fr (.str (tx p)),t7]):=by
 refine⟨.fr (.bl (if tx p="(" then decide (br<12)else decide (tx p∈(["yes", "no", "not"]:List Str))||decide (tx p∈xs))),?_⟩;unfold q1e;walk_at "d";rw[y29 n];walk_at "d"
 by_cases h1:tx p="("
 ·have nx:tx p∉xs:=λz=>by
   have:=(q01 (hx _ z)).2.2.2;rw[h1]at this;exact absurd (this 40 (by decide +kernel)) (by decide)
  have h2:¬tx p="yes":=by rw[h1];decide +kernel
  have h3:¬tx p="no":=by rw[h1];decide +kernel
  have h4:¬tx p="not":=by rw[h1];decide +kernel
  grind
 ·simp only[eq_false h1];walk_at "d"
  by_cases h5:tx p∈xs
  ·have ok:=q01 (hx _ h5);have h6:tx p∉(["yes", "no", "not", "and", "odd", "or"]:List Str):=of_decide_eq_false ok.1;simp only[w0d,w0k,or_false,not_or]at h6;obtain⟨q1,q2,q3,q4,q5,q6⟩:=h6
   have nc:¬tx p=")":=λz=>by
    have:=ok.2.2.2;rw[z]at this;exact absurd (this 41 (by decide +kernel)) (by decide)
   have m3:¬(tx p∈(["yes", "no", "not"]:List Str)):=by simp[q1,q2,q3]
   have mj:¬(tx p∈jw):=by unfold jw;simp[q4,q5,q6]
   simp only[eq_true h5,eq_false m3,eq_false nc,eq_false q3,Bool.or_true];walk_at "d";rw[q8h];simp only[eq_false mj];walk_at "d";try rfl
  ·by_cases q1:tx p="yes"
   ·have m3:tx p∈(["yes", "no", "not"]:List Str):=by rw[q1];simp
    have nc:¬tx p=")":=by rw[q1];decide +kernel
    have q3:¬tx p="not":=by rw[q1];decide +kernel
    have mj:¬(tx p∈jw):=by rw[q1];decide +kernel
    simp only[eq_false h5,eq_true m3,eq_true q1,eq_false nc,eq_false q3,Bool.true_or];walk_at "d";rw[q8h];simp only[eq_false mj];walk_at "d";try rfl
   ·by_cases q2:tx p="no"
    ·have m3:tx p∈(["yes", "no", "not"]:List Str):=by rw[q2];simp
     have nc:¬tx p=")":=by rw[q2];decide +kernel
     have q3:¬tx p="not":=by rw[q2];decide +kernel
     have mj:¬(tx p∈jw):=by rw[q2];decide +kernel
     simp only[eq_false h5,eq_true m3,eq_false q1,eq_true q2,eq_false nc,eq_false q3,Bool.true_or];walk_at "d";rw[q8h];simp only[eq_false mj];walk_at "d";try rfl
    ·by_cases q3:tx p="not"
     ·have m3:tx p∈(["yes", "no", "not"]:List Str):=by rw[q3];simp
      have nc:¬tx p=")":=by rw[q3];decide +kernel
      grind
     grind
theorem y6g(n)(w)(xs)(L)(k:Nat)(p)(br:Nat)(s7):∃t7,
  q1e K a (run K a (n+1)) [.fr w,.fr (.dic (.k (pN 0 xs))),.fr (.int L),.fr (.bl false),.fr (.int br),.fr (.int k),.fr (.str (tx p)),s7] =
   (if tx p=")" /\ 0<br then .nx [.fr w,.fr (.dic (.k (pN 0 xs))),.fr (.int L),.fr (.bl false),.fr (.int ((br-1:Nat):Int)),.fr (.int k),.fr (.str (tx p)),t7]
   else if tx p∈jw then .nx [.fr w,.fr (.dic (.k (pN 0 xs))),.fr (.int L),.fr (.bl true),.fr (.int br),.fr (.int k),.fr (.str (tx p)),t7]else .rt (.fr (.int k)) [.fr w,.fr (.dic (.k (pN 0 xs))),.fr (.int L),.fr (.bl false),.fr (.int br),.fr (.int k),.fr (.str (tx p)),t7]):=by
 refine⟨.fr (.bl (if tx p=")" then decide (0<br)else decide (tx p∈jw))),?_⟩;unfold q1e;walk_at "d";rw[x98 n];walk_at "d"
 by_cases h1:tx p=")"
 ·have mj:¬(tx p∈jw):=by rw[h1];decide +kernel
  have ho:¬tx p="(":=by rw[h1];decide +kernel
  grind
 ·simp only[eq_false h1];walk_at "d"
  by_cases hj:tx p∈jw
  ·have ho:¬tx p="(":=λz=>by rw[z]at hj;exact absurd hj (by decide +kernel)
   simp only[eq_true hj,eq_false ho];walk_at "d";rw[q8h];simp only[eq_true hj]
   by_cases hn:tx p="not"
   ·simp only[eq_true hn];walk_at "d"
   ·simp only[eq_false hn];walk_at "d"
  ·simp only[eq_false hj];walk_at "d"
noncomputable def pr2(p:Nat×List Nat):W×W:=(.int p.1,.str (tx p.2))
theorem q9t:∀ps:List (Nat×List Nat),pairsW (ps.map encP)=some (ps.map pr2)
 |[]=>rfl
 |p::ps=>by
  rw[w0g,w0g];show((pairsW (ps.map encP)).map ((W.int p.1,W.str (tx p.2))::·))=_;rw[q9t ps];rfl
theorem q6n(n)(w)(xs)(hx:∀x∈xs,okN x=true)(L):∀(ps:List (Nat×List Nat))(aw:Bool)(br:Nat)(s5 s6 s7:S),
  match flt0 xs ps aw br with
  |.inl k=>∃e,forP 5 6 (q1e K a (run K a (n+1))) (ps.map pr2) [.fr w,.fr (.dic (.k (pN 0 xs))),.fr (.int L),.fr (.bl aw),.fr (.int br),s5,s6,s7]=.rt (.fr (.int k)) e
  |.inr (aw',br')=>∃t5 t6 t7,forP 5 6 (q1e K a (run K a (n+1))) (ps.map pr2) [.fr w,.fr (.dic (.k (pN 0 xs))),.fr (.int L),.fr (.bl aw),.fr (.int br),s5,s6,s7]=.nx [.fr w,.fr (.dic (.k (pN 0 xs))),.fr (.int L),.fr (.bl aw'),.fr (.int br'),t5,t6,t7]
 |[],aw,br,s5,s6,s7=>⟨s5,s6,s7,rfl⟩
 |(k,p)::ps,true,br,s5,s6,s7=>by
  rw[flt0,w0g,q2l];simp only[pr2,w1r,w1q];obtain⟨t7,e7⟩:=z1m (K:=K) (a:=a) n w xs hx L k p br s7;rw[e7]
  by_cases h1:tx p="(" /\ br<12
  ·rw[if_pos h1,if_pos h1];simp only[q07];exact q6n n w xs hx L ps true (br+1) _ _ _
  ·rw[if_neg h1,if_neg h1]
   by_cases h2:tx p∈xs\/tx p="yes"\/tx p="no"
   ·rw[if_pos h2,if_pos h2];simp only[q07];exact q6n n w xs hx L ps false br _ _ _
   ·rw[if_neg h2,if_neg h2]
    by_cases h3:tx p="not"
    ·rw[if_pos h3,if_pos h3];simp only[q07];exact q6n n w xs hx L ps true br _ _ _
    ·rw[if_neg h3,if_neg h3];exact⟨_,rfl⟩
 |(k,p)::ps,false,br,s5,s6,s7=>by
  rw[flt0,w0g,q2l];simp only[pr2,w1r,w1q];obtain⟨t7,e7⟩:=y6g (K:=K) (a:=a) n w xs L k p br s7;rw[e7]
  by_cases h1:tx p=")" /\ 0<br
  ·rw[if_pos h1,if_pos h1];simp only[q07];exact q6n n w xs hx L ps false (br-1) _ _ _
  ·rw[if_neg h1,if_neg h1]
   by_cases h2:tx p∈jw
   ·rw[if_pos h2,if_pos h2];simp only[q07];exact q6n n w xs hx L ps true br _ _ _
   ·rw[if_neg h2,if_neg h2];exact⟨_,rfl⟩
theorem y3a(n)(ps)(L:Nat)(xs)(hx:∀x∈xs,okN x=true):run K a (n+2) q1y [.lst (ps.map encP),.dic (.k (pN 0 xs)),.int L]=.ok (.fr (encO (flt xs L ps))):=by
 rw[q49];unfold q36;walk_at "d";rw[q9t];walk_at "d";have h:=q6n (K:=K) (a:=a) n (.lst (ps.map encP)) xs hx L ps true 0 .no .no .no;unfold flt;cases q:flt0 xs ps true 0 with
 |inl k=>
  rw[q]at h;obtain⟨e,h⟩:=h;rw[show(W.int ((0:Nat):Int))=.int 0 from rfl]at h;rw[h];walk_at "d";rfl
 |inr z=>
  obtain⟨aw,br⟩:=z;rw[q]at h;obtain⟨t5,t6,t7,h⟩:=h;rw[show(W.int ((0:Nat):Int))=.int 0 from rfl]at h;rw[h];walk_at "d";cases aw with
  |true=>
   walk_at "d";rfl
  |false=>
   walk_at "d"
   by_cases hb:0<br
   ·have hb':(br:Int)>0:=by omega
    simp only[eq_true hb',eq_true hb];walk_at "d";rfl
   ·have hb':¬(br:Int)>0:=by omega
    simp only[eq_false hb',eq_false hb];walk_at "d";rfl
noncomputable def tgt(t:Str):Nat:=if t="(" then 0 else if t="or" then 1 else if t="odd" then 2 else if t="and" then 3 else 4
noncomputable def wrd5:List Str:=["(", "or", "odd", "and", "not"]
theorem tab5(h:t∈wrd5):tabW q1c (.str t)=some (.int (tgt t)):=by
 unfold wrd5 at h;simp only[w0d,w0k,or_false]at h;rcases h with rfl|rfl|rfl|rfl|rfl<;>rfl
noncomputable def need:List Str->Nat
 |[]=>0
 |t::ts=>(if t="("\/t="not" then 0 else 1)+need ts
noncomputable def opn:List Str->Nat
 |[]=>0
 |t::ts=>(if t="(" then 1 else 0)+opn ts
noncomputable def settleF(l:Nat):List Str->List W->List Str×List W
 |[],fs=>([],fs)
 |t::ts,fs=>if l<=tgt t then
   (if t="not" then(match fs with
    |f::fs=>settleF l ts (.tup [.str "not", f]::fs)
    |[]=>(t::ts,[]))
   else(match fs with
    |g::f::fs=>settleF l ts (.tup [.str t,f,g]::fs)
    |_=>(t::ts,fs)))
  else(t::ts,fs)
theorem x8u{w:W}:atI (ws++[w]) (-1)=some w:=by
 unfold atI
 have:ixN (ws++[w]).length (-1)=some ws.length:=by
  unfold ixN;simp;omega
 rw[this];simp
theorem q7q(n:Nat)(l:Nat):∀(wt:List Str)(fs:List W)(fuel:Nat)(s3 s4:S),(∀t∈wt,t∈wrd5)->need wt<fs.length->(l=0->opn wt=0)->wt.length<fuel->wt.length<=200000->fs.length<=200000 ->
  ∃t3 t4,whileD (q3s K a (run K a n)) (q43 K a (run K a n)) fuel [.own (some 0) fs.reverse,.own (some 1) (wt.reverse.map .str),.fr (.int l),s3,s4]=.nx [.own (some 0) (settleF l wt fs).2.reverse,.own (some 1) ((settleF l wt fs).1.reverse.map .str),.fr (.int l),t3,t4]
 |wt,fs,0,s3,s4,_,_,_,hf,_,_=>by omega
 |[],fs,fuel+1,s3,s4,_,_,_,_,_,hl=>by
  rw[q98];unfold q3s;walk_at "d";exact⟨s3,s4,rfl⟩
 |t::ts,fs,fuel+1,s3,s4,hw,hn,ho,hf,hl,hl2=>by
  rw[q98];unfold q3s;have e1:((t::ts).reverse.map W.str)=ts.reverse.map W.str++[.str t]:=by simp
  rw[e1];walk_at "d";have h0:((ts.reverse.map W.str++[W.str t]).length:Int)>0:=by simp
  simp only[eq_true h0];walk_at "d";rw[x8u];walk_at "d";rw[tab5 (hw t (by simp))];walk_at "d";unfold settleF
  by_cases hg:l<=tgt t
  ·have hg':(tgt t:Int)>=(l:Int):=by omega
   simp only[eq_true hg',eq_true hg]
   have hp:t≠"(":=λz=>by
    subst z
    have hl0:l=0:=by
     have:tgt "("=0:=by decide +kernel
     omega
    have:=ho hl0;unfold opn at this;rw[if_pos rfl]at this;omega
   unfold q43;walk_at "d";unfold need at hn
   by_cases hn1:t="not"
   ·subst hn1;rw[if_pos (.inr rfl)]at hn;cases fs with
    |nil=>simp at hn
    |cons f fs=>
     have ih:=q7q n l ts (.tup [.str "not", f]::fs) fuel (.fr (.str "not")) (.fr f) (λt ht=>hw t (by simp[ht])) (by simpa using hn) (λz=>by
      have:=ho z;unfold opn at this;omega) (by simp at hf;omega) (by simp at hl;omega) (by simpa using hl2)
     rw[w2r]at ih |-
     walk_at "d";rw[if_pos (by simp at hl2 |-;omega)];walk_at "d";unfold q3s q43 at ih;exact ih
   ·rw[if_neg (not_or.mpr ⟨hp,hn1⟩)]at hn
    match fs,hn,hl2 with
    |[],hn,_=>simp at hn
    |[g],hn,_=>simp at hn
    |g::f::fs,hn,hl2=>
     have ih:=q7q n l ts (.tup [.str t,f,g]::fs) fuel (.fr (.str t)) (.fr g) (λt ht=>hw t (by simp[ht])) (by simp at hn |-;omega) (λz=>by
      have:=ho z;unfold opn at this;omega) (by simp at hf;omega) (by simp at hl;omega) (by simp at hl2 |-;omega)
     rw[w2r,w2r];rw[w2r]at ih;walk_at "d";simp only[eq_false hn1];walk_at "d";rw[if_pos (by simp at hl2 |-;omega)];walk_at "d";unfold q3s q43 at ih;exact ih
  ·have hg':¬(tgt t:Int)>=(l:Int):=by omega
   simp only[eq_false hg',eq_false hg];walk_at "d";exact⟨s3,s4,by simp⟩
theorem q8i(n)(l:Nat)(wt)(fs)(hw:∀t∈wt,t∈wrd5)(hn:need wt<fs.length)(hl0:l=0->opn wt=0)(hl:wt.length<=200000)(hl2:fs.length<=200000):
  run K a (n+1) q4b [.lst fs.reverse,.lst (wt.reverse.map .str),.int l]=.ok (.fr (.tup [.lst (settleF l wt fs).2.reverse,.lst ((settleF l wt fs).1.reverse.map .str)])):=by
 rw[q8e];unfold q8d;walk_at "d";obtain⟨t3,t4,h⟩:=q7q (K:=K) (a:=a) n l wt fs 1000000 .no .no hw hn hl0 (by omega) hl hl2;rw[h];walk_at "d"
theorem x8v{t:Str}(h:t≠"("):1<=tgt t:=by
 unfold tgt;rw[if_neg h];split<;>(try split)<;>(try split)<;>omega
theorem q6i(l:Nat)(h1:1<=l):∀(wt:List Str)(fs:List W),(∀t∈wt,t∈wrd5)->fs.length=need wt+1 ->
  (∀t∈(settleF l wt fs).1,t∈wrd5)/\opn (settleF l wt fs).1=opn wt/\(settleF l wt fs).2.length=need (settleF l wt fs).1+1/\(settleF l wt fs).1.length<=wt.length/\(settleF l wt fs).2.length<=fs.length/\(∀t ts,(settleF l wt fs).1=t::ts->tgt t<l)
 |[],fs,hw,hn=>⟨hw,rfl,hn,w0a _,w0a _,λt ts z=>by cases z⟩
 |t::ts,fs,hw,hn=>by
  unfold settleF;unfold need at hn
  by_cases hg:l<=tgt t
  ·rw[if_pos hg]
   have hp:t≠"(":=λz=>by
    subst z;have:tgt "("=0:=by decide +kernel
    omega
   by_cases hn1:t="not"
   ·rw[if_pos hn1];rw[if_pos (.inr hn1)]at hn;cases fs with
    |nil=>simp at hn
    |cons f fs=>
     have ih:=q6i l h1 ts (.tup [.str "not", f]::fs) (λt ht=>hw t (by simp[ht])) (by simp at hn |-;omega)
     refine⟨ih.1,?_,ih.2.2.1,by simp;omega,ih.2.2.2.2.1,ih.2.2.2.2.2⟩;rw[ih.2.1];unfold opn;rw[if_neg hp];cases ts<;>simp[opn]
   ·rw[if_neg hn1];rw[if_neg (not_or.mpr ⟨hp,hn1⟩)]at hn
    match fs,hn with
    |[],hn=>simp at hn
    |[g],hn=>simp at hn
    |g::f::fs,hn=>
     have ih:=q6i l h1 ts (.tup [.str t,f,g]::fs) (λt ht=>hw t (by simp[ht])) (by simp at hn |-;omega)
     refine⟨ih.1,?_,ih.2.2.1,by simp;omega,by have:=ih.2.2.2.2.1;simp at this |-;omega,ih.2.2.2.2.2⟩;rw[ih.2.1];unfold opn;rw[if_neg hp];cases ts<;>simp[opn]
  simp_all [if_neg,need]
theorem q8j:∀(wt:List Str)(fs:List W),(∀t∈wt,t∈wrd5)->opn wt=0->fs.length=need wt+1->∃w,settleF 1 wt fs=([],[w])
 |[],fs,hw,ho,hn=>by
  unfold need at hn
  match fs,hn with
  |[w],_=>exact⟨w,rfl⟩
  |[],hn=>simp at hn
  |_::_::_,hn=>simp at hn
 |t::ts,fs,hw,ho,hn=>by
  unfold settleF;unfold need at hn;unfold opn at ho;have hp:t≠"(":=λz=>by rw[if_pos z]at ho;omega
  rw[if_neg hp]at ho;rw[if_pos (x8v hp)]
  by_cases hn1:t="not"
  ·rw[if_pos hn1];rw[if_pos (.inr hn1)]at hn;cases fs with
   |nil=>simp at hn
   |cons f fs=>exact q8j ts _ (λt ht=>hw t (by simp[ht])) (by omega) (by simp at hn |-;omega)
  ·rw[if_neg hn1];rw[if_neg (not_or.mpr ⟨hp,hn1⟩)]at hn
   match fs,hn with
   |[],hn=>simp at hn
   |[g],hn=>simp at hn
   |g::f::fs,hn=>exact q8j ts _ (λt ht=>hw t (by simp[ht])) (by omega) (by simp at hn |-;omega)
noncomputable def plF(xs:List Str)(t:Str):W:=if t="yes" then .tup [.str "is", .bl true]else if t="no" then .tup [.str "is", .bl false]else .tup [.str "at", match idxS t xs with|some j=>.int (j:Int)|none=>.non]
theorem y3b(n)(t:Str)(xs)(h:t="yes"\/t="no"\/t∈xs):run K a (n+1) q3c [.str t,.dic (.k (pN 0 xs))]=.ok (.fr (plF xs t)):=by
 rw[q5j];unfold q44 plF;walk_at "d"
 by_cases h1:t="yes"
 ·simp only[eq_true h1];walk_at "d"
 ·simp only[eq_false h1];walk_at "d"
  by_cases h2:t="no"
  ·simp only[eq_true h2];walk_at "d"
  ·simp only[eq_false h2];walk_at "d";have h3:t∈xs:=(h.resolve_left h1).resolve_left h2;have h4:(idxS t xs).isSome=true:=by rw[x0j];exact decide_eq_true h3
   obtain⟨j,hj⟩:=w3c.mp h4;rw[x5g,hj];simp only[Option.map_some,wSv,w4b];walk_at "d"
noncomputable def stepF(xs:List Str)(st:List Str×List W)(t:Str):List Str×List W:=
 if t="("\/t="not" then(t::st.1,st.2)
 else if t=")" then((settleF 1 st.1 st.2).1.tail,(settleF 1 st.1 st.2).2)
 else if t∈jw then(t::(settleF (tgt t) st.1 st.2).1,(settleF (tgt t) st.1 st.2).2)
 else(st.1,plF xs t::st.2)
noncomputable def Inv(wt:List Str)(fs:List W)(aw:Bool)(br:Nat):Prop:=(∀t∈wt,t∈wrd5)/\opn wt=br/\fs.length=need wt+(if aw=true then 0 else 1)
noncomputable def fst(K:PySem.W.Frag)(w:W)(xs:List Str)(st:List Str×List W)(s4 s5:S):List S:=[.fr w,.fr (.dic (.k (pN 0 xs))),.own none st.2.reverse,.own none (st.1.reverse.map .str),s4,s5]
theorem z6o(h:t∈jw):t∈wrd5/\1<=tgt t/\t≠"(" /\ t≠"not" /\ t≠")" /\ t≠"yes" /\ t≠"no":=by
 unfold jw at h;simp only[w0d,w0k,or_false]at h;rcases h with rfl|rfl|rfl<;>decide +kernel
theorem q9u(n)(w)(xs)(hx:∀x∈xs,okN x=true)(k:Nat)(p)(wt)(fs)(hb:wt.length+fs.length<=200000)(h:tx p="("\/tx p="not"\/(tx p∈xs\/tx p="yes"\/tx p="no")):
  q0x K a (run K a (n+1)) (fst K w xs (wt,fs) (.fr (.int k)) (.fr (.str (tx p))))=.nx (fst K w xs (stepF xs (wt,fs) (tx p)) (.fr (.int k)) (.fr (.str (tx p)))):=by
 unfold q0x fst stepF;walk_at "d"
 by_cases h1:tx p="("
 ·simp only[eq_true h1];walk_at "d";rw[if_pos (by simp;omega)];simp
 ·by_cases h2:tx p="not"
  ·simp only[eq_false h1,eq_true h2];walk_at "d";rw[if_pos (by simp;omega)];simp
  ·have h3:=(h.resolve_left h1).resolve_left h2
   have h4:¬tx p=")" /\ ¬(tx p∈jw):=by
    rcases h3 with h3|h3|h3
    ·have ok:=q01 (hx _ h3);have h6:tx p∉(["yes", "no", "not", "and", "odd", "or"]:List Str):=of_decide_eq_false ok.1;refine⟨λz=>?_,λz=>h6 ?_⟩
     ·have:=ok.2.2.2;rw[z]at this;exact absurd (this 41 (by decide +kernel)) (by decide)
     simp_all [jw]
    ·rw[h3];decide +kernel
    ·rw[h3];decide +kernel
   simp only[eq_false h1,eq_false h2,eq_false h4.1,eq_false h4.2];walk_at "d";rw[q8h];simp only[eq_false h4.2];walk_at "d";rw[y3b n (tx p) xs (by rcases h3 with h3|h3|h3<;>simp[h3])];walk_at "d";rw[if_pos (by simp;omega)];simp
theorem set1:(W.int ((1:Nat):Int))=.int 1:=rfl
theorem x99(n)(w)(xs)(k:Nat)(p)(wt)(fs)(hb:wt.length+fs.length<=200000)(br)(hI:Inv wt fs false br)(hbr:0<br)(h:tx p=")"):
  q0x K a (run K a (n+1)) (fst K w xs (wt,fs) (.fr (.int k)) (.fr (.str (tx p))))=.nx (fst K w xs (stepF xs (wt,fs) (tx p)) (.fr (.int k)) (.fr (.str (tx p))))/\Inv (stepF xs (wt,fs) (tx p)).1 (stepF xs (wt,fs) (tx p)).2 false (br-1)/\(stepF xs (wt,fs) (tx p)).1.length+(stepF xs (wt,fs) (tx p)).2.length<=wt.length+fs.length:=by
 obtain⟨i1,i2,i3⟩:=hI;have i3:fs.length=need wt+1:=i3;have si:=q6i 1 (w0a _) wt fs i1 i3;have sr:=q8i (K:=K) (a:=a) n 1 wt fs i1 (by omega) (λz=>by omega) (by omega) (by omega)
 rw[set1]at sr;have n1:¬tx p="(":=by rw[h];decide +kernel
 have n2:¬tx p="not":=by rw[h];decide +kernel
 have es:stepF xs (wt,fs) (tx p)=((settleF 1 wt fs).1.tail,(settleF 1 wt fs).2):=by
  unfold stepF;rw[if_neg (not_or.mpr ⟨n1,n2⟩),if_pos h]
 rw[es];generalize settleF 1 wt fs=z at si sr;obtain⟨wt',fs'⟩:=z;dsimp only at si sr |-
 cases wt' with
 |nil=>exfalso;have h0:0=opn wt:=si.2.1;omega
 |cons t ts=>
  have ht:t="(":=by
   by_cases z:t="("
   ·exact z
   ·have:=x8v z;have:=si.2.2.2.2.2 t ts rfl;omega
  subst ht;have so:(if("(":Str)="(" then 1 else 0)+opn ts=opn wt:=si.2.1;have sn:fs'.length=((if("(":Str)="("\/("(":Str)="not" then 0 else 1)+need ts)+1:=si.2.2.1;have sl:=si.2.2.2.1;have sf:=si.2.2.2.2.1;rw[if_pos rfl]at so;rw[if_pos (.inl rfl)]at sn;refine⟨?_,⟨λt ht=>si.1 t (by simp at ht;simp[ht]),?_,?_⟩,?_⟩
  ·unfold q0x fst;walk_at "d";simp only[eq_false n1,eq_false n2,eq_true h];walk_at "d";rw[sr];walk_at "d";rw[w2r,w0o,w0g,w1v];walk_at "d";rfl
  all_goals grind
theorem y3c(n)(w)(xs)(k:Nat)(p)(wt)(fs)(hb:wt.length+fs.length<=200000)(br)(hI:Inv wt fs false br)(h:tx p∈jw):
  q0x K a (run K a (n+1)) (fst K w xs (wt,fs) (.fr (.int k)) (.fr (.str (tx p))))=.nx (fst K w xs (stepF xs (wt,fs) (tx p)) (.fr (.int k)) (.fr (.str (tx p))))/\Inv (stepF xs (wt,fs) (tx p)).1 (stepF xs (wt,fs) (tx p)).2 true br/\(stepF xs (wt,fs) (tx p)).1.length+(stepF xs (wt,fs) (tx p)).2.length<=wt.length+fs.length+1:=by
 obtain⟨i1,i2,i3⟩:=hI;have i3:fs.length=need wt+1:=i3;obtain⟨j1,j2,n1,n2,n3,_,_⟩:=z6o h;have si:=q6i (tgt (tx p)) j2 wt fs i1 i3;have sr:=q8i (K:=K) (a:=a) n (tgt (tx p)) wt fs i1 (by omega) (λz=>by omega) (by omega) (by omega)
 have es:stepF xs (wt,fs) (tx p)=(tx p::(settleF (tgt (tx p)) wt fs).1,(settleF (tgt (tx p)) wt fs).2):=by
  unfold stepF;rw[if_neg (not_or.mpr ⟨n1,n2⟩),if_neg n3,if_pos h]
 rw[es];generalize settleF (tgt (tx p)) wt fs=z at si sr;obtain⟨wt',fs'⟩:=z;dsimp only at si sr |-
 refine⟨?_,⟨λt ht=>?_,?_,?_⟩,?_⟩
 ·unfold q0x fst;walk_at "d";simp only[eq_false n1,eq_false n2,eq_false n3];walk_at "d";rw[q8h];simp only[eq_true h];walk_at "d";rw[tab5 j1];walk_at "d";rw[sr];walk_at "d";rw[if_pos (by simp;omega)];simp
 ·rcases w0d.mp ht with rfl|ht
  ·exact j1
  ·exact si.1 t ht
 ·unfold opn;rw[if_neg n1,si.2.1];omega
 ·show fs'.length=need (tx p::wt')+0;unfold need;rw[if_neg (not_or.mpr ⟨n1,n2⟩),si.2.2.1];omega
 ·show(tx p::wt').length+fs'.length<=_;simp;omega
theorem q4r(n:Nat)(w:W)(xs:List Str)(hx:∀x∈xs,okN x=true):∀(ps:List (Nat×List Nat))(aw:Bool)(br:Nat)(st:List Str×List W)(s4 s5:S)(aw':Bool)(br':Nat),flt0 xs ps aw br=.inr (aw',br')->Inv st.1 st.2 aw br->st.1.length+st.2.length+ps.length<=200000 ->
  ∃t4 t5,forP 4 5 (q0x K a (run K a (n+1))) (ps.map pr2) (fst K w xs st s4 s5)=.nx (fst K w xs (ps.foldl (λst p=>stepF xs st (tx p.2)) st) t4 t5)/\Inv (ps.foldl (λst p=>stepF xs st (tx p.2)) st).1 (ps.foldl (λst p=>stepF xs st (tx p.2)) st).2 aw' br'/\(ps.foldl (λst p=>stepF xs st (tx p.2)) st).1.length+(ps.foldl (λst p=>stepF xs st (tx p.2)) st).2.length<=200000
 |[],aw,br,st,s4,s5,aw',br',hf,hI,hb=>by
  cases hf;exact⟨s4,s5,rfl,hI,hb⟩
 |(k,p)::ps,true,br,(wt,fs),s4,s5,aw',br',hf,hI,hb=>by
  rw[w0g,q2l,w1l];have hset:((fst K w xs (wt,fs) s4 s5).set 4 (.fr (pr2 (k,p)).1)).set 5 (.fr (pr2 (k,p)).2)=fst K w xs (wt,fs) (.fr (.int k)) (.fr (.str (tx p))):=rfl;rw[hset];rw[flt0]at hf;obtain⟨i1,i2,i3⟩:=hI;have i3:fs.length=need wt:=i3;simp only[w0v]at hb
  by_cases h1:tx p="(" /\ br<12
  ·rw[if_pos h1]at hf;rw[q9u n w xs hx k p wt fs (by omega) (.inl h1.1),q07];have es:stepF xs (wt,fs) (tx p)=(tx p::wt,fs):=by unfold stepF;rw[if_pos (.inl h1.1)]
   rw[es];refine q4r n w xs hx ps true (br+1) (tx p::wt,fs) _ _ aw' br' hf ⟨λt ht=>?_,?_,?_⟩ (by simp;omega)
   ·rcases w0d.mp ht with rfl|ht
    ·rw[h1.1];decide +kernel
    ·exact i1 t ht
   ·show opn (tx p::wt)=_;unfold opn;rw[if_pos h1.1,i2];omega
   ·show fs.length=need (tx p::wt)+0;unfold need;rw[if_pos (.inl h1.1)];omega
  ·rw[if_neg h1]at hf
   by_cases h2:tx p∈xs\/tx p="yes"\/tx p="no"
   ·rw[if_pos h2]at hf;rw[q9u n w xs hx k p wt fs (by omega) (.inr (.inr h2)),q07]
    have h4:¬tx p="(" /\ ¬tx p="not" /\ ¬tx p=")" /\ ¬(tx p∈jw):=by
     rcases h2 with h3|h3|h3
     ·have ok:=q01 (hx _ h3);have h6:tx p∉(["yes", "no", "not", "and", "odd", "or"]:List Str):=of_decide_eq_false ok.1;refine⟨λz=>?_,λz=>h6 (by simp[z]),λz=>?_,λz=>h6 ?_⟩
      ·have:=ok.2.2.2;rw[z]at this;exact absurd (this 40 (by decide +kernel)) (by decide)
      ·have:=ok.2.2.2;rw[z]at this;exact absurd (this 41 (by decide +kernel)) (by decide)
      simp_all [jw]
     ·rw[h3];decide +kernel
     ·rw[h3];decide +kernel
    have es:stepF xs (wt,fs) (tx p)=(wt,plF xs (tx p)::fs):=by unfold stepF;rw[if_neg (not_or.mpr ⟨h4.1,h4.2.1⟩),if_neg h4.2.2.1,if_neg h4.2.2.2]
    rw[es];exact q4r n w xs hx ps false br (wt,plF xs (tx p)::fs) _ _ aw' br' hf ⟨i1,i2,show(plF xs (tx p)::fs).length=need wt+1 by simp;omega⟩ (by simp;omega)
   ·rw[if_neg h2]at hf
    by_cases h3:tx p="not"
    ·rw[if_pos h3]at hf;rw[q9u n w xs hx k p wt fs (by omega) (.inr (.inl h3)),q07];have es:stepF xs (wt,fs) (tx p)=(tx p::wt,fs):=by unfold stepF;rw[if_pos (.inr h3)]
     rw[es];refine q4r n w xs hx ps true br (tx p::wt,fs) _ _ aw' br' hf ⟨λt ht=>?_,?_,?_⟩ (by simp;omega)
     ·rcases w0d.mp ht with rfl|ht
      ·rw[h3];decide +kernel
      ·exact i1 t ht
     ·show opn (tx p::wt)=_;unfold opn;rw[if_neg (by rw[h3];decide +kernel),i2];omega
     ·show fs.length=need (tx p::wt)+0;unfold need;rw[if_pos (.inr h3)];omega
    ·rw[if_neg h3]at hf;cases hf
 |(k,p)::ps,false,br,(wt,fs),s4,s5,aw',br',hf,hI,hb=>by
  rw[w0g,q2l,w1l];have hset:((fst K w xs (wt,fs) s4 s5).set 4 (.fr (pr2 (k,p)).1)).set 5 (.fr (pr2 (k,p)).2)=fst K w xs (wt,fs) (.fr (.int k)) (.fr (.str (tx p))):=rfl;rw[hset];rw[flt0]at hf;simp only[w0v]at hb
  by_cases h1:tx p=")" /\ 0<br
  ·rw[if_pos h1]at hf;obtain⟨c1,c2,c3⟩:=x99 (K:=K) (a:=a) n w xs k p wt fs (by omega) br hI h1.2 h1.1;rw[c1,q07];exact q4r n w xs hx ps false (br-1) _ _ _ aw' br' hf c2 (by omega)
  ·rw[if_neg h1]at hf
   by_cases h2:tx p∈jw
   ·rw[if_pos h2]at hf;obtain⟨c1,c2,c3⟩:=y3c (K:=K) (a:=a) n w xs k p wt fs (by omega) br hI h2;rw[c1,q07];exact q4r n w xs hx ps true br _ _ _ aw' br' hf c2 (by omega)
   ·rw[if_neg h2]at hf;cases hf
noncomputable def foldF(xs:List Str)(ps:List (Nat×List Nat)):List Str×List W:=ps.foldl (λst p=>stepF xs st (tx p.2)) ([],[])
theorem z1n(n)(ps)(xs)(hx:∀x∈xs,okN x=true)(hp:ps.length<=200000)(h:flt0 xs ps true 0=.inr (false,0)):∃w,settleF 1 (foldF xs ps).1 (foldF xs ps).2=([],[w])/\run K a (n+2) q1t [.lst (ps.map encP),.dic (.k (pN 0 xs))]=.ok (.fr w):=by
 obtain⟨t4,t5,h1,h2,h3⟩:=q4r (K:=K) (a:=a) n (.lst (ps.map encP)) xs hx ps true 0 ([],[]) .no .no false 0 h ⟨by simp,rfl,rfl⟩ (by simpa using hp);obtain⟨i1,i2,i3⟩:=h2;have i3:(foldF xs ps).2.length=need (foldF xs ps).1+1:=i3;obtain⟨w,hw⟩:=q8j (foldF xs ps).1 (foldF xs ps).2 i1 i2 i3;refine⟨w,hw,?_⟩;have h3:(foldF xs ps).1.length+(foldF xs ps).2.length<=200000:=h3;have sr:=q8i (K:=K) (a:=a) n 1 (foldF xs ps).1 (foldF xs ps).2 i1 (by omega) (λz=>by omega) (by omega) (by omega)
 rw[set1,hw]at sr;rw[q3h];unfold q2q;walk_at "d";rw[q9t];walk_at "d";have h1:forP 4 5 (q0x K a (run K a (n+1))) (ps.map pr2) [.fr (.lst (ps.map encP)),.fr (.dic (.k (pN 0 xs))),.own none [],.own none [],.no,.no]=.nx [.fr (.lst (ps.map encP)),.fr (.dic (.k (pN 0 xs))),.own none (foldF xs ps).2.reverse,.own none ((foldF xs ps).1.reverse.map .str),t4,t5]:=h1;rw[h1];walk_at "d";rw[sr];walk_at "d";rfl
theorem y6h(x y:Str):(x++y).cps.toList=x.cps.toList++y.cps.toList:=by
 conv=>lhs;rw[<- q1l x,<- q1l y,q35,q1k]
theorem reps(c)(x)(hx:x=⟨#[c]⟩)(m:Nat)(h:m<=1000):mulS (.str x) (.int (m:Int))=some (.str (tx (List.replicate m c))):=by
 rw[hx,z6a ⟨by omega,by omega⟩,w1w];rfl
inductive Tk(ns:List Str):Nat->Fm->List Str->Nat->Prop
 |yn {l:Nat} (b:Bool):Tk ns l (.is b) [if b=true then("yes":Str)else("no":Str)] 0
 |plc {l p:Nat} (h:p<ns.length):Tk ns l (.at p) [ns.getD p ""] 0
 |not {l d:Nat} {f:Fm} {ts:List Str} (h:l<=3) (t:Tk ns 3 f ts d):Tk ns l (.not f) (("not":Str)::ts) d
 |and {l d e:Nat} {f g:Fm} {ts us:List Str} (h:l<=2) (t:Tk ns 2 f ts d) (u:Tk ns 3 g us e):Tk ns l (.and f g) (ts++("and":Str)::us) (max d e)
 |odd {l d e:Nat} {f g:Fm} {ts us:List Str} (h:l<=1) (t:Tk ns 1 f ts d) (u:Tk ns 2 g us e):Tk ns l (.odd f g) (ts++("odd":Str)::us) (max d e)
 |or {l d e:Nat} {f g:Fm} {ts us:List Str} (h:l<=0) (t:Tk ns 0 f ts d) (u:Tk ns 1 g us e):Tk ns l (.or f g) (ts++("or":Str)::us) (max d e)
 |par {l d:Nat} {f:Fm} {ts:List Str} (t:Tk ns 0 f ts d):Tk ns l f (("(":Str)::(ts++[(")":Str)])) (d+1)
noncomputable def topOk(wt:List Str)(l:Nat):Prop:=∀t ts,wt=t::ts->tgt t<=l
theorem q5w(h:topOk wt l)(hl:l<t)(fs):settleF t wt fs=(wt,fs):=by
 cases wt with
 |nil=>rfl
 |cons w ws=>
  have:=h w ws rfl;unfold settleF;rw[if_neg (by omega)]
theorem x4j:∀{ns:List Str}{p:Nat},ns.Nodup->(h:p<ns.length)->idxS ns[p] ns=some p
 |x::ns,0,_,h=>by
  simp[idxS]
 |x::ns,p+1,hd,h=>by
  have hp:p<ns.length:=by simpa using h
  have ih:=x4j (w1p.mp hd).2 hp;have hne:x≠ns[p]:=λz=>(w1p.mp hd).1 (by rw[z];exact w1s hp)
  simp_all [idxS]
theorem x1n(hx:∀x∈ns,okN x=true)(h:p<ns.length):ns.getD p ""∈ns/\¬ns.getD p ""="(" /\ ¬ns.getD p ""="not" /\ ¬ns.getD p ""=")" /\ ¬ns.getD p ""∈jw/\¬ns.getD p ""="yes" /\ ¬ns.getD p ""="no":=by
 have e:ns.getD p ""=ns[p]:=by rw[w0z,w0b h];rfl
 rw[e];have hm:=w1s h;have ok:=q01 (hx _ hm);have h6:ns[p]∉(["yes", "no", "not", "and", "odd", "or"]:List Str):=of_decide_eq_false ok.1;refine⟨hm,λz=>?_,λz=>h6 (by simp[z]),λz=>?_,λz=>h6 ?_,λz=>h6 (by simp[z]),λz=>h6 (by simp[z])⟩
 ·have:=ok.2.2.2;rw[z]at this;exact absurd (this 40 (by decide +kernel)) (by decide)
 ·have:=ok.2.2.2;rw[z]at this;exact absurd (this 41 (by decide +kernel)) (by decide)
 simp_all [jw]
theorem z6p(hx:∀x∈ns,okN x=true)(hd:ns.Nodup)(h:p<ns.length):plF ns (ns.getD p "")=enc (.at p):=by
 obtain⟨_,_,_,_,_,h1,h2⟩:=x1n hx h;unfold plF;rw[if_neg h1,if_neg h2];have e:ns.getD p ""=ns[p]:=by rw[w0z,w0b h];rfl
 rw[e,x4j hd h];rfl
theorem y3d(xs)(st):stepF xs st "("=(("(":Str)::st.1,st.2):=by
 unfold stepF;rw[if_pos (.inl rfl)]
theorem y6i(xs)(st):stepF xs st "not"=(("not":Str)::st.1,st.2):=by
 unfold stepF;rw[if_pos (.inr rfl)]
theorem y0a(xs)(st):stepF xs st ")"=((settleF 1 st.1 st.2).1.tail,(settleF 1 st.1 st.2).2):=by
 unfold stepF;rw[if_neg (by decide +kernel),if_pos rfl]
theorem y6j(xs)(st):stepF xs st "and"=(("and":Str)::(settleF 3 st.1 st.2).1,(settleF 3 st.1 st.2).2):=by
 unfold stepF;rw[if_neg (by decide +kernel),if_neg (by decide +kernel),if_pos (by decide +kernel),show tgt "and"=3 by decide +kernel]
theorem y6k(xs)(st):stepF xs st "odd"=(("odd":Str)::(settleF 2 st.1 st.2).1,(settleF 2 st.1 st.2).2):=by
 unfold stepF;rw[if_neg (by decide +kernel),if_neg (by decide +kernel),if_pos (by decide +kernel),show tgt "odd"=2 by decide +kernel]
theorem z1o(xs)(st):stepF xs st "or"=(("or":Str)::(settleF 1 st.1 st.2).1,(settleF 1 st.1 st.2).2):=by
 unfold stepF;rw[if_neg (by decide +kernel),if_neg (by decide +kernel),if_pos (by decide +kernel),show tgt "or"=1 by decide +kernel]
theorem y0b(h:t<=4)(wt)(f)(fs):settleF t (("not":Str)::wt) (f::fs)=settleF t wt (.tup [.str "not", f]::fs):=by
 rw[settleF,if_pos (by rw[show tgt "not"=4 by decide +kernel];exact h),if_pos rfl]
theorem q8k(hk:tgt w=k)(hn:w≠"not")(h:t<=k)(wt)(f g)(fs):settleF t (w::wt) (g::f::fs)=settleF t wt (.tup [.str w,f,g]::fs):=by
 rw[settleF,if_pos (by omega),if_neg hn]
theorem q8l(hk:tgt w=k)(h:k<=l):topOk (w::wt) l:=λt ts z=>by
 cases z;omega
theorem Tk.parse(hx:∀x∈ns,okN x=true)(hd:ns.Nodup){l:Nat}{f:Fm}{d:Nat}(h:Tk ns l f ts d):l<=3->∀(wt:List Str)(fs:List W),(l<=2->topOk wt l)->∀t,t<=l+1 ->
  settleF t (ts.foldl (stepF ns) (wt,fs)).1 (ts.foldl (stepF ns) (wt,fs)).2=settleF t wt (enc f::fs):=by
 induction h with
 |yn b=>
  intro hl wt fs _ t _
  have:stepF ns (wt,fs) (if b=true then("yes":Str)else("no":Str))=(wt,enc (.is b)::fs):=by
   cases b
   ·unfold stepF;rw[if_neg (by decide +kernel),if_neg (by decide +kernel),if_neg (by decide +kernel)];rfl
   ·unfold stepF;rw[if_neg (by decide +kernel),if_neg (by decide +kernel),if_neg (by decide +kernel)];rfl
  rw[w1l,w4w,this]
 | @plc l p h=>
  intro hl wt fs _ t _;obtain⟨_,h1,h2,h3,h4,_,_⟩:=x1n hx h
  have:stepF ns (wt,fs) (ns.getD p "")=(wt,enc (.at p)::fs):=by
   unfold stepF;rw[if_neg (not_or.mpr ⟨h1,h2⟩),if_neg h3,if_neg h4,z6p hx hd h]
  rw[w1l,w4w,this]
 |not h t ih=>
  intro hl wt fs _ s hs;rw[w1l,y6i,ih (w0a _) _ _ (λz=>by omega) s (by omega),y0b (by omega)]
  rfl
 |and h t u ih1 ih2=>
  intro hl wt fs hw s hs;rw[w3k,w1l,y6j];rw[ih1 (by omega) wt fs (λ_=>λa b z=>w0s (hw (by omega) a b z) h) 3 (by omega),q5w (hw (by omega)) (by omega)]
  rw[ih2 (by omega) _ _ (λz=>by omega) s (by omega),q8k (by decide +kernel) (by decide +kernel) (show s<=3 by omega)]
  rfl
 |odd h t u ih1 ih2=>
  intro hl wt fs hw s hs;rw[w3k,w1l,y6k];rw[ih1 (by omega) wt fs (λ_=>λa b z=>w0s (hw (by omega) a b z) h) 2 (by omega),q5w (hw (by omega)) (by omega)]
  rw[ih2 (by omega) _ _ (λz=>q8l (k:=2) (by decide +kernel) (by omega)) s (by omega),q8k (by decide +kernel) (by decide +kernel) (show s<=2 by omega)]
  rfl
 |or h t u ih1 ih2=>
  intro hl wt fs hw s hs;rw[w3k,w1l,z1o];rw[ih1 (by omega) wt fs (λ_=>λa b z=>w0s (hw (by omega) a b z) h) 1 (by omega),q5w (hw (by omega)) (by omega)]
  rw[ih2 (by omega) _ _ (λz=>q8l (k:=1) (by decide +kernel) (by omega)) s (by omega),q8k (by decide +kernel) (by decide +kernel) (show s<=1 by omega)]
  rfl
 |par t ih=>
  intro hl wt fs hw s hs;rw[w1l,y3d,w3k,w1l,w4w,y0a];have tp:topOk (("(":Str)::wt) 0:=q8l (k:=0) (by decide +kernel) (w0a _);rw[ih (by omega) _ _ (λ_=>tp) 1 (by omega),q5w tp (by omega)]
  rfl
theorem Tk.whole(hx:∀x∈ns,okN x=true)(hd:ns.Nodup)(h:Tk ns 0 f ts d):settleF 1 (ts.foldl (stepF ns) ([],[])).1 (ts.foldl (stepF ns) ([],[])).2=([],[enc f]):=
 h.parse hx hd (by omega) [] [] (λ_ a b z=>by cases z) 1 (by omega)
theorem Tk.fine(hx:∀x∈ns,okN x=true){l:Nat}{f:Fm}{d:Nat}(h:Tk ns l f ts d):∀(ps rest:List (Nat×List Nat))(br:Nat),ps.map (λp=>tx p.2)=ts->br+d<=12->flt0 ns (ps++rest) true br=flt0 ns rest false br:=by
 induction h with
 |yn b=>
  intro ps rest br e hb;obtain⟨⟨k,p⟩,rfl,e'⟩:=w2w.mp e
  ·have e:tx p=if b=true then("yes":Str)else("no":Str):=e';show flt0 ns ((k,p)::rest) true br=_;rw[flt0,if_neg (λz=>by rw[e]at z;cases b<;>exact absurd z.1 (by decide +kernel)),if_pos (.inr (by cases b;exact .inr e;exact .inl e))]
 | @plc l p h=>
  intro ps rest br e hb;obtain⟨⟨k,q⟩,rfl,e'⟩:=w2w.mp e
  ·have e:tx q=ns.getD p "":=e';obtain⟨h0,h1,_⟩:=x1n hx h
   simp_all [flt0]
 |not h t ih=>
  intro ps rest br e hb;obtain⟨⟨k,q⟩,ps,rfl,e1,e2⟩:=w2a.mp e
  ·have e1:tx q="not":=e1;rw[w1b,flt0,if_neg (λz=>by rw[e1]at z;exact absurd z.1 (by decide +kernel))]
   by_cases hm:tx q∈ns\/tx q="yes"\/tx q="no"
   ·exfalso;rw[e1]at hm;rcases hm with hm|hm|hm
    ·exact absurd (q01 (hx _ hm)).1 (by decide +kernel)
    ·exact absurd hm (by decide +kernel)
    ·exact absurd hm (by decide +kernel)
   ·rw[if_neg hm,if_pos e1];exact ih ps rest br e2 hb
 | @and l d e f g ts us h t u ih1 ih2=>
  intro ps rest br eq hb;obtain⟨p1,p2,rfl,e1,e2⟩:=w2m.mp eq;obtain⟨⟨k,q⟩,p2,rfl,eq1,e2⟩:=w2a.mp e2
  ·have eq1:tx q="and":=eq1;rw[w0j,ih1 p1 _ br e1 (by omega),w1b,flt0,if_neg (λz=>by rw[eq1]at z;exact absurd z.1 (by decide +kernel)),if_pos (by rw[eq1];decide +kernel)]
   exact ih2 p2 rest br e2 (by omega)
 | @odd l d e f g ts us h t u ih1 ih2=>
  intro ps rest br eq hb;obtain⟨p1,p2,rfl,e1,e2⟩:=w2m.mp eq;obtain⟨⟨k,q⟩,p2,rfl,eq1,e2⟩:=w2a.mp e2
  ·have eq1:tx q="odd":=eq1;rw[w0j,ih1 p1 _ br e1 (by omega),w1b,flt0,if_neg (λz=>by rw[eq1]at z;exact absurd z.1 (by decide +kernel)),if_pos (by rw[eq1];decide +kernel)]
   exact ih2 p2 rest br e2 (by omega)
 | @or l d e f g ts us h t u ih1 ih2=>
  intro ps rest br eq hb;obtain⟨p1,p2,rfl,e1,e2⟩:=w2m.mp eq;obtain⟨⟨k,q⟩,p2,rfl,eq1,e2⟩:=w2a.mp e2
  ·have eq1:tx q="or":=eq1;rw[w0j,ih1 p1 _ br e1 (by omega),w1b,flt0,if_neg (λz=>by rw[eq1]at z;exact absurd z.1 (by decide +kernel)),if_pos (by rw[eq1];decide +kernel)]
   exact ih2 p2 rest br e2 (by omega)
 |par t ih=>
  intro ps rest br eq hb;obtain⟨⟨k,q⟩,ps,rfl,eq1,eq2⟩:=w2a.mp eq
  ·obtain⟨p1,p2,rfl,e1,e2⟩:=w2m.mp eq2;obtain⟨⟨j,r⟩,rfl,e2'⟩:=w2w.mp e2
   ·have e2:tx r=")":=e2';rw[w1b,flt0,if_pos ⟨eq1,by omega⟩,w0j,ih p1 _ (br+1) e1 (by omega)];show flt0 ns ((j,r)::rest) false (br+1)=_;rw[flt0,if_pos ⟨e2,by omega⟩];rfl
noncomputable def lexF:Nat->Nat->List Nat->List (Nat×List Nat)
 |0,_,_=>[]
 |_+1,_,[]=>[]
 |f+1,k,c::cs=>(if c=32 then[]else[(k,(c::cs).take (stp (c::cs)))])++lexF f (k+stp (c::cs)) ((c::cs).drop (stp (c::cs)))
theorem x8w:∀(f:Nat)(cs:List Nat)(k:Nat),pcs f cs k=lexF f k (cs.drop k)
 |0,_,_=>rfl
 |f+1,cs,k=>by
  unfold pcs
  by_cases h:k<cs.length
  ·rw[if_pos h,w1m h,lexF,x8w f,<- w1m h,w4x]
   grind
  ·rw[if_neg h,w4m (by omega)];cases f<;>rfl
theorem z1p(cs):1<=stp cs:=Nat.le_max_left _ _
theorem x4k:∀(f g k:Nat)(cs:List Nat),cs.length<=f->cs.length<=g->lexF f k cs=lexF g k cs
 |0,g,k,cs,hf,_=>by
  obtain rfl:cs=[]:=w3q (by omega);cases g<;>rfl
 |f+1,0,k,cs,_,hg=>by
  obtain rfl:cs=[]:=w3q (by omega);rfl
 |f+1,g+1,k,[],_,_=>rfl
 |f+1,g+1,k,c::cs,hf,hg=>by
  have:=z1p (c::cs);rw[lexF,lexF,x4k f g _ _ (by rw[w1e];omega) (by rw[w1e];omega)]
noncomputable def lex(k:Nat)(cs:List Nat):List (Nat×List Nat):=lexF cs.length k cs
theorem y0c(cs):pieces cs=lex 0 cs:=by
 unfold pieces lex;rw[x8w,w4v]
theorem z1q(k):lex k []=[]:=rfl
theorem x8x(h:isL c=false):stp (c::cs)=1:=by
 unfold stp upto;rw[w3v,h];rfl
theorem q7k(k)(r):lex k (32::r)=lex (k+1) r:=by
 unfold lex;rw[w0v,lexF,if_pos rfl,w2f,x8x (by decide)];rfl
theorem x62(k)(r)(h:isL c=false)(hb:c≠32):lex k (c::r)=(k,[c])::lex (k+1) r:=by
 unfold lex;rw[w0v,lexF,if_neg hb,x8x h];rfl
noncomputable def Bd(r:List Nat):Prop:=∀c cs,r=c::cs->isL c=false
theorem y3e(hl:∀c∈w,isL c=true)(hr:Bd r):upto (w++r)=w.length:=by
 unfold upto;rw[List.takeWhile_append_of_pos hl,w0u];cases r with
 |nil=>rfl
 |cons c cs=>rw[w3v,hr c cs rfl];rfl
theorem x1o(k)(hw:w≠[])(hl:∀c∈w,isL c=true)(hr:Bd r):lex k (w++r)=(k,w)::lex (k+w.length) r:=by
 cases w with
 |nil=>exact absurd rfl hw
 |cons c w=>
  have hs:stp (c::w++r)=(c::w).length:=by
   unfold stp;rw[y3e hl hr];simp
  have hc:c≠32:=λz=>by
   have:=hl c (by simp);rw[z]at this;exact absurd this (by decide)
  show lexF (c::w++r).length k (c::(w++r))=_;rw[w1b,w0v,lexF,if_neg hc];rw[<- w1b,hs,List.take_left' rfl,List.drop_left' rfl];rw[w3o];unfold lex;rw[x4k _ _ _ _ (by rw[w0u];omega) (w0a _)]
noncomputable def LexTo(cs:List Nat)(ts:List Str):Prop:=∀(k:Nat)(r:List Nat),Bd r->∃ps,ps.map (λp=>tx p.2)=ts/\lex k (cs++r)=ps++lex (k+cs.length) r
theorem LexTo.word(hw:w≠[])(hl:∀c∈w,isL c=true):LexTo w [tx w]:=λk r hr=>⟨[(k,w)],rfl,x1o k hw hl hr⟩
theorem x0k(h:isL c=false):Bd (c::r):=λd ds z=>by cases z;exact h
theorem LexTo.mid(hx:LexTo x ts)(hy:LexTo y us)(hw:w≠[])(hl:∀c∈w,isL c=true):LexTo (x++(32::(w++(32::y)))) (ts++tx w::us):=λk r hr=>by
 obtain⟨p1,a1,a2⟩:=hx k (32::(w++(32::(y++r)))) (x0k (by decide));obtain⟨p2,b1,b2⟩:=hy (k+x.length+1+w.length+1) r hr;refine⟨p1++(k+x.length+1,w)::p2,by rw[w0o,w0g,a1,b1],?_⟩;have e:x++(32::(w++(32::y)))++r=x++(32::(w++(32::(y++r)))):=by simp
 rw[e,a2,q7k,x1o _ hw hl (x0k (by decide)),q7k,b2];simp only[w0j,w1b,w0u,w0v];congr 4;omega
theorem LexTo.not(hx:LexTo x ts)(hw:w≠[])(hl:∀c∈w,isL c=true):LexTo (w++(32::x)) (tx w::ts):=λk r hr=>by
 obtain⟨p1,a1,a2⟩:=hx (k+w.length+1) r hr;refine⟨(k,w)::p1,by rw[w0g,a1],?_⟩;have e:w++(32::x)++r=w++(32::(x++r)):=by simp
 rw[e,x1o _ hw hl (x0k (by decide)),q7k,a2];simp only[w1b,w0u,w0v];congr 3;omega
theorem LexTo.par(hx:LexTo x ts):LexTo (40::(x++[41])) (tx [40]::(ts++[tx [41]])):=λk r hr=>by
 obtain⟨p1,a1,a2⟩:=hx (k+1) (41::r) (x0k (by decide));refine⟨(k,[40])::(p1++[(k+1+x.length,[41])]),by rw[w0g,w0o,a1];rfl,?_⟩;have e:40::(x++[41])++r=40::(x++(41::r)):=by simp
 rw[e,x62 _ _ (by decide) (by decide),a2,x62 _ _ (by decide) (by decide)]
 grind
noncomputable def chs(x:Str):List Nat:=x.cps.toList
theorem q20(x y):chs (x++y)=chs x++chs y:=y6h x y
theorem z1r(w x y):chs (mid w x y)=chs x++(32::(chs w++(32::chs y))):=by
 unfold mid;rw[q20,q20,q20,q20,show chs (" ":Str)=[32] by decide +kernel];rfl
theorem z1s(x):chs (par true x)=40::(chs x++[41]):=by
 unfold par;rw[if_pos rfl,q20,q20,show chs ("(":Str)=[40] by decide +kernel,show chs (")":Str)=[41] by decide +kernel];rfl
noncomputable def brk(ns:List Str)(l:Nat)(f:Fm):Str:=par (decide (lvl f<l)) (txt ns f)
theorem x4l(x y z:Str):x++y++z=x++(y++z):=by
 cases x;cases y;cases z;exact congrArg Str.mk w4z
theorem z6q:Bd []:=λc cs z=>by cases z
theorem y6l(xs)(ps):foldF xs ps=(ps.map λp=>tx p.2).foldl (stepF xs) ([],[]):=by
 unfold foldF;rw[List.foldl_map]
theorem q4s:∀(f:Fm),eqW (enc f) (enc f)=some true
 |.is b=>by simp[enc,eqW,eqWs]
 |.at p=>by simp[enc,eqW,eqWs]
 |.not f=>by simp[enc,eqW,eqWs,q4s f]
 |.and f g=>by simp[enc,eqW,eqWs,q4s f,q4s g]
 |.or f g=>by simp[enc,eqW,eqWs,q4s f,q4s g]
 |.odd f g=>by simp[enc,eqW,eqWs,q4s f,q4s g]
theorem q3l:∀(f:Fm),depW (enc f)<=f.depth
 |.is b=>by simp[enc,depW,depWs,Fm.depth]
 |.at p=>by simp[enc,depW,depWs,Fm.depth]
 |.not f=>by have:=q3l f;simp[enc,depW,depWs,Fm.depth];omega
 |.and f g=>by have:=q3l f;have:=q3l g;simp[enc,depW,depWs,Fm.depth];omega
 |.or f g=>by have:=q3l f;have:=q3l g;simp[enc,depW,depWs,Fm.depth];omega
 |.odd f g=>by have:=q3l f;have:=q3l g;simp[enc,depW,depWs,Fm.depth];omega
noncomputable def atB(s sub:Str)(i:Nat):Bool:=decide (i+sub.length<=s.length)&&Builtin.Str.subAt s sub i
theorem atB_iff:atB s sub i=true↔StrLaws.At s sub s.length i:=by simp[atB,StrLaws.At]
theorem x3k{s sub:Str}{limit:Nat}:∀(l:List Nat)(st:Array Nat×Nat),l.Pairwise (·<·)->(∀i∈l,atB s sub i=true->st.2<=i)->(∀i∈l,∀j∈l,i<j->atB s sub i=true->atB s sub j=true->i+sub.length<=j)->st.1.size+l.length<=limit ->
  (forIn l st (StrLaws.occBody s sub s.length limit)).run.fst.toList=st.1.toList++l.filter (atB s sub)
 |[],st,_,_,_,_=>by simp
 |i::l,st,hp,hf,ho,hs=>by
  obtain⟨p1,p2⟩:=List.pairwise_cons.mp hp;rw[w2b];unfold StrLaws.occBody;have ho':∀x∈l,∀y∈l,x<y->atB s sub x=true->atB s sub y=true->x+sub.length<=y:=λx hx y hy=>ho x (w0e _ hx) y (w0e _ hy)
  split
  ·rename_i hc;have hi:atB s sub i=true:=atB_iff.mpr ⟨hc.1.2,hc.2⟩;refine(x3k l (st.1.push i,i+sub.length) p2 (λj hj hb=>ho i w0h j (w0e _ hj) (p1 j hj) hi hb) ho' (by simp at hs |-;omega)).trans ?_
   rw[w2y,if_pos hi];simp
  ·rename_i hc
   have hi:¬atB s sub i=true:=λh=>by
    have h1:=hf i w0h h;obtain⟨h2,h3⟩:=atB_iff.mp h;exact hc ⟨⟨⟨by simp at hs;omega,h1⟩,h2⟩,h3⟩
   refine(x3k l st p2 (λj hj hb=>hf j (w0e _ hj) hb) ho' (by simp at hs |-;omega)).trans ?_
   rw[w2y,if_neg hi]
theorem y0d(ho:∀i j,i<j->atB x y i=true->atB x y j=true->i+y.length<=j):Builtin.Str.occurrences x y 0 x.length (x.length+1)=(List.range' 0 (x.length+1)).filter (atB x y):=by
 rw[StrLaws.occ_eq,x3k _ _ (List.pairwise_lt_range' ..) (λ_ _ _=>w1d _) (λi _ j _=>ho i j) (by simp)]
 simp
theorem z6r(cs)(c i):atB (tx cs) ⟨#[c]⟩ i=decide (cs[i]?=some c):=by
 rw[w2o,atB_iff,decide_eq_true_iff];have:=StrLaws.subAt_one (tx cs) c i;rw[q1k]at this;exact this
noncomputable def cutC(c:Nat):List Nat->List (List Nat)
 |[]=>[[]]
 |d::r=>if d=c then[]::cutC c r else match cutC c r with
  |p::ps=>(d::p)::ps
  |[]=>[[d]]
theorem q7l(c d)(r):cutC c (d::r)=if d=c then[]::cutC c r else match cutC c r with|p::ps=>(d::p)::ps|[]=>[[d]]:=rfl
theorem x3l(c):∀cs,∃p ps,cutC c cs=p::ps
 |[]=>⟨[],[],rfl⟩
 |d::r=>by
  obtain⟨p,ps,e⟩:=x3l c r;unfold cutC;rw[e];split
  ·exact⟨_,_,rfl⟩
  ·exact⟨_,_,rfl⟩
theorem x2y(cs)(i j):Builtin.Str.strSub (tx cs) i j=tx ((cs.drop i).take (j-i)):=by
 have:=StrLaws.strSub_toList (tx cs) i j;rw[<- q1l (Builtin.Str.strSub (tx cs) i j),this,q1k]
theorem q9v(c:Nat)(cs:List Nat):∀(m i b:Nat),cs.length-i=m->b<=i->i<=cs.length->∃p ps,cutC c (cs.drop i)=p::ps /\
  StrLaws.partsFrom (tx cs) 1 b ((List.range' i (m+1)).filter λi=>decide (cs[i]?=some c))=tx ((cs.drop b).take (i-b)++p)::ps.map tx
 |0,i,b,hm,hb,hi=>by
  have ei:i=cs.length:=by omega
  subst ei;refine⟨[],[],by rw[w3p];rfl,?_⟩;simp[StrLaws.partsFrom,x2y,q0u]
 |m+1,i,b,hm,hb,hi=>by
  have hlt:i<cs.length:=by omega
  rw[w1m hlt,List.range'_succ,w2y,w0b hlt];unfold cutC
  by_cases hc:cs[i]=c
  ·obtain⟨p,ps,e1,e2⟩:=q9v c cs m (i+1) (i+1) (by omega) (w0a _) hlt;rw[if_pos hc,if_pos (by simp[hc]),e1]
   grind [StrLaws.partsFrom,x2y]
  ·obtain⟨p,ps,e1,e2⟩:=q9v c cs m (i+1) b (by omega) (by omega) hlt;rw[if_neg hc,if_neg (by simp[hc]),e1];refine⟨cs[i]::p,ps,rfl,?_⟩;rw[e2]
   have:(cs.drop b).take (i+1-b)=(cs.drop b).take (i-b)++[cs[i]]:=by
    rw[show i+1-b=(i-b)+1 by omega,w3j,List.getElem?_drop,show b+(i-b)=i by omega,w0b hlt];rfl
   rw[this];simp
theorem x08(c)(cs):Builtin.Str.partsBetween (tx cs) (Builtin.Str.occurrences (tx cs) ⟨#[c]⟩ 0 (tx cs).length ((tx cs).length+1)) 1=(cutC c cs).map tx:=by
 rw[y0d (x:=tx cs) (y:=⟨#[c]⟩) (λi j h _ _=>h),StrLaws.partsBetween_eq,q0u]
 obtain⟨p,ps,e1,e2⟩:=q9v c cs cs.length 0 0 rfl (w0a _) (w1d _);rw[w4v]at e1;rw[show(atB (tx cs) ⟨#[c]⟩)=λi=>decide (cs[i]?=some c)from funext (z6r cs c),e2,e1]
 simp
theorem z1t(h:(Builtin.Str.occurrences (tx cs) ⟨#[c]⟩ 0 (tx cs).length ((tx cs).length+1)).isEmpty=true):[tx cs]=(cutC c cs).map tx:=by
 rw[<- x08,List.isEmpty_iff.mp h,StrLaws.partsBetween_eq];exact congrArg (·::[]) (StrLaws.sub_whole _).symm
theorem y6m(hc:c<256)(x):Builtin.Str.strKind ⟨#[c]⟩<=Builtin.Str.strKind x:=by
 grind [Builtin.Str.strKind]
theorem x4m(hc:c<256)(cs):Txt.split (tx cs) ⟨#[c]⟩=(cutC c cs).map tx:=by
 unfold Txt.split;split
 ·rename_i h;rw[w4n]at h;rcases h with h|h
  ·have h0:cs=[]:=by
    have:(tx cs).length<1:=of_decide_eq_true h;rw[q0u]at this;exact w4h.mp (by omega)
   subst h0;rfl
  ·exact absurd (of_decide_eq_true h) (w4f.mpr (y6m hc _))
 ·split
  ·rename_i h;exact z1t h
  ·exact x08 c cs
noncomputable def joinC(z:List Nat):List (List Nat)->List Nat
 |[]=>[]
 |[p]=>p
 |p::q::r=>p++(z++joinC z (q::r))
theorem x63(z):∀l:List (List Nat),Str.join (tx z) (l.map tx)=tx (joinC z l)
 |[]=>rfl
 |[p]=>rfl
 |p::q::r=>by
  show tx p++tx z++Str.join (tx z) ((q::r).map tx)=_;rw[x63 z (q::r),q35,q35,w0j];rfl
theorem x4n:∀{l:List Nat},c∉l->cutC c l=[l]
 |[],_=>rfl
 |d::r,h=>by
  unfold cutC;rw[if_neg (λz=>h (by rw[z];exact w0h)),x4n (λz=>h (w0e _ z))]
theorem q8m:∀{l:List Nat}(r:List Nat),c∉l->cutC c (l++c::r)=l::cutC c r
 |[],r,_=>by rw[w2f,q7l,if_pos rfl]
 |d::l,r,h=>by
  rw[w1b,q7l,if_neg (λz=>h (by rw[z];exact w0h)),q8m r (λz=>h (w0e _ z))]
theorem at_tx:atB (tx cs) (tx y) i=true↔∃l r,cs=l++(y++r)/\l.length=i:=by
 rw[atB_iff];unfold StrLaws.At;rw[StrLaws.subAt_eq,q0u,q0u,q1k,q1k,beq_iff_eq];constructor
 ·rintro⟨h1,h2⟩;refine⟨cs.take i,cs.drop (i+y.length),?_,by simp;omega⟩
  grind [List.take_append_drop,List.drop_drop]
 ·rintro⟨l,r,rfl,rfl⟩;exact⟨by simp,by simp⟩
theorem y6n(hy:y≠[])(hu:∀l' r',l++(y++r)=l'++(y++r')->l'.length=l.length)(n):Builtin.Str.occurrences (tx (l++(y++r))) (tx y) 0 (tx (l++(y++r))).length (n+1)=[l.length]:=by
 have hat:∀i,StrLaws.At (tx (l++(y++r))) (tx y) (tx (l++(y++r))).length i->i=l.length:=λi h=>by
  obtain⟨l',r',e,hi⟩:=at_tx.mp (atB_iff.mpr h);rw[<- hi];exact hu l' r' e
 rcases StrLaws.occ_head (tx (l++(y++r))) (tx y) (n+1) (by omega)with⟨_,h2⟩|⟨i,q,h1,h2,_⟩
 ·exact absurd (atB_iff.mp (at_tx.mpr ⟨l,r,rfl,rfl⟩)) (h2 _)
 ·have:=hat i h2;subst this;obtain⟨f,hc⟩:=StrLaws.occ_chain (tx (l++(y++r))) (tx y) (n+1);rw[h1]at hc |-
  cases q with
  |nil=>rfl
  |cons j q=>
   obtain⟨_,_,h3,h4,_⟩:=hc;have:=hat j h4;rw[this,q0u]at h3;cases y with
   |nil=>exact absurd rfl hy
   |cons _ _=>simp at h3;omega
theorem y6o(hl:c∉l)(hr:c∉r)(l' r':List Nat)(e:l++c::r=l'++c::r'):l'.length=l.length:=by
 have h:(l++c::r)[l'.length]?=some c:=by rw[e];simp
 grind
theorem x64(hl:c∉l)(hr:c∉r):partT (tx (l++c::r)) (tx [c])=[tx l,tx [c],tx r]:=by
 have:=y6n (l:=l) (y:=[c]) (r:=r) (by simp) (λl' r' e=>y6o hl hr l' r' e) 0
 rw[w3o]at this;unfold partT;rw[this];show[Builtin.Str.strSub _ 0 l.length,_,Builtin.Str.strSub _ (l.length+(tx [c]).length) _]=_;rw[x2y,x2y,q0u,q0u];simp;congr 1;exact w2l (by omega)
theorem y3f(hl:c∉l):partT (tx l) (tx [c])=[tx l, "", ""]:=by
 unfold partT;rcases StrLaws.occ_head (tx l) (tx [c]) 1 (w0a _)with⟨h,_⟩|⟨i,q,_,h2,_⟩
 ·rw[h];rfl
 ·obtain⟨l',r',e,_⟩:=at_tx.mp (atB_iff.mpr h2);exact absurd (by rw[e];simp) hl
theorem y3g:∀l:List (List Nat),strsW (l.map λw=>.str (tx w))=some (l.map tx)
 |[]=>rfl
 |w::l=>by
  have:=y3g l
  grind [strsW]
theorem x65(h:(l.map List.length).sum+l.length*(z.length+1)<=1000000):joinW (.str (tx z)) [.lst (l.map λw=>.str (tx w))]=some (.str (tx (joinC z l))):=by
 show(match strsW (l.map λw=>W.str (tx w))with
   |some ys=>if joinOk (tx z) ys=true then some (W.str (Txt.join (tx z) ys))else none
   |none=>none)=_
 rw[y3g];show(if joinOk (tx z) (l.map tx)=true then some (W.str (Txt.join (tx z) (l.map tx)))else none)=_;rw[show Txt.join (tx z) (l.map tx)=tx (joinC z l)from(StrLaws.glued_eq_join _ _).trans (x63 z l),if_pos];unfold joinOk;rw[w0x,show(λx:Str=>x.length) ∘ tx=List.length from funext q0u,w0i,q0u]
 refine w4p (w0s (Nat.add_le_add_left (Nat.mul_le_mul_left _ (w5i _)) _) (w0s h (by decide)))
noncomputable def neB(w:List Nat):Bool:=decide (w≠[])
noncomputable def wds(cs:List Nat):List (List Nat):=(cutC 32 cs).filter neB
noncomputable def InR(cs:List Nat)(ws:List (List Nat)):Prop:=61∉cs/\10∉cs/\wds cs=ws
theorem y3h(n)(xs)(hx:∀x∈xs,okN x=true)(hn:xs.Nodup)(hd:xs.length<1000):run K a (n+3) q0y [.tup (xs.map .str)]=.ok (.dic (.k (pN 0 xs))):=
 (x8r n xs (λx h=>q4p (hx x h)) hd).1 ((q4o [] xs w2v).mpr ⟨hx,hn⟩)
theorem x8y(n:Nat)(cs:List Nat)(hcs:cs.length<=100000)(xs:List Str)(hx:∀x∈xs,okN x=true)(hd:xs.Nodup)(hl:xs.length<1000){f:Fm}{d:Nat}(h:Tk xs 0 f ts d)(ht:(pieces cs).map (λp=>tx p.2)=ts)(hd2:d<=12):
  run K a (n+4) q7x [.str (tx cs),.tup (xs.map .str)]=.ok (.fr .non)/\run K a (n+4) q9f [.str (tx cs),.tup (xs.map .str)]=.ok (.fr (enc f)):=by
 have hp:=x8t cs.length cs 0;have hf:=h.fine hx (pieces cs) [] 0 ht (by omega);rw[w1a]at hf;have hf0:flt0 xs (pieces cs) true 0=.inr (false,0):=hf;have hn:flt xs cs.length (pieces cs)=none:=by unfold flt;rw[hf0];rfl
 obtain⟨w,h1,h2⟩:=z1n (K:=K) (a:=a) (n+1) (pieces cs) xs hx (by show(pcs cs.length cs 0).length<=_;omega) hf0;rw[y6l,ht,h.whole hx hd]at h1;cases h1;refine⟨?_,?_⟩
 ·rw[q9p];unfold x0g;walk_at "d";rw[y3h n xs hx hd hl];walk_at "d";rw[x2x n cs hcs];walk_at "d";rw[lenB hcs];walk_at "d";rw[y3a (n+1) (pieces cs) cs.length xs hx,hn];unfold encO;walk_at "d"
 ·rw[x1k];unfold x2m;walk_at "d";rw[y3h n xs hx hd hl];walk_at "d";rw[x2x n cs hcs];walk_at "d";rw[lenB hcs];walk_at "d";rw[y3a (n+1) (pieces cs) cs.length xs hx,hn];unfold encO;walk_at "d";rw[h2];walk_at "d"
theorem q5n(en g)(t):∀l:List α,(∀x∈l,∃e',cc (.fr (en x)::pe)=.ok (t x) e'/\(t x=true->∃e2,d e'=.ok (g x) e2))->compD cc d pe (l.map en)=some ((l.filter t).map g)
 |[],_=>rfl
 |x::l,h=>by
  obtain⟨e',h1,h2⟩:=h x w0h;rw[w0g,q87,h1,w2y,q5n en g t l λy hy=>h y (w0e _ hy)]
  cases q:t x with
  |false=>rfl
  |true=>
   obtain⟨e2,h3⟩:=h2 q;simp only[h3];rfl
theorem q8n(c):∀cs:List Nat,(cutC c cs).length<=cs.length+1
 |[]=>by simp[cutC]
 |d::r=>by
  have:=q8n c r;obtain⟨p,ps,e⟩:=x3l c r;rw[q7l];split
  ·simp;omega
  ·rw[e]at this |-;simp at this |-;omega
noncomputable def wT(w:List Nat):W:=.str (tx w)
theorem sp_w(hc:c<256)(h:cs.length<=100000):splitW (.str (tx cs)) [.str ⟨#[c]⟩]=some (.lst ((cutC c cs).map wT)):=by
 have:=q8n c cs;show(if okSplit (tx cs) ⟨#[c]⟩=true then some (W.lst ((Txt.split (tx cs) ⟨#[c]⟩).map .str))else none)=_;rw[x4m hc,if_pos,w0x]
 ·rfl
 ·unfold okSplit;rw[x4m hc,q0u,w0i];simp only[w0l,decide_eq_true_eq];exact⟨⟨rfl,by omega⟩,by omega⟩
theorem z6s(w):ne2 (wT w) (.str "")=some (.bl (neB w)):=by
 show ne2 (.str (tx w)) (.str "")=_;rw[y7g];have:(tx w=("":Str))↔w=[]:=⟨λh=>z6k (y:=[]) h,λh=>by rw[h];rfl⟩
 simp[neB,this]
theorem q9w(n)(cs)(h:cs.length<=100000):run K a (n+1) q3q [.str (tx cs)]=.ok (.own none ((wds cs).map wT)):=by
 rw[q66];unfold q6e;walk_at "d";rw[show(" ":Str)=⟨#[32]⟩from rfl,sp_w (by omega) h];have hl:=q8n 32 cs;walk_at "d";rw[if_pos (by rw[w0i];omega),q5n wT wT neB]
 ·walk_at "d";rfl
 ·intro w _;unfold q9n q9m;walk_at "d";rw[z6s];walk_at "d";exact⟨_,rfl,λ_=>⟨_,rfl⟩⟩
structure Pt where
 row:Nat
 word:Str
 names:List Str
 first:W
 form:Str
 fm:Fm
noncomputable def pk:List Kx:=[.str "row", .str "word", .str "names", .str "first", .str "form"]
noncomputable def pw(p:Pt):List W:=[.int p.row,.str p.word,.tup (p.names.map .str),p.first,.str p.form]
noncomputable def encPt(p:Pt):W:=.dw false .str pk (pw p)
theorem q6o(p):ixS (encPt p) (.str "word")=some (.str p.word):=by simp[ixS,encPt,pk,pw,lkW,q4x]
theorem x1p(p):ixS (encPt p) (.str "names")=some (.tup (p.names.map .str)):=by simp[ixS,encPt,pk,pw,lkW,q4x]
theorem y6p(p):ixS (encPt p) (.str "first")=some p.first:=by simp[ixS,encPt,pk,pw,lkW,q4x]
theorem x8z(p):ixS (encPt p) (.str "form")=some (.str p.form):=by simp[ixS,encPt,pk,pw,lkW,q4x]
theorem z6t(h:l.length<=100000):partW (.str (tx l)) [.str "="]=some (.tup ((partT (tx l) (tx [61])).map .str)):=by
 refine if_pos ?_;unfold okPart;rw[q0u];simp only[w0l,decide_eq_true_eq];exact⟨rfl,by omega⟩
noncomputable def pt0(k:Nat)(f:Str):List W:=[.int k,.str "", .tup [],.non,.str f]
theorem x1q(n k:Nat)(hc:cs.length<=100000)(hl:l.length<=100000)(h:partT (tx cs) (tx [61])=[tx l,s1,s2]):run K a (n+2) q0z [.str (tx cs),.int k]=(ptT K a (run K a (n+1)) [.fr (.str (tx cs)),.fr (.int k),.fr (.tup [.str (tx l),.str s1,.str s2]),.fr (.lst ((wds l).map wT)),.dw .str pk (pt0 k s2)]).fn:=by
 rw[q5a];unfold q38;walk_at "d";rw[z6t hc,h];walk_at "d";rw[q9w n l hl];walk_at "d";rfl
theorem x0l(x y):eq2 (.lst [.str x]) (.lst [.str y])=some (.bl (decide (x=y))):=by
 have h:(eqW (.lst [.str x]) (.lst [.str y]))=some (x==y):=by
  cases q:(x==y)<;>simp[eqW,eqWs,q]
 have d:depW (.lst [.str x])<=150:=by simp[depW,depWs]
 unfold eq2;rw[if_pos d,h];show some (W.bl (x==y))=_;congr 2
theorem x0m(w)(l):cutW (w::l) none (some 1)=[w]:=x2w (k:=1) (l:=w::l) (by simp)
theorem z9b(w)(l):cutW (w::l) (some 1) none=l:=q7c (k:=1) (l:=w::l) (by simp)
theorem y3i:updC 4 ["word", "names"] [.str x,.tup (xs.map .str)] [.fr w0,.fr w1,.fr w2,.fr w3,.dw .str pk (pt0 k f)] (some (.dw .str pk (pt0 k f)))=.nx [.fr w0,.fr w1,.fr w2,.fr w3,.dw .str pk (pw ⟨k,x,xs,.non,f,g⟩)]:=by
 rw[y2u ⟨rfl,by simp[pk],by simp[pk,q4x],rfl⟩];simp[updW,setW,pk,pt0,pw,q4x]
theorem y6q:updC 4 ["word", "names", "first"] [.str x,.tup (xs.map .str),.str y] [.fr w0,.fr w1,.fr w2,.fr w3,.dw .str pk (pt0 k f)] (some (.dw .str pk (pt0 k f)))=.nx [.fr w0,.fr w1,.fr w2,.fr w3,.dw .str pk (pw ⟨k,x,xs,.str y,f,g⟩)]:=by
 rw[y2u ⟨rfl,by simp[pk],by simp[pk,q4x],rfl⟩];simp[updW,setW,pk,pt0,pw,q4x]
theorem z6u(l:List (List Nat)):l.map wT=(l.map tx).map .str:=by rw[w0x];rfl
theorem z6v{ns:List (List Nat)}(n k:Nat)(hc:cs.length<=100000)(h:InR cs ([105,110]::ns)):run K a (n+2) q0z [.str (tx cs),.int k]=.ok (.dw .str pk (pw ⟨k, "in", ns.map tx,.non, "", g⟩)):=by
 obtain⟨h1,h2,h3⟩:=h;rw[x1q n k hc hc (y3f h1),h3];unfold ptT;walk_at "d";rw[x0m,show wT [105,110]=.str "in" from rfl,x0l];walk_at "d";rw[z9b,z6u,y3i (g:=g)];walk_at "d"
noncomputable def heldC:List Nat:=[104,101,108,100]
noncomputable def outC:List Nat:=[111,117,116]
noncomputable def ynC(b:Bool):List Nat:=if b=true then[121,101,115]else[110,111]
theorem y6r(n k:Nat)(hc:(l++61::r).length<=100000)(h1:61∉l)(h2:61∉r)(h:wds l=[heldC,nm,ynC b]):run K a (n+2) q0z [.str (tx (l++61::r)),.int k]=.ok (.dw .str pk (pw ⟨k, "held", [tx nm],wT (ynC b),tx r,g⟩)):=by
 rw[x1q n k hc (by simp at hc;omega) (show partT (tx (l++61::r)) (tx [61])=[tx l, "=", tx r]from x64 h1 h2),h];unfold ptT;walk_at "d";rw[x0m,show wT heldC=.str "held" from rfl,x0l];walk_at "d";rw[x0m,x0l];walk_at "d";rw[show inW (wT (ynC b)) (.tup [.str "yes", .str "no"])=some (.bl true) by cases b<;>rfl];walk_at "d";rw[show([wT nm]:List W)=[tx nm].map .str from rfl,show wT (ynC b)=.str (tx (ynC b))from rfl,y6q (g:=g)];walk_at "d";exact(if_pos rfl).trans rfl
theorem z1u(n k:Nat)(hc:(l++61::r).length<=100000)(h1:61∉l)(h2:61∉r)(h:wds l=[outC,nm]):run K a (n+2) q0z [.str (tx (l++61::r)),.int k]=.ok (.dw .str pk (pw ⟨k, "out", [tx nm],.non,tx r,g⟩)):=by
 rw[x1q n k hc (by simp at hc;omega) (show partT (tx (l++61::r)) (tx [61])=[tx l, "=", tx r]from x64 h1 h2),h];unfold ptT;walk_at "d";rw[x0m,show wT outC=.str "out" from rfl,x0l];walk_at "d";rw[x0m,x0l];walk_at "d";rw[x0m,x0l];walk_at "d";rw[show([wT nm]:List W)=[tx nm].map .str from rfl,y3i (g:=g)];walk_at "d";exact if_pos rfl
noncomputable def namesOf(ps:List Pt)(x:Str):List Str:=(ps.filter λp=>decide (p.word=x)).flatMap Pt.names
theorem q3m(p)(ps)(x):namesOf (p::ps) x=(if p.word=x then p.names else[])++namesOf ps x:=by
 unfold namesOf;rw[w2y]
 by_cases h:p.word=x<;>simp[h]
theorem x2z(r:Nat->List W->FR)(w0:W)(x:Str):∀(ps:List Pt)(acc:List Str)(z:S),(acc++namesOf ps x).length<=1000->∃z',forD 3 (q3f K a r) (ps.map encPt) [.fr w0,.fr (.str x),.fr (.tup (acc.map .str)),z]=.nx [.fr w0,.fr (.str x),.fr (.tup ((acc++namesOf ps x).map .str)),z']
 |[],acc,z,_=>⟨z,by simp[namesOf];rfl⟩
 |p::ps,acc,z,h=>by
  rw[q3m,<- w0j]at h |-
  obtain⟨z',ih⟩:=x2z r w0 x ps (acc++if p.word=x then p.names else[]) (.fr (encPt p)) h;refine⟨z',?_⟩;rw[<- ih,w0g];show(q3f K a r [.fr w0,.fr (.str x),.fr (.tup (acc.map .str)),.fr (encPt p)]).turnT (forD 3 (q3f K a r) (ps.map encPt))=_;unfold q3f;walk_at "d";rw[q6o];walk_at "d"
  by_cases e:p.word=x
  ·simp only[e,if_true]at h |-
   rw[x1p];walk_at "d";rw[if_pos (by simp at h |-;omega),<- w0o];walk_at "d"
  ·simp only[e,if_false,w1a];walk_at "d"
theorem q5z(n)(ps)(x)(h:(namesOf ps x).length<=1000):run K a (n+1) q1q [.lst (ps.map encPt),.str x]=.ok (.fr (.tup ((namesOf ps x).map .str))):=by
 rw[q67];unfold q6f;walk_at "d";obtain⟨z',e⟩:=x2z (K:=K) (a:=a) (run K a n) (.lst (ps.map encPt)) x ps [] .no (by simpa using h);rw[w1v,w2f]at e;rw[e];walk_at "d"
noncomputable def rowW:List Str:=["in", "held", "out"]
noncomputable def behind(x:Str):List Str:=if x="in" then[""]else if x="held" then["in", "held"]else["in", "held", "out"]
noncomputable def mostN(x:Str):Nat:=if x="in" then 3 else if x="held" then 4 else 6
theorem y7n(ys:List Str):ninW (.str x) (.tup (ys.map .str))=some (.bl (!decide (x∈ys))):=by
 refine(if_pos ⟨rfl,q7j ys⟩).trans ?_;rw[q8f]
theorem z9c(h:x∈rowW):tabCW q9e (.str x)=some (.tup ((behind x).map .str))/\tabW q52 (.str x)=some (.int (mostN x)):=by
 simp only[rowW,w0d,w0k,or_false]at h;rcases h with rfl|rfl|rfl
 ·exact⟨rfl,rfl⟩
 ·exact⟨rfl,rfl⟩
 ·exact⟨rfl,rfl⟩
noncomputable def lastW(ps:List Pt):Str:=match ps.getLast? with
 |some p=>p.word
 |none=>""
noncomputable def taken(ps:List Pt):List Str:=namesOf ps "in"++(namesOf ps "held"++namesOf ps "out")
structure Stand(ps:List Pt)(p:Pt):Prop where
 word:p.word∈rowW
 last:lastW ps∈behind p.word
 most:(namesOf ps p.word++p.names).length<=mostN p.word
 ok:∀x∈p.names,okN x=true/\x∉rowW
 nd:(taken ps++p.names).Nodup
 len:(taken ps).length<=900
theorem y0e(n)(w0 w1 w2 w3)(x)(tk)(z5)(h1:okN x=true)(h2:x∉rowW)(hi:x∉tk)(hl:tk.length<=1000):q39 K a (run K a (n+2)) [.fr w0,.fr w1,.fr w2,.fr w3,.own none (tk.map .str),z5,.fr (.str x)]=.nx [.fr w0,.fr w1,.fr w2,.fr w3,.own none ((tk++[x]).map .str),z5,.fr (.str x)]:=by
 unfold q39;walk_at "d";rw[z89];simp only[hi,decide_false];walk_at "d";rw[show inW (.str x) (.tup [.str "in", .str "held", .str "out"])=some (.bl false)from(x2t rowW).trans (by simp[h2])];walk_at "d";rw[x2u n x (q4p h1).1,h1];walk_at "d";rw[if_pos (by simp;omega)];simp
theorem x20(n:Nat)(w0 w1 w2 w3:W):∀(xs tk:List Str)(z5 z6:S),(∀x∈xs,okN x=true/\x∉rowW)->(tk++xs).Nodup->(tk++xs).length<=1000->∃e,forD 6 (q39 K a (run K a (n+2))) (xs.map .str) [.fr w0,.fr w1,.fr w2,.fr w3,.own none (tk.map .str),z5,z6]=.nx e
 |[],tk,z5,z6,_,_,_=>⟨_,rfl⟩
 |x::xs,tk,z5,z6,hx,hn,hl=>by
  obtain⟨h1,h2⟩:=hx x w0h;have hi:x∉tk:=λh=>(w2s.mp hn).2.2 x h x w0h rfl
  obtain⟨e,ih⟩:=x20 n w0 w1 w2 w3 xs (tk++[x]) z5 (.fr (.str x)) (λy hy=>hx y (w0e _ hy)) (by simpa using hn) (by simpa using hl)
  refine⟨e,?_⟩;rw[<- ih,w0g]
  grind [forD,y0e]
theorem x1r(n)(w0 w2 w3)(ps)(x)(tk)(z6)(h:tk.length+(namesOf ps x).length<=1000):q02 K a (run K a (n+1)) [.fr w0,.fr (.lst (ps.map encPt)),.fr w2,.fr w3,.own none (tk.map .str),.fr (.str x),z6]=.nx [.fr w0,.fr (.lst (ps.map encPt)),.fr w2,.fr w3,.own none ((tk++namesOf ps x).map .str),.fr (.str x),z6]:=by
 unfold q02;walk_at "d";rw[q5z n ps x (by omega)];walk_at "d";rw[if_pos (by simp;omega)];simp
theorem z1v(h:ps≠[]):∃p,ps.getLast?=some p/\atI (ps.map encPt) (-1)=some (encPt p):=by
 obtain⟨q,e⟩:∃q,ps=ps.dropLast++[q]:=⟨ps.getLast h,(List.dropLast_concat_getLast h).symm⟩;refine⟨q,by rw[e];simp,?_⟩;rw[e,w0o];exact x8u
theorem z1w(n)(w0 w2 w3)(ps)(z5 z6)(h:(taken ps).length<=900):forD 5 (q02 K a (run K a (n+1))) [.str "in", .str "held", .str "out"] [.fr w0,.fr (.lst (ps.map encPt)),.fr w2,.fr w3,.own none [],z5,z6]=.nx [.fr w0,.fr (.lst (ps.map encPt)),.fr w2,.fr w3,.own none ((taken ps).map .str),.fr (.str "out"),z6]:=by
 simp only[taken,w0u]at h;show(q02 K a (run K a (n+1)) [.fr w0,.fr (.lst (ps.map encPt)),.fr w2,.fr w3,.own none (([]:List Str).map .str),.fr (.str "in"),z6]).turnT (forD 5 (q02 K a (run K a (n+1))) [.str "held", .str "out"])=_;rw[x1r n w0 w2 w3 ps "in" [] z6 (by simp;omega)];show(q02 K a (run K a (n+1)) [.fr w0,.fr (.lst (ps.map encPt)),.fr w2,.fr w3,.own none (([]++namesOf ps "in").map .str),.fr (.str "held"),z6]).turnT (forD 5 (q02 K a (run K a (n+1))) [.str "out"])=_;rw[x1r n w0 w2 w3 ps "held" _ z6 (by simp;omega)];show(q02 K a (run K a (n+1)) [.fr w0,.fr (.lst (ps.map encPt)),.fr w2,.fr w3,.own none (([]++namesOf ps "in"++namesOf ps "held").map .str),.fr (.str "out"),z6]).turnT (forD 5 (q02 K a (run K a (n+1))) [])=_;rw[x1r n w0 w2 w3 ps "out" _ z6 (by simp;omega),w2f,w0j];rfl
noncomputable def lastD:Den W:=dIf (dTest (dOp gtW (dFn len1 (dCons (dVar 1) dNil)) (dC (.int 0)))) (dOp ixS (dOp ixW (dVar 1) (dUn negW (dC (.int 1)))) (dC (.str "word"))) (dC (.str ""))
theorem y6s(w0 w2)(z3 z4 z5 z6)(ps)(hl:ps.length<=1000):lastD [.fr w0,.fr (.lst (ps.map encPt)),.fr w2,z3,z4,z5,z6]=.ok (.str (lastW ps)) [.fr w0,.fr (.lst (ps.map encPt)),.fr w2,z3,z4,z5,z6]:=by
 unfold lastD;walk_at "d"
 by_cases h:ps=[]
 ·subst h;rfl
 ·obtain⟨p,h1,h2⟩:=z1v h;have hp:0<ps.length:=w3b.mpr h;unfold lastW;rw[w0i,if_pos (by omega),h1,h2];walk_at "d";rw[q6o];walk_at "d"
theorem z1x(n)(ps)(p)(hl:ps.length<=1000)(h:Stand ps p):run K a (n+3) q34 [encPt p,.lst (ps.map encPt)]=.ok (.fr (.bl true)):=by
 have hm:=h.most;have hlen:=h.len;have hm6:mostN p.word<=6:=by unfold mostN;split<;>(try split)<;>omega
 have hlt:(taken ps).length=(namesOf ps "in").length+((namesOf ps "held").length+(namesOf ps "out").length):=by simp[taken]
 rw[w0u]at hm;obtain⟨b1,b2⟩:=z9c h.word;rw[q58];unfold q5u;rw[show dIf (dTest (dOp gtW (dFn len1 (dCons (dVar 1) dNil)) (dC (.int 0)))) (dOp ixS (dOp ixW (dVar 1) (dUn negW (dC (.int 1)))) (dC (.str "word"))) (dC (.str ""))=lastD from rfl];walk_at "d";rw[q6o];walk_at "d";rw[y6s _ _ _ _ _ _ ps hl];walk_at "d";rw[show ninW (.str p.word) (.tup [.str "in", .str "held", .str "out"])=some (.bl false)from(y7n rowW).trans (by simp[h.word])];walk_at "d";rw[b1];walk_at "d";rw[y7n];simp only[h.last,decide_true];walk_at "d";rw[q5z (n+1) ps p.word (by omega)];walk_at "d";rw[x1p];walk_at "d";rw[if_pos (by simp;omega)];walk_at "d";rw[b2];walk_at "d";rw[if_neg (by simp;omega)];rw[z1w (n+1) _ _ _ ps _ _ hlen];walk_at "d";rw[x1p];walk_at "d";obtain⟨e,he⟩:=x20 (K:=K) (a:=a) n (encPt p) (.lst (ps.map encPt)) (.str p.word) (.str (lastW ps)) p.names (taken ps) (.fr (.str "out")) .no h.ok h.nd (by simp;omega);rw[he];walk_at "d"
inductive Rows(K:PySem.W.Frag)(a:Adr):Nat->List Pt->List (List Nat)->List Pt->Prop
 |nil {k:Nat} {ah:List Pt}:Rows K a k ah [] []
 |blank {k:Nat} {ah ps:List Pt} {cs:List Nat} {rs:List (List Nat)} (hw:wds cs=[]) (hc:cs.length<=100000) (h:Rows K a (k+1) ah rs ps):Rows K a k ah (cs::rs) ps
 |part {k:Nat} {ah ps:List Pt} {p:Pt} {cs:List Nat} {rs:List (List Nat)} (hw:wds cs≠[]) (hc:cs.length<=100000) (hp:∀n,run K a (n+2) q0z [.str (tx cs),.int k]=.ok (.dw .str pk (pw p))) (hs:Stand ah p) (h:Rows K a (k+1) (ah++[p]) rs ps):Rows K a k ah (cs::rs) (p::ps)
theorem y0f(n k:Nat)(w0)(ah:List Pt)(z4)(hw:wds cs=[])(hc:cs.length<=100000):q1a K a (run K a (n+3)) [.fr w0,.own none (ah.map encPt),.fr (.int k),.fr (wT cs),z4]=.nx [.fr w0,.own none (ah.map encPt),.fr (.int k),.fr (wT cs),z4]:=by
 unfold q1a;walk_at "d";rw[show wT cs=.str (tx cs)from rfl,q9w (n+2) cs hc,hw];walk_at "d"
theorem y0g(n k:Nat)(w0)(ah)(z4)(hw:wds cs≠[])(hc:cs.length<=100000)(hl:ah.length<=900)(hp:∀n,run K a (n+2) q0z [.str (tx cs),.int k]=.ok (.dw .str pk (pw p)))(hs:Stand ah p):q1a K a (run K a (n+3)) [.fr w0,.own none (ah.map encPt),.fr (.int k),.fr (wT cs),z4]=.nx [.fr w0,.own none ((ah++[p]).map encPt),.fr (.int k),.fr (wT cs),.fr (encPt p)]:=by
 have hwl:0<(wds cs).length:=w3b.mpr hw;have hw2:(wds cs).length<=100001:=w0s (w4s _ _) (w0s (q8n 32 cs) (by omega));unfold q1a;walk_at "d";rw[show wT cs=.str (tx cs)from rfl,q9w (n+2) cs hc];walk_at "d";rw[if_pos (by rw[w0i];omega),hp (n+1)];walk_at "d";rw[show W.dw false .str pk (pw p)=encPt p from rfl,z1x n ah p (by omega) hs];walk_at "d";rw[if_pos (by simp;omega)];simp
theorem y3j(n:Nat)(w0:W){k:Nat}{ah ps:List Pt}{rs:List (List Nat)}(h:Rows K a k ah rs ps):ah.length+ps.length<=900->∀z2 z3 z4:S,∃y2 y3 y4,forP 2 3 (q1a K a (run K a (n+3))) (enumL k (rs.map wT)) [.fr w0,.own none (ah.map encPt),z2,z3,z4]=.nx [.fr w0,.own none ((ah++ps).map encPt),y2,y3,y4]:=by
 induction h with
 |nil=>exact λ_ z2 z3 z4=>⟨z2,z3,z4,by rw[w1a];rfl⟩
 | @blank k ah ps cs rs hw hc h ih=>
  intro hl z2 z3 z4;obtain⟨y2,y3,y4,e⟩:=ih hl (.fr (.int k)) (.fr (wT cs)) z4;refine⟨y2,y3,y4,?_⟩;rw[w0g,enumL,q2l];simp only[w1q,w1r];rw[y0f n k w0 ah z4 hw hc,q07];exact e
 | @part k ah ps p cs rs hw hc hp hs h ih=>
  intro hl z2 z3 z4;obtain⟨y2,y3,y4,e⟩:=ih (by simp at hl |-;omega) (.fr (.int k)) (.fr (wT cs)) (.fr (encPt p));refine⟨y2,y3,y4,?_⟩;rw[w0g,enumL,q2l];simp only[w1q,w1r];rw[y0g n k w0 ah z4 hw hc (by omega) hp hs,q07,e,w0j];rfl
theorem x21(n)(h:Rows K a 0 [] rs ps)(hp:ps≠[])(hl:ps.length<=900):run K a (n+4) q1i [.lst (rs.map wT)]=.ok (.fr (.tup [.lst (ps.map encPt),.non])):=by
 have h0:0<ps.length:=w3b.mpr hp;rw[q3i];unfold q2r;walk_at "d";obtain⟨y2,y3,y4,e⟩:=y3j n (.lst (rs.map wT)) h (by simpa using hl) .no .no .no;rw[show([]:List Pt).map encPt=[]from rfl,w2f]at e;rw[e];walk_at "d";rw[if_neg (by simp;omega)];walk_at "d"
noncomputable def FormOk(ns:List Str)(p:Pt):Prop:=∃cs ts d,p.form=tx cs/\cs.length<=100000/\Tk ns 0 p.fm ts d/\(pieces cs).map (λp=>tx p.2)=ts/\d<=12
structure Sheet(ns:List Str)(ps:List Pt):Prop where
 ne:ps≠[]
 len:ps.length<=900
 ok:∀x∈ns,okN x=true
 nd:ns.Nodup
 nl:ns.length<1000
 few:∀x,(namesOf ps x).length<=1000
 names:namesOf ps "in"++namesOf ps "held"=ns
 fm:∀p∈ps,p.word≠"in"->FormOk ns p
theorem y0h(n)(w0 w1)(ns)(p:Pt)(ok:∀x∈ns,okN x=true)(nd:ns.Nodup)(nl:ns.length<1000)(h:p.word≠"in"->FormOk ns p):q37 K a (run K a (n+4)) [.fr w0,.fr w1,.fr (.tup (ns.map .str)),.fr (encPt p)]=.nx [.fr w0,.fr w1,.fr (.tup (ns.map .str)),.fr (encPt p)]:=by
 unfold q37;walk_at "d";rw[q6o];walk_at "d"
 by_cases e:p.word="in"
 ·rw[e];walk_at "d"
 ·obtain⟨cs,ts,d,h1,h2,h3,h4,h5⟩:=h e;simp only[e,decide_false];walk_at "d";rw[x8z,h1];walk_at "d";rw[(x8y n cs h2 ns ok nd nl h3 h4 h5).1];walk_at "d"
theorem x22(n:Nat)(w0 w1:W)(ns:List Str)(ok:∀x∈ns,okN x=true)(nd:ns.Nodup)(nl:ns.length<1000):∀(ps:List Pt)(z:S),(∀p∈ps,p.word≠"in"->FormOk ns p)->∃e,forD 3 (q37 K a (run K a (n+4))) (ps.map encPt) [.fr w0,.fr w1,.fr (.tup (ns.map .str)),z]=.nx e
 |[],z,_=>⟨_,rfl⟩
 |p::ps,z,h=>by
  obtain⟨e,ih⟩:=x22 n w0 w1 ns ok nd nl ps (.fr (encPt p)) λq hq=>h q (w0e _ hq)
  grind [forD,y0h]
theorem y6t(n)(hc:cs.length<=100000)(h:Rows K a 0 [] (cutC 10 cs) ps)(s:Sheet ns ps):run K a (n+5) q33 [.str (tx cs)]=.ok (.fr .non):=by
 rw[q57];unfold q5t;walk_at "d";rw[show("\n":Str)=⟨#[10]⟩from rfl,sp_w (by omega) hc];walk_at "d";rw[x21 n h s.ne s.len];walk_at "d";rw[q5z (n+3) ps "in" (s.few _)];walk_at "d";rw[q5z (n+3) ps "held" (s.few _)];walk_at "d";rw[if_pos (by have:=s.few "in";have:=s.few "held";simp;omega),<- w0o,s.names];walk_at "d";obtain⟨e,he⟩:=x22 (K:=K) (a:=a) n (.str (tx cs)) (.tup [.lst (ps.map encPt),.non]) ns s.ok s.nd s.nl ps .no s.fm;rw[he];walk_at "d"
noncomputable def inB(p:Pt):Bool:=!decide (p.word="in")
noncomputable def heldB(p:Pt):Bool:=decide (p.word="held")
noncomputable def yesB:W->Bool
 |.str x=>decide (x="yes")
 |_=>false
noncomputable def formsW(ps:List Pt):List W:=(ps.filter inB).map λp=>enc p.fm
noncomputable def firstsW(ps:List Pt):List W:=(ps.filter heldB).map λp=>.bl (yesB p.first)
noncomputable def namesT(ps:List Pt):W:=.tup (rowW.map λx=>.tup ((namesOf ps x).map .str))
noncomputable def sheetW(ps:List Pt):W:=.tup [namesT ps,.tup [.int (namesOf ps "in").length,.tup (pairW (firstsW ps) ((formsW ps).take (firstsW ps).length)),.tup ((formsW ps).drop (firstsW ps).length)]]
theorem z1y(n)(ps)(ns)(s:Sheet ns ps)(p)(hp:p∈ps):∃e',q5h K a (run K a (n+4)) [.fr (encPt p),.fr (namesT ps)]=.ok (inB p) e'/\(inB p=true->∃e2,q5g K a (run K a (n+4)) e'=.ok (enc p.fm) e2):=by
 unfold q5h q5g;walk_at "d";rw[q6o];walk_at "d";refine⟨_,rfl,λe=>?_⟩
 obtain⟨cs,ts,d,h1,h2,h3,h4,h5⟩:=s.fm p hp (by simpa [inB]using e);walk_at "d";rw[x8z,h1];unfold namesT rowW;walk_at "d";rw[if_pos (by have:=s.few "in";have:=s.few "held";simp;omega),<- w0o,s.names];walk_at "d";rw[(x8y n cs h2 ns s.ok s.nd s.nl h3 h4 h5).2];walk_at "d";exact⟨_,rfl⟩
theorem y6u(r)(p:Pt)(hf:p.word="held"->∃b,p.first=wT (ynC b)):∃e',q5f K a r [.fr (encPt p)]=.ok (heldB p) e'/\(heldB p=true->∃e2,q5e K a r e'=.ok (.bl (yesB p.first)) e2):=by
 unfold q5f q5e;walk_at "d";rw[q6o];walk_at "d";refine⟨_,rfl,λe=>?_⟩
 obtain⟨b,hb⟩:=hf (by simpa [heldB]using e);walk_at "d";rw[y6p,hb];walk_at "d";cases b
 ·exact⟨_,rfl⟩
 ·exact⟨_,rfl⟩
theorem y6v(n)(hc:cs.length<=100000)(h:Rows K a 0 [] (cutC 10 cs) ps)(s:Sheet ns ps)(hf:∀p∈ps,p.word="held"->∃b,p.first=wT (ynC b)):run K a (n+6) q2f [.str (tx cs)]=.ok (.fr (sheetW ps)):=by
 have hl:=s.len
 have hk:(firstsW ps).length<=(formsW ps).length:=by
  unfold firstsW formsW;rw[w0i,w0i,<- w3s,<- w3s];refine List.countP_mono_left λp _ h=>?_
  simp only[heldB,inB,decide_eq_true_eq]at h |-
  rw[h];decide
 have hk2:(firstsW ps).length<=900:=by
  unfold firstsW;rw[w0i];exact w0s (w4s _ _) hl
 rw[q5k];unfold q45;walk_at "d";rw[y6t n hc h s];walk_at "d";rw[show("\n":Str)=⟨#[10]⟩from rfl,sp_w (by omega) hc];walk_at "d";rw[x21 (n+1) h s.ne s.len];walk_at "d";simp only[frz1,pj1,w1t,w1u];rw[show([.str "in", .str "held", .str "out"]:List W)=rowW.map .str from rfl,q5n W.str (λx=>.tup ((namesOf ps x).map .str)) (λ_=>true)]
 ·rw[show(rowW.filter λ_=>true)=rowW from rfl]
  walk_at "d";rw[show W.tup (rowW.map λx=>.tup ((namesOf ps x).map .str))=namesT ps from rfl,if_pos (by simp;omega)]
  simp only[frz1,pj1,w1t,w1u];rw[q5n encPt (λp=>enc p.fm) inB ps (z1y (n+1) ps ns s)]
  walk_at "d";rw[if_pos (by simp;omega),q5n encPt (λp=>.bl (yesB p.first)) heldB ps λp hp=>y6u _ p (hf p hp)]
  walk_at "d";rw[show ixW (namesT ps) (.int 0)=some (.tup ((namesOf ps "in").map .str))from rfl];walk_at "d";rw[show(ps.filter heldB).map (λp=>W.bl (yesB p.first))=firstsW ps from rfl,show(ps.filter inB).map (λp=>enc p.fm)=formsW ps from rfl,x2w hk]
  walk_at "d";rw[show zip1 [.lst (firstsW ps),.lst ((formsW ps).take (firstsW ps).length)]=some (.tup (pairW (firstsW ps) ((formsW ps).take (firstsW ps).length)))from if_pos (by rw[w2p];omega)];walk_at "d";rw[q7c hk,w0i];rfl
 ·intro x _;unfold q73;refine⟨_,rfl,λ_=>?_⟩
  walk_at "d";rw[q5z (n+4) ps x (s.few x)];walk_at "d";exact⟨_,rfl⟩
noncomputable def abcC:List Nat:=[97,98,99,100,101,102,103,104,105,106,107,108,109,110,111,112,113,114,115,116,117,118,119,120,121,122]
noncomputable def ltr(j:Int):Nat:=97+(j%26).toNat
theorem y0i(j):isL (ltr j)=true:=by
 have h1:=w1g j (show(26:Int)≠0 by decide);have h2:=w1c j (show(0:Int)<26 by decide);unfold isL ltr;rw[w0l,decide_eq_true_iff,decide_eq_true_iff];omega
theorem y3k(j):ixW (.str "abcdefghijklmnopqrstuvwxyz") (.int (j%26))=some (.str (tx [ltr j])):=by
 have h1:=w1g j (show(26:Int)≠0 by decide);have h2:=w1c j (show(0:Int)<26 by decide);obtain⟨k,hk⟩:∃k:Nat,j%26=(k:Int):=⟨(j%26).toNat,by omega⟩;unfold ltr;rw[hk,w1w];refine(ixB (cs:=abcC) (by decide) ?_);have hk2:k<26:=by omega
 rw[show abcC=(List.range 26).map (97+·)from rfl,w2q,w3w hk2];rfl
theorem z1z(j):∃s:Nat,s<=7/\atI [W.int 0,.int 1,.int 2,.int 0,.int 5,.int 7,.int 3,.int 0] (j%8)=some (.int (s:Int)):=by
 have h1:=w1g j (show(8:Int)≠0 by decide);have h2:=w1c j (show(0:Int)<8 by decide);generalize j%8=k at h1 h2;obtain rfl|rfl|rfl|rfl|rfl|rfl|rfl|rfl:k=0\/k=1\/k=2\/k=3\/k=4\/k=5\/k=6\/k=7:=by omega
 ·exact⟨0,by omega,rfl⟩
 ·exact⟨1,by omega,rfl⟩
 ·exact⟨2,by omega,rfl⟩
 ·exact⟨0,by omega,rfl⟩
 ·exact⟨5,by omega,rfl⟩
 ·exact⟨7,by omega,rfl⟩
 ·exact⟨3,by omega,rfl⟩
 ·exact⟨0,by omega,rfl⟩
theorem x80:∀ws:List W,(∀w∈ws,∃j e',d (.fr w::pe)=.ok (.str (tx [ltr j])) e')->∃cs:List Nat,cs.length=ws.length/\(∀c∈cs,isL c=true)/\compD dYes d pe ws=some (cs.map λc=>.str (tx [c]))
 |[],_=>⟨[],rfl,(λ_ h=>nomatch h),rfl⟩
 |w::ws,h=>by
  obtain⟨j,e',h1⟩:=h w w0h;obtain⟨cs,h2,h3,h4⟩:=x80 ws λx hx=>h x (w0e _ hx)
  refine⟨ltr j::cs,by simp[h2],λc hc=>?_,?_⟩
  ·rcases w0d.mp hc with rfl|hc
   ·exact y0i j
   ·exact h3 c hc
  ·rw[q87,h4];simp only[y1o,h1];rfl
theorem z13(n)(c k)(w)(hw:∃j:Int,w=.int j):∃j e',q18 K a (run K a (n+1)) [.fr w,.fr (.int c),.fr (.str "abcdefghijklmnopqrstuvwxyz"),.fr (.int k)]=.ok (.str (tx [ltr j])) e':=by
 obtain⟨j,rfl⟩:=hw;unfold q18;walk_at "d";obtain⟨v,hv⟩:=q7b (K:=K) (a:=a) n c (9*k+j);rw[hv];walk_at "d";rw[y3k v];walk_at "d";exact⟨v,_,rfl⟩
noncomputable def nineW:List Str:=["yes", "no", "not", "and", "odd", "or", "in", "held", "out"]
noncomputable def Nm(c:Int)(k:Nat)(x:Str):Prop:=okN x=true/\x∉rowW/\(if c%3=2 then ∃t,chs x=ltr (c / 3+7*(k:Int))::t else ∃i j,chs x=List.replicate i 113++ltr (c / 3+7*(k:Int))::List.replicate j 113)
theorem y3l(h1:1<=cs.length)(h2:cs.length<=8)(h3:∀c∈cs,isL c=true)(h4:tx cs∉nineW):okN (tx cs)=true/\tx cs∉rowW:=by
 have hs:six (tx cs)=false:=by
  unfold six;exact decide_eq_false λh=>h4 ((by decide:∀y∈(["yes", "no", "not", "and", "odd", "or"]:List Str),y∈nineW) _ h)
 refine⟨?_,λh=>h4 ((by decide:∀y∈rowW,y∈nineW) _ h)⟩
 unfold okN;rw[hs,q0u,q1k];simp[h1,h2];exact h3
theorem z6w(h:y∈nineW):y++"x"∉nineW/\(y++"x").length<=8/\∀c∈chs (y++"x"),isL c=true:=by
 simp only[nineW,w0d,w0k,or_false]at h;rcases h with rfl|rfl|rfl|rfl|rfl|rfl|rfl|rfl|rfl<;>decide
theorem z6x(h:tx cs∈nineW):113∉cs/\2<=cs.length:=by
 have:∀y∈nineW,113∉chs y/\2<=(chs y).length:=by decide
 have:=this _ h
 rwa [show chs (tx cs)=cs from q1k cs]at this
theorem x81(r)(c)(w1 w2)(acc)(k:Nat)(ha:acc.length<=100)(z5 z6 z7 z9)(h1:1<=cs.length)(h2:cs.length<=8)(h3:∀c∈cs,isL c=true)(h4:if c%3=2 then ∃t,cs=ltr (c / 3+7*(k:Int))::t else ∃i j,cs=List.replicate i 113++ltr (c / 3+7*(k:Int))::List.replicate j 113):∃x t8,Nm c k x/\nmE K a r [.fr (.int c),.fr w1,.fr w2,.own none acc,.fr (.int k),z5,z6,z7,.fr (.str (tx cs)),z9]=.nx [.fr (.int c),.fr w1,.fr w2,.own none (acc++[.str x]),.fr (.int k),z5,z6,z7,t8,z9]:=by
 unfold nmE;walk_at "d";rw[show inW (.str (tx cs)) (.tup [.str "yes", .str "no", .str "not", .str "and", .str "odd", .str "or", .str "in", .str "held", .str "out"])=some (.bl (decide (tx cs∈nineW)))from x2t nineW];walk_at "d"
 by_cases h:tx cs∈nineW
 ·obtain⟨g1,g2,g3⟩:=z6w h;obtain⟨q1,q2⟩:=z6x h;have hx:("x":Str).length=1:=rfl;rw[if_pos h,q0u,if_pos (by omega)];walk_at "d";rw[if_pos (by omega)];have e:tx cs++"x"=tx (cs++[120]):=q35 cs [120];rw[e]at g1 g2 g3 |-
  rw[show chs (tx (cs++[120]))=cs++[120]from q1k _]at g3;rw[q0u]at g2;obtain⟨o1,o2⟩:=y3l (by simp) g2 g3 g1;refine⟨_,_,⟨o1,o2,?_⟩,rfl⟩;rw[show chs (tx (cs++[120]))=cs++[120]from q1k _]
  grind
 ·rw[if_neg h];walk_at "d";rw[if_pos (by omega)];obtain⟨o1,o2⟩:=y3l h1 h2 h3 h;refine⟨_,_,⟨o1,o2,?_⟩,rfl⟩;rw[show chs (tx cs)=cs from q1k _];exact h4
theorem x66:∀cs:List Nat,joinC [] (cs.map λc=>[c])=cs
 |[]=>rfl
 |[c]=>rfl
 |c::d::cs=>by
  show[c]++([]++joinC [] ((d::cs).map λc=>[c]))=_
  rw[x66 (d::cs)];rfl
theorem joinE(cs)(h:cs.length<=1000):joinW (.str "") [.lst (cs.map λc=>.str (tx [c]))]=some (.str (tx cs)):=by
 have e:=x65 (z:=[]) (l:=cs.map λc=>[c]) (by
  rw[w0x,show List.length ∘ (λc:Nat=>[c])=λ_=>1 from rfl,List.map_const']
  simp;omega)
 rw[x66,w0x]at e;exact e
theorem x82(n)(c)(w1)(acc)(k s:Nat)(hs:s<=7)(ha:acc.length<=100)(z7 z8 z9):∃x t7 t8 t9,Nm c k x/\nmS K a (run K a (n+1)) [.fr (.int c),.fr w1,.fr (.str "abcdefghijklmnopqrstuvwxyz"),.own none acc,.fr (.int k),.fr (.str (tx [ltr (c / 3+7*(k:Int))])),.fr (.int s),z7,z8,z9]=.nx [.fr (.int c),.fr w1,.fr (.str "abcdefghijklmnopqrstuvwxyz"),.own none (acc++[.str x]),.fr (.int k),.fr (.str (tx [ltr (c / 3+7*(k:Int))])),.fr (.int s),t7,t8,t9]:=by
 unfold nmS;walk_at "d";have t1:=w1g (c / 624) (show((s:Int)+1)≠0 by omega);have t2:=w1c (c / 624) (show(0:Int)<(s:Int)+1 by omega);rw[if_pos (by omega)];generalize c / 624%((s:Int)+1)=t at t1 t2;obtain⟨t,rfl⟩:∃m:Nat,t=(m:Int):=⟨t.toNat,by omega⟩;rw[reps 113 "q" rfl t (by omega)];walk_at "d";rw[q0u,q0u,q35,if_pos (by simp;omega)];walk_at "d";rw[show((s:Int)-(t:Int))=((s-t:Nat):Int) by omega,reps 113 "q" rfl (s-t) (by omega)];walk_at "d";rw[q0u,q0u,q35,if_pos (by simp;omega)];walk_at "d"
 by_cases hc:c%3=2
 ·simp only[hc];walk_at "d";rw[if_pos (q30 (by omega) (by omega))];walk_at "d";rw[if_pos (by rw[q4l];omega)];simp only[frz1,pj1,w1t,w1u]
  obtain⟨cs,g1,g2,g3⟩:=x80 (d:=q18 K a (run K a (n+1))) (pe:=[.fr (.int c),.fr (.str "abcdefghijklmnopqrstuvwxyz"),.fr (.int k)]) (rangeW 0 s) λw hw=>z13 n c k w (by
   obtain⟨j,_,rfl⟩:=w0r.mp hw;exact⟨_,rfl⟩)
  rw[q4l]at g1;rw[g3];walk_at "d";rw[joinE cs (by omega)];walk_at "d";rw[q0u,q0u,q35,if_pos (by simp;omega)];walk_at "d"
  obtain⟨x,t8,q1,q2⟩:=x81 (K:=K) (a:=a) (run K a (n+1)) c w1 (.str "abcdefghijklmnopqrstuvwxyz") acc k ha (.fr (.str (tx [ltr (c / 3+7*(k:Int))]))) (.fr (.int s)) (.fr (.int t)) (.fr (.lst (cs.map λc=>.str (tx [c])))) (cs:=[ltr (c / 3+7*(k:Int))]++cs) (by simp) (by simp;omega) (λc hc=>by
   rcases w0d.mp hc with rfl|hc
   ·exact y0i _
   ·exact g2 c hc) (by rw[if_pos hc];exact⟨cs,rfl⟩)
  exact⟨x,_,t8,_,q1,q2⟩
 ·simp only[hc];walk_at "d"
  obtain⟨x,t8,q1,q2⟩:=x81 (K:=K) (a:=a) (run K a (n+1)) c w1 (.str "abcdefghijklmnopqrstuvwxyz") acc k ha (.fr (.str (tx [ltr (c / 3+7*(k:Int))]))) (.fr (.int s)) (.fr (.int t)) z9 (cs:=List.replicate t 113++[ltr (c / 3+7*(k:Int))]++List.replicate (s-t) 113) (by simp;omega) (by simp;omega) (λc hc=>by
   simp only[w1f,w5a,w1k]at hc;rcases hc with(⟨_,rfl⟩|rfl)|⟨_,rfl⟩
   ·rfl
   ·exact y0i _
   ·rfl) (by rw[if_neg hc];exact⟨t,s-t,by simp⟩)
  exact⟨x,_,t8,_,q1,q2⟩
theorem y3m(n)(c)(w1)(acc)(k)(ha:acc.length<=100)(z5 z6 z7 z8 z9):∃x t5 t6 t7 t8 t9,Nm c k x/\q19 K a (run K a (n+1)) [.fr (.int c),.fr w1,.fr (.str "abcdefghijklmnopqrstuvwxyz"),.own none acc,.fr (.int k),z5,z6,z7,z8,z9]=.nx [.fr (.int c),.fr w1,.fr (.str "abcdefghijklmnopqrstuvwxyz"),.own none (acc++[.str x]),.fr (.int k),t5,t6,t7,t8,t9]:=by
 obtain⟨s,hs,e6⟩:=z1z (c / 78);obtain⟨v,hv⟩:=q7b (K:=K) (a:=a) n c k;unfold q19;walk_at "d";rw[y3k];walk_at "d";rw[e6];walk_at "d"
 by_cases hc:c%3=0
 ·have t1:=w1g v (show(8:Int)≠0 by omega);have t2:=w1c v (show(0:Int)<8 by omega);simp only[hc];walk_at "d";rw[hv];walk_at "d";generalize v%8=m at t1 t2;obtain⟨m,rfl⟩:∃j:Nat,m=(j:Int):=⟨m.toNat,by omega⟩;obtain⟨x,t7,t8,t9,q1,q2⟩:=x82 (K:=K) (a:=a) n c w1 acc k m (by omega) ha z7 z8 z9;exact⟨x,_,_,t7,t8,t9,q1,q2⟩
 ·simp only[hc];walk_at "d";obtain⟨x,t7,t8,t9,q1,q2⟩:=x82 (K:=K) (a:=a) n c w1 acc k s hs ha z7 z8 z9;exact⟨x,_,_,t7,t8,t9,q1,q2⟩
theorem z6y{j:Nat}(h:i<j)(hj:j<26):ltr (q+7*(i:Int))≠ltr (q+7*(j:Int)):=by
 unfold ltr;omega
theorem Nm.ne(hx:Nm c i x)(hy:Nm c j y)(h:i<j)(hj:j<26):x≠y:=λe=>by
 subst e;have hl:=z6y (q:=c / 3) h hj;obtain⟨_,_,h1⟩:=hx;obtain⟨_,_,h2⟩:=hy;split at h1
 ·grind
 ·rename_i hc;rw[if_neg hc]at h2;obtain⟨p,q,e1⟩:=h1;obtain⟨r,s,e2⟩:=h2;rw[e1]at e2;have m1:ltr (c / 3+7*(i:Int))∈List.replicate r 113++ltr (c / 3+7*(j:Int))::List.replicate s 113:=by rw[<- e2];simp
  have m2:ltr (c / 3+7*(j:Int))∈List.replicate p 113++ltr (c / 3+7*(i:Int))::List.replicate q 113:=by rw[e2];simp
  simp only[w1f,w0d,w5a]at m1 m2
  grind
theorem y6w(n)(c)(m)(hm:m<=20):∃xs:List Str,xs.length=m/\xs.Nodup/\(∀x∈xs,okN x=true/\x∉rowW)/\run K a (n+2) q12 [.int c,.int m]=.ok (.own none (xs.map .str)):=by
 rw[q3x];unfold q27;walk_at "d";rw[if_pos (q30 (by omega) (by omega))];walk_at "d"
 obtain⟨e',h1,xs,z4,z5,z6,z7,z8,z9,rfl,hl,hx⟩:=q4y (lo:=0) (hi:=(m:Int)) (b:=q19 K a (run K a (n+1))) (i:=4) m (by omega) (λk e=>∃(xs:List Str)(z4 z5 z6 z7 z8 z9:S),e=[.fr (.int c),.fr (.int m),.fr (.str "abcdefghijklmnopqrstuvwxyz"),.own none (xs.map .str),z4,z5,z6,z7,z8,z9]/\xs.length=k/\∀(i:Nat)(x:Str),xs[i]?=some x->Nm c i x) [.fr (.int c),.fr (.int m),.fr (.str "abcdefghijklmnopqrstuvwxyz"),.own none [],.no,.no,.no,.no,.no,.no] ⟨[],_,_,_,_,_,_,rfl,rfl,λ_ _ h=>nomatch h⟩ (λj e hj h=>by
  obtain⟨xs,z4,z5,z6,z7,z8,z9,rfl,hl,hx⟩:=h;obtain⟨x,t5,t6,t7,t8,t9,q1,q2⟩:=y3m (K:=K) (a:=a) n c (.int m) (xs.map .str) j (by simp;omega) z5 z6 z7 z8 z9;refine⟨_,by rw[w4t];exact q2,xs++[x],_,t5,t6,t7,t8,t9,by rw[w0o];rfl,by simp[hl],λi y hy=>?_⟩
  grind)
 rw[h1];walk_at "d";refine⟨xs,hl,?_,λx h=>?_,rfl⟩
 ·rw[List.nodup_iff_pairwise_ne,List.pairwise_iff_getElem];intro i j hi hj hij;exact Nm.ne (hx i _ (w0b hi)) (hx j _ (w0b hj)) hij (by omega)
 ·obtain⟨i,hi,rfl⟩:=w3u h;have:=hx i _ (w0b hi);exact⟨this.1,this.2.1⟩
theorem y6x(n)(k:Nat)(s)(m)(hm:m<=5):∃cs:List Int,cs.length=m/\compD dYes (q1v K a (run K a (n+1))) [.fr (.int k),.fr (.int s)] (rangeW 0 m)=some (cs.map .int):=by
 have:∀ws:List W,(∀w∈ws,∃j:Int,w=.int j)->∃cs:List Int,cs.length=ws.length/\compD dYes (q1v K a (run K a (n+1))) [.fr (.int k),.fr (.int s)] ws=some (cs.map .int):=by
  intro ws
  induction ws with
  |nil=>exact λ_=>⟨[],rfl,rfl⟩
  |cons w ws ih=>
   intro h;obtain⟨j,rfl⟩:=h w w0h;obtain⟨cs,h1,h2⟩:=ih λx hx=>h x (w0e _ hx)
   obtain⟨v,hv⟩:=q7b (K:=K) (a:=a) n s (11*k+j);refine⟨v::cs,by simp[h1],?_⟩;rw[q87,h2];unfold q1v;walk_at "d";rw[hv];walk_at "d"
 obtain⟨cs,h1,h2⟩:=this (rangeW 0 m) λw hw=>by obtain⟨j,_,rfl⟩:=w0r.mp hw;exact⟨_,rfl⟩
 exact⟨cs,by rw[h1,q4l];omega,h2⟩
noncomputable def Fine(m:Nat)(f:Fm):Prop:=f.inb m/\f.depth<=6/\f.size<=12
theorem z14(n)(ns:List Int)(cell)(m c o k:Nat)(fs)(hl:fs.length<=100)(z8 z9 z10 z11 z12):∃f t8 t9 t10,Fine (m+c) f/\q1w K a (run K a (n+2)) [.fr (.lst (ns.map .int)),.fr (.int 5),.fr (.int cell),.fr (.int m),.fr (.int c),.fr (.int o),.own none (fs.map enc),.fr (.int k),z8,z9,z10,z11,z12]=.nx [.fr (.lst (ns.map .int)),.fr (.int 5),.fr (.int cell),.fr (.int m),.fr (.int c),.fr (.int o),.own none ((fs++[f]).map enc),.fr (.int k),t8,t9,t10,z11,z12]:=by
 unfold q1w;walk_at "d";rw[q7a (n+1) ns (k:=2+(k:Int)) (by omega)];walk_at "d";generalize ns.getD (2+(k:Int)).toNat 0=sd;obtain⟨v,hv⟩:=q7b (K:=K) (a:=a) (n+1) sd k;rw[hv];walk_at "d";have t1:=w1g v (show(5:Int)≠0 by omega);have t2:=w1c v (show(0:Int)<5 by omega);generalize v%5=q at t1 t2;obtain⟨q,rfl⟩:∃j:Nat,q=(j:Int):=⟨q.toNat,by omega⟩;rw[show(1+(q:Int))=((q+1:Nat):Int) by omega,if_pos (q30 (by omega) (by omega))];walk_at "d";rw[if_pos (by rw[q4l];omega)];simp only[frz1,pj1,w1t,w1u];obtain⟨cs,g1,g2⟩:=y6x (K:=K) (a:=a) (n+1) k sd (q+1) (by omega);rw[g2];walk_at "d";rw[show((m:Int)+(c:Int))=((m+c:Nat):Int) by omega];obtain⟨f,f1,f2,f3,f4⟩:=y20 (K:=K) (a:=a) n cs (m+c) (by omega);rw[f1];walk_at "d";rw[if_pos (by simp;omega)];exact⟨f,_,_,_,⟨f2,by omega,by omega⟩,by rw[w0o];rfl⟩
theorem y6y(n:Nat):rangeW 0 (n:Int)=(List.range n).map fun(i:Nat)=>W.int (i:Int):=by
 simp_all [rangeW]
theorem z15(r)(fs:List Fm)(q)(k)(hk:k<fs.length)(h100:k<100):q22 K a r [.fr (.int (k:Int)),.fr (.lst (fs.map enc)),.fr (.int q)]=.ok (.tup [.bl (decide (q / (k+1:Int)%2=1)),enc fs[k]]) [.fr (.int (k:Int)),.fr (.lst (fs.map enc)),.fr (.int q)]:=by
 unfold q22;walk_at "d";rw[if_pos ⟨by omega,by omega⟩];walk_at "d";rw[show atI (fs.map enc) (k:Int)=some (enc fs[k])from q4j (by rw[w2q,w0b hk];rfl)];walk_at "d"
noncomputable def encC(m:Nat)(bs:List Bool)(fs:List Fm):W:=.tup [.int m,.tup (pairW (bs.map .bl) ((fs.take bs.length).map enc)),.tup ((fs.drop bs.length).map enc)]
theorem z6z(n)(ns:List Int)(cell)(m c o)(hc:c<=4)(ho:o<=6):∃(bs:List Bool)(fs:List Fm),bs.length=c/\fs.length=c+o/\(∀f∈fs,Fine (m+c) f)/\(ciT K a (run K a (n+2)) [.fr (.lst (ns.map .int)),.fr (.int 5),.fr (.int cell),.fr (.int m),.fr (.int c),.fr (.int o),.no,.no,.no,.no,.no,.no,.no]).fn=.ok (.fr (encC m bs fs)):=by
 unfold ciT;walk_at "d";rw[show((c:Int)+(o:Int))=((c+o:Nat):Int) by omega,if_pos (q30 (by omega) (by omega))];walk_at "d"
 obtain⟨e',h1,fs,z7,z8,z9,z10,rfl,hl,hx⟩:=q4y (lo:=0) (hi:=((c+o:Nat):Int)) (b:=q1w K a (run K a (n+2))) (i:=7) (c+o) (by omega) (λk e=>∃(fs:List Fm)(z7 z8 z9 z10:S),e=[.fr (.lst (ns.map .int)),.fr (.int 5),.fr (.int cell),.fr (.int m),.fr (.int c),.fr (.int o),.own none (fs.map enc),z7,z8,z9,z10,.no,.no]/\fs.length=k/\∀f∈fs,Fine (m+c) f) [.fr (.lst (ns.map .int)),.fr (.int 5),.fr (.int cell),.fr (.int m),.fr (.int c),.fr (.int o),.own none [],.no,.no,.no,.no,.no,.no] ⟨[],_,_,_,_,rfl,rfl,λ_ h=>nomatch h⟩ (λj e hj h=>by
  obtain⟨fs,z7,z8,z9,z10,rfl,hl,hx⟩:=h;obtain⟨f,t8,t9,t10,q1,q2⟩:=z14 (K:=K) (a:=a) n ns cell m c o j fs (by omega) z8 z9 z10 .no .no;refine⟨_,by rw[w4t];exact q2,fs++[f],_,t8,t9,t10,rfl,by simp[hl],λg hg=>?_⟩
  grind)
 rw[h1];walk_at "d";rw[q7a (n+1) ns (k:=1) (by omega)];walk_at "d";generalize ns.getD 1 0=q;rw[if_pos (q30 (by omega) (by omega))];walk_at "d";rw[if_pos (by rw[q4l];omega),y6y];simp only[frz1,pj1,w1t,w1u];rw[q5n (fun(i:Nat)=>W.int (i:Int)) (λk=>.tup [.bl (decide (q / (k+1:Int)%2=1)),enc (fs.getD k (.is false))]) (λ_=>true)]
 ·rw[w2k.mpr (λ_ _=>rfl)]
  walk_at "d";rw[q7c (by rw[w0i];omega)];refine⟨(List.range c).map fun(k:Nat)=>decide (q / (k+1:Int)%2=1),fs,by simp,hl,hx,?_⟩
  unfold encC
  have e:(List.range c).map (fun(k:Nat)=>W.tup [.bl (decide (q / (k+1:Int)%2=1)),enc (fs.getD k (.is false))])=pairW (((List.range c).map fun(k:Nat)=>decide (q / (k+1:Int)%2=1)).map .bl) ((fs.take c).map enc):=by
   unfold pairW;apply w2z
   ·simp[hl]
   ·intro i h1 h2;have hi:i<c:=by simpa using h1
    have hi2:i<fs.length:=by omega
    simp[List.getElem_zip,List.getD,hi2]
  rw[e,w5b];simp
 ·intro k hk;have hk:=w1h.mp hk;have hk2:k<fs.length:=by omega
  have:=z15 (K:=K) (a:=a) (run K a (n+2)) fs q k hk2 (by omega);rw[show fs[k]=fs.getD k (.is false) by rw[w0z,w0b hk2];rfl]at this;exact⟨_,rfl,λ_=>⟨_,this⟩⟩
theorem z16(j):∃o:Nat,o<=3/\atI [W.int 1,.int 2,.int 3,.int 0] (j%4)=some (.int (o:Int)):=by
 have h1:=w1g j (show(4:Int)≠0 by decide);have h2:=w1c j (show(0:Int)<4 by decide);generalize j%4=k at h1 h2;obtain rfl|rfl|rfl|rfl:k=0\/k=1\/k=2\/k=3:=by omega
 ·exact⟨1,by omega,rfl⟩
 ·exact⟨2,by omega,rfl⟩
 ·exact⟨3,by omega,rfl⟩
 ·exact⟨0,by omega,rfl⟩
noncomputable def Circ(K:PySem.W.Frag)(a:Adr)(r:FR):Prop:=∃(m:Nat)(bs:List Bool)(fs:List Fm),m<=3/\m+bs.length<=5/\bs.length<=4/\bs.length<=fs.length/\fs.length<=bs.length+6/\(∀f∈fs,Fine (m+bs.length) f)/\r=.ok (.fr (encC m bs fs))
theorem x0n(n)(ns:List Int)(cell)(m c:Nat)(hm:m<=3)(hc:c<=4)(h:m+c<=5):Circ K a (ciO K a (run K a (n+2)) [.fr (.lst (ns.map .int)),.fr (.int 5),.fr (.int cell),.fr (.int m),.fr (.int c),.no,.no,.no,.no,.no,.no,.no,.no]).fn:=by
 obtain⟨o,ho,e⟩:=z16 (cell / 12)
 have key:∀o:Nat,o<=6->Circ K a (ciT K a (run K a (n+2)) [.fr (.lst (ns.map .int)),.fr (.int 5),.fr (.int cell),.fr (.int m),.fr (.int c),.fr (.int o),.no,.no,.no,.no,.no,.no,.no]).fn:=λo ho=>by
  obtain⟨bs,fs,h1,h2,h3,h4⟩:=z6z (K:=K) (a:=a) n ns cell m c o hc ho;subst h1;exact⟨m,bs,fs,hm,h,hc,by omega,by omega,h3,h4⟩
 unfold ciO;walk_at "d";rw[e];walk_at "d"
 grind
theorem x7y(n)(ns:List Int):Circ K a (run K a (n+3) q1p [.lst (ns.map .int),.int 5]):=by
 rw[q24];unfold q2a;walk_at "d";rw[q7a (n+1) ns (k:=0) (by omega)];generalize ns.getD (0:Int).toNat 0=x;have a1:=w1g x (show(3:Int)≠0 by omega);have a2:=w1c x (show(0:Int)<3 by omega);have b1:=w1g (x / 3) (show(4:Int)≠0 by omega);have b2:=w1c (x / 3) (show(0:Int)<4 by omega);obtain⟨m,hm⟩:∃m:Nat,x%3=(m:Int):=⟨(x%3).toNat,by omega⟩;obtain⟨c,hc⟩:∃m:Nat,x / 3%4=(m:Int):=⟨(x / 3%4).toNat,by omega⟩;walk_at "d";rw[hm,hc]
 by_cases h1:x / 48%8=1
 ·rw[if_pos h1]
  by_cases h2:(m:Int)<2
  ·rw[if_pos h2,if_neg (by omega)];exact x0n n ns x m 4 (by omega) (by omega) (by omega)
  ·rw[if_neg h2,if_neg (by omega)];exact x0n n ns x m c (by omega) (by omega) (by omega)
 ·rw[if_neg h1]
  by_cases h2:x / 48%8=2
  ·rw[if_pos h2,show((c:Int)%3)=((c%3:Nat):Int) by omega];exact x0n n ns x 3 (c%3) (by omega) (by omega) (by omega)
  ·rw[if_neg h2];exact x0n n ns x m c (by omega) (by omega) (by omega)
noncomputable def Told(ns:List Str)(l:Nat)(f:Fm)(x:Str)(B:Nat):Prop:=∃ts d,Tk ns l f ts d/\LexTo (chs x) ts/\d<=B
theorem q4i(h:∀l,l<=min (lvl f) 3->Told ns l f (txt ns f) (f.depth-1))(hl:l<=3):Told ns l f (brk ns l f) f.depth:=by
 unfold brk
 by_cases g:lvl f<l
 ·rw[decide_eq_true g];obtain⟨ts,d,h1,h2,h3⟩:=h 0 (by omega);refine⟨_,_,.par h1,?_,by have:=f.depth_pos;omega⟩;rw[z1s];exact h2.par
 ·rw[decide_eq_false g];obtain⟨ts,d,h1,h2,h3⟩:=h l (by omega);exact⟨ts,d,h1,h2,by omega⟩
theorem q9x(h:Tk ns l f [x] 0)(hx:chs x≠[])(hl:∀c∈chs x,isL c=true):Told ns l f x B:=by
 refine⟨_,_,h,?_,w1d _⟩;have:=LexTo.word hx hl;rw[show tx (chs x)=x from q1l x]at this;exact this
theorem x1s(hw:chs w≠[])(hl:∀c∈chs w,isL c=true)(hf:Told ns i f x A)(hg:Told ns j g y B)(hh:∀{ts us:List Str}{d e:Nat},Tk ns i f ts d->Tk ns j g us e->Tk ns l h (ts++w::us) (max d e)):Told ns l h (mid w x y) (max A B):=by
 obtain⟨ts,d,h1,h2,h3⟩:=hf;obtain⟨us,e,g1,g2,g3⟩:=hg;refine⟨_,_,hh h1 g1,?_,by omega⟩;rw[z1r];have:=h2.mid g2 hw hl;rw[show tx (chs w)=w from q1l w]at this;exact this
theorem q8o(h:okN x=true)(hc:c∈chs x):97<=c/\c<=122:=by
 have:=(q01 h).2.2.2 c hc
 simpa [isL]using this
theorem x5h(h:okN x=true):chs x≠[]/\(chs x).length<=8:=by
 obtain⟨_,h1,h2,_⟩:=q01 h
 grind [chs,Str.length]
theorem q1n{l:List Str}(h:k<l.length):l.getD k ""∈l:=by
 rw[w0z,w0b h];exact w1s h
theorem q3n(hx:∀x∈ns,okN x=true):∀(f:Fm),f.inb ns.length->∀l,l<=min (lvl f) 3->Told ns l f (txt ns f) (f.depth-1)
 |.is true,_,l,_=>q9x (x:="yes") (.yn true) (by decide +kernel) (by decide +kernel)
 |.is false,_,l,_=>q9x (x:="no") (.yn false) (by decide +kernel) (by decide +kernel)
 |.at p,h,l,_=>by
  have ok:=hx _ (q1n h);exact q9x (x:=ns.getD p "") (.plc h) (x5h ok).1 (q01 ok).2.2.2
 |.not f,h,l,hl=>by
  obtain⟨ts,d,h1,h2,h3⟩:=q4i (q3n hx f h) (l:=3) (w0a _);refine⟨_,_,.not (by omega) h1,?_,h3⟩;show LexTo (chs ("not "++brk ns 3 f)) _;rw[q20,show chs ("not ":Str)=[110,111,116]++[32] by decide +kernel,w0j];exact h2.not (w:=[110,111,116]) (by decide) (by decide)
 |.and f g,h,l,hl=>x1s (by decide +kernel) (by decide +kernel) (q4i (q3n hx f h.1) (l:=2) (by omega)) (q4i (q3n hx g h.2) (l:=3) (by omega)) λa b=>.and (by have:lvl (.and f g)=2:=rfl;omega) a b
 |.odd f g,h,l,hl=>x1s (by decide +kernel) (by decide +kernel) (q4i (q3n hx f h.1) (l:=1) (by omega)) (q4i (q3n hx g h.2) (l:=2) (by omega)) λa b=>.odd (by have:lvl (.odd f g)=1:=rfl;omega) a b
 |.or f g,h,l,hl=>x1s (by decide +kernel) (by decide +kernel) (q4i (q3n hx f h.1) (l:=0) (by omega)) (q4i (q3n hx g h.2) (l:=1) (by omega)) λa b=>.or (by have:lvl (.or f g)=0:=rfl;omega) a b
noncomputable def Cl(x:Str):Bool:=(chs x).all λc=>c != 61&&c != 10
theorem q1u(x y):Cl (x++y)=(Cl x&&Cl y):=by unfold Cl;rw[q20,List.all_append]
theorem q7d(b)(h:Cl x=true):Cl (par b x)=true:=by
 unfold par;split
 ·rw[q1u,q1u,h];rfl
 ·exact h
theorem q50(hn:∀x∈ns,okN x=true):∀f:Fm,Cl (txt ns f)=true
 |.is true=>(by decide:Cl "yes"=true)
 |.is false=>(by decide:Cl "no"=true)
 |.at p=>by
  show Cl (ns.getD p "")=true;rcases w5g p ns.length with h|h
  ·refine w0y.mpr λc hc=>?_
   have:=q8o (hn _ (q1n h)) hc;simp;omega
  ·rw[w0z,w3n h];decide
 |.not f=>by
  show Cl ("not "++par _ _)=true;rw[q1u,q7d _ (q50 hn f)];decide
 |.and f g=>by
  show Cl (mid _ _ _)=true;unfold mid;rw[q1u,q1u,q1u,q1u,q7d _ (q50 hn f),q7d _ (q50 hn g)];decide
 |.or f g=>by
  show Cl (mid _ _ _)=true;unfold mid;rw[q1u,q1u,q1u,q1u,q7d _ (q50 hn f),q7d _ (q50 hn g)];decide
 |.odd f g=>by
  show Cl (mid _ _ _)=true;unfold mid;rw[q1u,q1u,q1u,q1u,q7d _ (q50 hn f),q7d _ (q50 hn g)];decide
theorem z9d(h:Cl x=true):61∉chs x/\10∉chs x:=by
 have:=w0y.mp h;exact⟨λhc=>absurd (this _ hc) (by decide),λhc=>absurd (this _ hc) (by decide)⟩
noncomputable def ynS(b:Bool):Str:=if b=true then "yes" else "no"
noncomputable def lineI(xs:List Str):Str:=tx (105::110::xs.flatMap λx=>32::chs x)
noncomputable def lineH(x:Str)(b:Bool)(t:Str):Str:="held "++(x++(" "++(ynS b++(" = "++t))))
noncomputable def lineO(x t:Str):Str:="out "++(x++(" = "++t))
noncomputable def shB(kn:List Str)(f:Fm):Bool:=okAll [] kn&&inF kn.length f
noncomputable def shX(a:Adr)(kn:List Str):Addr:=if okAll [] kn=true then a.NoPlace else a.NoName
theorem x67(q:okAll [] ns=true)(x)(hx:x∈ns):x.length<=8:=(q01 (((q4o [] ns w2v).mp q).1 x hx)).2.2.1
theorem q7m(n)(hl:∀x∈ns,limS x)(hd:ns.length<1000)(f)(h:2*f.depth<=n+2)(hs:f.size<=800):
  run K a (n+4) q4m [enc f,.tup (ns.map .str)]=if shB ns f=true then .ok (.fr (.str (txt ns f)))else .ex (.ref (shX a ns)):=by
 rw[q9o];unfold x0f;walk_at "d";have p:=x8r (K:=K) (a:=a) n ns hl hd;unfold shB shX;cases q:okAll [] ns with
 |true=>
  rw[p.1 q];walk_at "d";rw[q3k (x67 q) f (n+2) h hs];unfold textR;rw[w5c];split<;>rfl
 |false=>
  rw[p.2 q];rfl
theorem x1t{b:List S->SR}{i j:Nat}{g:α->W×W}{ln:α->Str}{ok:α->Bool}{x:Addr}{P:α->Prop}{E:List Str->List S->Prop}
  (hs:∀acc u e,acc.length<=100->P u->E acc e->if ok u=true then ∃e',b ((e.set i (.fr (g u).1)).set j (.fr (g u).2))=.nx e'/\E (acc++[ln u]) e' else ∃e',b ((e.set i (.fr (g u).1)).set j (.fr (g u).2))=.ex (.ref x) e'):
  ∀(l:List α)(acc:List Str)(e:List S),(∀u∈l,P u)->acc.length+l.length<=100->E acc e->if l.all ok=true then ∃e',forP i j b (l.map g) e=.nx e'/\E (acc++l.map ln) e' else ∃e',forP i j b (l.map g) e=.ex (.ref x) e'
 |[],acc,e,_,_,h=>⟨e,rfl,by rw[w1v,w1a];exact h⟩
 |u::l,acc,e,hp,hl,h=>by
  rw[w0v]at hl;have t:=hs acc u e (by omega) (hp u w0h) h;rw[w0g,q2l,w2h];cases q:ok u with
  |false=>
   rw[q]at t;obtain⟨e',t⟩:=t;rw[t];exact⟨e',rfl⟩
  |true=>
   rw[q]at t;obtain⟨e',t,t2⟩:=t;rw[t,q07];have ih:=x1t hs l (acc++[ln u]) e' (λv hv=>hp v (w0e _ hv)) (by simp;omega) t2
   rw[w0j]at ih;exact ih
noncomputable def env9(N C:W)(kn acc:List Str)(e:List S):Prop:=∃z4 z5 z6 z7 z8:S,e=[.fr N,.fr C,.fr (.tup (kn.map .str)),.own none (acc.map .str),z4,z5,z6,z7,z8]
noncomputable def Sm(x:Str)(f:Fm):Prop:=x.length<=1000/\f.depth<=6/\f.size<=12
theorem q76(h:shB kn f=true)(hs:f.size<=12):(txt kn f).length<=120:=by
 have:=q1b (x67 (ns:=kn) (by unfold shB at h;simp at h;exact h.1)) f;omega
theorem z17(n)(N C)(hl:∀x∈kn,limS x)(hd:kn.length<1000)(acc)(u:Str×Bool×Fm)(e)(ha:acc.length<=100)(hu:Sm u.1 u.2.2)(he:env9 N C kn acc e):
  if shB kn u.2.2=true then ∃e',q26 K a (run K a (n+14)) ((e.set 4 (.fr (.str u.1))).set 5 (.fr (.tup [.bl u.2.1,enc u.2.2])))=.nx e'/\env9 N C kn (acc++[lineH u.1 u.2.1 (txt kn u.2.2)]) e' else ∃e',q26 K a (run K a (n+14)) ((e.set 4 (.fr (.str u.1))).set 5 (.fr (.tup [.bl u.2.1,enc u.2.2])))=.ex (.ref (shX a kn)) e':=by
 obtain⟨z4,z5,z6,z7,z8,rfl⟩:=he;obtain⟨x,b,f⟩:=u;obtain⟨h1,h2,h3⟩:=hu;have h1:x.length<=1000:=h1;unfold q26;have sr:=q7m (K:=K) (a:=a) (n+10) hl hd f (by have:f.depth<=6:=h2;omega) (by have:f.size<=12:=h3;omega)
 have e7:(dIf (dTru (dOp ixW (dVar 5) (dC (.int 0)))) (dC (.str "yes")) (dC (.str "no"))) [.fr N,.fr C,.fr (.tup (kn.map .str)),.own none (acc.map .str),.fr (.str x),.fr (.tup [.bl b,enc f]),z6,z7,z8]=.ok (.str (ynS b)) [.fr N,.fr C,.fr (.tup (kn.map .str)),.own none (acc.map .str),.fr (.str x),.fr (.tup [.bl b,enc f]),z6,z7,z8]:=by
  cases b<;>walk_at "d"<;>rfl
 cases q:shB kn f with
 |true=>
  have ht:=q76 q h3;rw[q]at sr;rw[if_pos rfl]at sr |-
  simp only[w1q,w1r,x55,x56,e7];walk_at "d";rw[sr];walk_at "d";rw[q2j (by omega)];walk_at "d";rw[q2j (by cases b<;>decide)];walk_at "d";rw[q2j (by omega)];walk_at "d";rw[if_pos (by simp;omega),q6m];exact⟨_,rfl,_,_,_,_,_,by rw[w0o];rfl⟩
 |false=>
  rw[q]at sr;rw[if_neg (by decide)]at sr |-
  simp only[w1q,w1r,x55,x56,e7];walk_at "d";rw[sr];exact⟨_,rfl⟩
theorem z60(n)(N C)(hl:∀x∈kn,limS x)(hd:kn.length<1000)(acc)(u:Str×Fm)(e)(ha:acc.length<=100)(hu:Sm u.1 u.2)(he:env9 N C kn acc e):
  if shB kn u.2=true then ∃e',q25 K a (run K a (n+14)) ((e.set 4 (.fr (.str u.1))).set 8 (.fr (enc u.2)))=.nx e'/\env9 N C kn (acc++[lineO u.1 (txt kn u.2)]) e' else ∃e',q25 K a (run K a (n+14)) ((e.set 4 (.fr (.str u.1))).set 8 (.fr (enc u.2)))=.ex (.ref (shX a kn)) e':=by
 obtain⟨z4,z5,z6,z7,z8,rfl⟩:=he;obtain⟨x,f⟩:=u;obtain⟨h1,h2,h3⟩:=hu;have h1:x.length<=1000:=h1;unfold q25;have sr:=q7m (K:=K) (a:=a) (n+10) hl hd f (by have:f.depth<=6:=h2;omega) (by have:f.size<=12:=h3;omega);cases q:shB kn f with
 |true=>
  have ht:=q76 q h3;rw[q]at sr;rw[if_pos rfl]at sr |-
  walk_at "d";rw[sr];walk_at "d";rw[q2j (by omega)];walk_at "d";rw[q2j (by omega)];walk_at "d";rw[if_pos (by simp;omega),q6m];exact⟨_,rfl,_,_,_,_,_,by rw[w0o];rfl⟩
 |false=>
  rw[q]at sr;rw[if_neg (by decide)]at sr |-
  walk_at "d";rw[sr];exact⟨_,rfl⟩
noncomputable def nmT(ins hn on:List Str):W:=.tup [.tup (ins.map .str),.tup (hn.map .str),.tup (on.map .str)]
noncomputable def catT(ls:List Str):Str:=tx (ls.flatMap λl=>chs l++[10])
theorem x68(l):catT [l]=l++"\n":=by
 unfold catT;rw[w3l,List.flatMap_nil,w1a,<- q35,show tx (chs l)=l from q1l l];rfl
theorem x4o(ls)(l):catT (ls++[l])=catT ls++(l++"\n"):=by
 rw[<- x68];unfold catT;rw[w4y,<- q35]
theorem q9y{g:α->Nat}:∀l:List α,(∀x∈l,g x<=b)->(l.map g).sum<=l.length*b
 |[],_=>by simp
 |x::l,h=>by
  have h1:=h x w0h;have:=q9y l λy hy=>h y (w0e _ hy)
  simp only[w0g,List.sum_cons,w0v,Nat.succ_mul];omega
theorem q21(x):(chs x).length=x.length:=w3a
theorem x69(h:∀l∈ls,l.length<=b):(catT ls).length<=ls.length*(b+1):=by
 simp_all [catT,q0u,q9y,q21]
theorem q8p(z):∀(l:List (List Nat))(p:List Nat),joinC z (p::l)=p++l.flatMap λq=>z++q
 |[],p=>by simp[joinC]
 |q::l,p=>by
  show p++(z++joinC z (q::l))=_;rw[q8p z l q];simp
theorem x83(xs)(h:∀x∈xs,x.length<=1000)(hl:xs.length<=100):joinW (.str " ") [.lst (.str "in"::xs.map .str)]=some (.str (lineI xs)):=by
 have s:=q9y (g:=List.length) (b:=1000) (xs.map chs) λl hm=>by obtain⟨x,hx,rfl⟩:=w0r.mp hm;rw[q21];exact h x hx
 have:=x65 (z:=[32]) (l:=[105,110]::xs.map chs) (by
  grind)
 rw[w0g,w0x,w1y (f:=(λw=>W.str (tx w)) ∘ chs) (g:=.str) λx _=>congrArg W.str (q1l x),q8p,List.flatMap_map]at this
 exact this
theorem q6p{d:α}:∀{l:List α}{k:Nat},k<=l.length->(List.range k).map (λi=>l.getD i d)=l.take k:=by
 intro l k h;refine w2z (by simp;omega) λi h1 h2=>?_
 simp at h1 h2 |-
 rw[w0b (by omega)];rfl
noncomputable def u1(hn:List Str)(bs:List Bool)(fs:List Fm)(k:Nat):Str×Bool×Fm:=(hn.getD k "", bs.getD k false,fs.getD k (.is false))
noncomputable def u2(on:List Str)(gs:List Fm)(k:Nat):Str×Fm:=(on.getD k "", gs.getD k (.is false))
noncomputable def ln1(kn hn:List Str)(bs:List Bool)(fs:List Fm)(k:Nat):Str:=lineH (hn.getD k "") (bs.getD k false) (txt kn (fs.getD k (.is false)))
noncomputable def ln2(kn on:List Str)(gs:List Fm)(k:Nat):Str:=lineO (on.getD k "") (txt kn (gs.getD k (.is false)))
noncomputable def linesL(ins hn on:List Str)(bs:List Bool)(fs:List Fm):List Str:=(lineI ins::(List.range bs.length).map (ln1 (ins++hn) hn bs fs))++(List.range (fs.drop bs.length).length).map (ln2 (ins++hn) on (fs.drop bs.length))
theorem z18(hb:hn.length=bs.length)(hf:bs.length<=fs.length):(hn.map W.str).zip (pairW (bs.map .bl) ((fs.take bs.length).map enc))=((List.range bs.length).map (u1 hn bs fs)).map λu=>(.str u.1,.tup [.bl u.2.1,enc u.2.2]):=by
 refine w2z (by simp[pairW];omega) λk h h'=>?_
 have h1:k<bs.length:=by simpa using h'
 have h2:k<hn.length:=by omega
 have h3:k<fs.length:=by omega
 simp[pairW,u1,h1,h2,h3]
theorem z19(ho:on.length=gs.length):(on.map W.str).zip (gs.map enc)=((List.range gs.length).map (u2 on gs)).map λu=>(.str u.1,enc u.2):=by
 refine w2z (by simp;omega) λk h h'=>?_
 have h1:k<gs.length:=by simpa using h'
 have h2:k<on.length:=by omega
 simp[u2,h1,h2]
theorem x4p(h:∀x∈xs,x.length<=1000)(hl:xs.length<=5):(lineI xs).length<=6000:=by
 have s:=q9y (g:=λx=>(32::chs x).length) (b:=1001) xs λx hx=>by
  have:=h x hx;rw[w0v,q21];omega
 unfold lineI;rw[q0u,w0v,w0v,List.length_flatMap];omega
theorem y3n(b)(h:x.length<=1000)(ht:t.length<=120):(lineH x b t).length<=6000:=by
 have:(ynS b).length<=3:=by cases b<;>decide
 unfold lineH;simp only[q2k];rw[show(Str.ofString "held ").length=5 from rfl,show(Str.ofString " ").length=1 from rfl,show(Str.ofString " = ").length=3 from rfl];omega
theorem y3o(h:x.length<=1000)(ht:t.length<=120):(lineO x t).length<=6000:=by
 unfold lineO;simp only[q2k];rw[show(Str.ofString "out ").length=4 from rfl,show(Str.ofString " = ").length=3 from rfl];omega
theorem y3p(r)(h:∀l∈ls,l.length<=6000)(hl:ls.length<=100):∃ws,compD dYes (q46 K a r) [] (ls.map .str)=some ws/\joinW (.str "") [.lst ws]=some (.str (catT ls)):=by
 refine⟨_,q5n .str (λl=>.str (tx (chs l++[10]))) (λ_=>true) ls λl hm=>⟨_,rfl,λ_=>?_⟩,?_⟩
 ·unfold q46;walk_at "d";rw[q2j (by have:=h l hm;omega)];walk_at "d";rw[q6m,<- q35,show tx (chs l)=l from q1l l];exact⟨_,rfl⟩
 ·rw[w2k.mpr λ_ _=>rfl]
  have s:=q9y (g:=List.length) (b:=6001) (ls.map λl=>chs l++[10]) λl hm=>by obtain⟨x,hx,rfl⟩:=w0r.mp hm;rw[w0u,q21];exact Nat.succ_le_succ (h x hx)
  rw[w0i]at s;have:=x65 (z:=[]) (l:=ls.map λl=>chs l++[10]) (by rw[w0i];show _+_*1<=_;omega)
  rw[w0x]at this;refine this.trans ?_;unfold catT;cases ls with
  |nil=>rfl
  |cons x xs=>rw[w0g,q8p,List.flatMap_map,w3l];rfl
theorem y3q{g:α->Fm}{l:List α}(h:l.map g=fs):(l.all λu=>P (g u))=fs.all P:=by rw[<- h,w4q];rfl
theorem q9z(n m)(hb:hn.length=bs.length)(hf:bs.length<=fs.length)(ho:on.length=fs.length-bs.length)(h5:ins.length<=5)(h6:fs.length<=20)(lim:∀x∈ins++(hn++on),limS x)(sm:∀f∈fs,f.depth<=6/\f.size<=12):
  run K a (n+15) q1g [nmT ins hn on,encC m bs fs]=if fs.all (shB (ins++hn))=true then .ok (.fr (.str (catT (linesL ins hn on bs fs))))else .ex (.ref (shX a (ins++hn))):=by
 have ho2:on.length=(fs.drop bs.length).length:=by rw[w1e];omega
 have hl:∀x∈ins++hn,limS x:=λx h=>lim x (by rw[<- w0j];exact w0p _ h)
 have li:∀x∈ins,x.length<=1000:=λx h=>(lim x (w0p _ h)).1
 have g1:∀k,k<bs.length->Sm (hn.getD k "") (fs.getD k (.is false)):=λk hk=>⟨(lim _ (w0c _ (w0p _ (q1n (by omega))))).1,by grind⟩
 have g2:∀k,k<(fs.drop bs.length).length->Sm (on.getD k "") ((fs.drop bs.length).getD k (.is false)):=λk hk=>⟨(lim _ (w0c _ (w0c _ (q1n (by omega))))).1,by grind⟩
 have a1:=y3q (P:=shB (ins++hn)) (g:=λu:Str×Bool×Fm=>u.2.2) (l:=(List.range bs.length).map (u1 hn bs fs)) (fs:=fs.take bs.length) (by rw[w0x];exact q6p hf)
 have a2:=y3q (P:=shB (ins++hn)) (g:=λu:Str×Fm=>u.2) (l:=(List.range (fs.drop bs.length).length).map (u2 on (fs.drop bs.length))) (fs:=fs.drop bs.length) (by rw[w0x];exact(q6p (w0a _)).trans (w2x))
 rw[show fs.all (shB (ins++hn))=((fs.take bs.length).all (shB (ins++hn))&&(fs.drop bs.length).all (shB (ins++hn))) by rw[<- List.all_append,w1z],<- a1,<- a2];have t1:=λN C e=>x1t (P:=λu:Str×Bool×Fm=>Sm u.1 u.2.2) (E:=env9 N C (ins++hn)) (g:=λu=>(.str u.1,.tup [.bl u.2.1,enc u.2.2])) (ln:=λu=>lineH u.1 u.2.1 (txt (ins++hn) u.2.2)) (ok:=λu=>shB (ins++hn) u.2.2) (z17 (K:=K) (a:=a) n N C hl (by simp;omega)) ((List.range bs.length).map (u1 hn bs fs)) [lineI ins] e (λu h=>by obtain⟨k,hk,rfl⟩:=w0r.mp h;exact g1 k (w1h.mp hk)) (by simp;omega)
 have t2:=λN C acc e=>x1t (P:=λu:Str×Fm=>Sm u.1 u.2) (E:=env9 N C (ins++hn)) (g:=λu=>(.str u.1,enc u.2)) (ln:=λu=>lineO u.1 (txt (ins++hn) u.2)) (ok:=λu=>shB (ins++hn) u.2) (z60 (K:=K) (a:=a) n N C hl (by simp;omega)) ((List.range (fs.drop bs.length).length).map (u2 on (fs.drop bs.length))) acc e (λu h=>by obtain⟨k,hk,rfl⟩:=w0r.mp h;exact g2 k (w1h.mp hk))
 rw[q5b];unfold q4a nmT encC;walk_at "d";rw[if_pos (by simp;omega),if_pos (by simp;omega)];walk_at "d";rw[show joinW (.str " ") [.tup (.str "in"::ins.map .str)]=_ from x83 ins li (by omega),<- w0o];walk_at "d";rw[z18 hb hf];have t1:=t1 (nmT ins hn on) (encC m bs fs) _ ⟨.no,.no,.no,.no,.no,rfl⟩;unfold nmT encC at t1;split at t1<;>rename_i q1
 ·obtain⟨e',t1,z4,z5,z6,z7,z8,rfl⟩:=t1;rw[w0g,w1v]at t1;rw[t1,q1,w5c];generalize hA:[lineI ins]++((List.range bs.length).map (u1 hn bs fs)).map (λu=>lineH u.1 u.2.1 (txt (ins++hn) u.2.2))=A
  walk_at "d";rw[z19 ho2];have t2:=t2 (nmT ins hn on) (encC m bs fs) A _ (by rw[<- hA];simp;omega) ⟨z4,z5,z6,z7,z8,rfl⟩;unfold nmT encC at t2;split at t2<;>rename_i q2
  ·obtain⟨e',t2,z4,z5,z6,z7,z8,rfl⟩:=t2
   rw[t2,show(A++((List.range (fs.drop bs.length).length).map (u2 on (fs.drop bs.length))).map λu=>lineO u.1 (txt (ins++hn) u.2))=linesL ins hn on bs fs by
    rw[<- hA];unfold linesL;rw[w0x,w0x];rfl]
   walk_at "d"
   obtain⟨ws,r1,r2⟩:=y3p (K:=K) (a:=a) (run K a (n+14)) (ls:=linesL ins hn on bs fs) (λl h=>by
    rw[w4q]at q1 q2;unfold linesL at h;rcases w1f.mp h with h|h
    ·rcases w0d.mp h with rfl|h
     ·exact x4p li h5
     ·obtain⟨k,hk,rfl⟩:=w0r.mp h;have z:=g1 k (w1h.mp hk);exact y3n _ z.1 (q76 (w0y.mp q1 k hk) z.2.2)
    ·obtain⟨k,hk,rfl⟩:=w0r.mp h;have z:=g2 k (w1h.mp hk);exact y3o z.1 (q76 (w0y.mp q2 k hk) z.2.2)) (by unfold linesL;simp;omega)
   rw[r1];walk_at "d";rw[r2];walk_at "d";rw[if_pos q2,if_pos (by simp[linesL];omega)]
  ·obtain⟨e',t2⟩:=t2;rw[t2,if_neg q2];rfl
 ·obtain⟨e',t1⟩:=t1;rw[w0g,w1v]at t1;rw[t1,w3g.mpr q1];rfl
noncomputable def kq(p:Pt):Pt:=⟨0,p.word,p.names,p.first, "", p.fm⟩
theorem q5o(ps)(x):namesOf (ps.map kq) x=namesOf ps x:=by
 induction ps with
 |nil=>rfl
 |cons p ps ih=>rw[w0g,q3m,q3m,ih];rfl
theorem x7a(ps):taken (ps.map kq)=taken ps:=by unfold taken;rw[q5o,q5o,q5o]
theorem z2a(ps):lastW (ps.map kq)=lastW ps:=by
 unfold lastW;rw[List.getLast?_map];cases ps.getLast?<;>rfl
theorem Stand.of_kq(h:Stand (ps.map kq) (kq p)):Stand ps p:=
 ⟨h.word,by rw[<- z2a];exact h.last,by rw[<- q5o];exact h.most,h.ok,by rw[<- x7a];exact h.nd,by rw[<- x7a];exact h.len⟩
theorem y6z(ps):sheetW (ps.map kq)=sheetW ps:=by
 have e1:formsW (ps.map kq)=formsW ps:=by unfold formsW;rw[List.filter_map,w0x];rfl
 have e2:firstsW (ps.map kq)=firstsW ps:=by unfold firstsW;rw[List.filter_map,w0x];rfl
 unfold sheetW namesT;simp only[e1,e2,q5o]
noncomputable def LineOk(K:PySem.W.Frag)(a:Adr)(kn:List Str)(l:Str)(q:Pt):Prop:=wds (chs l)≠[]/\10∉chs l/\l.length<=6000/\∀k:Nat,∃p,(∀n,run K a (n+2) q0z [.str l,.int k]=.ok (.dw .str pk (pw p)))/\kq p=q/\(p.word≠"in"->FormOk kn p)
theorem x84{qs:List Pt}(hs:∀b q c,qs=b++q::c->Stand b q):∀(rem:List (Str×Pt))(ah:List Pt)(k:Nat),qs=ah.map kq++rem.map (·.2)->(∀pr∈rem,LineOk K a kn pr.1 pr.2)->∃ps,Rows K a k ah ((rem.map (·.1)).map chs++[[]]) ps/\ps.map kq=rem.map (·.2)/\∀p∈ps,p.word≠"in"->FormOk kn p
 |[],ah,k,_,_=>⟨[],.blank rfl (by decide) .nil,rfl,λ_ h=>nomatch h⟩
 |(l,q)::rem,ah,k,e,ok=>by
  obtain⟨h2,h3,h4,h⟩:=ok (l,q) w0h;obtain⟨p,h5,h6,h7⟩:=h k;have h6:kq p=q:=h6;have h4:l.length<=6000:=h4;obtain⟨ps,g1,g2,g3⟩:=x84 hs rem (ah++[p]) (k+1) (by rw[e,w0o,w0j,w0g];show _=_++(kq p::_);rw[h6];rfl) λpr hp=>ok pr (w0e _ hp)
  refine⟨p::ps,.part h2 (by rw[q21];exact w0s h4 (by decide)) (λn=>by rw[show tx (chs l)=l from q1l l];exact h5 n) (Stand.of_kq ?_) g1,?_,λx hx=>?_⟩
  all_goals grind
theorem x85:∀{ls:List Str},(∀l∈ls,10∉chs l)->cutC 10 (ls.flatMap λl=>chs l++[10])=ls.map chs++[[]]
 |[],_=>rfl
 |l::ls,h=>by
  rw[w3l,w0j,show[10]++ls.flatMap (λl=>chs l++[10])=10::ls.flatMap λl=>chs l++[10]from rfl,q8m _ (h l w0h),x85 λx hx=>h x (w0e _ hx)]
  rfl
theorem x7b:∀(xs:List Str){p:List Nat},32∉p->(∀x∈xs,okN x=true)->cutC 32 (p++xs.flatMap λx=>32::chs x)=p::xs.map chs
 |[],p,hp,_=>by rw[List.flatMap_nil,w1a,x4n hp];rfl
 |x::xs,p,hp,h=>by
  rw[w3l,w1b,q8m _ hp,x7b xs (λhc=>by have:=q8o (h x w0h) hc;omega) λy hy=>h y (w0e _ hy)]
  rfl
theorem q90(h:32∉p)(hp:p≠[]):wds (p++32::r)=p::wds r:=by
 unfold wds;rw[q8m _ h,List.filter_cons_of_pos (p:=neB) (decide_eq_true hp)]
theorem z2b(h:∀x∈ins,okN x=true)(hl:ins.length<=5):LineOk K a kn (lineI ins) ⟨0, "in", ins,.non, "", g⟩:=by
 have ec:chs (lineI ins)=105::110::(ins.flatMap λx=>32::chs x):=q1k _
 have no:∀c,c≠32->c<97->c∉chs (lineI ins):=λc h1 h2 hc=>by
  rw[ec]at hc;rcases w0d.mp hc with rfl|hc
  ·omega
  ·rcases w0d.mp hc with rfl|hc
   ·omega
   ·obtain⟨x,hx,hc⟩:=List.mem_flatMap.mp hc;rcases w0d.mp hc with rfl|hc
    ·omega
    ·have:=q8o (h x hx) hc;omega
 have wd:wds (chs (lineI ins))=[105,110]::ins.map chs:=by
  rw[ec];unfold wds;rw[show(105::110::(ins.flatMap λx=>32::chs x))=[105,110]++(ins.flatMap λx=>32::chs x)from rfl,x7b ins (by decide) h]
  refine w2k.mpr λy hy=>?_
  rcases w0d.mp hy with rfl|hy
  ·rfl
  ·obtain⟨x,hx,rfl⟩:=w0r.mp hy;exact decide_eq_true (x5h (h x hx)).1
 have ln:=x4p (λx hx=>by have:=(q01 (h x hx)).2.2.1;omega) hl
 refine⟨by rw[wd];simp,no 10 (by omega) (by omega),ln,λk=>⟨⟨k, "in", (ins.map chs).map tx,.non, "", g⟩,λn=>?_,?_,λz=>absurd rfl z⟩⟩
 ·have:=z6v (K:=K) (a:=a) (g:=g) n k (cs:=chs (lineI ins)) (by rw[q21];omega) ⟨no 61 (by omega) (by omega),no 10 (by omega) (by omega),wd⟩;rw[show tx (chs (lineI ins))=lineI ins from q1l _]at this;exact this
 ·show Pt.mk 0 "in" ((ins.map chs).map tx) .non "" g=_;rw[w0x,w1y (f:=tx ∘ chs) (g:=id) λx _=>q1l x,List.map_id]
theorem x86(hn:∀x∈kn,okN x=true)(hf:Fine kn.length f)(k)(w)(ns)(v):FormOk kn ⟨k,w,ns,v,tx (32::chs (txt kn f)),f⟩:=by
 obtain⟨ts,d,t1,t2,t3⟩:=q3n hn f hf.1 0 (w1d _);have h6:=hf.2.1;have h12:=hf.2.2;have hl:=q1b (λx hx=>(q01 (hn x hx)).2.2.1) f
 refine⟨_,ts,d,rfl,by rw[w0v,q21];omega,t1,?_,by omega⟩;obtain⟨ps,h1,h2⟩:=t2 1 [] z6q;rw[w1a]at h2;rw[y0c,q7k,h2,z1q,w1a];exact h1
theorem y3r:∀{cs:List Nat},wds cs=[]->∀c∈cs,c=32
 |[],_,_,h=>nomatch h
 |d::r,h,c,hc=>by
  obtain⟨p,ps,e⟩:=x3l 32 r;unfold wds at h;rw[q7l,e]at h
  by_cases hd:d=32
  ·rw[if_pos hd,<- e]at h;rcases w0d.mp hc with rfl|hc
   ·exact hd
   ·exact y3r (cs:=r) (by unfold wds;simpa [neB]using h) c hc
  ·rw[if_neg hd]at h;simp[neB]at h
theorem x87(hn:∀x∈kn,okN x=true)(hf:Fine kn.length f)(hw:chs w=l++61::32::chs (txt kn f))(hl:∀c∈l,c=32\/97<=c)(hx:l.length<=50):wds (chs w)≠[]/\10∉chs w/\w.length<=6000/\61∉l/\61∉32::chs (txt kn f):=by
 obtain⟨c1,c2⟩:=z9d (q50 hn f);have h12:=hf.2.2;have ln:=q1b (λx hx=>(q01 (hn x hx)).2.2.1) f
 have no:∀c,c≠32->c<97->c∉l:=λc h1 h2 hc=>by have:=hl c hc;omega
 refine⟨λz=>?_,?_,?_,no 61 (by omega) (by omega),by simp[c1]⟩
 ·have:=y3r z 61 (by rw[hw];simp);omega
 all_goals grind [q21]
theorem y3s(hn:∀x∈kn,okN x=true)(hf:Fine kn.length f)(hx:okN x=true)(b):LineOk K a kn (lineH x b (txt kn f)) ⟨0, "held", [x],wT (ynC b), "", f⟩:=by
 have h32:32∉chs x:=λhc=>by have:=q8o hx hc;omega
 have yl:∀c∈ynC b,97<=c:=by cases b<;>decide
 have y32:32∉ynC b:=by cases b<;>decide
 have yn:ynC b≠[]/\(ynC b).length<=3:=by cases b<;>decide
 obtain⟨n1,n2⟩:=x5h hx
 have ec:chs (lineH x b (txt kn f))=(heldC++32::(chs x++32::(ynC b++[32])))++61::32::chs (txt kn f):=by
  unfold lineH;simp only[q20];rw[show chs (ynS b)=ynC b by cases b<;>rfl,show chs ("held ":Str)=heldC++[32]from rfl,show chs (" ":Str)=[32]from rfl,show chs (" = ":Str)=[32,61,32]from rfl];simp
 have wd:wds (heldC++32::(chs x++32::(ynC b++[32])))=[heldC,chs x,ynC b]:=by rw[q90 (by decide) (by decide),q90 h32 n1,q90 y32 yn.1];rfl
 obtain⟨e1,e2,e3,e4,e5⟩:=x87 hn hf ec (λc hc=>by
  simp only[w1f,w0d,w0k,or_false]at hc;rcases hc with hc|rfl|hc|rfl|hc|rfl
  ·exact .inr ((by decide:∀c∈heldC,97<=c) c hc)
  ·exact .inl rfl
  ·exact .inr (q8o hx hc).1
  ·exact .inl rfl
  ·exact .inr (yl c hc)
  ·exact .inl rfl) (by simp[heldC];omega)
 refine⟨e1,e2,e3,λk=>⟨⟨k, "held", [tx (chs x)],wT (ynC b),tx (32::chs (txt kn f)),f⟩,λn=>?_,?_,λ_=>x86 hn hf _ _ _ _⟩⟩
 ·grind [y6r,q21,chs,q1l]
 ·show Pt.mk 0 "held" [tx (chs x)] (wT (ynC b)) "" f=_;rw[show tx (chs x)=x from q1l x]
theorem y60(hn:∀x∈kn,okN x=true)(hf:Fine kn.length f)(hx:okN x=true):LineOk K a kn (lineO x (txt kn f)) ⟨0, "out", [x],.non, "", f⟩:=by
 have h32:32∉chs x:=λhc=>by have:=q8o hx hc;omega
 obtain⟨n1,n2⟩:=x5h hx
 have ec:chs (lineO x (txt kn f))=(outC++32::(chs x++[32]))++61::32::chs (txt kn f):=by
  unfold lineO;simp only[q20];rw[show chs ("out ":Str)=outC++[32]from rfl,show chs (" = ":Str)=[32,61,32]from rfl];simp
 have wd:wds (outC++32::(chs x++[32]))=[outC,chs x]:=by rw[q90 (by decide) (by decide),q90 h32 n1];rfl
 obtain⟨e1,e2,e3,e4,e5⟩:=x87 hn hf ec (λc hc=>by
  simp only[w1f,w0d,w0k,or_false]at hc;rcases hc with hc|rfl|hc|rfl
  ·exact .inr ((by decide:∀c∈outC,97<=c) c hc)
  ·exact .inl rfl
  ·exact .inr (q8o hx hc).1
  ·exact .inl rfl) (by simp[outC];omega)
 refine⟨e1,e2,e3,λk=>⟨⟨k, "out", [tx (chs x)],.non,tx (32::chs (txt kn f)),f⟩,λn=>?_,?_,λ_=>x86 hn hf _ _ _ _⟩⟩
 ·grind [z1u,q21,chs,q1l]
 ·show Pt.mk 0 "out" [tx (chs x)] .non "" f=_;rw[show tx (chs x)=x from q1l x]
noncomputable def qI(ins:List Str):Pt:=⟨0, "in", ins,.non, "", .is false⟩
noncomputable def qH(hn:List Str)(bs:List Bool)(fs:List Fm)(k:Nat):Pt:=⟨0, "held", [hn.getD k ""],wT (ynC (bs.getD k false)), "", fs.getD k (.is false)⟩
noncomputable def qO(on:List Str)(gs:List Fm)(k:Nat):Pt:=⟨0, "out", [on.getD k ""],.non, "", gs.getD k (.is false)⟩
noncomputable def qL(ins hn on:List Str)(bs:List Bool)(fs gs:List Fm)(i j:Nat):List Pt:=qI ins::((List.range i).map (qH hn bs fs)++(List.range j).map (qO on gs))
theorem x7z(ps qs)(x):namesOf (ps++qs) x=namesOf ps x++namesOf qs x:=by unfold namesOf;rw[w5d,w4y]
theorem x4q(hf:∀k,(f k).word=v/\(f k).names=[g k])(x)(l:List Nat):namesOf (l.map f) x=if v=x then l.map g else[]:=by
 induction l with
 |nil=>simp[namesOf]
 |cons k l ih=>
  rw[w0g,q3m,(hf k).1,(hf k).2,ih];split<;>rfl
theorem q8q(hi:i<=hn.length)(hj:j<=on.length)(x):namesOf (qL ins hn on bs fs gs i j) x=(if "in"=x then ins else[])++((if "held"=x then hn.take i else[])++(if "out"=x then on.take j else[])):=by
 unfold qL;rw[q3m,x7z,x4q (f:=qH hn bs fs) (g:=λk=>hn.getD k "") (v:="held") (λk=>⟨rfl,rfl⟩) x,x4q (f:=qO on gs) (g:=λk=>on.getD k "") (v:="out") (λk=>⟨rfl,rfl⟩) x,q6p hi,q6p hj]
 rfl
theorem y0j(hi:i<=hn.length)(hj:j<=on.length):namesOf (qL ins hn on bs fs gs i j) "in"=ins:=by rw[q8q hi hj,if_pos rfl,if_neg (by decide),if_neg (by decide),w1a,w1a]
theorem x0o(hi:i<=hn.length)(hj:j<=on.length):namesOf (qL ins hn on bs fs gs i j) "held"=hn.take i:=by rw[q8q hi hj,if_neg (by decide),if_pos rfl,if_neg (by decide),w1a];rfl
theorem x7c(hi:i<=hn.length)(hj:j<=on.length):namesOf (qL ins hn on bs fs gs i j) "out"=on.take j:=by rw[q8q hi hj,if_neg (by decide),if_neg (by decide),if_pos rfl];rfl
theorem x5i(hi:i<=hn.length)(hj:j<=on.length):taken (qL ins hn on bs fs gs i j)=ins++(hn.take i++on.take j):=by unfold taken;rw[y0j hi hj,x0o hi hj,x7c hi hj]
theorem x4r(ps)(p):lastW (ps++[p])=p.word:=by unfold lastW;rw[List.getLast?_append];rfl
theorem x88:lastW (qL ins hn on bs fs gs i 0)∈behind "held":=by
 cases i with
 |zero=>exact w0h
 |succ i=>
  unfold qL;rw[w3x,w0o,List.range_zero,w1v,w1a,<- w1b];show lastW (_++[_])∈_;rw[x4r];exact w0e _ w0h
theorem y61:lastW (qL ins hn on bs fs gs i j)∈behind "out":=by
 cases j with
 |zero=>exact(by decide:∀x∈behind "held", x∈behind "out") _ x88
 |succ j=>
  unfold qL;rw[w3x,w0o,<- w0j,<- w1b];show lastW (_++[_])∈_;rw[x4r];exact w0e _ (w0e _ w0h)
theorem x4s{l:List Str}(h:k<l.length):l.take k++[l.getD k ""]=l.take (k+1):=by
 simp_all
theorem stands(h3:ins.length<=3)(h4:hn.length<=4)(h6:on.length<=6)(nd:(ins++(hn++on)).Nodup)(ok:∀x∈ins++(hn++on),okN x=true/\x∉rowW)(b)(q)(d)(e:qL ins hn on bs fs gs hn.length on.length=b++q::d):Stand b q:=by
 cases b with
 |nil=>
  obtain⟨rfl,_⟩:=List.cons.inj e;exact⟨(by decide:("in":Str)∈rowW),(by decide:lastW []∈behind "in"),h3,λx hx=>ok x (w0p _ hx),(w2s.mp nd).1,by decide⟩
 |cons p b=>
  obtain⟨rfl,e1⟩:=List.cons.inj e
  replace e:(List.range hn.length).map (qH hn bs fs)++(List.range on.length).map (qO on gs)=b++q::d:=e1
  have hb:b=((List.range hn.length).map (qH hn bs fs)++(List.range on.length).map (qO on gs)).take b.length:=by rw[e,List.take_left' rfl]
  have hq:((List.range hn.length).map (qH hn bs fs)++(List.range on.length).map (qO on gs))[b.length]?=some q:=by rw[e,w1j (w0a _),Nat.sub_self];rfl
  generalize b.length=i at hb hq;rcases w5g i hn.length with h|h
  ·rw[w2u (by simpa using h),w2q,w3w h]at hq;cases hq;rw[List.take_append_of_le_length (by simp;omega),<- w4i,List.take_range,w2e (by omega)]at hb;have e:qI ins::b=qL ins hn on bs fs gs i 0:=by rw[hb];unfold qL;simp
   rw[e];refine⟨(by decide:("held":Str)∈rowW),x88,?_,λx hx=>?_,?_,?_⟩
   ·show(namesOf _ "held"++[hn.getD i ""]).length<=4;rw[x0o (by omega) (by omega)];simp;omega
   ·rw[w1k.mp hx];exact ok _ (w0c _ (w0p _ (q1n h)))
   ·show(_++[hn.getD i ""]).Nodup;rw[x5i (by omega) (by omega),List.take_zero,w1a,w0j,x4s h]
    grind
   ·rw[x5i (by omega) (by omega)];simp;omega
  ·obtain⟨j,rfl⟩:=Nat.exists_eq_add_of_le h;rw[w1j (by simp),w0i,List.length_range,w3f,w2q]at hq;rcases w5g j on.length with hj|hj
   ·rw[w3w hj]at hq;cases hq;rw[List.take_append,w2l (by simp),w0i,List.length_range,w3f,<- w4i,List.take_range,w2e (by omega)]at hb;have e:qI ins::b=qL ins hn on bs fs gs hn.length j:=by rw[hb];rfl
    rw[e];refine⟨(by decide:("out":Str)∈rowW),y61,?_,λx hx=>?_,?_,?_⟩
    ·show(namesOf _ "out"++[on.getD j ""]).length<=6;rw[x7c (by omega) (by omega)];simp;omega
    ·rw[w1k.mp hx];exact ok _ (w0c _ (w0c _ (q1n hj)))
    ·show(_++[on.getD j ""]).Nodup;rw[x5i (by omega) (by omega),w0j,w0j,x4s hj,w2x];exact nd.sublist (.append (.refl _) (.append (.refl _) (List.take_sublist _ _)))
    ·rw[x5i (by omega) (by omega)];simp;omega
   ·rw[w3n (by simpa using hj)]at hq;cases hq
theorem y62(hb:hn.length=bs.length)(hf:bs.length<=fs.length)(ho:on.length=fs.length-bs.length):sheetW (qL ins hn on bs fs (fs.drop bs.length) hn.length on.length)=.tup [nmT ins hn on,encC ins.length bs fs]:=by
 have e1:formsW (qL ins hn on bs fs (fs.drop bs.length) hn.length on.length)=fs.map enc:=by
  unfold formsW qL
  rw[w4j (p:=inB) (a:=qI ins) (show ¬(!decide (("in":Str)="in"))=true by decide),w2k.mpr λp hp=>by
   rcases w1f.mp hp with hp|hp<;>(obtain⟨k,_,rfl⟩:=w0r.mp hp;rfl)]
  rw[w0o,w0x,w0x];have key:∀(l:List Fm)(k:Nat),k<=l.length->(List.range k).map (λk=>enc (l.getD k (.is false)))=(l.take k).map enc:=λl k h=>by rw[<- q6p (d:=Fm.is false) h,w0x];rfl
  refine(congr (congrArg _ (key fs hn.length (by omega))) (key (fs.drop bs.length) on.length (by rw[w1e];omega))).trans ?_
  grind [List.take_append_drop]
 have e2:firstsW (qL ins hn on bs fs (fs.drop bs.length) hn.length on.length)=bs.map .bl:=by
  unfold firstsW qL;rw[w4j (p:=heldB) (a:=qI ins) (show ¬decide (("in":Str)="held")=true by decide),w5d,w2k.mpr (λp hp=>by obtain⟨k,_,rfl⟩:=w0r.mp hp;rfl),List.filter_eq_nil_iff.mpr (λp hp=>by obtain⟨k,_,rfl⟩:=w0r.mp hp;show ¬decide (("out":Str)="held")=true;decide),w1a,w0x]
  have:(List.range hn.length).map ((λp:Pt=>W.bl (yesB p.first)) ∘ qH hn bs fs)=((List.range hn.length).map λk=>bs.getD k false).map .bl:=by
   rw[w0x];refine w1y λk _=>?_
   show W.bl (yesB (wT (ynC (bs.getD k false))))=.bl (bs.getD k false);cases bs.getD k false<;>rfl
  rw[this,q6p (by omega),hb,w2x]
 unfold sheetW namesT nmT encC;rw[e1,e2];simp[rowW,y0j,x0o,x7c]
noncomputable def prL(ins hn on:List Str)(bs:List Bool)(fs:List Fm):List (Str×Pt):=(lineI ins,qI ins)::((List.range bs.length).map (λk=>(ln1 (ins++hn) hn bs fs k,qH hn bs fs k))++(List.range (fs.drop bs.length).length).map λk=>(ln2 (ins++hn) on (fs.drop bs.length) k,qO on (fs.drop bs.length) k))
theorem x7d(hb:hn.length=bs.length)(hf:bs.length<=fs.length)(ho:on.length=fs.length-bs.length)(h3:ins.length<=5)(ok:∀x∈ins++(hn++on),okN x=true/\x∉rowW)(fine:∀f∈fs,Fine (ins++hn).length f)(pr)(hp:pr∈prL ins hn on bs fs):LineOk K a (ins++hn) pr.1 pr.2:=by
 have ho2:on.length=(fs.drop bs.length).length:=by rw[w1e];omega
 have kn:∀x∈ins++hn,okN x=true:=λx hx=>(ok x (by rw[<- w0j];exact w0p _ hx)).1
 have gf:∀(l:List Fm)(k:Nat),k<l.length->(∀f∈l,f∈fs)->Fine (ins++hn).length (l.getD k (.is false)):=λl k h hl=>by
  grind
 rcases w0d.mp hp with rfl|hp
 ·exact z2b (λx hx=>(ok x (w0p _ hx)).1) (by omega)
 ·rcases w1f.mp hp with hp|hp
  ·obtain⟨k,hk,rfl⟩:=w0r.mp hp;have hk:=w1h.mp hk;exact y3s kn (gf fs k (by omega) λ_ h=>h) (ok _ (w0c _ (w0p _ (q1n (by omega))))).1 _
  ·obtain⟨k,hk,rfl⟩:=w0r.mp hp;have hk:=w1h.mp hk;exact y60 kn (gf _ k hk λ_ h=>w3r h) (ok _ (w0c _ (w0c _ (q1n (by omega))))).1
theorem x7e:linesL ins hn on bs fs=(prL ins hn on bs fs).map (·.1):=by simp[linesL,prL,Function.comp_def]
theorem y3t(n)(hb:hn.length=bs.length)(hf:bs.length<=fs.length)(ho:on.length=fs.length-bs.length)(h3:ins.length<=3)(h4:hn.length<=4)(h6:on.length<=6)(nd:(ins++(hn++on)).Nodup)(ok:∀x∈ins++(hn++on),okN x=true/\x∉rowW)(fine:∀f∈fs,Fine (ins++hn).length f):
  run K a (n+6) q2f [.str (catT (linesL ins hn on bs fs))]=.ok (.fr (.tup [nmT ins hn on,encC ins.length bs fs])):=by
 have ho2:on.length=(fs.drop bs.length).length:=by rw[w1e];omega
 have kn:∀x∈ins++hn,okN x=true:=λx hx=>(ok x (by rw[<- w0j];exact w0p _ hx)).1
 have eQ:qL ins hn on bs fs (fs.drop bs.length) hn.length on.length=(prL ins hn on bs fs).map (·.2):=by
  unfold qL prL;rw[hb,ho2];simp[Function.comp_def]
 have lok:=x7d (K:=K) (a:=a) hb hf ho (by omega) ok fine;have plen:(prL ins hn on bs fs).length<=11:=by unfold prL;simp;omega
 rw[x7e];obtain⟨ps,r1,r2,r3⟩:=x84 (K:=K) (a:=a) (kn:=ins++hn) (stands (bs:=bs) (fs:=fs) (gs:=fs.drop bs.length) h3 h4 h6 nd ok) (prL ins hn on bs fs) [] 0 eQ lok;have len:=x69 (ls:=(prL ins hn on bs fs).map (·.1)) (b:=6000) λl h=>by obtain⟨pr,hp,rfl⟩:=w0r.mp h;exact(lok pr hp).2.2.1
 rw[w0i]at len;unfold catT at len |-
 rw[q0u]at len;have len:(((prL ins hn on bs fs).map (·.1)).flatMap λl=>chs l++[10]).length<=100000:=by omega
 have R:=r1;rw[<- x85 λl h=>by obtain⟨pr,hp,rfl⟩:=w0r.mp h;exact(lok pr hp).2.1]at R
 have eP:ps.map kq=qL ins hn on bs fs (fs.drop bs.length) hn.length on.length:=by rw[r2,eQ]
 have nk:∀x,namesOf ps x=namesOf (qL ins hn on bs fs (fs.drop bs.length) hn.length on.length) x:=λx=>by rw[<- q5o,eP]
 have pl:ps.length=(prL ins hn on bs fs).length:=by have:=congrArg List.length r2;simpa using this
 have sh:Sheet (ins++hn) ps:=⟨λz=>by rw[z]at pl;unfold prL at pl;simp at pl,by omega,kn,by rw[<- w0j]at nd;exact(w2s.mp nd).1,by simp;omega,λx=>by
  rw[nk,q8q (w0a _) (w0a _)];simp only[w0u];split<;>split<;>split<;>simp<;>omega,by rw[nk,nk,y0j (w0a _) (w0a _),x0o (w0a _) (w0a _),w2x],r3⟩
 rw[y6v n len R sh λp hp hw=>?_,<- y6z,eP,y62 hb hf ho]
 have:kq p∈qL ins hn on bs fs (fs.drop bs.length) hn.length on.length:=by rw[<- eP];exact w3y hp
 unfold qL at this;rcases w0d.mp this with e|e
 ·have e:=congrArg Pt.word e;rw[show(kq p).word=p.word from rfl,hw]at e;exact absurd e (show("held":Str)≠"in" by decide)
 ·rcases w1f.mp e with e|e
  ·obtain⟨k,_,e⟩:=w0r.mp e;exact⟨_,(congrArg Pt.first e).symm⟩
  ·obtain⟨k,_,e⟩:=w0r.mp e;have e:=congrArg Pt.word e;rw[show(kq p).word=p.word from rfl,hw]at e;exact absurd e (show("out":Str)≠"held" by decide)
theorem q4t{bs:List Bool}{fs:List Fm}(h:bs.length<=fs.length):(pairW (bs.map .bl) ((fs.take bs.length).map enc)).length=bs.length:=by
 unfold pairW;simp;omega
theorem z2c{j:Nat}(h:k<=j)(hj:j<=l.length):cutW l (some (k:Int)) (some (j:Int))=(l.drop k).take (j-k):=by
 unfold cutW;rw[HT.sIx_nat,HT.sIx_nat,w2e hj,w2e (by omega)]
theorem y3u(n)(ns:List Int)(m)(bs)(fs)(h1:m+bs.length<=5)(h2:bs.length<=fs.length)(h3:fs.length<=bs.length+6):∃xs:List Str,xs.length=m+fs.length/\xs.Nodup/\(∀x∈xs,okN x=true/\x∉rowW)/\run K a (n+3) q2h [.lst (ns.map .int),encC m bs fs]=.ok (.fr (.tup [.tup ((xs.take m).map .str),.tup (((xs.drop m).take bs.length).map .str),.tup ((xs.drop (m+bs.length)).map .str)])):=by
 obtain⟨xs,x1,x2,x3,x4⟩:=y6w (K:=K) (a:=a) n (ns.getD 9 0) (m+fs.length) (by omega);refine⟨xs,x1,x2,x3,?_⟩;rw[q5m];unfold q48 encC;walk_at "d";rw[q4t h2,q7a (n+1) ns (k:=9) (by omega)];walk_at "d";rw[show((m:Int)+(bs.length:Int)+(((fs.drop bs.length).map enc).length:Int))=((m+fs.length:Nat):Int) by simp;omega,x4];walk_at "d";rw[x2w (by simp;omega),show((m:Int)+(bs.length:Int))=((m+bs.length:Nat):Int) by omega,q7c (by simp;omega)];rw[z2c (by omega) (by simp;omega),w3f,<- w4i,<- w5b,<- w5b,<- w4i]
theorem x0p{l:List Str}(h:k<l.length):atI (l.map W.str) (k:Int)=some (.str (l.getD k "")):=by
 rw[z1f h,w0z,w0b h];rfl
theorem z9e(b):atI [W.str "no", .str "yes"] (if b=true then 1 else 0)=some (.str (ynS b)):=by cases b<;>rfl
theorem z61{l:List Fm}(h:k<l.length):atI (l.map enc) (k:Int)=some (enc (l.getD k (.is false))):=q4j (by grind)
theorem x3m{bs:List Bool}{fs:List Fm}(h:k<bs.length)(h2:bs.length<=fs.length):atI (pairW (bs.map .bl) ((fs.take bs.length).map enc)) (k:Int)=some (.tup [.bl (bs.getD k false),enc (fs.getD k (.is false))]):=by
 grind [q4j,pairW]
noncomputable def Pl(d:Nat)(w:W):Prop:=eqW w w=some true/\depW w<=d
theorem x7f:∀{ws:List W},(∀w∈ws,Pl d w)->eqWs ws ws=some true/\depWs ws<=d
 |[],_=>⟨rfl,w1d _⟩
 |w::ws,h=>by
  obtain⟨h1,h2⟩:=h w w0h;obtain⟨h3,h4⟩:=x7f λx hx=>h x (w0e w hx)
  refine⟨?_,Nat.max_le.mpr ⟨h2,h4⟩⟩
  grind [eqWs]
theorem q7e(h:∀w∈ws,Pl d w):Pl (d+1) (.tup ws):=by
 obtain⟨h1,h2⟩:=x7f h;refine⟨by rw[eqW];exact h1,?_⟩;show depWs ws+1<=_;omega
theorem z62(d)(x):Pl d (.str x):=⟨by simp[eqW],w1d _⟩
theorem z9f(ins hn on):Pl 2 (nmT ins hn on):=by
 have:∀l:List Str,Pl 1 (.tup (l.map .str)):=λl=>q7e λw hw=>by obtain⟨x,_,rfl⟩:=w0r.mp hw;exact z62 0 x
 refine q7e λw hw=>?_
 grind
theorem y3v(h:f.depth<=6):Pl 6 (enc f):=⟨q4s f,w0s (q3l f) h⟩
theorem y7o(h:Pl d w)(he:d<=e):Pl e w:=⟨h.1,w0s h.2 he⟩
theorem pl_P{bs:List Bool}{fs:List Fm}(h:∀f∈fs,f.depth<=6)(w)(hw:w∈pairW (bs.map .bl) ((fs.take bs.length).map enc)):Pl 7 w:=by
 unfold pairW at hw;obtain⟨⟨x,y⟩,hp,rfl⟩:=w0r.mp hw;obtain⟨hx,hy⟩:=w3t hp;obtain⟨b,_,rfl⟩:=w0r.mp hx;obtain⟨f,hf,rfl⟩:=w0r.mp hy;refine q7e λw hw=>?_
 simp only[w0d,w0k,or_false]at hw;rcases hw with rfl|rfl
 ·exact⟨by simp[eqW],w1d _⟩
 ·exact y3v (h f (List.mem_of_mem_take hf))
theorem pl_G{fs:List Fm}(h:∀f∈fs,f.depth<=6)(w)(hw:w∈(fs.drop n).map enc):Pl 7 w:=by
 obtain⟨f,hf,rfl⟩:=w0r.mp hw;exact y7o (y3v (h f (w3r hf))) (by omega)
theorem pl_C(h:∀f∈fs,f.depth<=6):Pl 9 (encC m bs fs):=by
 refine q7e λw hw=>?_
 simp only[w0d,w0k,or_false]at hw;rcases hw with rfl|rfl|rfl
 ·exact⟨by simp[eqW],w1d _⟩
 ·exact q7e (pl_P h)
 ·exact q7e (pl_G h)
theorem q91(hk:okAll [] kn=true)(h:f.inb kn.length):shB kn f=true:=by
 unfold shB;rw[hk,(q4q _ f).mpr h];rfl
theorem y63(n)(w0 v0 v2 y0 y2)(hl:∀x∈kn,limS x)(h5:kn.length<=9)(hk:okAll [] kn=true)(k:Nat)(h1:k<bs.length)(hb:bs.length<=fs.length)(h2:k<hn.length)(hx:∀x∈hn,x.length<=8)(hg:∀f∈fs,Fine kn.length f)(due)(hd:due.length<=100000)(z6 z7 z8 z9):
  ∃t6 t7,x0i K a (run K a (n+15)) [.fr w0,.fr (.tup [v0,.tup (pairW (bs.map .bl) ((fs.take bs.length).map enc)),v2]),.fr (.tup [y0,.tup (hn.map .str),y2]),.fr (.tup (kn.map .str)),.fr (.str due),.fr (.int k),z6,z7,z8,z9]=.nx [.fr w0,.fr (.tup [v0,.tup (pairW (bs.map .bl) ((fs.take bs.length).map enc)),v2]),.fr (.tup [y0,.tup (hn.map .str),y2]),.fr (.tup (kn.map .str)),.fr (.str (due++(ln1 kn hn bs fs k++"\n"))),.fr (.int k),t6,t7,z8,z9]:=by
 have h3:k<fs.length:=by omega
 have hf:Fine kn.length (fs.getD k (.is false)):=by
  rw[w0z,w0b h3];exact hg _ (w1s h3)
 obtain⟨f1,f2,f3⟩:=hf;have ht:=q76 (q91 hk f1) f3;have hy:(ynS (bs.getD k false)).length<=3:=by cases bs.getD k false<;>decide
 have hx:=hx _ (q1n h2);unfold x0i;walk_at "d";rw[x3m h1 hb];walk_at "d";rw[z9e];walk_at "d";rw[x3m h1 hb];walk_at "d";rw[q7m (n+11) hl (by omega) _ (by omega) (by omega),if_pos (q91 hk f1)];walk_at "d";rw[x0p h2];walk_at "d";have c1:("held ":Str).length=5:=rfl;have c2:(" = ":Str).length=3:=rfl;have c3:(" ":Str).length=1:=rfl;have c4:("\n":Str).length=1:=rfl;rw[if_pos (by omega)];walk_at "d"
 iterate 6
  rw[if_pos (by simp only[q2k];omega)];walk_at "d"
 unfold ln1 lineH;simp only[x4l];exact⟨_,_,rfl⟩
theorem z2d(n)(w0 v0 v1 y0 y1)(hl:∀x∈kn,limS x)(h5:kn.length<=9)(hk:okAll [] kn=true)(k:Nat)(h1:k<gs.length)(h2:k<on.length)(hx:∀x∈on,x.length<=8)(hg:∀f∈gs,Fine kn.length f)(due)(hd:due.length<=100000)(z6 z7 z8 z9):
  x0h K a (run K a (n+15)) [.fr w0,.fr (.tup [v0,v1,.tup (gs.map enc)]),.fr (.tup [y0,y1,.tup (on.map .str)]),.fr (.tup (kn.map .str)),.fr (.str due),.fr (.int k),z6,z7,z8,z9]=.nx [.fr w0,.fr (.tup [v0,v1,.tup (gs.map enc)]),.fr (.tup [y0,y1,.tup (on.map .str)]),.fr (.tup (kn.map .str)),.fr (.str (due++(ln2 kn on gs k++"\n"))),.fr (.int k),z6,z7,z8,z9]:=by
 have hf:Fine kn.length (gs.getD k (.is false)):=by
  rw[w0z,w0b h1];exact hg _ (w1s h1)
 obtain⟨f1,f2,f3⟩:=hf;have ht:=q76 (q91 hk f1) f3;have hx:=hx _ (q1n h2);have c1:("out ":Str).length=4:=rfl;have c2:(" = ":Str).length=3:=rfl;have c4:("\n":Str).length=1:=rfl;unfold x0h;walk_at "d";rw[if_pos (by omega)];walk_at "d";rw[x0p h2];walk_at "d"
 iterate 2
  rw[if_pos (by simp only[q2k];omega)];walk_at "d"
 rw[z61 h1];walk_at "d";rw[q7m (n+11) hl (by omega) _ (by omega) (by omega),if_pos (q91 hk f1)];walk_at "d"
 iterate 2
  rw[if_pos (by simp only[q2k];omega)];walk_at "d"
 unfold ln2 lineO;simp only[x4l]
theorem x89(w)(m:Nat)(h:m<=1000):repW (.lst [w]) (.int (m:Int))=some (.lst (List.replicate m w)):=by
 rw[z5u,if_pos ⟨q30 (by omega) (by omega),by simp;omega⟩,w1w]
 simp_all
theorem x9a(n)(hx:exmOne K (.ref c) (.ref a.CircuitError)=some true)(hc:excClsIn K c=true)(h1:kitOne K (.ref c) (.ref a.NoName)=some b)(h2:kitOne K (.ref c) (.ref a.NoPlace)=some (!b))(h3:kitOne K (.ref c) (.type "ValueError")=some true)(h:run K a n q1g [N,C]=.ex (.ref c)):run K a (n+1) q1m [N,C]=.ok (.fr (.str (if b=true then "name" else "place"))):=by
 rw[q59];unfold q5v;walk_at "d";rw[h];walk_at "d";rw[z6h hx];walk_at "d";rw[show isW (.exc (.ref c)) .non=some (.bl false)from rfl];walk_at "d";rw[q7w hc h1];walk_at "d";have r0:∀w:W,repW (.lst [w]) (.int 0)=some (.lst []):=λw=>x89 w 0 (by decide)
 have r1:∀w:W,repW (.lst [w]) (.int 1)=some (.lst [w]):=λw=>x89 w 1 (by decide)
 cases b
 ·rw[if_neg (by decide),r0];walk_at "d";rw[q7w hc h2];walk_at "d";rw[r1];walk_at "d";rw[q7w hc h3];walk_at "d"
 ·rw[if_pos rfl,r1];walk_at "d";rw[q7w hc h2];walk_at "d";rw[r0];walk_at "d";rw[q7w hc h3];walk_at "d"
theorem x9b(M:Exs K mg a)(n)(h:run K a n q1g [N,C]=.ex (.ref (shX a kn))):run K a (n+1) q1m [N,C]=.ok (.fr (.str (if okAll [] kn=true then "place" else "name"))):=by
 unfold shX at h;cases q:okAll [] kn with
 |true=>
  rw[q,if_pos rfl]at h;exact x9a n M.x_NoPlace_CircuitError M.c_NoPlace M.k_NoPlace_NoName M.k_NoPlace_NoPlace M.k_NoPlace_ValueError h
 |false=>
  rw[q,if_neg (by decide)]at h;exact x9a n M.x_NoName_CircuitError M.c_NoName M.k_NoName_NoName M.k_NoName_NoPlace M.k_NoName_ValueError h
theorem x0q(n)(ws)(w)(k:Nat)(h:k<ws.length)(hl:ws.length<=100):run K a (n+1) q13 [.tup ws,.int k,w]=.ok (.fr (.tup (ws.set k w))):=by
 rw[q68];unfold q6g;walk_at "d";rw[y7k (by rw[HT.sIx_nat];omega),x2w (by omega)];walk_at "d";rw[if_pos (by simp;omega)];walk_at "d";rw[show((k:Int)+1)=((k+1:Nat):Int) by omega,y7k (by rw[HT.sIx_nat];omega),q7c (by omega)];walk_at "d";rw[if_pos (by simp;omega),List.set_eq_take_append_cons_drop,if_pos h];simp
noncomputable def badW:List Str:=["and", "abcdefghi", "aB", "a1", "", "not", "a b", "or"]
theorem y3w:∀x∈badW,okN x=false/\limS x:=by
 intro x h;simp only[badW,w0d,w0k,or_false]at h;rcases h with rfl|rfl|rfl|rfl|rfl|rfl|rfl|rfl<;>exact⟨by decide,by decide,by decide⟩
theorem z2e(hp:p<kn.length)(hy:y≠kn.getD p "")(hb:y∈badW\/y∈kn):okAll [] (kn.set p y)=false:=by
 refine w3g.mpr λh=>?_
 obtain⟨h1,h2⟩:=(q4o [] _ w2v).mp h;rcases hb with hb|hb
 ·have:=h1 y (List.mem_set hp y);rw[(y3w y hb).1]at this;exact absurd this (by decide)
 ·obtain⟨q,hq,e⟩:=w4u.mp hb;have hpq:p≠q:=λz=>hy (by subst z;simp[hq,e])
  have n2:(kn.set p y).Nodup:=h2;have:=(List.getElem_inj (i:=p) (j:=q) (h₀:=by simpa using hp) (h₁:=by simpa using hq) n2).mp (by rw[List.getElem_set_self,List.getElem_set_ne hpq,e]);exact hpq this
theorem q6q(c)(h:0<L):∃p:Nat,p<L/\c%(L:Int)=(p:Int):=⟨(c%(L:Int)).toNat,by have:=w1c c (b:=(L:Int)) (by omega);have:=w1g c (b:=(L:Int)) (by omega);omega,by have:=w1g c (b:=(L:Int)) (by omega);omega⟩
theorem y64(hq:q<kn.length)(c):∃x,atI [W.str "and", .str "abcdefghi", .str "aB", .str "a1", .str "", .str "not", .str "a b", .str (kn.getD q "")] (c%8)=some (.str x)/\(x∈badW\/x∈kn):=by
 obtain⟨p,h,e⟩:=q6q c (L:=8) (by decide);rw[show(8:Int)=((8:Nat):Int)from rfl,e];have:p=0\/p=1\/p=2\/p=3\/p=4\/p=5\/p=6\/p=7:=by omega
 rcases this with rfl|rfl|rfl|rfl|rfl|rfl|rfl|rfl
 ·exact⟨_,rfl,.inl (by decide)⟩
 ·exact⟨_,rfl,.inl (by decide)⟩
 ·exact⟨_,rfl,.inl (by decide)⟩
 ·exact⟨_,rfl,.inl (by decide)⟩
 ·exact⟨_,rfl,.inl (by decide)⟩
 ·exact⟨_,rfl,.inl (by decide)⟩
 ·exact⟨_,rfl,.inl (by decide)⟩
 ·exact⟨_,rfl,.inr (q1n hq)⟩
theorem z2f(n)(c)(h0:0<(ins++hn).length)(h9:(ins++hn).length<=9)(ok:∀x∈ins++hn,okN x=true):
  ∃ins' hn',run K a (n+2) q1j [nmT ins hn on,.int c]=.ok (.fr (nmT ins' hn' on))/\ins'.length=ins.length/\hn'.length=hn.length/\okAll [] (ins'++hn')=false/\∀x∈ins'++hn',limS x:=by
 obtain⟨q,hq,eq⟩:=q6q (c / 7) h0;obtain⟨p,hp,ep⟩:=q6q (c / 64) h0;obtain⟨x,ex,hx⟩:=y64 hq c
 obtain⟨y,ey,hy,hyk⟩:∃y:Str,y=(if(ins++hn).getD p ""=x then("or":Str)else x)/\y≠(ins++hn).getD p "" /\ (y∈badW\/y∈ins++hn):=by
  by_cases z:(ins++hn).getD p ""=x
  ·rw[if_pos z];refine⟨_,rfl,λw=>?_,.inl (by decide)⟩
   have:=ok _ (q1n hp);rw[<- w]at this;exact absurd this (by decide)
  ·rw[if_neg z];exact⟨_,rfl,λw=>z w.symm,hx⟩
 have lim:∀z∈(ins++hn).set p y,limS z:=λz hz=>by
  rcases w4e hz with hz|rfl
  ·exact q4p (ok z hz)
  ·rcases hyk with h|h
   ·exact(y3w _ h).2
   ·exact q4p (ok _ h)
 have bad:=z2e hp hy hyk;rw[w0u]at h9 h0;rw[q3j];unfold q2t nmT;walk_at "d";rw[if_pos (by simp;omega),<- w0o];walk_at "d";rw[w0i,if_pos (by simp;omega),eq,x0p hq];walk_at "d";rw[ex];walk_at "d";rw[w0i,if_pos (by simp;omega),ep,x0p hp];walk_at "d"
 by_cases z:(ins++hn).getD p ""=x
 all_goals
  simp only[z,if_true,if_false]at ey;simp only[z,decide_true,decide_false];walk_at "d";rw[<- ey]
  by_cases w:p<ins.length
  ·rw[if_pos (by simp;omega),x0q n _ _ p (by simpa using w) (by simp;omega),<- w5h];walk_at "d";rw[List.set_append_left _ _ w]at bad lim;exact⟨ins.set p y,hn,rfl,by simp,rfl,bad,lim⟩
  ·rw[w0u]at hp;rw[if_neg (by simp;omega),w0i,show((p:Int)-(ins.length:Int))=((p-ins.length:Nat):Int) by omega,x0q n _ _ (p-ins.length) (by simp;omega) (by simp;omega),<- w5h];walk_at "d";rw[List.set_append_right _ _ (by omega)]at bad lim;exact⟨ins,hn.set (p-ins.length) y,rfl,rfl,by simp,bad,lim⟩
theorem y65{bs:List Bool}{fs:List Fm}(hq:q<bs.length)(hb:bs.length<=fs.length):(pairW (bs.map .bl) ((fs.take bs.length).map enc)).set q (.tup [.bl (bs.getD q false),enc g])=pairW (bs.map .bl) (((fs.set q g).take bs.length).map enc):=by
 refine w2z (by simp[pairW]) λk h h'=>?_
 grind [pairW]
theorem z2g(n m)(c)(hb:bs.length<=fs.length)(h0:0<fs.length)(h20:fs.length<=20):∃q r:Nat,q<fs.length/\run K a (n+2) q40 [encC m bs fs,.int c]=.ok (.fr (encC m bs (fs.set q (.not (.at (m+bs.length+r)))))):=by
 obtain⟨q,hq,eq⟩:=q6q (c / 3) h0;obtain⟨r,hr,er⟩:=q6q c (L:=3) (by decide);refine⟨q,r,hq,?_⟩;rw[q69];unfold q6h encC;walk_at "d";rw[q4t hb,show c%3=(r:Int)from er,show((m:Int)+(bs.length:Int)+(r:Int))=((m+bs.length+r:Nat):Int) by omega,show((bs.length:Int)+(((fs.drop bs.length).map enc).length:Int))=(fs.length:Int) by simp;omega,if_pos (by omega),eq];walk_at "d"
 by_cases w:q<bs.length
 ·rw[if_pos (by omega),x3m w hb];walk_at "d";rw[show W.tup [.str "not", .tup [.str "at", .int ((m+bs.length+r:Nat):Int)]]=enc (.not (.at (m+bs.length+r)))from rfl,x0q n _ _ q (by rw[q4t hb];exact w) (by rw[q4t hb];omega),y65 w hb];walk_at "d";rw[List.drop_set,if_pos w]
 ·rw[if_neg (by omega),show((q:Int)-(bs.length:Int))=((q-bs.length:Nat):Int) by omega,show W.tup [.str "not", .tup [.str "at", .int ((m+bs.length+r:Nat):Int)]]=enc (.not (.at (m+bs.length+r)))from rfl,x0q n _ _ (q-bs.length) (by simp;omega) (by simp;omega),<- w5h];walk_at "d";rw[List.drop_set,if_neg w,List.take_set,List.set_eq_of_length_le (l:=fs.take bs.length) (by simp;omega)]
theorem x7g:∀ys:List Str,depWs (ys.map .str)=0
 |[]=>rfl
 |y::ys=>by
  show max (depW (.str y)) (depWs (ys.map .str))=0;rw[x7g ys];rfl
theorem x9c(h:depWs ws<=100):eq2 (.tup ws) (.tup [])=some (.bl (decide (ws=[])))/\ne2 (.tup ws) (.tup [])=some (.bl (!decide (ws=[]))):=by
 constructor
 ·show(if depWs ws+1<=150 then(eqWs ws []).map W.bl else none)=_;rw[if_pos (by omega)];cases ws<;>rfl
 ·show(if depWs ws+1<=150 then(eqWs ws []).map λb=>W.bl (!b)else none)=_
  rw[if_pos (by omega)];cases ws<;>rfl
theorem y3x(M:Exs K mg a)(n m)(hb:hn.length=bs.length)(hf:bs.length<=fs.length)(ho:on.length=fs.length-bs.length)(h5:ins.length<=5)(h6:fs.length<=20)(lim:∀x∈ins++(hn++on),limS x)(sm:∀f∈fs,f.depth<=6/\f.size<=12)(bad:okAll [] (ins++hn)=false)(h0:0<fs.length):
  run K a (n+16) q1m [nmT ins hn on,encC m bs fs]=.ok (.fr (.str "name")):=by
 have:=x9b M (n+15) ((q9z n m hb hf ho h5 h6 lim sm).trans (if_neg λz=>by
  have:=w0y.mp z _ (w1s h0);unfold shB at this;rw[bad]at this;exact Bool.noConfusion this))
 rw[bad]at this;exact this
theorem x70(M:Exs K mg a)(n)(c)(hb:hn.length=bs.length)(hf:bs.length<=fs.length)(ho:on.length=fs.length-bs.length)(h5:(ins++hn).length<=5)(h6:fs.length<=20)(nd:(ins++(hn++on)).Nodup)(ok:∀x∈ins++(hn++on),okN x=true)(sm:∀f∈fs,f.depth<=6/\f.size<=12)(h0:0<fs.length):
  run K a (n+17) q2i [nmT ins hn on,encC ins.length bs fs,.int c]=.ok (.fr (.bl true)):=by
 have okk:∀x∈ins++hn,okN x=true:=λx h=>ok x (by rw[<- w0j];exact w0p _ h)
 have okn:okAll [] (ins++hn)=true:=(q4o [] _ w2v).mpr ⟨okk,by rw[<- w0j]at nd;exact(w2s.mp nd).1⟩;obtain⟨q,r,hq,fr⟩:=z2g (K:=K) (a:=a) (n+14) ins.length (c / 3) hf h0 h6;have l5:=h5;rw[w0u]at l5
 have sm':∀f∈fs.set q (.not (.at (ins.length+bs.length+r))),f.depth<=6/\f.size<=12:=λf h=>by
  rcases w4e h with h|rfl
  ·exact sm f h
  ·exact⟨(by decide:2<=6),(by decide:2<=12)⟩
 have place:run K a (n+16) q1m [nmT ins hn on,encC ins.length bs (fs.set q (.not (.at (ins.length+bs.length+r))))]=.ok (.fr (.str "place")):=by
  have:=x9b M (n+15) ((q9z n ins.length (ins:=ins) hb (by rw[w3e];exact hf) (by rw[w3e];exact ho) (by omega) (by rw[w3e];exact h6) (λx h=>q4p (ok x h)) sm').trans (if_neg λz=>by
   have:=w0y.mp z _ (List.mem_set hq _);unfold shB at this;rw[okn,w5c,show inF _ (.not (.at (ins.length+bs.length+r)))=decide (ins.length+bs.length+r<(ins++hn).length)from rfl,decide_eq_true_eq,w0u]at this;omega))
  rw[okn]at this;exact this
 have name:∀{fs':List Fm},fs'.length=fs.length->(∀f∈fs',f.depth<=6/\f.size<=12)->0<(ins++hn).length->∃N,run K a (n+16) q1j [nmT ins hn on,.int (c / 3)]=.ok (.fr N)/\run K a (n+16) q1m [N,encC ins.length bs fs']=.ok (.fr (.str "name")):=λ{fs'} e sm' hk=>by
  obtain⟨i',h',e1,e2,e3,e4,e5⟩:=z2f (K:=K) (a:=a) (n+14) (on:=on) (c / 3) hk (by omega) okk;refine⟨_,e1,y3x M n ins.length (by omega) (by omega) (by omega) (by omega) (by omega) (λx h=>?_) sm' e4 (by omega)⟩
  grind [q4p]
 rw[q4h];unfold q3w;walk_at "d";have i0:ixN 2 0=some 0:=rfl;have i1:ixN 2 1=some 1:=rfl;rw[show ixW (nmT ins hn on) (.int 0)=some (.tup (ins.map .str))from rfl];walk_at "d";rw[show ixW (nmT ins hn on) (.int 1)=some (.tup (hn.map .str))from rfl];walk_at "d";rw[if_pos (by simp;omega),<- w0o];walk_at "d";rw[(x9c (by rw[x7g];omega)).1];walk_at "d"
 by_cases z:ins++hn=[]
 ·simp only[z,w1v,decide_true];walk_at "d";rw[fr];walk_at "d";rw[i1];walk_at "d";rw[place];walk_at "d"
 ·simp only[List.map_eq_nil_iff,z,decide_false];walk_at "d";obtain⟨w,hw,ew⟩:=q6q c (L:=3) (by decide);rw[show c%3=(w:Int)from ew];have hk:=w3b.mpr z;obtain rfl|rfl|rfl:w=0\/w=1\/w=2:=by omega
  ·obtain⟨N,e1,e2⟩:=name rfl sm hk;simp only[Int.natCast_zero];walk_at "d";rw[e1];walk_at "d";rw[i0];walk_at "d";rw[e2];walk_at "d"
  ·simp only[Int.natCast_one];walk_at "d";rw[fr];walk_at "d";rw[i1];walk_at "d";rw[place];walk_at "d"
  ·obtain⟨N,e1,e2⟩:=name (fs':=fs.set q (.not (.at (ins.length+bs.length+r)))) (w3e ..) sm' hk;rw[show((2:Nat):Int)=2 from rfl];walk_at "d";rw[e1];walk_at "d";rw[i0];walk_at "d";rw[fr];walk_at "d";rw[i1];walk_at "d";rw[e2];walk_at "d"
theorem z9g(h:Pl d w)(hd:d<=150):eq2 w w=some (.bl true):=by
 unfold eq2;rw[if_pos (w0s h.2 hd),h.1];rfl
theorem y66(M:Exs K mg a)(ns:List Int)(hl:ns.length<=63):run K a 151 x0d [.lst (ns.map .int)]=.ok (.fr (.bl true)):=by
 obtain⟨m,bs,fs,hm,h5,hc,hb,ho,hf,e⟩:=x7y (K:=K) (a:=a) 147 ns;obtain⟨xs,x1,x2,x3,x4⟩:=y3u (K:=K) (a:=a) 147 ns m bs fs h5 hb ho
 have ex:xs=xs.take m++((xs.drop m).take bs.length++xs.drop (m+bs.length)):=by
  rw[<- w4x,w1z,w1z]
 have l1:(xs.take m).length=m:=by rw[w4l];omega
 have l2:((xs.drop m).take bs.length).length=bs.length:=by rw[w4l,w1e];omega
 have l3:(xs.drop (m+bs.length)).length=fs.length-bs.length:=by rw[w1e];omega
 generalize xs.take m=ins at ex l1 x4;generalize (xs.drop m).take bs.length=hn at ex l2 x4;generalize xs.drop (m+bs.length)=on at ex l3 x4;subst ex;subst l1;have x4:run K a 150 q2h [.lst (ns.map .int),encC ins.length bs fs]=.ok (.fr (nmT ins hn on)):=x4;have fine:∀f∈fs,Fine (ins++hn).length f:=by rw[w0u,l2];exact hf
 have okx:∀x∈ins++(hn++on),okN x=true:=λx h=>(x3 x h).1
 have hx:∀x∈ins++(hn++on),x.length<=8:=λx h=>(q01 (okx x h)).2.2.1
 have okk:∀x∈ins++hn,okN x=true:=λx h=>okx x (by rw[<- w0j];exact w0p _ h)
 have okn:okAll [] (ins++hn)=true:=(q4o [] _ w2v).mpr ⟨okk,by rw[<- w0j]at x2;exact(w2s.mp x2).1⟩;have lk:(ins++hn).length<=5:=by rw[w0u];omega
 have lim:∀x∈ins++hn,limS x:=λx h=>q4p (okk x h)
 have sl:∀l∈linesL ins hn on bs fs,l.length<=6000:=λl h=>by
  rw[x7e]at h;obtain⟨pr,hp,rfl⟩:=w0r.mp h;exact(x7d (K:=K) (a:=a) l2 hb l3 (by omega) x3 fine pr hp).2.2.1
 have due:∀ls:List Str,(∀l∈ls,l∈linesL ins hn on bs fs)->ls.length<=12->(catT ls).length<=100000:=λls h1 h2=>w0s (x69 (b:=6000) λl h=>sl l (h1 l h)) (by omega)
 have sh:=q9z (K:=K) (a:=a) 135 ins.length l2 hb l3 (by omega) (by omega) (λx h=>q4p (okx x h)) λf h=>(fine f h).2
 rw[if_pos (w0y.mpr λf h=>q91 okn (fine f h).1)]at sh
 have rd:=y3t (K:=K) (a:=a) 144 l2 hb l3 hm (by omega) (by omega) x2 x3 fine;rw[q74];unfold x5f;walk_at "d";rw[e];walk_at "d";rw[x4];unfold nmT encC;walk_at "d";rw[if_pos (by simp;omega),<- w0o];walk_at "d";rw[if_pos (by simp;omega),x83 ins (λx h=>by have:=hx x (w0p _ h);omega) (by omega)]
 walk_at "d"
 have m2:∀j,j<=(fs.drop bs.length).length->∀l∈(lineI ins::(List.range bs.length).map (ln1 (ins++hn) hn bs fs))++(List.range j).map (ln2 (ins++hn) on (fs.drop bs.length)),l∈linesL ins hn on bs fs:=λj hj l h=>by
  unfold linesL;rcases w1f.mp h with h|h
  ·exact w0p _ h
  ·obtain⟨k,hk,rfl⟩:=w0r.mp h;exact w0c _ (w3y (w1h.mpr (by have:=w1h.mp hk;omega)))
 have m1:∀j,j<=bs.length->∀l∈lineI ins::(List.range j).map (ln1 (ins++hn) hn bs fs),l∈linesL ins hn on bs fs:=λj hj l h=>by
  refine m2 0 (w1d _) l (w0p _ ?_);rcases w0d.mp h with rfl|h
  ·exact w0h
  ·obtain⟨k,hk,rfl⟩:=w0r.mp h;exact w0e _ (w3y (w1h.mpr (by have:=w1h.mp hk;omega)))
 rw[if_pos (by have:=sl _ (m1 0 (by omega) _ w0h);have:("\n":Str).length=1:=rfl;omega),<- x68];walk_at "d";rw[q4t hb,if_pos (q30 (by omega) (by omega))];walk_at "d"
 obtain⟨e',g1,z5,z6,z7,rfl⟩:=q4y (lo:=0) (hi:=(bs.length:Int)) (b:=x0i K a (run K a 150)) (i:=5) bs.length (by omega) (λj e=>∃z5 z6 z7:S,e=[.fr (.lst (ns.map .int)),.fr (encC ins.length bs fs),.fr (nmT ins hn on),.fr (.tup ((ins++hn).map .str)),.fr (.str (catT (lineI ins::(List.range j).map (ln1 (ins++hn) hn bs fs)))),z5,z6,z7,.no,.no]) [.fr (.lst (ns.map .int)),.fr (encC ins.length bs fs),.fr (nmT ins hn on),.fr (.tup ((ins++hn).map .str)),.fr (.str (catT [lineI ins])),.no,.no,.no,.no,.no] ⟨_,_,_,rfl⟩ (λj e hj h=>by
  obtain⟨z5,z6,z7,rfl⟩:=h;obtain⟨t6,t7,q⟩:=y63 (K:=K) (a:=a) 135 (.lst (ns.map .int)) (.int ins.length) (.tup ((fs.drop bs.length).map enc)) (.tup (ins.map .str)) (.tup (on.map .str)) lim (by omega) okn j hj hb (by omega) (λx h=>hx x (w0c _ (w0p _ h))) fine _ (due _ (m1 j (by omega)) (by simp;omega)) z6 z7 .no .no
  exact⟨_,by rw[w4t];exact q,_,_,_,by rw[w3x,w0o (f:=ln1 (ins++hn) hn bs fs),<- w1b,w0g (f:=ln1 (ins++hn) hn bs fs),w1v,x4o];rfl⟩)
 unfold nmT encC at g1;rw[g1];walk_at "d";rw[w0i,if_pos (q30 (by omega) (by rw[w1e];omega))];walk_at "d"
 obtain⟨e',g2,z5,rfl⟩:=q4y (lo:=0) (hi:=((fs.drop bs.length).length:Int)) (b:=x0h K a (run K a 150)) (i:=5) (fs.drop bs.length).length (by omega) (λj e=>∃z5:S,e=[.fr (.lst (ns.map .int)),.fr (encC ins.length bs fs),.fr (nmT ins hn on),.fr (.tup ((ins++hn).map .str)),.fr (.str (catT ((lineI ins::(List.range bs.length).map (ln1 (ins++hn) hn bs fs))++(List.range j).map (ln2 (ins++hn) on (fs.drop bs.length))))),z5,z6,z7,.no,.no]) [.fr (.lst (ns.map .int)),.fr (encC ins.length bs fs),.fr (nmT ins hn on),.fr (.tup ((ins++hn).map .str)),.fr (.str (catT (lineI ins::(List.range bs.length).map (ln1 (ins++hn) hn bs fs)))),z5,z6,z7,.no,.no] ⟨_,by rw[List.range_zero,w1v,w1a]⟩ (λj e hj h=>by
  obtain⟨z5,rfl⟩:=h;have q:=z2d (K:=K) (a:=a) 135 (.lst (ns.map .int)) (.int ins.length) (.tup (pairW (bs.map .bl) ((fs.take bs.length).map enc))) (.tup (ins.map .str)) (.tup (hn.map .str)) (kn:=ins++hn) (on:=on) (gs:=fs.drop bs.length) lim (by omega) okn j hj (by rw[w1e]at hj;omega) (λx h=>hx x (w0c _ (w0c _ h))) (λf h=>fine f (w3r h)) _ (due _ (m2 j (by omega)) (by rw[w1e]at hj;simp;omega)) z6 z7 .no .no
  exact⟨_,by rw[w4t];exact q,_,by rw[w3x,w0o (f:=ln2 (ins++hn) on (fs.drop bs.length)),<- w0j,w0g (f:=ln2 (ins++hn) on (fs.drop bs.length)),w1v,x4o];rfl⟩)
 unfold nmT encC at g2;rw[g2,show(lineI ins::(List.range bs.length).map (ln1 (ins++hn) hn bs fs))++(List.range (fs.drop bs.length).length).map (ln2 (ins++hn) on (fs.drop bs.length))=linesL ins hn on bs fs from rfl];walk_at "d";rw[q7a 149 ns (k:=11) (by omega)];walk_at "d";obtain⟨v,hv⟩:=q7b (K:=K) (a:=a) 149 (ns.getD 11 0) 3;rw[hv];walk_at "d";have fd:∀f∈fs,f.depth<=6:=λf h=>(fine f h).2.1
 rw[if_pos (by rw[q4t hb];simp;omega),(x9c (w0s (x7f λw h=>(w1f.mp h).elim (pl_P fd w) (pl_G fd w)).2 (by omega))).2]
 walk_at "d"
 have pe:Pl 10 (.tup [nmT ins hn on,encC ins.length bs fs]):=q7e λw hw=>by
  simp only[w0d,w0k,or_false]at hw;rcases hw with rfl|rfl
  ·exact y7o (z9f ins hn on) (by omega)
  ·exact pl_C fd
 have pe:=z9g pe (by omega);unfold nmT encC at sh rd pe;have rf:=λh0=>x70 (K:=K) (a:=a) M 133 (v / 4) l2 hb l3 lk (by omega) x2 okx (λf h=>(fine f h).2) h0
 unfold nmT encC at rf;have T:∀b:Bool,b=true\/b=false:=λb=>by cases b<;>simp
 rcases T (decide (pairW (bs.map .bl) ((fs.take bs.length).map enc)++(fs.drop bs.length).map enc=[]))with h0|h0
 all_goals simp only[h0]
 all_goals walk_at "d"
 all_goals try rw[rf (Nat.pos_of_ne_zero λz=>by rw[w4h.mp z]at h0;simp[pairW]at h0)]
 all_goals
  walk_at "d";rw[sh];walk_at "d";rw[y9f M.t_str_str];walk_at "d";rw[rd];walk_at "d";rw[pe];walk_at "d"
 exact ite_self _
theorem walk{l:PySem.W.OpenLaw}{q:Program}{loose:List Str}{XP:(Str->Option Value)->Heap->Prop}{YP:World->Heap->Prop}{d:DefRec}{K:Params->PySem.W.Frag}(hn:l.most=some 63)(hdf:d.params.defaults=[])
  (hY:∀(w:World)(h:Heap),YP w h->(K w.params).In h)
  (F:∀(w:World)(mg:Str->Option Value)(fa:Addr)(h:Heap),(K w.params).In h->h.Ns mainGlobals mg->mg d.name=some (.ref fa) ->
   ∃fd:FuncData,(∀(s:Shared)(u:Value),BindsTo s fd ⟨[u],[]⟩ [("_law_script", u)])/\∀base:Heap,(K w.params).In base->base.Ns mainGlobals mg->FnOk l.prog w (K w.params) mg base (CX1 l.prog w) 151 fa fd ["_law_script"] (spLaw (K w.params)))(hNM:∀w:World,noMark (K w.params)=true):
  PySem.W.WalkO q loose XP YP l.row.toRowW d [] (λf vs=>PySem.call f vs):=
 L2.x76 (n:=63) (k:=151) (x:="_law_script") (CX:=λw=>CX1 l.prog w) (sp:=λw=>spLaw (K w.params)) hn (by decide) hdf ⟨rfl,by decide,by decide,rfl⟩ hY F (λ_ _ a ns hl _ hS=>⟨a,ns,rfl,hS,hl,λ_=>rfl⟩) (λ_ _ _ _ _ z=>z3w z) hNM
end Q
open PySem PySem.W PyProof.Rows
set_option maxRecDepth 100000 in
set_option maxHeartbeats 0 in
theorem PySem.Challenge.cw_circuits_k74_sheets_shown_holds : PySem.Challenge.rw_circuits_k74_sheets_shown.Holds := by
 w_on; o_law; k_head; (case hw => w_witness2)
 k_fill
 refine Q.walk (l := PySem.Challenge.rw_circuits_k74_sheets_shown) rfl rfl (fun w h Y => PySem.W.kIn_of Y) ?F (fun w => by kernel_rfl)
 case F =>
  intro w mg fa h KX G hmg;refine' Q.mk hmg ?zA ?zB ?zM 150 ?hL
  (case zA => constructor <;> exact Q.at_k KX G (by k_is) (by k_is) (by k_is) (by k_is) fun _ _ _ _ _ _ => by first | exact Q.us1 fun _ => rfl | exact Q.us2 fun _ _ => rfl | exact Q.us3 fun _ _ _ => rfl)
  (case zB => constructor <;> first | exact mg_none_of KX G (by k_is) | exact ⟨_, mg_of KX G (by k_is), D.z0o (by kernel_rfl) (by decide) (by kernel_rfl) ⟨_, by k_is, rfl, rfl⟩⟩ | exact ⟨_, mg_of KX G (by k_is), _, by k_is, by kernel_rfl, by kernel_rfl⟩)
  (case zM => constructor <;> first | trivial | exact mg_of KX G (by k_is) | kernel_rfl)
  (case hL => exact fun a M ns hl => Q.y66 M ns hl)
