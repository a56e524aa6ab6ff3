import PyProof.Rows.All
import Wide.All
import OpenK.AllK
import Wide.FinOn
import PyProof.TupleKey
import PyProof.EqAt
import PyProof.EqKinds
import Wide.Seal
import Lean
import PyProof.TupleCall
import KE.KTryMore
import KE.KRevIter
import PyProof.CollectIter
import PyProof.ConsumeWalk
import PyProof.TupleOfStr
import KE.KIsAll
import PyProof.ExcArgs
import PyProof.ExcAttrAll.ValueError
import PyProof.CompUse
import PyProof.NeKinds
import PyProof.EnumIter
import PyProof.EnumFor
import PyProof.EnumMake
import PyProof.EnumStmt
import PyProof.ListMulRoad
import PyProof.ZipIter
import PyProof.TupleIter
import PyProof.Rows.SortWalk
import PyProof.SetKind
import PyProof.Rows.SetFrom
import PyProof.FactsAll.set_1
import KE.KDictSum
import PyProof.FactsAll.set_2
import PyProof.FactsAll.tuple_2
import PyProof.ReprRoads
import PyProof.Rows.SeqMore
import PyProof.ReprLen
import PyProof.WalkInts
import PyProof.SeqI3
import PyProof.Rows.TupIter
import PyProof.ListRange
import PyProof.SumWalk
import PyProof.DictIter
import PyProof.DictWalks
import PyProof.DictRoadsH
import PyProof.DictTruth
import KE.KDictList
import PyProof.Rows.TupDisplay
import PyProof.Draws
import PyProof.StrBlockI
import PyProof.StrLawsIn
import PyProof.StrOps2
import PyProof.ReprStr
import PyProof.ListNew
import PyProof.Rows.SortRev
import KE.KMinKey
import PyProof.Rows.SortStr
import PyProof.Rows.SortRunsK
import PyProof.Rows.SortKeyStr
import KE.RegMulBits
import KE.KRevSl
import PyProof.CallStr
import PyProof.WalksMore
import PyProof.MinMaxWalk
import PyProof.Rows.CallKwBuiltin
import PySem.Challenge.RW_circuits_k22_least_covers
set_option Elab.async false
set_option linter.all false
set_option maxRecDepth 100000
set_option maxHeartbeats 1000000
local macro_rules | `(tactic| omega) => `(tactic| first | with_reducible assumption | decide | with_reducible exact Nat.le_refl _ | with_reducible exact Nat.zero_le _ | lia)
set_option genSizeOf false
set_option genInjectivity false
local macro_rules | `(tactic| walk_at "1") => `(tactic| (first | exact Or.inl rfl | exact Or.inr (Or.inl rfl) | exact Or.inr (Or.inr rfl)))
local macro_rules | `(tactic| walk_at "2") => `(tactic| (first | exact .inl rfl | exact .inr rfl | assumption))
local macro_rules | `(tactic| walk_at "3") => `(tactic| (first | exact Or.inl rfl | exact Or.inr rfl))
open PySem.W (codeHdIn exmOne findIn hideAll_get keepIn kia_one kitOne kla_fn kla_obj methodObj mg_none_of mg_of pyHash_slot specialIn tabObj takesIn)
def w0a:=@List.length_map
def w0b:=@List.getElem?_eq_getElem
def w0c:=@List.getElem?_eq_some_iff
def w0d:=@List.size_toArray
def w0e:=@List.getElem?_cons_succ
def w0f:=@List.mem_cons_of_mem
def w0g:=@Nat.le_refl
def w0h:=@List.mem_cons_self
def w0i:=@List.mem_append_right
def w0j:=@List.mem_cons
def w0k:=@List.getElem?_cons_zero
def w0l:=@Option.map_eq_some_iff
def w0m:=@Nat.le_trans
def w0n:=@List.map_cons
def w0o:=@Bool.and_eq_true
def w0p:=@List.length_append
def w0q:=@List.length_cons
def w0r:=@Nat.ne_of_lt
def w0s:=@List.getElem?_set_ne
def w0t:=@Nat.lt_of_lt_of_le
def w0u:=@List.getElem?_set_self
def w0v:=@List.getElem?_map
def w0w:=@List.mem_filter
def w0x:=@List.mem_range
def w0y:=@List.mem_of_getElem?
def w0z:=@List.all_eq_true
def w1a:=@Nat.pow_le_pow_right
def w1b:=@List.lookup_cons
def w1c:=@Nat.zero_le
def w1d:=@List.not_mem_nil
def w1e:=@Bool.false_ne_true
def w1f:=@List.mem_map
def w1g:=@List.mem_singleton
def w1h:=@List.length_filter_le
def w1i:=@Bool.eq_iff_iff
def w1j:=@List.map_append
def w1k:=@Bool.eq_false_iff
def w1l:=@List.append_nil
def w1m:=@List.getElem?_eq_none
def w1n:=@Array.getElem?_append_left
def w1o:=@List.getElem?_append_right
def w1p:=@Int.toNat_natCast
def w1q:=@List.getElem?_append_left
def w1r:=@List.mem_append
def w1s:=@List.map_nil
def w1t:=@List.pairwise_cons
def w1u:=@List.set_cons_succ
def w1v:=@List.set_cons_zero
def w1w:=@List.getElem_mem
def w1x:=@List.any_eq_true
def w1y:=@List.mem_iff_getElem
def w1z:=@List.getElem?_replicate
def w2a:=@List.reverse_cons
def w2b:=@List.length_range
def w2c:=@List.nodup_cons
def w2d:=@List.length_nil
def w2e:=@Array.getElem?_eq_some_iff
def w2f:=@Nat.lt_irrefl
def w2g:=@List.mem_append_left
def w2h:=@List.map_map
def w2i:=@List.eq_nil_iff_forall_not_mem
def w2j:=@List.all_cons
def w2k:=@List.length_take
def w2l:=@List.length_drop
def w2m:=@List.filter_cons
def w2n:=@Bool.false_eq_true
def w2o:=@List.mem_filterMap
def w2p:=@Int.emod_lt_of_pos
def w2q:=@List.forIn_cons
def w2r:=@List.length_singleton
def w2s:=@List.cons_lt_cons_iff
def w2t:=@List.any_cons
def w2u:=@Nat.lt_succ_of_lt
def w2v:=@List.append_assoc
def w2w:=@List.pairwise_iff_getElem
def w2x:=@Nat.zero_add
def w2y:=@List.of_mem_zip
def w2z:=@List.filter_cons_of_pos
def w3a:=@Int.emod_nonneg
def w3b:=@List.length_eq_zero_iff
def w3c:=@List.contains_cons
def w3d:=@Int.eq_ofNat_of_zero_le
def w3e:=@List.ext_getElem?
def w3f:=@Nat.ne_of_gt
def w3g:=@List.length_replicate
def w3h:=@Nat.le_of_ble_eq_true
def w3i:=@Nat.pow_succ
def w3j:=@List.contains_iff_mem
def w3k:=@List.drop_length
def w3l:=@Int.mul_le_mul_of_nonneg_left
def w3m:=@List.filterMap_cons
def w3n:=@Array.length_toList
def w3o:=@Nat.le_succ
def w3p:=@List.length_reverse
def w3q:=@Nat.mul_le_mul_left
def w3r:=@List.nodup_iff_pairwise_ne
def w3s:=@Int.pow_succ
def w3t:=@List.getElem?_zip_eq_some
def w3u:=@List.drop_eq_getElem_cons
def w3v:=@Option.isSome_iff_exists
def w3w:=@Bool.not_eq_true'
def w3x:=@List.pairwise_map
def w3y:=@Option.bind_eq_some_iff
def w3z:=@List.filter_cons_of_neg
def w4a:=@Nat.le_mul_of_pos_right
def w4b:=@Nat.min_le_right
def w4c:=@Nat.succ_ne_self
def w4d:=@Array.toList_inj
def w4e:=@List.isEmpty_iff
def w4f:=@List.find?_cons_of_pos
def w4g:=@Nat.le_of_lt
def w4h:=@Bool.or_eq_true
def w4i:=@List.getElem?_reverse
def w4j:=@List.nil_append
def w4k:=@List.find?_cons
def w4l:=@Nat.mul_comm
def w4m:=@List.pairwise_flatMap
def w4n:=@Array.toArray_toList
def w4o:=@Nat.mul_le_mul_right
def w4p:=@Bool.and_false
def w4q:=@List.forIn_nil
def w4r:=@List.lt_irrefl
def w4s:=@List.getElem_of_mem
def w4t:=@Array.toList_append
def w4u:=@List.replicate_zero
def w4v:=@List.map_congr_left
def w4w:=@Nat.pow_pos
def w4x:=@List.length_pos_iff
def w4y:=@Int.toNat_of_nonneg
def w4z:=@List.getElem?_range
def w5a:=@Array.forIn_toList
def w5b:=@Bool.and_true
def w5c:=@List.lookup_append
def w5d:=@List.zip_cons_cons
def w5e:=@Nat.mul_assoc
def w5f:=@Nat.not_lt
def w5g:=@Int.sub_zero
def w5h:=@List.all_map
def w5i:=@List.any_map
def w5j:=@Int.mul_comm
def w5k:=@Nat.add_zero
abbrev Fg:=PySem.W.Frag
noncomputable section
namespace PySem.W.Fast
theorem tw10451575321821057224:True:=trivial
theorem tw5142118424990267896:True:=trivial
theorem tw3794940623540984138:True:=trivial
theorem tw11178405873533385393:True:=trivial
theorem tw1076185002494085085:True:=trivial
theorem tw17574381573219728867:True:=trivial
theorem tw16413732376111220052:True:=trivial
theorem tw13638684009881722125:True:=trivial
theorem tw1539713323091896513:True:=trivial
theorem tw1967224538803362055:True:=trivial
theorem tw17874047335623642988:True:=trivial
theorem tw15531901555940289508:True:=trivial
theorem tw14187826963013284278:True:=trivial
theorem tw1641295267464351657:True:=trivial
theorem tw17877898508439204260:True:=trivial
theorem tw4200857170593697827:True:=trivial
theorem tw5934348504458149933:True:=trivial
theorem tw16309364067791746856:True:=trivial
theorem tw9699505807803723419:True:=trivial
theorem tw15098619469416595983:True:=trivial
theorem tw3613697510389969473:True:=trivial
theorem tw10932497374093150367:True:=trivial
theorem tw10342598361400277755:True:=trivial
theorem tw6608286744550260500:True:=trivial
theorem tw2423471301959367969:True:=trivial
theorem tw15312322045501527700:True:=trivial
theorem tw10157068542327197367:True:=trivial
theorem tw5727348772191799390:True:=trivial
theorem tw14093019685442847114:True:=trivial
theorem tw9868433376527033412:True:=trivial
theorem tw6406908541480069097:True:=trivial
theorem tw17697638876004283180:True:=trivial
theorem tw2621178318220617086:True:=trivial
theorem tw17276999895683269789:True:=trivial
theorem tw7805757475433857775:True:=trivial
theorem tw1953161067818831634:True:=trivial
theorem tw7792951745848682305:True:=trivial
theorem tw4625335554272372888:True:=trivial
theorem tw12063202519577979869:True:=trivial
theorem tw11872634619568350752:True:=trivial
theorem tw16674231029455716752:True:=trivial
theorem tw15831226947647618175:True:=trivial
theorem tw14610211503928415525:True:=trivial
theorem tw180077307240053643:True:=trivial
theorem tw11385257187852527135:True:=trivial
theorem tw10405932620824831690:True:=trivial
theorem tw13020239124096821440:True:=trivial
theorem tw13739031311629637722:True:=trivial
theorem tw18382879299224437631:True:=trivial
theorem tw14792729543461147187:True:=trivial
theorem tw2570166467423991441:True:=trivial
theorem tw605531546955422902:True:=trivial
theorem tw10596053156492226790:True:=trivial
theorem tw11717172851929905205:True:=trivial
theorem tw6816358864807133307:True:=trivial
theorem tw17982698209848188190:True:=trivial
theorem tw12873404933884541394:True:=trivial
theorem tw2563683791228532168:True:=trivial
theorem tw700543374290740855:True:=trivial
theorem tw13542066871616145187:True:=trivial
end PySem.W.Fast
namespace L2
open PySem PySem.Spec PyProof.Rows
variable{C a b:Addr}{A:Around}{op:CmpOp}{c e tg:Expr}{fd:FuncData}{base h h':Heap}{pins:List (Addr×Obj)}{ch fp:List Addr}{es:List Expr}{N ps:List Str}{us:List Value}{M:Model}{i k t':Nat}{p pos:Pos}{P prog:Program}{K:Fg}{s:Shared}{x:Str}{mg:Str->Option Value}{u:Value}{E:Value->Shared->Prop}{f:Value->Value->Sem Value}{w:World}
set_option genInjectivity true in
inductive Kx where
 |non|bl (b:Bool)|int (i:Int)|str (x:Str)|tup (ks:List Kx)
inductive Sh where
 |ob|bl|int|str|tup (ss:List Sh)|many (s:Sh)
noncomputable instance:DecidableEq Kx:=fun _ _=>Classical.propDecidable _
mutual
def Kx.depth:Kx->Nat
 |.tup ks=>Kx.depths ks+1
 |_=>0
def Kx.depths:List Kx->Nat
 |[]=>0
 |k::ks=>max k.depth (Kx.depths ks)
end
mutual
def Conf:Kx->Sh->Prop
 |.non,.ob=>True
 |.bl _,.ob=>True
 |.bl _,.bl=>True
 |.int _,.int=>True
 |.str _,.str=>True
 |.tup ks,.tup ss=>Confs ks ss
 |.tup ks,.many s=>ConfM ks s
 |_,_=>False
def Confs:List Kx->List Sh->Prop
 |[],[]=>True
 |k::ks,s::ss=>Conf k s/\Confs ks ss
 |_,_=>False
def ConfM:List Kx->Sh->Prop
 |[],_=>True
 |k::ks,s=>Conf k s/\ConfM ks s
end
mutual
def KIs(h:Heap):Kx->Value->Prop
 |.non,v=>v=.none
 |.bl b,v=>v=.bool b
 |.int i,v=>∃t,v=.int i t
 |.str x,v=>∃t,v=.str x t
 |.tup ks,v=>∃a o items n,v=.ref a/\h.get? a=some o/\o.cls=.type "tuple" /\ o.data=.seq items n/\KAre h ks items.toList
def KAre(h:Heap):List Kx->List Value->Prop
 |[],vs=>vs=[]
 |k::ks,vs=>∃v r,vs=v::r/\KIs h k v/\KAre h ks r
end
mutual
theorem x69{h:Heap}:∀(k k':Kx){v:Value},KIs h k v->KIs h k' v->k=k'
 |.non,k',v,x,y=>by
  cases(show v=.none from x);cases k' with
  |non=>rfl
  |bl c=>cases(show Value.none=.bool c from y)
  |int i=>obtain⟨t,e⟩:=y;cases e
  |str i=>obtain⟨t,e⟩:=y;cases e
  |tup ks=>obtain⟨_,_,_,_,e,_⟩:=y;cases e
 |.bl b,k',v,x,y=>by
  cases(show v=.bool b from x);cases k' with
  |non=>cases(show Value.bool b=.none from y)
  |bl c=>cases(show Value.bool b=.bool c from y);rfl
  |int i=>obtain⟨t,e⟩:=y;cases e
  |str i=>obtain⟨t,e⟩:=y;cases e
  |tup ks=>obtain⟨_,_,_,_,e,_⟩:=y;cases e
 |.int b,k',v,x,y=>by
  obtain⟨t,rfl⟩:=x;cases k' with
  |non=>cases y
  |bl c=>cases y
  |int i=>obtain⟨t,e⟩:=y;cases e;rfl
  |str i=>obtain⟨t,e⟩:=y;cases e
  |tup ks=>obtain⟨_,_,_,_,e,_⟩:=y;cases e
 |.str b,k',v,x,y=>by
  obtain⟨t,rfl⟩:=x;cases k' with
  |non=>cases y
  |bl c=>cases y
  |int i=>obtain⟨t,e⟩:=y;cases e
  |str i=>obtain⟨t,e⟩:=y;cases e;rfl
  |tup ks=>obtain⟨_,_,_,_,e,_⟩:=y;cases e
 |.tup ks,k',v,x,y=>by
  obtain⟨a,o,it,n,rfl,h1,h2,h3,h4⟩:=x;cases k' with
  |non=>cases y
  |bl c=>cases y
  |int i=>obtain⟨t,e⟩:=y;cases e
  |str i=>obtain⟨t,e⟩:=y;cases e
  |tup ks'=>
   obtain⟨a',o',it',n',e,g1,g2,g3,g4⟩:=y;cases e;rw[h1]at g1;cases g1;rw[h3]at g3;injection g3 with e1 _
   subst e1;rw[q92 ks ks' h4 g4]
theorem q92{h:Heap}:∀(ks ks':List Kx){vs:List Value},KAre h ks vs->KAre h ks' vs->ks=ks'
 |[],ks',vs,x,y=>by
  cases(show vs=[]from x);cases ks' with
  |nil=>rfl
  |cons k ks'=>obtain⟨v,r,e,_⟩:=y;cases e
 |k::ks,ks',vs,x,y=>by
  obtain⟨v,r,rfl,h1,h2⟩:=x;cases ks' with
  |nil=>cases(show v::r=[]from y)
  |cons k' ks'=>
   obtain⟨v',r',e,g1,g2⟩:=y;cases e;rw[x69 k k' h1 g1,q92 ks ks' h2 g2]
end
mutual
theorem x2m{h h':Heap}(hk:∀a o,h.get? a=some o->o.cls=.type "tuple"->(∃it n,o.data=.seq it n)->h'.get? a=some o):∀(k:Kx){v:Value},KIs h k v->KIs h' k v
 |.non,v,x=>x
 |.bl b,v,x=>x
 |.int b,v,x=>x
 |.str b,v,x=>x
 |.tup ks,v,x=>by
  obtain⟨a,o,it,n,rfl,h1,h2,h3,h4⟩:=x;exact⟨a,o,it,n,rfl,hk a o h1 h2 ⟨it,n,h3⟩,h2,h3,x0p hk ks h4⟩
theorem x0p{h h':Heap}(hk:∀a o,h.get? a=some o->o.cls=.type "tuple"->(∃it n,o.data=.seq it n)->h'.get? a=some o):∀(ks:List Kx){vs:List Value},KAre h ks vs->KAre h' ks vs
 |[],vs,x=>x
 |k::ks,vs,x=>by
  obtain⟨v,r,rfl,h1,h2⟩:=x;exact⟨v,r,rfl,x2m hk k h1,x0p hk ks h2⟩
end
theorem KAre.length:∀(ks:List Kx){vs:List Value},KAre h ks vs->vs.length=ks.length
 |[],vs,x=>by cases(show vs=[]from x);rfl
 |k::ks,vs,x=>by
  obtain⟨v,r,rfl,h1,h2⟩:=x;rw[w0q,w0q,KAre.length ks h2]
mutual
def kHash(w:World):Kx->Int
 |.non=>PySem.W.hashW w.params .none
 |.bl b=>reduceHash (if b=true then 1 else 0)
 |.int i=>hashInt i
 |.str x=>hashStr w x
 |.tup ks=>reduceHash (Builtin.Tuple.tupleHashOf (kHashes w ks))
def kHashes(w:World):List Kx->List Int
 |[]=>[]
 |k::ks=>kHash w k::kHashes w ks
end
mutual
def kDraws:Kx->Nat
 |.tup ks=>kDrawss ks+1
 |_=>1
def kDrawss:List Kx->Nat
 |[]=>0
 |k::ks=>kDraws k+kDrawss ks
end
mutual
theorem x7a:∀(k:Kx)(v:Value)(A:Around)(s:Shared)(Q:Int->Shared->Prop),KIs s.heap k v->A.units+k.depth<cLine->Q (kHash w k) {s with toks:=s.toks+kDraws k}->wpAny (model prog w) A (pyHash v) Q E s
 |.non,v,A,s,Q,x,hu,h=>by
  cases(show v=.none from x);exact pyHash_slot (T:="NoneType") rfl F.slot_NoneType_hash F.entry_NoneType_hash (F.args_NoneType_hash_1 _) (beq_builtin_none _) (.inr (by omega)) (wpAny_bind (wpAny_pure (wpAny_bind (wpAny_mkInt (wpAny_pure ⟨_,_,rfl,h⟩)))))
 |.bl b,v,A,s,Q,x,hu,h=>by
  cases(show v=.bool b from x);refine pyHash_slot (T:="bool") rfl F.slot_bool_hash entry_int_hash (args_int_hash _) (beq_builtin_none _) (.inr (by omega)) ?_;cases b
  ·exact(show wpAny _ _ (do ret (<- mkInt 0)) _ _ s from wpAny_bind (wpAny_mkInt (wpAny_pure ⟨_,_,rfl,h⟩)))
  ·exact(show wpAny _ _ (do ret (<- mkInt 1)) _ _ s from wpAny_bind (wpAny_mkInt (wpAny_pure ⟨_,_,rfl,h⟩)))
 |.int i,v,A,s,Q,x,hu,h=>by
  obtain⟨t,rfl⟩:=x;exact wpAny_pyHash_int h
 |.str i,v,A,s,Q,x,hu,h=>by
  obtain⟨t,rfl⟩:=x;exact wpAny_pyHash_str h
 |.tup ks,v,A,s,Q,x,hu,h=>by
  obtain⟨a,o,it,n,rfl,h1,h2,h3,h4⟩:=x;refine pyHash_slot (T:="tuple") ⟨_,h1,h2⟩ F.slot_tuple_hash F.entry_tuple_hash (F.args_tuple_hash_1 _) (beq_builtin_none _) (.inr (by omega)) ?_;show wpAny _ _ (Builtin.Tuple.tupleItemsOf (.ref a) >>= _) _ _ s;refine wpAny_bind (wpAny_tupleItemsOf h1 h3 ?_);refine wpAny_bind ?_;rw[<- w5a];refine x2n ks it.toList A.in1 s #[] _ h4 (by simp only[Kx.depth,Around.in1_units]at hu |-;omega) fun b hb=>?_
  show wpAny _ _ (retInt (Builtin.Tuple.tupleHashOf b.toList)) _ _ _;rw[hb];exact wpAny_bind (wpAny_mkInt (wpAny_pure ⟨_,_,rfl,by simpa [kHash,kDraws,Nat.add_assoc]using h⟩))
theorem x2n:∀(ks:List Kx)(vs:List Value)(A:Around)(s:Shared)(b:Array Int)(Q:Array Int->Shared->Prop),KAre s.heap ks vs->A.units+Kx.depths ks<cLine ->
  (∀b',b'.toList=b.toList++kHashes w ks->Q b' {s with toks:=s.toks+kDrawss ks}) ->
  wpAny (model prog w) A (forIn vs b fun x r=>do let h <- pyHash x;pure PUnit.unit;pure (ForInStep.yield (r.push h))) Q E s
 |[],vs,A,s,b,Q,x,hu,h=>by
  cases(show vs=[]from x);exact wpAny_pure (h b (by simp[kHashes]))
 |k::ks,vs,A,s,b,Q,x,hu,h=>by
  obtain⟨v,r,rfl,h1,h2⟩:=x;simp only[Kx.depths]at hu;rw[w2q];refine wpAny_bind (wpAny_bind (x7a k v A s _ h1 (by omega) ?_));refine wpAny_bind (wpAny_pure (wpAny_pure ?_))
  exact x2n ks r A _ _ Q h2 (by omega) fun b' hb=>by
   have:=h b' (by simp[hb,kHashes])
   simpa [kDrawss,Nat.add_assoc]using this
end
theorem x7b(a b:Bool):decide (Kx.bl a=Kx.bl b)=(a==b):=by
 by_cases e:a=b
 ·subst e;simp
 ·rw[decide_eq_false (fun z=>e (by injection z))];exact(beq_eq_false_iff_ne.mpr e).symm
theorem y2q(a b:Int):decide (Kx.int a=Kx.int b)=(a==b):=by
 by_cases e:a=b
 ·subst e;simp
 ·rw[decide_eq_false (fun z=>e (by injection z))];exact(beq_eq_false_iff_ne.mpr e).symm
theorem y2r(a b:Str):decide (Kx.str a=Kx.str b)=(a==b):=by
 by_cases e:a=b
 ·subst e;simp
 ·rw[decide_eq_false (fun z=>e (by injection z))];exact(beq_eq_false_iff_ne.mpr e).symm
def sameAt(ks ks':List Kx)(j:Nat):Bool:=decide (ks[j]?=ks'[j]?)
theorem y2s:∀ks ks':List Kx,((List.range (min ks.length ks'.length)).all (sameAt ks ks')&&ks.length==ks'.length)=decide (Kx.tup ks=Kx.tup ks'):=by
 intro ks ks'
 by_cases e:ks=ks'
 ·subst e;rw[decide_eq_true rfl];simp[sameAt]
 ·rw[decide_eq_false (fun z=>e (by injection z))]
  rw[Bool.and_eq_false_iff]
  by_cases hl:ks.length=ks'.length
  ·left
   rw[w1k];intro ha;refine e (w3e fun j=>?_)
   by_cases hj:j<ks.length
   ·have:=w0z.mp ha j (w0x.mpr (by omega));exact of_decide_eq_true this
   ·rw[w1m (by omega),w1m (by omega)]
  ·right
   simpa using hl
theorem q7e:∀(ks:List Kx){vs:List Value},KAre h ks vs->∀(j:Nat)(v:Value),vs[j]?=some v->∃k,ks[j]?=some k/\KIs h k v
 |[],vs,x,j,v,e=>by cases(show vs=[]from x);simp at e
 |k::ks,vs,x,j,v,e=>by
  obtain⟨u,r,rfl,h1,h2⟩:=x;cases j with
  |zero=>cases e;exact⟨k,rfl,h1⟩
  |succ j=>exact q7e ks h2 j v (by simpa using e)
theorem q78:∀(ks:List Kx)(j:Nat)(k:Kx),ks[j]?=some k->k.depth<=Kx.depths ks
 |[],j,k,e=>by simp at e
 |x::ks,j,k,e=>by
  simp only[Kx.depths];cases j with
  |zero=>cases e;omega
  |succ j=>have:=q78 ks j k (by simpa using e);omega
theorem q79:∀(ks:List Kx)(ss:List Sh),Confs ks ss->∀(j:Nat)(k:Kx),ks[j]?=some k->∃s,ss[j]?=some s/\Conf k s
 |[],ss,_,j,k,e=>by simp at e
 |x::ks,[],c,j,k,e=>c.elim
 |x::ks,s::ss,c,j,k,e=>by
  cases j with
  |zero=>cases e;exact⟨s,rfl,c.1⟩
  |succ j=>exact q79 ks ss c.2 j k (by simpa using e)
theorem q8a:∀(ks:List Kx)(s:Sh),ConfM ks s->∀(j:Nat)(k:Kx),ks[j]?=some k->Conf k s
 |[],s,_,j,k,e=>by simp at e
 |x::ks,s,c,j,k,e=>by
  cases j with
  |zero=>cases e;exact c.1
  |succ j=>exact q8a ks s c.2 j k (by simpa using e)
theorem z3e(s:Shared):∀(n:Nat)(k k':Kx)(sh:Sh)(v v':Value)(A:Around),k.depth<=n->Conf k sh->Conf k' sh->KIs s.heap k v->KIs s.heap k' v'->A.units+n<cLine->SeqAt.EqAt A s v v' (decide (k=k')):=by
 intro n
 induction n with
 |zero=>
  intro k k' sh v v' A hd c c' x y hu;cases k with
  |non=>
   cases sh with
   |ob=>
    cases k' with
    |non=>cases(show v=.none from x);cases(show v'=.none from y);rw[decide_eq_true rfl];exact .same _
    |bl b=>cases(show v=.none from x);cases(show v'=.bool b from y);rw[decide_eq_false (fun z=>nomatch z)];exact .none_bool b
    |_=>exact c'.elim
   |_=>exact c.elim
  |bl a=>
   cases sh with
   |ob=>
    cases k' with
    |non=>cases(show v=.bool a from x);cases(show v'=.none from y);rw[decide_eq_false (fun z=>nomatch z)];exact .bool_none a
    |bl b=>cases(show v=.bool a from x);cases(show v'=.bool b from y);rw[x7b];exact .bool_bool a b
    |_=>exact c'.elim
   |bl=>
    cases k' with
    |bl b=>cases(show v=.bool a from x);cases(show v'=.bool b from y);rw[x7b];exact .bool_bool a b
    |_=>exact c'.elim
   |_=>exact c.elim
  |int a=>
   cases sh with
   |int=>
    cases k' with
    |int b=>obtain⟨t,rfl⟩:=x;obtain⟨u,rfl⟩:=y;rw[y2q];exact .int_int a t b u
    |_=>exact c'.elim
   |_=>exact c.elim
  |str a=>
   cases sh with
   |str=>
    cases k' with
    |str b=>obtain⟨t,rfl⟩:=x;obtain⟨u,rfl⟩:=y;rw[y2r];exact .str_str a t b u
    |_=>exact c'.elim
   |_=>exact c.elim
  |tup ks=>simp only[Kx.depth]at hd;omega
 |succ n ih=>
  intro k k' sh v v' A hd c c' x y hu;cases k with
  |non=>exact ih .non k' sh v v' A (w1c _) c c' x y (by omega)
  |bl a=>exact ih (.bl a) k' sh v v' A (w1c _) c c' x y (by omega)
  |int a=>exact ih (.int a) k' sh v v' A (w1c _) c c' x y (by omega)
  |str a=>exact ih (.str a) k' sh v v' A (w1c _) c c' x y (by omega)
  |tup ks=>
   obtain⟨a,o,it,m,rfl,h1,h2,h3,h4⟩:=x
   have tail:∀ks',k'=.tup ks'->(∀(j:Nat)(u u':Kx),ks[j]?=some u->ks'[j]?=some u'->∃s,Conf u s/\Conf u' s)->SeqAt.EqAt A s (.ref a) v' (decide (Kx.tup ks=k')):=by
    rintro ks' rfl hc;obtain⟨b,o',it',m',rfl,g1,g2,g3,g4⟩:=y
    by_cases hab:a=b
    ·subst hab;rw[h1]at g1;cases g1;rw[h3]at g3;injection g3 with e1 _
     subst e1;rw[q92 ks ks' h4 g4,decide_eq_true rfl];exact .same _
    ·have l1:=KAre.length ks h4;have l2:=KAre.length ks' g4;rw[<- y2s]
     have:=SeqAt.RcAt.tuples (A:=A) (s:=s) (e:=sameAt ks ks') (show s.heap.IsTuple a it from⟨o,h1,h2,m,h3⟩) (show s.heap.IsTuple b it' from⟨o',g1,g2,m',g3⟩) (by omega) (fun j j1 j2=>by
      obtain⟨u,u1,u2⟩:=q7e ks h4 j it[j] (by simp[j1]);obtain⟨u',u1',u2'⟩:=q7e ks' g4 j it'[j] (by simp[j2]);obtain⟨sh',c1,c2⟩:=hc j u u' u1 u1';have hdj:=q78 ks j u u1;simp only[Kx.depth]at hd;have z:=ih u u' sh' _ _ A.in1 (by omega) c1 c2 u2 u2' (by rw[Around.in1_units];omega)
      have e:sameAt ks ks' j=decide (u=u'):=by
       unfold sameAt;rw[u1,u1']
       by_cases q:u=u'
       ·rw[q];simp
       ·rw[decide_eq_false q,decide_eq_false (fun z=>q (Option.some.inj z))]
      rw[e];exact z)
     rw[show it.size=ks.length by simpa using l1,show it'.size=ks'.length by simpa using l2]at this;exact .of_refs hab this
   cases sh with
   |tup ss=>
    cases k' with
    |tup ks'=>
     refine tail ks' rfl fun j u u' e1 e2=>?_
     obtain⟨s1,q1,q2⟩:=q79 ks ss c j u e1;obtain⟨s2,q3,q4⟩:=q79 ks' ss c' j u' e2;rw[q1]at q3;cases q3;exact⟨s1,q2,q4⟩
    |_=>exact c'.elim
   |many s1=>
    cases k' with
    |tup ks'=>exact tail ks' rfl fun j u u' e1 e2=>⟨s1,q8a ks s1 c j u e1,q8a ks' s1 c' j u' e2⟩
    |_=>exact c'.elim
   |_=>exact c.elim
theorem y2t:∀(n:Nat)(k:Kx)(v:Value)(s:Shared)(Q:Bool->Shared->Prop),k.depth<=n->KIs s.heap k v->Q true s->wpAny (model prog w) A (eqIsQuiet n v) Q E s:=by
 intro n
 induction n with
 |zero=>
  intro k v s Q hd x h;cases k with
  |non=>cases(show v=.none from x);rw[eqIsQuiet_byValue _ rfl];exact wpAny_pure h
  |bl b=>cases(show v=.bool b from x);rw[eqIsQuiet_byValue _ rfl];exact wpAny_pure h
  |int i=>obtain⟨t,rfl⟩:=x;rw[eqIsQuiet_byValue _ rfl];exact wpAny_pure h
  |str i=>obtain⟨t,rfl⟩:=x;rw[eqIsQuiet_byValue _ rfl];exact wpAny_pure h
  |tup ks=>simp only[Kx.depth]at hd;omega
 |succ n ih=>
  intro k v s Q hd x h;cases k with
  |non=>cases(show v=.none from x);rw[eqIsQuiet_byValue _ rfl];exact wpAny_pure h
  |bl b=>cases(show v=.bool b from x);rw[eqIsQuiet_byValue _ rfl];exact wpAny_pure h
  |int i=>obtain⟨t,rfl⟩:=x;rw[eqIsQuiet_byValue _ rfl];exact wpAny_pure h
  |str i=>obtain⟨t,rfl⟩:=x;rw[eqIsQuiet_byValue _ rfl];exact wpAny_pure h
  |tup ks=>
   obtain⟨a,o,it,m,rfl,h1,h2,h3,h4⟩:=x;have hT:s.TypeIs (.ref a) "tuple":=⟨o,h1,h2⟩;unfold eqIsQuiet;refine wpAny_bind (wpAny_specialOf hT F.slot_tuple_eq.lookup ?_);show wpAny _ _ (isInstance (.ref a) (.type "tuple") >>= _) _ _ s;refine wpAny_bind (wpAny_isInstance hT isSubtype_tuple_tuple ?_);simp only[Bool.not_true,w2n,if_false];refine wpAny_bind (wpAny_seqItems h1 h3 ?_);refine wpAny_bind ?_;show wpAny _ _ (forIn it _ _) _ _ s;rw[<- w5a];refine wpAny_forIn_list _ (fun rest r s'=>r.1=none/\s'=s/\∀v∈rest,∃k:Kx,k.depth<=n/\KIs s.heap k v) _ ?_ ?_ _ _ ⟨rfl,rfl,fun v hv=>?_⟩
   ·rintro v rest r s' ⟨hr,rfl,hall⟩;obtain⟨k,k1,k2⟩:=hall v w0h;refine wpAny_bind (ih k v _ _ k1 k2 ?_);simp only[Bool.not_true,w2n,if_false];exact wpAny_pure ⟨rfl,rfl,fun u hu'=>hall u (w0f _ hu')⟩
   ·rintro⟨r1,r2⟩ s' ⟨hr,rfl,_⟩;simp only at hr;subst hr;exact wpAny_pure h
   ·obtain⟨j,hj,e⟩:=w1y.mp hv;obtain⟨k,k1,k2⟩:=q7e ks h4 j v (by rw[w0b hj,e]);have:=q78 ks j k k1;simp only[Kx.depth]at hd;exact⟨k,by omega,k2⟩
def treeKind(prog:Program)(w:World)(sh:Sh):HeapKind prog w Kx where
 is:=fun h k a=>KIs h k (.ref a)/\Conf k sh/\k.depth<=7
 hash:=kHash w
 draws:=kDraws
 room:=fun A=>A.units+8<cLine
 inj:=fun hx hy=>x69 _ _ hx.1 hy.1
 keeps:=fun {h h' k a d o es ep} x ho hd hs=>⟨x2m (fun b ob e1 e2 e3=>by
  have hne:b≠d:=by
   rintro rfl;rw[ho]at e1;cases e1;obtain⟨it,n,e⟩:=e3;rw[hd]at e;cases e
  exact(hs.2 b hne).trans e1) _ x.1,x.2⟩
 pyHash:=fun {A E s k a Q} hu hk h=>x7a k _ A s Q hk.1 (by have:=hk.2.2;omega) h
 eqBool:=fun {A E s x y a b Q} hu hx hy h=>z3e s 7 x y sh _ _ A hx.2.2 hx.2.1 hy.2.1 hx.1 hy.1 (by omega) prog w E Q h
 quiet:=fun {A E s k a Q} hk h=>y2t 8 k _ s Q (by have:=hk.2.2;omega) hk.1 h
set_option Elab.async false
set_option linter.all false
set_option maxRecDepth 100000
noncomputable abbrev Key:=Sum Int Str
def keyIs:Key->Value->Bool
 |.inl k,v=>Value.isInt k v
 |.inr x,v=>Value.isStrOf x v
def keyH(w:World):Key->Int
 |.inl k=>hashInt k
 |.inr x=>hashStr w x
theorem q19:∀{k:Key}{v:Value},keyIs k v=true->(∃i t,k=Sum.inl i/\v=Value.int i t)\/(∃x t,k=Sum.inr x/\v=Value.str x t)
 |.inl i,v,h=>by
  obtain⟨t,e⟩:=Value.isInt_shape (k:=i) (v:=v) h;exact .inl ⟨i,t,rfl,e⟩
 |.inr x,v,h=>by
  obtain⟨t,e⟩:=Value.isStrOf_shape (x:=x) (v:=v) h;exact .inr ⟨x,t,rfl,e⟩
theorem y9v(a b:Int):decide ((Sum.inl a:Key)=Sum.inl b)=(a==b):=by
 by_cases e:a=b
 ·subst e;simp
 ·have h:¬(Sum.inl a:Key)=Sum.inl b:=fun q=>e (Sum.inl.inj q)
  rw[decide_eq_false h];exact(beq_eq_false_iff_ne.mpr e).symm
theorem y9w(a b:Str):decide ((Sum.inr a:Key)=Sum.inr b)=decide (a=b):=by
 by_cases e:a=b
 ·subst e;simp
 ·have h:¬(Sum.inr a:Key)=Sum.inr b:=fun q=>e (Sum.inr.inj q)
  rw[decide_eq_false h,decide_eq_false e]
theorem y9x(a:Int)(b:Str):decide ((Sum.inl a:Key)=Sum.inr b)=false:=decide_eq_false (fun q=>nomatch q)
theorem y9y(a:Str)(b:Int):decide ((Sum.inr a:Key)=Sum.inl b)=false:=decide_eq_false (fun q=>nomatch q)
def mixKind(prog:Program)(w:World):PySem.KeyKind prog w Key where
 is:=keyIs
 hash:=keyH w
 inj:=fun v a b ha hb=>by
  rcases q19 ha with⟨i,t,rfl,rfl⟩|⟨x,t,rfl,rfl⟩
  ·rcases q19 hb with⟨j,u,rfl,e⟩|⟨y,u,rfl,e⟩
   ·injection e with e1 _;rw[e1]
   ·exact nomatch e
  ·rcases q19 hb with⟨j,u,rfl,e⟩|⟨y,u,rfl,e⟩
   ·exact nomatch e
   ·injection e with e1 _;rw[e1]
 byValue:=fun k v h=>by
  rcases q19 h with⟨i,t,rfl,rfl⟩|⟨x,t,rfl,rfl⟩<;>rfl
 pyHash:=fun hv h=>by
  rcases q19 hv with⟨i,t,rfl,rfl⟩|⟨x,t,rfl,rfl⟩
  ·exact wpAny_pyHash_int h
  ·exact wpAny_pyHash_str h
 eqBool:=fun hu hv h=>by
  rcases q19 hu with⟨i,t,rfl,rfl⟩|⟨x,t,rfl,rfl⟩
  ·rcases q19 hv with⟨j,u,rfl,rfl⟩|⟨y,u,rfl,rfl⟩
   ·rw[y9v]at h;exact wpAny_eqBool_int h
   ·rw[y9x]at h;exact SeqAt.EqAt.int_str i t y u _ _ _ _ h
  ·rcases q19 hv with⟨j,u,rfl,rfl⟩|⟨y,u,rfl,rfl⟩
   ·rw[y9y]at h;exact SeqAt.EqAt.str_int x t j u _ _ _ _ h
   ·rw[y9w]at h;exact wpAny_eqBool_str h
 «strs»:=fun k x t v h=>by
  rcases q19 h with⟨i,u,rfl,e⟩|⟨y,u,rfl,e⟩
  ·exact nomatch e
  ·injection e with e1 _
   subst e1;cases v<;>rfl
set_option genInjectivity true in
inductive V where
 |non|bl (b:Bool)|int (i:Int)|str (x:Str)|byt (b:Array UInt8)|flt (b:UInt64)|ref (a:Addr)|ty (n:String)
 deriving DecidableEq
variable{xs:List V}{v:V}
def RelV:V->Value->Prop
 |.non,u=>u=Value.none
 |.bl b,u=>u=Value.bool b
 |.int i,u=>∃t,u=Value.int i t
 |.str x,u=>∃t,u=Value.str x t
 |.byt b,u=>∃t,u=Value.bytes b t
 |.flt b,u=>∃t,u=Value.float b t
 |.ref a,u=>u=Value.ref a
 |.ty n,u=>u=Value.type n
abbrev Vals:List V->List Value->Prop:=Paired RelV
theorem Vals.length(r:Vals xs us):xs.length=us.length:=Paired.length r
theorem Vals.get:∀{xs:List V}{us:List Value}{i:Nat}{x:V},Vals xs us->xs[i]?=some x->∃u,us[i]?=some u/\RelV x u
 |_,_,_,_,.nil,e=>by simp at e
 |_,_,0,_,.cons r _,e=>by simp at e;subst e;exact⟨_,rfl,r⟩
 |_,_,i+1,x,.cons _ t,e=>by
  obtain⟨u,h1,h2⟩:=Vals.get (i:=i) (x:=x) t (by simpa using e);exact⟨u,by simpa using h1,h2⟩
theorem Vals.append:∀{xs ys:List V}{us ws:List Value},Vals xs us->Vals ys ws->Vals (xs++ys) (us++ws)
 |_,_,_,_,.nil,s=>s
 |_,_,_,_,.cons r t,s=>.cons r (Vals.append t s)
theorem Vals.take:∀{xs:List V}{us:List Value}(n:Nat),Vals xs us->Vals (xs.take n) (us.take n)
 |_,_,0,_=>.nil
 |_,_,_+1,.nil=>.nil
 |_,_,n+1,.cons r t=>.cons r (Vals.take n t)
theorem Vals.drop:∀{xs:List V}{us:List Value}(n:Nat),Vals xs us->Vals (xs.drop n) (us.drop n)
 |_,_,0,r=>r
 |_,_,_+1,.nil=>.nil
 |_,_,n+1,.cons _ t=>Vals.drop n t
def RelO:Option V->Option Value->Prop
 |some v,some u=>RelV v u
 |none,none=>True
 |_,_=>False
def KV{κ:Type}:List (κ×V)->List (κ×Value)->Prop:=Paired fun(p:κ×V) (q:κ×Value)=>p.1=q.1/\RelV p.2 q.2
def kV:Key->V
 |.inl i=>.int i
 |.inr x=>.str x
inductive HO where
 /-- a list -/
 |lst (xs:List V)
 /-- a tuple (never changes) -/
 |tup (xs:List V)
 /-- a dict whose keys are ints and texts;one whose keys are tuples of ints and texts (the empty one is both) -/
 |dK (kvs:List (Key×V))|dT (sh:Sh) (kvs:List (Kx×V)) (kas:List Addr)
 /-- a set of ints: its members,its size -/
 |set (S:Int->Bool) (n:Nat)
 /-- an instance of the class at C,its dict at dx,its attributes -/
 |ins (C dx:Addr) (fs:List (Str×V))
 /-- the dict of the instance at x -/
 |own (x:Addr)
 /-- the dict of an exception -/
 |xd (fs:List (Str×V))
 /-- a bound method,f of x -/
 |met (f x:Addr)
 /-- a range object lo,lo+1,.. below hi -/
 |rng (lo hi:Int)
 /-- a thing that is known to the object (the script;a dict while a loop walks it): read,never written while it is so -/
 |frz (o:Obj) (u:HO)
 /-- a code object's table -/
 |tbl (ps:Array Value)
 /-- any other thing,by what is true of its one object (a def of one's own: SetO a S n:=HO.ext fun h=>..) -/
 |ext (φ:Heap->Prop)
noncomputable abbrev Hp:=Addr->Option HO
variable{H H':Hp}
def TupLike:HO->Prop
 |.tup _=>True
 |.frz _ (.tup _)=>True
 |.frz _ (.own _)=>True
 |_=>False
mutual
def KRep(H:Hp):Kx->V->Prop
 |.non,v=>v=.non
 |.bl b,v=>v=.bl b
 |.int i,v=>v=.int i
 |.str x,v=>v=.str x
 |.tup ks,v=>∃a xs,v=.ref a/\(H a=some (.tup xs)\/∃o,H a=some (.frz o (.tup xs)))/\KReps H ks xs
def KReps(H:Hp):List Kx->List V->Prop
 |[],vs=>vs=[]
 |k::ks,vs=>∃v r,vs=v::r/\KRep H k v/\KReps H ks r
end
mutual
theorem KRep.keeps{H H':Hp}(ht:∀b u,TupLike u->H b=some u->H' b=some u):∀(k:Kx){v:V},KRep H k v->KRep H' k v
 |.non,_,x=>x
 |.bl _,_,x=>x
 |.int _,_,x=>x
 |.str _,_,x=>x
 |.tup ks,_,x=>by
  obtain⟨a,xs,e,q,r⟩:=x;refine⟨a,xs,e,?_,KReps.keeps ht ks r⟩;rcases q with q|⟨o,q⟩
  ·exact .inl (ht _ _ True.intro q)
  ·exact .inr ⟨o,ht _ _ True.intro q⟩
theorem KReps.keeps{H H':Hp}(ht:∀b u,TupLike u->H b=some u->H' b=some u):∀(ks:List Kx){vs:List V},KReps H ks vs->KReps H' ks vs
 |[],_,x=>x
 |k::ks,_,x=>by
  obtain⟨v,r,e,h1,h2⟩:=x;exact⟨v,r,e,KRep.keeps ht k h1,KReps.keeps ht ks h2⟩
end
def upd(H:Hp)(a:Addr)(o:HO):Hp:=fun b=>if b=a then some o else H b
theorem q0h{o:HO}:upd H a o a=some o:=by unfold upd;rw[if_pos rfl]
theorem q0c{o:HO}(h:b≠a):upd H a o b=H b:=by unfold upd;rw[if_neg h]
theorem x1y{o u:HO}:upd (upd H a o) a u=upd H a u:=by
 funext b;unfold upd;split<;>rfl
theorem q03{o u:HO}(h:H a=some o)(h':H b=some u)(d:o≠u):a≠b:=by
 intro e;subst e;rw[h]at h';exact d (Option.some.inj h')
theorem q0m{o:HO}(h:H a=some o)(h':H b=none):a≠b:=by
 intro e;subst e;rw[h]at h';cases h'
section
variable(P:Program)(w:World)
def BareT(h:Heap)(a:Addr):Prop:=∃o,h.get? a=some o/\o.dict=none
def ObjOk(H:Hp)(h:Heap)(a:Addr):HO->Prop
 |.lst xs=>xs.length<=sizeLine/\∃(its:List Value)(n:Nat),Vals xs its/\h.get? a=some {cls:=.type "list", data:=.seq its.toArray n}
 |.tup xs=>xs.length<=sizeLine/\∃its:List Value,Vals xs its/\IsTup h a its.toArray/\BareT h a
 |.dK kvs=>kvs.length<=sizeLine/\(a==sysModules)=false/\∃vs,KV kvs vs/\h.DictOf (mixKind P w) a vs
 |.dT sh kvs kas=>kvs.length<=sizeLine/\(a==sysModules)=false/\∃xs:List (Kx×Addr×Value),
   Paired (fun(p:Kx×V) (q:Kx×Addr×Value)=>p.1=q.1/\(KRep H p.1 (.ref q.2.1)/\Conf p.1 sh/\p.1.depth<=7)/\RelV p.2 q.2.2) kvs xs/\xs.map (·.2.1)=kas /\
   ∃o es ep,h.get? a=some o/\o.ExactDict/\o.data=.dict es ep/\es.toList=xs.map (entryOfKey (treeKind P w sh))/\(xs.map (·.1)).Nodup
 |.set S n=>h.SetOf (intKind P w) a S n
 |.ins C dx fs=>H dx=some (.own a)/\fs.length<=1000/\dx≠a/\h.get? a=some (PySem.W.instObj C dx) /\
   ∃mA,h.Ns1 dx mA/\(∀f,RelO (fs.lookup f) (mA f))/\PySem.Within mA (fs.map (·.1))
 |.own _=>∃o,h.get? a=some o
 |.xd fs=>∃mA,h.Ns1 a mA/\∀f,RelO (fs.lookup f) (mA f)
 |.rng lo hi=>∃t u v,h.get? a=some {cls:=.type "range", data:=.fields #[.int lo t,.int hi u,.int 1 v]}
 |.frz o u=>h.get? a=some o/\ObjOk H h a u
 |.tbl ps=>(∃(q:Str)(qs:Array Value),ps[0]?=some (.bool true)/\ps[1]?=some (.str q 0)/\h.get? a=some {cls:=.none,data:=.fields qs}/\TriplesOk qs.toList/\∀(pos:Pos)(cv:Value),codeAmong pos qs.toList=some cv ->
   ∃(c:Addr)(oc:Obj)(vs:Array Value)(t:Tok),cv=.ref c/\H c=some (.frz oc (.own 0))/\oc.data=.fields vs/\vs[1]?=some (.str q t)) \/
   ∃(q:Str)(c:Addr)(oc ob:Obj)(vs:Array Value)(t:Tok),ps[0]?=some (.bool false)/\ps[1]?=some (.str q 0)/\ps[2]?=some (.ref c)/\H c=some (.frz oc (.own 0))/\oc.data=.fields vs/\vs[1]?=some (.str q t)/\h.get? a=some ob
 |.met f x=>h.get? a=some (methodObj (.ref f) (.ref x))
 |.ext φ=>φ h/\(∃o,h.get? a=some o)/\∀h1 h2:Heap,φ h1->(∀o,h1.get? a=some o->h2.get? a=some o)->φ h2
def HOk(H:Hp)(h:Heap):Prop:=∀a o,H a=some o->ObjOk P w H h a o
end
section
variable{o:HO}
theorem ObjOk.lt(x:ObjOk P w H h a o):a<h.objs.size:=by
 cases o with
 |lst xs=>obtain⟨_,_,_,_,e⟩:=x;exact Heap.lt_size e
 |tup xs=>obtain⟨_,_,_,p,_⟩:=x;exact p.lt
 |dK kvs=>obtain⟨_,_,_,_,o,_,_,e,_⟩:=x;exact Heap.lt_size e
 |dT sh kvs kas=>obtain⟨_,_,_,_,_,o,_,_,e,_⟩:=x;exact Heap.lt_size e
 |set S n=>obtain⟨o,_,_,_,e,_⟩:=x;exact Heap.lt_size e
 |ins C dx fs=>obtain⟨_,_,_,e,_⟩:=x;exact Heap.lt_size e
 |own y=>obtain⟨_,e⟩:=x;exact Heap.lt_size e
 |xd fs=>obtain⟨_,⟨_,_,_,e,_⟩,_⟩:=x;exact Heap.lt_size e
 |rng lo hi=>obtain⟨_,_,_,e⟩:=x;exact Heap.lt_size e
 |frz ob u=>obtain⟨e,_⟩:=x;exact Heap.lt_size e
 |tbl ps=>rcases x with⟨_,_,_,_,e,_⟩|⟨_,_,_,_,_,_,_,_,_,_,_,_,e⟩<;>exact Heap.lt_size e
 |met f y=>exact Heap.lt_size (show h.get? a=some _ from x)
 |ext φ=>obtain⟨_,⟨_,e⟩,_⟩:=x;exact Heap.lt_size e
theorem Paired.mapP{α β:Type}{F G:α->β->Prop}:∀{l₁:List α}{l₂:List β},Paired F l₁ l₂->(∀a b,F a b->G a b)->Paired G l₁ l₂
 |_,_,.nil,_=>.nil
 |_,_,.cons r t,f=>.cons (f _ _ r) (Paired.mapP t f)
theorem ObjOk.stay(x:ObjOk P w H h a o)(k:∀b u,(b=a\/H b=some (.own a))->h.get? b=some u->h'.get? b=some u)
  (ho:∀b,H b=some (.own a)->H' b=some (.own a))(ht:∀b u,TupLike u->H b=some u->H' b=some u):ObjOk P w H' h' a o:=by
 induction o with
 |lst xs=>obtain⟨z,its,n,r,e⟩:=x;exact⟨z,its,n,r,k _ _ (.inl rfl) e⟩
 |tup xs=>obtain⟨z,its,r,⟨ob,e,c⟩,⟨o2,e2,c2⟩⟩:=x;exact⟨z,its,r,⟨ob,k _ _ (.inl rfl) e,c⟩,⟨o2,k _ _ (.inl rfl) e2,c2⟩⟩
 |dK kvs=>obtain⟨z,y,vs,r,ob,es,ep,e,c⟩:=x;exact⟨z,y,vs,r,ob,es,ep,k _ _ (.inl rfl) e,c⟩
 |dT sh kvs kas=>
  obtain⟨z,y,xs,r,ka,ob,es,ep,e,c⟩:=x;exact⟨z,y,xs,Paired.mapP r fun p q z=>⟨z.1,⟨KRep.keeps ht _ z.2.1.1,z.2.1.2⟩,z.2.2⟩,ka,ob,es,ep,k _ _ (.inl rfl) e,c⟩
 |set S n=>obtain⟨ob,es,ep,t,e,c⟩:=x;exact⟨ob,es,ep,t,k _ _ (.inl rfl) e,c⟩
 |ins C dx fs=>
  obtain⟨d,z,ne,e,mA,⟨od,es,ep,e2,c⟩,r⟩:=x;exact⟨ho _ d,z,ne,k _ _ (.inl rfl) e,mA,⟨od,es,ep,k _ _ (.inr d) e2,c⟩,r⟩
 |own y=>obtain⟨ob,e⟩:=x;exact⟨ob,k _ _ (.inl rfl) e⟩
 |xd fs=>obtain⟨mA,⟨od,es,ep,e,c⟩,r⟩:=x;exact⟨mA,⟨od,es,ep,k _ _ (.inl rfl) e,c⟩,r⟩
 |rng lo hi=>obtain⟨t,u,v,e⟩:=x;exact⟨t,u,v,k _ _ (.inl rfl) e⟩
 |frz ob u ih=>obtain⟨e,q⟩:=x;exact⟨k _ _ (.inl rfl) e,ih q⟩
 |tbl ps=>
  rcases x with⟨q,qs,p0,p1,e,tr,cd⟩|⟨q,c,oc,ob,vs,t,p0,p1,p2,h3,h4,h5,e⟩
  ·refine .inl ⟨q,qs,p0,p1,k _ _ (.inl rfl) e,tr,fun pos cv z=>?_⟩
   obtain⟨c,oc,vs,t,h1,h3,h4,h5⟩:=cd pos cv z;exact⟨c,oc,vs,t,h1,ht _ _ True.intro h3,h4,h5⟩
  ·exact .inr ⟨q,c,oc,ob,vs,t,p0,p1,p2,ht _ _ True.intro h3,h4,h5,k _ _ (.inl rfl) e⟩
 |met f y=>
  have e:h.get? a=some (methodObj (.ref f) (.ref y)):=x;show h'.get? a=some (methodObj (.ref f) (.ref y));exact k a _ (.inl rfl) e
 |ext φ=>obtain⟨p,⟨o,e⟩,st⟩:=x;exact⟨st _ _ p fun o q=>k _ _ (.inl rfl) q,⟨o,k _ _ (.inl rfl) e⟩,st⟩
theorem HOk.lt(x:HOk P w H h)(e:H a=some o):a<h.objs.size:=(x a o e).lt
theorem HOk.fresh(x:HOk P w H h)(e:h.objs.size<=a):H a=none:=by
 cases q:H a with
 |none=>rfl
 |some u=>exact absurd (w0t (x.lt q) e) (w2f _)
theorem HOk.kept(x:HOk P w H h)(k:∀b u,h.get? b=some u->h'.get? b=some u):HOk P w H h':=fun a o e=>
 (x a o e).stay (fun b u _ q=>k b u q) (fun _ q=>q) fun _ _ _ q=>q
theorem HOk.laid(x:HOk P w H h)(k:∀b u,h.get? b=some u->h'.get? b=some u)(hp:h.objs.size<=a)(new:ObjOk P w (upd H a o) h' a o):HOk P w (upd H a o) h':=fun b u e=>by
 have hn:=x.fresh hp
 by_cases hb:b=a
 ·subst hb;rw[q0h]at e;cases e;exact new
 ·rw[q0c hb]at e;exact(x b u e).stay (fun c v _ q=>k c v q) (fun c q=>by rw[q0c (q0m q hn)];exact q) fun c xs _ q=>by rw[q0c (q0m q hn)];exact q
end
def Rd(H:Hp)(a:Addr)(u:HO):Prop:=H a=some u\/∃o,H a=some (.frz o u)
theorem Rd.ok{u:HO}(r:Rd H a u)(x:HOk P w H h):ObjOk P w H h a u:=by
 rcases r with r|⟨o,r⟩
 ·exact x a u r
 ·obtain⟨_,q⟩:=x a _ r;exact q
def Mut:Option HO->Prop
 |some (.lst _)=>True
 |some (.dK _)=>True
 |some (.dT _ _ _)=>True
 |some (.set _ _)=>True
 |some (.ins _ _ _)=>True
 |some (.ext _)=>True
 |_=>False
section
variable{x e:Addr}{o':HO}
theorem HOk.write(ok:HOk P w H h)(mu:Mut (H x))(he:e=x\/H e=some (.own x))(k:∀b u,b≠e->h.get? b=some u->h'.get? b=some u)(heo:∃u,h'.get? e=some u)
  (new:ObjOk P w (upd H x o') h' x o'):HOk P w (upd H x o') h':=fun b u q=>by
 have nown:∀c y,H c=some (.own y)->c≠x:=fun c y r z=>by subst z;rw[r]at mu;exact mu
 have ntup:∀c u,TupLike u->H c=some u->c≠x:=fun c u t r z=>by
  subst z;rw[r]at mu;cases u<;>first|exact mu|exact t
 by_cases hb:b=x
 ·subst hb;rw[q0h]at q;cases q;exact new
 ·rw[q0c hb]at q
  by_cases hbe:b=e
  ·have q':H b=some (.own x):=by
    rcases he with z|z
    ·exact absurd (hbe.trans z) hb
    ·rw[hbe];exact z
   rw[q]at q';cases q';obtain⟨v,hv⟩:=heo;exact⟨v,by rw[hbe];exact hv⟩
  ·refine(ok b u q).stay (fun c v hc r=>k c v ?_ r) (fun c r=>by rw[q0c (nown c b r)];exact r) fun c xs t r=>by rw[q0c (ntup c xs t r)];exact r
   rcases hc with rfl|hc
   ·exact hbe
   ·rintro rfl;rcases he with z|z
    ·exact nown c b hc z
    ·rw[hc]at z;cases z;exact hb rfl
end
structure Un(fs ex:List Addr)(H H':Hp)(h h':Heap):Prop where
 keep:∀b o,h.get? b=some o->H b=none->b∉fs->b∉ex->h'.get? b=some o
 slot:∀b o,h.get? b=some o->H b=none->b∈fs->b∉ex->∃sl,h'.get? b=some {o with slots:=sl}
 free:∀b o,h.get? b=some o->H b=none->b∉ex->H' b=none
 there:∀b o,h.get? b=some o->b∉ex->∃o',h'.get? b=some o'
 tups:∀b xs,H b=some (.tup xs)->H' b=some (.tup xs)
 frzs:∀b o u,H b=some (.frz o u)->H' b=some (.frz o u)
 tbls:∀b ps,H b=some (.tbl ps)->∃more,H' b=some (.tbl (ps++more))
section
variable{fs fs' ex ex':List Addr}{H1 H2:Hp}{h1 h2:Heap}{x e:Addr}{o:HO}
theorem Un.any(u:Un fs ex H H1 h h1){ob:Obj}(q:h.get? b=some ob)(n:H b=none)(hx:b∉ex):∃sl,h1.get? b=some {ob with slots:=sl}:=by
 by_cases hb:b∈fs
 ·exact u.slot b ob q n hb hx
 ·exact⟨ob.slots,u.keep b ob q n hb hx⟩
theorem Un.kept(k:∀b u,h.get? b=some u->h'.get? b=some u):Un fs ex H H h h':=
 ⟨fun b ob q _ _ _=>k b ob q,fun b ob q _ _ _=>⟨ob.slots,k b ob q⟩,fun _ _ _ n _=>n,fun b ob q _=>⟨ob,k b ob q⟩,fun _ _ q=>q,fun _ _ _ q=>q,fun _ ps q=>⟨#[],by rw[q];simp⟩⟩
theorem Un.refl:Un fs ex H H h h:=Un.kept fun _ _ q=>q
theorem Un.laid(k:∀b u,h.get? b=some u->h'.get? b=some u)(hp:h.objs.size<=a)(hn:H a=none):Un fs ex H (upd H a o) h h' where
 keep:=fun b u q _ _ _=>k b u q
 slot:=fun b u q _ _ _=>⟨u.slots,k b u q⟩
 free:=fun b u q n _=>by rw[q0c (w0r (w0t (Heap.lt_size q) hp))];exact n
 there:=fun b u q _=>⟨u,k b u q⟩
 tups:=fun b xs q=>by rw[q0c (q0m q hn)];exact q
 frzs:=fun b u xs q=>by rw[q0c (q0m q hn)];exact q
 tbls:=fun b ps q=>⟨#[],by rw[q0c (q0m q hn),q];simp⟩
theorem Un.write(mu:Mut (H x))(he:e=x\/H e=some (.own x))(k:∀b u,b≠e->h.get? b=some u->h'.get? b=some u)(heo:∃u,h'.get? e=some u):Un fs ex H (upd H x o) h h':=by
 have hx:∀b,H b=none->b≠x:=fun b n z=>by subst z;rw[n]at mu;exact mu
 have hb:∀b,H b=none->b≠e:=fun b n z=>by
  subst z;rcases he with r|r
  ·exact hx b n r
  ·rw[n]at r;cases r
 have hm:∀b u,H b=some u->¬Mut (some u)->b≠x:=fun b u q nm z=>by subst z;rw[q]at mu;exact nm mu
 refine⟨fun b u q n _ _=>k b u (hb b n) q,fun b u q n _ _=>⟨u.slots,k b u (hb b n) q⟩,fun b u q n _=>by rw[q0c (hx b n)];exact n,fun b u q _=>?_,
  fun b xs q=>by rw[q0c (hm b _ q fun z=>z)];exact q,fun b u xs q=>by rw[q0c (hm b _ q fun z=>z)];exact q,fun b ps q=>⟨#[],by rw[q0c (hm b _ q fun z=>z),q];simp⟩⟩
 by_cases hbe:b=e
 ·subst hbe;exact heo
 ·exact⟨u,k b u hbe q⟩
end
def trk(h:Heap)(H:Hp):List Addr:=(List.range h.objs.size).filter fun a=>(H a).isSome
def hidT(h:Heap)(H:Hp):Heap:=PySem.W.hideAll h (trk h H)
theorem x2o(h:Heap)(H:Hp):(hidT h H).objs.size=h.objs.size:=PySem.W.hideAll_size _ _
theorem x4g{o:Obj}(e:h.get? b=some o)(n:H b=none):(hidT h H).get? b=some o:=
 hideAll_get _ e fun hm=>by
  have q:(H b).isSome=true:=(w0w.mp hm).2;rw[n]at q;simp at q
theorem x7c{o:Obj}(e:(hidT h H).get? b=some o):h.get? b=some o/\H b=none:=by
 have e':h.get? b=some o:=PySem.W.of_hideAll (trk h H) e;refine⟨e',?_⟩;cases q:H b with
 |none=>rfl
 |some x=>
  have hm:b∈trk h H:=w0w.mpr ⟨w0x.mpr (Heap.lt_size e'),by simp[q]⟩;have z:(hidT h H).get? b=none:=PySem.W.hideAll_none (trk h H) hm;rw[z]at e;cases e
def allNews(g h:Heap)(L:Addr):List (Addr×Obj):=(List.range h.objs.size).filterMap fun a=>if a=L\/(g.get? a).isSome=true then none else(h.get? a).map fun o=>(a,o)
def rest(g h:Heap)(L d:Addr):List (Addr×Obj):=(allNews g h L).filter fun p=>decide (p.1≠d)
structure Mod(K:Fg)(mg:Str->Option Value)(base:Heap):Prop where
 kin:K.In base
 glob:base.Ns mainGlobals mg
 blt:∃mb,base.Ns builtinsNs mb/\∀x:Str,x≠"__name__"->mb x=bootBuiltins x
 nolimit:base.NoLimit
structure Cx where
 prog:Program
 w:World
 K:Fg
 mg:Str->Option Value
 base:Heap
 A:Around
 N:List Str
 s₀:Shared
 H₀:Hp
 env:Env
 outer:List Env
 stack:List Env
 ex:List Addr
 fn:Str->Bool
 calm:Bool
 pn:List (Addr×Obj)
 xe:Value->Shared->Prop
variable{X:Cx}
def frs(l:List Env):List Addr:=l.filterMap (·.frame)
noncomputable abbrev Cx.fs(X:Cx):List Addr:=frs X.outer
def Vis(sc:Scope)(x:Str):Prop:=sc.names.lookup x=some .local\/sc.names.lookup x=some .cell\/sc.names.lookup x=some .free
def Loc(sc:Scope)(x:Str):Prop:=sc.names.lookup x=some .local\/sc.names.lookup x=some .cell
def Look(env:Env)(h:Heap)(m:Str->Option Value)(x:Str)(u:Value):Prop:=
 (env.kindOf x=some .local/\m x=some u)\/((env.kindOf x=some .cell\/env.kindOf x=some .free)/\∃c,env.cells.lookup x=some c/\h.IsCell c (some u))
noncomputable abbrev markO(P:Addr)(q:Str):Obj:={cls:=.str q 0,data:=.fields #[.ref P]}
def TabOk(K:Fg)(H:Hp):Prop:=∀(a:Addr)(q:Str)(P:Addr),(a,markO P q)∈K->∃ps:Array Value,H P=some (.tbl ps)/\ps[0]?=some (.bool true)/\ps[1]?=some (.str q 0)
def noMark(K:Fg):Bool:=K.all fun p=>match p.2.cls with
 |.str _ _=>false
 |_=>true
theorem TabOk.vac(h:noMark K=true):TabOk K H:=fun a q P m=>by
 have:=w0z.mp h _ m;cases this
theorem TabOk.un{fs ex:List Addr}{h':Heap}(t:TabOk K H)(u:Un fs ex H H' h h'):TabOk K H':=fun a q P m=>by
 obtain⟨ps,e,p0,p1⟩:=t a q P m;obtain⟨more,e'⟩:=u.tbls P ps e;refine⟨_,e',?_,?_⟩
 ·rw[w1n (by obtain⟨z,_⟩:=w2e.mp p0;exact z)];exact p0
 ·rw[w1n (by obtain⟨z,_⟩:=w2e.mp p1;exact z)];exact p1
theorem TabOk.laid{D:Addr}{o:HO}(t:TabOk K H)(hn:H D=none):TabOk K (upd H D o):=fun a q P m=>by
 obtain⟨ps,e,p⟩:=t a q P m;exact⟨ps,by rw[q0c (q0m e hn)];exact e,p⟩
structure Cx.Ok(X:Cx):Prop where
 mod:Mod X.K X.mg X.base
 kind:X.env.scope.kind=.function
 glob:X.env.globals=mainGlobals
 blt:X.env.builtins=builtinsNs
 above:X.s₀.heap.objs.size<=X.env.locals
 inj:∀x y c,X.env.cells.lookup x=some c->X.env.cells.lookup y=some c->x=y
 has:∀x,(X.env.kindOf x=some .cell\/X.env.kindOf x=some .free)->∃c,X.env.cells.lookup x=some c
 cab:∀x c,X.fn x=true->X.env.cells.lookup x=some c->X.s₀.heap.objs.size<=c
 hd:X.calm=true->X.A.handled=none
 frames:X.A.frames=some X.stack
 stk:X.stack=X.outer\/(X.stack=X.env::X.outer/\X.env.frame=some X.env.locals)
 exf:∀b∈X.ex,b≠X.env.locals/\∀x c,X.env.cells.lookup x=some c->c≠b
 bs:∀b o,X.base.get? b=some o->X.s₀.heap.get? b=some o/\X.H₀ b=none
 bsz:X.base.objs.size<=X.s₀.heap.objs.size
 noex:∀b o,X.base.get? b=some o->b∉X.ex
 exfs:∀b∈X.ex,b∉X.fs
 funs:X.s₀.heap.FunFrames X.base X.outer
 frf:∀b∈X.fs,X.H₀ b=none
 tab:TabOk X.K X.H₀
structure Inv(X:Cx)(pins:List (Addr×Obj))(σ:List (Option V))(H:Hp)(s:Shared):Prop where
 ok:X.Ok
 os:s.os=X.s₀.os
 bare:AllBare s.gens
 base:Un X.fs X.ex X.H₀ H X.s₀.heap s.heap
 loc:∃m,s.heap.Ns X.env.locals m/\∀(i:Nat)(x:Str)(v:V),X.N[i]?=some x->σ[i]?=some (some v)->Vis X.env.scope x->∃u,RelV v u/\Look X.env s.heap m x u
 cell:∀x c,X.env.cells.lookup x=some c->∃v,s.heap.IsCell c v
 free:H X.env.locals=none
 freeC:∀x c,X.env.cells.lookup x=some c->H c=none
 pin:∀p∈X.pn++pins,s.heap.get? p.1=some p.2/\H p.1=none/\p.1≠X.env.locals/\p.1∉X.fs/\∀v,p.2.data≠.cell v
 hok:HOk X.prog X.w H s.heap
 len:σ.length=X.N.length
section
variable{σ:List (Option V)}
theorem Cx.Ok.nofr(ok:X.Ok){o:Obj}(e:X.base.get? b=some o):b∉X.fs:=fun hb=>by
 have:=(ok.funs.mem hb).1
 rw[e]at this;cases this
theorem Inv.bs(I:Inv X pins σ H s):∀b o,X.base.get? b=some o->s.heap.get? b=some o/\H b=none:=fun b o e=>
 ⟨I.base.keep b o (I.ok.bs b o e).1 (I.ok.bs b o e).2 (I.ok.nofr e) (I.ok.noex b o e),I.base.free b o (I.ok.bs b o e).1 (I.ok.bs b o e).2 (I.ok.noex b o e)⟩
theorem Inv.bk(I:Inv X pins σ H s):∀b o,X.base.get? b=some o->s.heap.get? b=some o:=fun b o e=>(I.bs b o e).1
theorem Inv.mod(I:Inv X pins σ H s):Mod X.K X.mg X.base:=I.ok.mod
theorem Inv.kIn(I:Inv X pins σ H s):X.K.In s.heap:=I.ok.mod.kin.keeps I.bk
theorem Inv.fr(I:Inv X pins σ H s):∃m,Fr X.base X.env.locals s.heap m:=
 let ⟨m,hn,_⟩:=I.loc
 ⟨m,hn,I.bk,w0m I.ok.bsz I.ok.above⟩
theorem Inv.lt(I:Inv X pins σ H s):X.env.locals<s.heap.objs.size:=let ⟨_,hn,_⟩:=I.loc;hn.lt
theorem Inv.sz(I:Inv X pins σ H s):X.s₀.heap.objs.size<=s.heap.objs.size:=w0m I.ok.above (w4g I.lt)
theorem Inv.nofs(I:Inv X pins σ H s)(h:s.heap.objs.size<=a):a∉X.fs:=fun hb=>by
 obtain⟨_,o,ho,_⟩:=I.ok.funs.mem hb
 exact absurd (w0t (Heap.lt_size ho) (w0m I.sz h)) (w2f _)
theorem Inv.cne(I:Inv X pins σ H s):∀x c,X.env.cells.lookup x=some c->c≠X.env.locals:=fun x c e z=>by
 obtain⟨v,o,ho,hd⟩:=I.cell x c e;obtain⟨m,⟨o',es,ep,ho',hd',_⟩,_⟩:=I.loc;rw[z,ho']at ho;cases ho;rw[hd']at hd;cases hd
theorem Inv.funs(I:Inv X pins σ H s):s.heap.FunFrames X.base X.outer:=by
 have all:∀(l:List Env),(∀b∈frs l,b∈X.fs)->X.s₀.heap.FunFrames X.base l->s.heap.FunFrames X.base l:=by
  intro l
  induction l with
  |nil=>intro _ _;trivial
  |cons env r ih=>
   intro hs hl;obtain⟨hk,⟨L,o,hf,hn,ho,hd⟩,hr⟩:=hl;have hL:L∈X.fs:=hs L (by unfold frs;rw[w3m,hf];exact w0h);obtain⟨sl,e⟩:=I.base.slot L o ho (I.ok.frf L hL) hL fun z=>I.ok.exfs L z hL
   exact⟨hk,⟨L,_,hf,hn,e,hd⟩,ih (fun b hb=>hs b (by unfold frs;rw[w3m,hf];exact w0f _ hb)) hr⟩
 exact all X.outer (fun _ hb=>hb) I.ok.funs
theorem Inv.stack(I:Inv X pins σ H s):s.heap.FunFrames X.base X.stack:=by
 rcases I.ok.stk with e|⟨e,hf⟩
 ·rw[e];exact I.funs
 ·rw[e];obtain⟨m,hn,_⟩:=I.loc;refine .cons (by rw[I.ok.kind];decide) hf hn ?_ I.funs
  exact Heap.get?_none_of_le (w0m I.ok.bsz I.ok.above)
theorem Inv.stkSub(I:Inv X pins σ H s):∀b∈frs X.stack,b∈X.env.locals::X.fs:=fun b hb=>by
 rcases I.ok.stk with e|⟨e,hf⟩
 ·rw[e]at hb;exact w0f _ hb
 ·rw[e]at hb;unfold frs at hb;rw[w3m,hf]at hb;exact hb
theorem Inv.stkFree(I:Inv X pins σ H s):∀b∈frs X.stack,H b=none:=fun b hb=>by
 rcases w0j.mp (I.stkSub b hb)with e|hb
 ·rw[e];exact I.free
 ·obtain⟨_,o,ho,_⟩:=I.ok.funs.mem hb
  exact I.base.free b o ho (I.ok.frf b hb) fun z=>I.ok.exfs b z hb
theorem Inv.step{g':Array GenState}{d':Drawn}{ch:List Addr}(I:Inv X pins σ H s)
  (hch:∀b∈ch,(b∈X.ex\/X.s₀.heap.objs.size<=b)/\b≠X.env.locals/\(∀x c,X.env.cells.lookup x=some c->c≠b)/\∀p∈X.pn++pins,p.1≠b)
  (keep:∀b o,b≠X.env.locals->b∉X.fs->b∉ch->s.heap.get? b=some o->H b=none->h'.get? b=some o)
  (slot:∀b o,b≠X.env.locals->b∈X.fs->b∉ch->s.heap.get? b=some o->H b=none->∃sl,h'.get? b=some {o with slots:=sl})(free:∀b o,b∉ch->s.heap.get? b=some o->H b=none->H' b=none)
  (there:∀b o,b∉ch->s.heap.get? b=some o->∃o',h'.get? b=some o')
  (tups:∀b xs,H b=some (.tup xs)->H' b=some (.tup xs))(frzs:∀b o u,H b=some (.frz o u)->H' b=some (.frz o u))(tbls:∀b ps,H b=some (.tbl ps)->∃more,H' b=some (.tbl (ps++more)))
  (ns:∀m,s.heap.Ns X.env.locals m->h'.Ns X.env.locals m)(hok:HOk X.prog X.w H' h')(hg:AllBare g'):
  Inv X pins σ H' {s with heap:=h',gens:=g',drawn:=d',toks:=t'}:=by
 have neL:∀b o,X.s₀.heap.get? b=some o->b≠X.env.locals:=fun b o e=>w0r (w0t (Heap.lt_size e) I.ok.above)
 have neC:∀b o,X.s₀.heap.get? b=some o->b∉X.ex->b∉ch:=fun b o e hx hb=>by
  rcases(hch b hb).1 with z|z
  ·exact hx z
  ·exact absurd (w0t (Heap.lt_size e) z) (w2f _)
 have cellK:∀x c,X.env.cells.lookup x=some c->∀v,s.heap.IsCell c v->h'.IsCell c v:=fun x c e v ⟨o,ho,hd⟩=>by
  have nch:c∉ch:=fun z=>(hch c z).2.2.1 x c e rfl
  by_cases hc:c∈X.fs
  ·obtain⟨sl,q⟩:=slot c o (I.cne x c e) hc nch ho (I.freeC x c e);exact⟨_,q,hd⟩
  ·exact⟨o,keep c o (I.cne x c e) hc nch ho (I.freeC x c e),hd⟩
 refine⟨I.ok,I.os,hg,⟨fun b o e n hb hx=>?_,fun b o e n hb hx=>?_,fun b o e n hx=>?_,fun b o e hx=>?_,fun b xs e=>tups b xs (I.base.tups b xs e),fun b o xs e=>frzs b o xs (I.base.frzs b o xs e),fun b ps e=>?_⟩,?_,fun x c e=>?_,?_,fun x c e=>?_,fun p hp=>?_,hok,I.len⟩
 ·exact keep b o (neL b o e) hb (neC b o e hx) (I.base.keep b o e n hb hx) (I.base.free b o e n hx)
 ·obtain⟨sl,e1⟩:=I.base.slot b o e n hb hx;obtain⟨sl',e2⟩:=slot b _ (neL b o e) hb (neC b o e hx) e1 (I.base.free b o e n hx);exact⟨sl',e2⟩
 ·obtain⟨o',e1⟩:=I.base.there b o e hx;exact free b o' (neC b o e hx) e1 (I.base.free b o e n hx)
 ·obtain⟨o',e1⟩:=I.base.there b o e hx;exact there b o' (neC b o e hx) e1
 ·obtain⟨m1,e1⟩:=I.base.tbls b ps e;obtain⟨m2,e2⟩:=tbls b _ e1;exact⟨m1++m2,by rw[e2,Array.append_assoc]⟩
 ·obtain⟨m,hn,hl⟩:=I.loc;refine⟨m,ns m hn,fun i x v e1 e2 e3=>?_⟩
  obtain⟨u,r,l⟩:=hl i x v e1 e2 e3;refine⟨u,r,?_⟩;rcases l with l|⟨k,c,e,z⟩
  ·exact .inl l
  ·exact .inr ⟨k,c,e,cellK x c e _ z⟩
 ·obtain⟨v,z⟩:=I.cell x c e;exact⟨v,cellK x c e v z⟩
 ·obtain⟨m,⟨o,_,_,ho,_⟩,_⟩:=I.loc;exact free _ o (fun z=>(hch _ z).2.1 rfl) ho I.free
 ·obtain⟨v,o,ho,hd⟩:=I.cell x c e;exact free c o (fun z=>(hch c z).2.2.1 x c e rfl) ho (I.freeC x c e)
 ·obtain⟨e,n,ne,nf,d⟩:=I.pin p hp;have nch:p.1∉ch:=fun z=>(hch p.1 z).2.2.2 p hp rfl
  exact⟨keep p.1 p.2 ne nf nch e n,free p.1 p.2 nch e n,ne,nf,d⟩
theorem Inv.un(I:Inv X pins σ H s)(u:Un X.fs [] H H' s.heap h')(hok:HOk X.prog X.w H' h'):Inv X pins σ H' {s with heap:=h',toks:=t'}:=by
 obtain⟨m,⟨o,es,ep,ho,r⟩,_⟩:=id I.loc;obtain⟨sl,hL⟩:=u.any ho I.free (by simp)
 exact I.step (g':=s.gens) (d':=s.drawn) (ch:=[]) (fun _ z=>nomatch z) (fun b o _ hb _ e n=>u.keep b o e n hb (by simp)) (fun b o _ hb _ e n=>u.slot b o e n hb (by simp)) (fun b o _ e n=>u.free b o e n (by simp)) (fun b o _ e=>u.there b o e (by simp)) u.tups u.frzs u.tbls (fun m' hm=>by
  obtain⟨o',es',ep',ho',r'⟩:=hm;rw[ho]at ho';cases ho';exact⟨_,es',ep',hL,r'⟩) hok I.bare
theorem Inv.call{g':Array GenState}{d':Drawn}(I:Inv X pins σ H s)(u:Un (frs X.stack) ch H H' s.heap h')(hok:HOk X.prog X.w H' h')(hg:AllBare g')
  (hch:∀b∈ch,(b∈X.ex\/X.s₀.heap.objs.size<=b)/\b≠X.env.locals/\(∀x c,X.env.cells.lookup x=some c->c≠b)/\∀p∈X.pn++pins,p.1≠b):
  Inv X pins σ H' {s with heap:=h',gens:=g',drawn:=d',toks:=t'}:=by
 obtain⟨m,⟨o,es,ep,ho,r⟩,_⟩:=id I.loc;obtain⟨sl,hL⟩:=u.any ho I.free fun z=>(hch _ z).2.1 rfl
 exact I.step (ch:=ch) hch (fun b o hL hb hc e n=>u.keep b o e n (fun z=>(w0j.mp (I.stkSub b z)).elim hL hb) hc) (fun b o _ _ hc e n=>u.any e n hc) (fun b o hc e n=>u.free b o e n hc) (fun b o hc e=>u.there b o e hc) u.tups u.frzs u.tbls (fun m' hm=>by
  obtain⟨o',es',ep',ho',r'⟩:=hm;rw[ho]at ho';cases ho';exact⟨_,es',ep',hL,r'⟩) hok hg
theorem Inv.turned{t':Nat}{it:Addr}(I:Inv X pins σ H s)(k:∀b o,b≠it->s.heap.get? b=some o->h'.get? b=some o)(hn:H it=none)(hL:it≠X.env.locals)
  (h1:it∈X.ex\/X.s₀.heap.objs.size<=it)(h2:∀x c,X.env.cells.lookup x=some c->c≠it)(h3:∀p∈X.pn++pins,p.1≠it):Inv X pins σ H {s with heap:=h',toks:=t'}:=by
 have nit:∀b u,H b=some u->b≠it:=fun b u e z=>by rw[z,hn]at e;cases e
 refine I.step (g':=s.gens) (d':=s.drawn) (ch:=[it]) (fun b hb=>?_) (fun b o _ _ hc e _=>k b o (fun z=>hc (by simp[z])) e) (fun b o _ _ hc e _=>⟨o.slots,k b o (fun z=>hc (by simp[z])) e⟩) (fun _ _ _ _ n=>n)
  (fun b o hc e=>⟨o,k b o (fun z=>hc (by simp[z])) e⟩) (fun _ _ e=>e) (fun _ _ _ e=>e) (fun b ps e=>⟨#[],by rw[e];simp⟩) (fun m hm=>?_) (fun b u e=>?_) I.bare
 ·have e:b=it:=by simpa using hb
  subst e;exact⟨h1,hL,h2,h3⟩
 ·obtain⟨o,es,ep,ho,r⟩:=hm;exact⟨o,es,ep,k _ o (Ne.symm hL) ho,r⟩
 ·refine(I.hok b u e).stay (fun c v hc q=>k c v ?_ q) (fun _ q=>q) fun _ _ _ q=>q
  rcases hc with z|z
  ·rw[z];exact nit b u e
  ·exact nit c _ z
theorem Inv.tok(I:Inv X pins σ H s)(t:Nat):Inv X pins σ H {s with toks:=t}:=I.un (h':=s.heap) (t':=t) Un.refl I.hok
theorem Inv.kept{t':Nat}(I:Inv X pins σ H s)(k:∀b u,s.heap.get? b=some u->h'.get? b=some u):Inv X pins σ H {s with heap:=h',toks:=t'}:=I.un (Un.kept k) (I.hok.kept k)
theorem Inv.laid{o:HO}{t':Nat}(I:Inv X pins σ H s)(k:∀b u,s.heap.get? b=some u->h'.get? b=some u)(hp:s.heap.objs.size<=a)(new:ObjOk X.prog X.w (upd H a o) h' a o):
  Inv X pins σ (upd H a o) {s with heap:=h',toks:=t'}:=I.un (Un.laid k hp (I.hok.fresh hp)) (I.hok.laid k hp new)
theorem Inv.write{x e:Addr}{o:HO}{t':Nat}(I:Inv X pins σ H s)(mu:Mut (H x))(he:e=x\/H e=some (.own x))(k:∀b u,b≠e->s.heap.get? b=some u->h'.get? b=some u)(heo:∃u,h'.get? e=some u)
  (new:ObjOk X.prog X.w (upd H x o) h' x o):Inv X pins σ (upd H x o) {s with heap:=h',toks:=t'}:=I.un (Un.write mu he k heo) (I.hok.write mu he k heo new)
theorem Inv.weak{σ':List (Option V)}(I:Inv X pins σ H s)(hl:σ'.length=σ.length)(w:∀(i:Nat) v,σ'[i]?=some (some v)->σ[i]?=some (some v)):Inv X pins σ' H s:=
 ⟨I.ok,I.os,I.bare,I.base,let ⟨m,hn,hl'⟩:=I.loc;⟨m,hn,fun i x v e1 e2 e3=>hl' i x v e1 (w i v e2) e3⟩,I.cell,I.free,I.freeC,I.pin,I.hok,hl.trans I.len⟩
theorem Inv.pins_of{pins':List (Addr×Obj)}(I:Inv X pins σ H s)(h:∀p∈pins',s.heap.get? p.1=some p.2/\H p.1=none/\p.1≠X.env.locals/\p.1∉X.fs/\∀v,p.2.data≠.cell v):Inv X pins' σ H s:=
 ⟨I.ok,I.os,I.bare,I.base,I.loc,I.cell,I.free,I.freeC,fun p hp=>(w1r.mp hp).elim (fun z=>I.pin p (w2g _ z)) (h p),I.hok,I.len⟩
theorem x4h(hN:N.Nodup){j:Nat}(a:N[i]?=some x)(b:N[j]?=some x):i=j:=by
 obtain⟨h1,e1⟩:=w0c.mp a;obtain⟨h2,e2⟩:=w0c.mp b;exact(List.getElem_inj hN).mp (e1.trans e2.symm)
theorem x9l{Q:Unit->Shared->Prop}(I:Inv X pins σ H s)(hN:X.N.Nodup)(hi:X.N[i]?=some x)(hx:Loc X.env.scope x)(r:RelV v u)
  (h:∀s',Inv X pins (σ.set i (some v)) H s'->(∃a,Heap.SameBut a s.heap s'.heap/\(a=X.env.locals\/X.env.cells.lookup x=some a))->Q () s')(hf:X.fn x=true\/X.env.scope.names.lookup x=some .local:=by walk_at "2"):wpAny M A (storeName X.env x u) Q E s:=by
 obtain⟨m,hn,hl⟩:=id I.loc;have hcls:(X.env.scope.kind==.class||(X.env.scope.kind==.module&&X.env.locals != X.env.globals))=false:=by rw[I.ok.kind];rfl
 have hiσ:i<σ.length:=by rw[I.len];exact(w0c.mp hi).1
 have cne:=I.cne
 have tracked:∀{a:Addr}{h':Heap},(∃o,s.heap.get? a=some o/\H a=none)->Heap.SameBut a s.heap h'->HOk X.prog X.w H h':=fun {a h'} ha hs b ob e=>by
  obtain⟨_,_,hfree⟩:=ha;refine(I.hok b ob e).stay (fun c w' hc q=>(hs.2 c ?_).trans q) (fun _ q=>q) fun _ _ _ q=>q
  rintro rfl;rcases hc with rfl|hc
  ·rw[hfree]at e;cases e
  ·rw[hfree]at hc;cases hc
 rcases hx with hk|hk
 ·refine wpAny_storeName_local hk hn (fun h' hn' hs=>?_) hcls
  obtain⟨oL,_,_,hoL,_⟩:=id hn;refine h _ ⟨I.ok,I.os,I.bare,⟨fun b o e n hb hx=>?_,fun b o e n hb hx=>?_,I.base.free,fun b o e hx=>?_,I.base.tups,I.base.frzs,I.base.tbls⟩,⟨_,hn',fun j y v' e1 e2 e3=>?_⟩,fun y c e=>?_,I.free,I.freeC,fun p hp=>?_,tracked ⟨oL,hoL,I.free⟩ hs,by simpa using I.len⟩ ⟨_,hs,.inl rfl⟩
  ·exact(hs.2 b (w0r (w0t (Heap.lt_size e) I.ok.above))).trans (I.base.keep b o e n hb hx)
  ·obtain⟨sl,e1⟩:=I.base.slot b o e n hb hx;exact⟨sl,(hs.2 b (w0r (w0t (Heap.lt_size e) I.ok.above))).trans e1⟩
  ·obtain⟨o',e1⟩:=I.base.there b o e hx;exact⟨o',(hs.2 b (w0r (w0t (Heap.lt_size e) I.ok.above))).trans e1⟩
  ·by_cases hj:j=i
   ·subst hj;rw[hi]at e1;cases e1;rw[w0u hiσ]at e2;cases e2;exact⟨u,r,.inl ⟨hk,by simp⟩⟩
   ·rw[w0s (Ne.symm hj)]at e2;obtain⟨u',r',q⟩:=hl j y v' e1 e2 e3;refine⟨u',r',?_⟩;rcases q with⟨k,e⟩|⟨k,c,e,z⟩
    ·refine .inl ⟨k,?_⟩;have:y≠x:=fun e=>hj (x4h hN e1 (e ▸ hi))
     simp[this,e]
    ·exact .inr ⟨k,c,e,z.sameBut hs (cne y c e)⟩
  ·obtain⟨w',z⟩:=I.cell y c e;exact⟨w',z.sameBut hs (cne y c e)⟩
  ·obtain⟨e,n,ne,nf,d⟩:=I.pin p hp;exact⟨(hs.2 p.1 ne).trans e,n,ne,nf,d⟩
 ·have hfn:X.fn x=true:=by
   rcases hf with z|z
   ·exact z
   ·rw[z]at hk;cases hk
  obtain⟨c,hc⟩:=I.ok.has x (.inl hk);obtain⟨w',z⟩:=I.cell x c hc;refine wpAny_storeName_cell I.ok.kind hk hc z (fun h' hc' hs=>?_)
  obtain⟨oc,hoc,hocd⟩:=id z;refine h {s with heap:=h'} ⟨I.ok,I.os,I.bare,⟨fun b o e n hb hx=>?_,fun b o e n hb hx=>?_,I.base.free,fun b o e hx=>?_,I.base.tups,I.base.frzs,I.base.tbls⟩,⟨m,hn.sameBut hs (Ne.symm (cne x c hc)),fun j y v' e1 e2 e3=>?_⟩,fun y c' e=>?_,I.free,I.freeC,fun p hp=>?_,tracked ⟨oc,hoc,I.freeC x c hc⟩ hs,by simpa using I.len⟩ ⟨c,hs,.inr hc⟩
  ·exact(hs.2 b (w0r (w0t (Heap.lt_size e) (I.ok.cab x c hfn hc)))).trans (I.base.keep b o e n hb hx)
  ·obtain⟨sl,e1⟩:=I.base.slot b o e n hb hx;exact⟨sl,(hs.2 b (w0r (w0t (Heap.lt_size e) (I.ok.cab x c hfn hc)))).trans e1⟩
  ·obtain⟨o',e1⟩:=I.base.there b o e hx;exact⟨o',(hs.2 b (w0r (w0t (Heap.lt_size e) (I.ok.cab x c hfn hc)))).trans e1⟩
  ·by_cases hj:j=i
   ·subst hj;rw[hi]at e1;cases e1;rw[w0u hiσ]at e2;cases e2;exact⟨u,r,.inr ⟨.inl hk,c,hc,hc'⟩⟩
   ·rw[w0s (Ne.symm hj)]at e2;obtain⟨u',r',q⟩:=hl j y v' e1 e2 e3;refine⟨u',r',?_⟩;rcases q with q|⟨k,c',e,z'⟩
    ·exact .inl q
    ·refine .inr ⟨k,c',e,z'.sameBut hs ?_⟩;rintro rfl;exact hj (x4h hN e1 (I.ok.inj _ _ _ e hc ▸ hi))
  ·by_cases hcc:c'=c
   ·subst hcc;exact⟨_,hc'⟩
   ·obtain⟨w2,z2⟩:=I.cell y c' e;exact⟨w2,z2.sameBut hs hcc⟩
  ·obtain⟨e,n,ne,nf,d⟩:=I.pin p hp;refine⟨(hs.2 p.1 ?_).trans e,n,ne,nf,d⟩;intro q;rw[q,hoc]at e;have q':oc=p.2:=Option.some.inj e;exact d w' (by rw[<- q'];exact hocd)
theorem q93{Q:Unit->Shared->Prop}(I:Inv X pins σ H s)(hN:X.N.Nodup)(hi:X.N[i]?=some x)(hx:Loc X.env.scope x)(r:RelV v u)
  (h:∀s',Inv X pins (σ.set i (some v)) H s'->Q () s')(hf:X.fn x=true\/X.env.scope.names.lookup x=some .local:=by walk_at "2"):wpAny M A (storeName X.env x u) Q E s:=
 x9l I hN hi hx r (fun s' I' _=>h s' I') hf
theorem Inv.call'{s':Shared}{ch:List Addr}(I:Inv X pins σ H s)(ho:s'.os=s.os)(u:Un (frs X.stack) ch H H' s.heap s'.heap)(hok:HOk X.prog X.w H' s'.heap)(hg:AllBare s'.gens)
  (hch:∀b∈ch,(b∈X.ex\/X.s₀.heap.objs.size<=b)/\b≠X.env.locals/\(∀x c,X.env.cells.lookup x=some c->c≠b)/\∀p∈X.pn++pins,p.1≠b):Inv X pins σ H' s':=by
 obtain⟨h',g',d',t',o'⟩:=s';have e:o'=s.os:=ho;subst e;exact I.call (g':=g') (t':=t') (d':=d') u hok hg hch
end
abbrev XK:=Value->Option Addr->Hp->Prop
noncomputable abbrev St:=List (Option V)
variable{σ:St}
abbrev VK:=V->Hp->Prop
abbrev TE:=St->Hp->VK->Prop
variable{ta te:TE}
abbrev TT:=St->Hp->(Bool->Hp->Prop)->Prop
abbrev TA:=St->Hp->(List V->Hp->Prop)->Prop
variable{t:TA}
structure Ends where
 nx:St->Hp->Prop
 rt:VK
 bk:St->Hp->Prop:=fun _ _=>False
 ct:St->Hp->Prop:=fun _ _=>False
abbrev TS:=Ends->St->Hp->Prop
variable{tb:TS}
def EP(X:Cx)(pins:List (Addr×Obj))(σ:St)(Q:VK)(u:Value)(s':Shared):Prop:=∃v H',Inv X pins σ H' s'/\RelV v u/\Q v H'
def TP(X:Cx)(pins:List (Addr×Obj))(σ:St)(Q:Bool->Hp->Prop)(b:Bool)(s':Shared):Prop:=∃H',Inv X pins σ H' s'/\Q b H'
def AP(X:Cx)(pins:List (Addr×Obj))(σ:St)(Q:List V->Hp->Prop)(us:List Value)(s':Shared):Prop:=∃vs H',Inv X pins σ H' s'/\Vals vs us/\Q vs H'
def SP(X:Cx)(pins:List (Addr×Obj))(D:Ends)(f:Flow)(s':Shared):Prop:=
 match f with
 |.next=>∃σ' H',Inv X pins σ' H' s'/\D.nx σ' H'
 |.brk=>∃σ' H',Inv X pins σ' H' s'/\D.bk σ' H'
 |.cont=>∃σ' H',Inv X pins σ' H' s'/\D.ct σ' H'
 |.ret u=>∃v σ' H',Inv X pins σ' H' s'/\RelV v u/\D.rt v H'
def PE(X:Cx)(e:Expr)(t:TE):Prop:=
 ∀(pins:List (Addr×Obj))(s:Shared)(σ:St)(H:Hp)(Q:VK),Inv X pins σ H s->t σ H Q->wpAny (model X.prog X.w) X.A (eval e X.env) (EP X pins σ Q) X.xe s
def PT(X:Cx)(e:Expr)(t:TT):Prop:=
 ∀(pins:List (Addr×Obj))(s:Shared)(σ:St)(H:Hp)(Q:Bool->Hp->Prop),Inv X pins σ H s->t σ H Q->wpAny (model X.prog X.w) X.A (isTrue e X.env (eval e X.env)) (TP X pins σ Q) X.xe s
def PW(X:Cx)(e:Expr)(t:TT):Prop:=
 ∀(whole:Sem Value)(pins:List (Addr×Obj))(s:Shared)(σ:St)(H:Hp)(Q:Bool->Hp->Prop),Inv X pins σ H s->t σ H Q->wpAny (model X.prog X.w) X.A (isTrue e X.env whole) (TP X pins σ Q) X.xe s
theorem PW.pt{t:TT}(h:PW X e t):PT X e t:=h _
def PA(X:Cx)(es:List Expr)(t:TA):Prop:=
 ∀(pos:Pos)(pins:List (Addr×Obj))(s:Shared)(σ:St)(H:Hp)(Q:List V->Hp->Prop),Inv X pins σ H s->t σ H Q->wpAny (model X.prog X.w) X.A (spliced (backTo pos (starEach es X.env))) (AP X pins σ Q) X.xe s
def PS(X:Cx)(st:Stmt)(t:TS):Prop:=
 ∀(pins:List (Addr×Obj))(s:Shared)(σ:St)(H:Hp)(D:Ends),Inv X pins σ H s->t D σ H->wpAny (model X.prog X.w) X.A (exec st X.env) (SP X pins D) X.xe s
def PSs(X:Cx)(st:List Stmt)(t:TS):Prop:=
 ∀(pins:List (Addr×Obj))(s:Shared)(σ:St)(H:Hp)(D:Ends),Inv X pins σ H s->t D σ H->wpAny (model X.prog X.w) X.A (execs st X.env) (SP X pins D) X.xe s
theorem thn{α:Type}{t:Sem α}{Q Q':α->Shared->Prop}(h:wpAny M A t Q E s)(hQ:∀a s,Q a s->Q' a s):wpAny M A t Q' E s:=wpAny_mono h hQ fun _ _ x=>x
section
def tVar(i:Nat):TE:=fun σ H Q=>∃v,σ[i]?=some (some v)/\Q v H
def tC(v:V):TE:=fun _ H Q=>Q v H
theorem y9z(hN:X.N[i]?=some x)(hv:Vis X.env.scope x)(hd:(x==("__debug__":Str))=false:=by decide)(hcd:(x==("__classdict__":Str))=false:=by decide):PE X (.Name x pos) (tVar i):=by
 intro pins s σ H Q I h;obtain⟨v,e,h⟩:=h;obtain⟨m,hn,hl⟩:=I.loc;obtain⟨u,r,l⟩:=hl i x v hN e hv;have fin:EP X pins σ Q u s:=⟨v,H,I,r,h⟩;rcases l with⟨hk,hm⟩|⟨hk,c,hc,hcell⟩
 ·exact wpAny_Name (wpAny_loadName_local I.ok.kind hk hn hm fin) hd
 ·rcases hk with hk|hk
  ·exact wpAny_Name (wpAny_loadName_cell I.ok.kind hk hc hcell fin) hd
  ·exact wpAny_Name (wpAny_loadName_free I.ok.kind hk hc hcell fin hcd) hd
theorem x9m{i j pos}:PE X (.Constant (.int i) j pos) (tC (.int i)):=fun _ _ _ H _ I h=>wpAny_Constant_int ⟨.int i,H,I.tok _,⟨_,rfl⟩,h⟩
theorem y5z{b j pos}:PE X (.Constant (.bool b) j pos) (tC (.bl b)):=fun _ _ _ H _ I h=>Constant_bool ⟨.bl b,H,I,rfl,h⟩
theorem y90{j pos}:PE X (.Constant .none j pos) (tC .non):=fun _ _ _ H _ I h=>Constant_none ⟨.non,H,I,rfl,h⟩
theorem y91{x j pos}:PE X (.Constant (.str x) j pos) (tC (.str x)):=fun _ _ _ H _ I h=>Calls.Constant_str ⟨.str x,H,I.tok _,⟨_,rfl⟩,h⟩
def Gl(X:Cx)(x:Str):Prop:=X.env.kindOf x=some .globalImplicit
theorem q60{Q:Value->Shared->Prop}(I:Inv X pins σ H s)(hg:Gl X x)(hm:X.mg x=some u)(h:Q u s)
  (hd:(x==("__debug__":Str))=false:=by decide):wpAny (model X.prog X.w) X.A (eval (.Name x pos) X.env) Q E s:=
 Calls.Name_function_global I.ok.kind hg (Calls.loadGlobal_global (by rw[I.ok.glob];exact I.mod.glob.keeps I.bk) hm h) hd
theorem q4f{Q:Value->Shared->Prop}(I:Inv X pins σ H s)(hg:Gl X x)(hm:X.mg x=none)(hv:bootBuiltins x=some u)(h:Q u s)
  (hn:x≠"__name__":=by decide)(hd:(x==("__debug__":Str))=false:=by decide):wpAny (model X.prog X.w) X.A (eval (.Name x pos) X.env) Q E s:=by
 obtain⟨mb,h1,h2⟩:=I.mod.blt;exact Calls.Name_function_global I.ok.kind hg (Calls.loadGlobal_builtin (by rw[I.ok.glob];exact I.mod.glob.keeps I.bk) hm (by rw[I.ok.blt];exact h1.keeps I.bk) ((h2 x hn).trans hv) h) hd
theorem x1z{v:V}(hg:Gl X x)(hm:X.mg x=some u)(r:RelV v u)(hd:(x==("__debug__":Str))=false:=by decide):PE X (.Name x pos) (tC v):=
 fun _ _ _ H _ I h=>q60 I hg hm ⟨v,H,I,r,h⟩ hd
theorem y57{v:V}(hg:Gl X x)(hm:X.mg x=none)(hv:bootBuiltins x=some u)(r:RelV v u)(hn:x≠"__name__":=by decide)(hd:(x==("__debug__":Str))=false:=by decide):PE X (.Name x pos) (tC v):=
 fun _ _ _ H _ I h=>q4f I hg hm hv ⟨v,H,I,r,h⟩ hn hd
variable{a b:Expr}{tb:TE}
def PC(X:Cx)(op:CmpOp)(a b:Expr)(t:TE):Prop:=
 ∀(pins:List (Addr×Obj))(s:Shared)(σ:St)(H:Hp)(Q:VK),Inv X pins σ H s->t σ H Q ->
  wpAny (model X.prog X.w) X.A (eval a X.env) (fun v s₁=>wpAny (model X.prog X.w) X.A (eval b X.env) (fun u s₂=>wpAny (model X.prog X.w) X.A (compareOp op v u) (EP X pins σ Q) X.xe s₂) X.xe s₁) X.xe s
variable{tA tB':TT}{rest:List Expr}
def tAnd(t u:TT):TT:=fun σ H Q=>t σ H fun c H1=>if c=true then u σ H1 Q else Q false H1
def tOr(t u:TT):TT:=fun σ H Q=>t σ H fun c H1=>if c=true then Q true H1 else u σ H1 Q
def tNot(t:TT):TT:=fun σ H Q=>t σ H fun c H1=>Q (!c) H1
theorem y58(ha:PT X a tA):PW X (.BoolOp .And [a] pos) tA:=by
 intro wh pins s σ H Q I h;refine isTrue_and (thn (ha pins s σ H Q I h) fun c s1 e=>?_)
 cases c with
 |true=>exact isTrue_and_nil e
 |false=>exact e
theorem y92(ha:PT X a tA):PW X (.BoolOp .Or [a] pos) tA:=by
 intro wh pins s σ H Q I h;refine isTrue_or (thn (ha pins s σ H Q I h) fun c s1 e=>?_)
 cases c with
 |false=>exact isTrue_or_nil e
 |true=>exact e
theorem y93(ha:PT X a tA)(hb:PW X (.BoolOp .And (b::rest) pos) tB'):PW X (.BoolOp .And (a::b::rest) pos) (tAnd tA tB'):=by
 intro wh pins s σ H Q I h;refine isTrue_and (thn (ha pins s σ H _ I h) fun c s1 ⟨H1,I1,q1⟩=>?_)
 cases c with
 |true=>exact hb wh pins s1 σ H1 Q I1 q1
 |false=>exact⟨H1,I1,q1⟩
theorem z3f(ha:PT X a tA)(hb:PW X (.BoolOp .Or (b::rest) pos) tB'):PW X (.BoolOp .Or (a::b::rest) pos) (tOr tA tB'):=by
 intro wh pins s σ H Q I h;refine isTrue_or (thn (ha pins s σ H _ I h) fun c s1 ⟨H1,I1,q1⟩=>?_)
 cases c with
 |true=>exact⟨H1,I1,q1⟩
 |false=>exact hb wh pins s1 σ H1 Q I1 q1
theorem y94(ha:PT X a tA):PT X (.UnaryOp .Not a pos) (tNot tA):=by
 intro pins s σ H Q I h;exact isTrue_not (ha pins s σ H (fun c H1=>Q (!c) H1) I h)
def tOrV(ta tb:TE):TE:=fun σ H Q=>ta σ H fun x H1=>∃c,x=.bl c/\if c=true then Q (.bl true) H1 else tb σ H1 Q
def tNotV(ta:TE):TE:=fun σ H Q=>ta σ H fun x H1=>∃c,x=.bl c/\Q (.bl (!c)) H1
theorem y95{op}{t:TE}(h:PE X a t):PE X (.BoolOp op [a] pos) t:=fun pins s σ H Q I hw=>BoolOp_one (h pins s σ H Q I hw)
theorem z3g(ha:PE X a ta)(hb:PE X (.BoolOp .Or (b::rest) pos) tb):PE X (.BoolOp .Or (a::b::rest) pos) (tOrV ta tb):=by
 intro pins s σ H Q I h;refine BoolOp_or (thn (ha pins s σ H _ I h) fun v s1 ⟨x,H1,I1,r1,q1⟩=>?_)
 obtain⟨c,rfl,q1⟩:=q1;cases r1;refine wpAny_truthy_bool ?_;cases c with
 |false=>exact hb pins s1 σ H1 Q I1 q1
 |true=>exact⟨.bl true,H1,I1,rfl,q1⟩
theorem y96(ha:PE X a ta):PE X (.UnaryOp .Not a pos) (tNotV ta):=by
 intro pins s σ H Q I h;refine UnaryOp_ (thn (ha pins s σ H _ I h) fun v s1 ⟨x,H1,I1,r1,q1⟩=>?_)
 obtain⟨c,rfl,q1⟩:=q1;cases r1;exact not_of (wpAny_truthy_bool ⟨.bl (!c),H1,I1,rfl,q1⟩)
end
def SqL(K:Fg)(H:Hp)(a:Addr)(xs:List V):Prop:=
 Rd H a (.lst xs) \/
  ∃(o:Obj)(its:Array Value)(n:Nat),K.lookup a=some o/\o.cls=.type "list" /\ o.dict=none/\o.data=.seq its n/\its.size<=sizeLine/\Vals xs its.toList
def SqT(K:Fg)(H:Hp)(a:Addr)(xs:List V):Prop:=
 Rd H a (.tup xs) \/
  ∃(o:Obj)(its:Array Value)(n:Nat),K.lookup a=some o/\o.cls=.type "tuple" /\ o.dict=none/\o.data=.seq its n/\its.size<=sizeLine/\Vals xs its.toList
def absV:Value->Option V
 |.none=>some .non
 |.bool b=>some (.bl b)
 |.int i _=>some (.int i)
 |.str x _=>some (.str x)
 |.bytes b _=>some (.byt b)
 |.float b _=>some (.flt b)
 |.ref a=>some (.ref a)
 |.type n=>some (.ty n)
 |_=>none
theorem RelV.abs{x:V}(r:RelV x u):absV u=some x:=by
 cases x with
 |non=>cases r;rfl
 |bl _=>cases r;rfl
 |int _=>obtain⟨t,rfl⟩:=r;rfl
 |str _=>obtain⟨t,rfl⟩:=r;rfl
 |byt _=>obtain⟨t,rfl⟩:=r;rfl
 |flt _=>obtain⟨t,rfl⟩:=r;rfl
 |ref _=>cases r;rfl
 |ty _=>cases r;rfl
theorem RelV.inj{x y:V}(r:RelV x u)(q:RelV y u):x=y:=Option.some.inj (r.abs.symm.trans q.abs)
theorem Vals.inj:∀{xs ys:List V}{us:List Value},Vals xs us->Vals ys us->xs=ys
 |_,_,_,.nil,.nil=>rfl
 |_,_,_,.cons r t,.cons r' t'=>by rw[r.inj r',Vals.inj t t']
section
variable{ys:List V}
theorem SqL.of(h:H a=some (.lst xs)):SqL K H a xs:=.inl (.inl h)
theorem SqT.of(h:H a=some (.tup xs)):SqT K H a xs:=.inl (.inl h)
theorem Inv.list(I:Inv X pins σ H s)(h:SqL X.K H a xs):∃its:List Value,Vals xs its/\PlainL s.heap a its.toArray/\xs.length<=sizeLine:=by
 rcases h with h|⟨o,its,n,hk,hc,hd,hs,hz,r⟩
 ·obtain⟨z,its,n,r,e⟩:=h.ok I.hok;exact⟨its,r,⟨_,n,e,rfl,rfl,rfl⟩,z⟩
 ·refine⟨its.toList,r,⟨o,n,I.kIn a o hk,hc,hd,by simpa using hs⟩,?_⟩;have e:=r.length;simp only[w3n]at e;omega
theorem Inv.tuple(I:Inv X pins σ H s)(h:SqT X.K H a xs):∃its:List Value,Vals xs its/\IsTup s.heap a its.toArray/\xs.length<=sizeLine:=by
 rcases h with h|⟨o,its,n,hk,hc,_,hs,hz,r⟩
 ·obtain⟨z,its,r,p,_⟩:=h.ok I.hok;exact⟨its,r,p,z⟩
 ·refine⟨its.toList,r,⟨o,I.kIn a o hk,hc,n,by simpa using hs⟩,?_⟩;have e:=r.length;simp only[w3n]at e;omega
theorem Inv.list_inj(I:Inv X pins σ H s)(h:SqL X.K H a xs)(h':SqL X.K H a ys):xs=ys:=by
 obtain⟨its,r,⟨o,n,e,_,_,d⟩,_⟩:=I.list h;obtain⟨its',r',⟨o',n',e',_,_,d'⟩,_⟩:=I.list h';rw[e]at e';cases e';rw[d]at d';injection d' with d1 _
 have:its=its':=by simpa using congrArg Array.toList d1
 subst this;exact r.inj r'
theorem Inv.tuple_inj(I:Inv X pins σ H s)(h:SqT X.K H a xs)(h':SqT X.K H a ys):xs=ys:=by
 obtain⟨its,r,⟨o,e,_,n,d⟩,_⟩:=I.tuple h;obtain⟨its',r',⟨o',e',_,n',d'⟩,_⟩:=I.tuple h';rw[e]at e';cases e';rw[d]at d';injection d' with d1 _
 have:its=its':=by simpa using congrArg Array.toList d1
 subst this;exact r.inj r'
end
section
variable{st:Stmt}{rest:List Stmt}{t u:TS}
def tNext:TS:=fun D σ H=>D.nx σ H
def tSeq(t u:TS):TS:=fun D σ H=>t {D with nx:=u D} σ H
theorem y59:PSs X [] tNext:=fun _ _ σ H _ I h=>wpAny_execs_nil ⟨σ,H,I,h⟩
theorem y2u(h1:PS X st t)(h2:PSs X rest u):PSs X (st::rest) (tSeq t u):=by
 intro pins s σ H D I h;refine wpAny_execs_cons (thn (h1 pins s σ H {D with nx:=u D} I h) fun f s1 q=>?_)
 cases f with
 |next=>
  obtain⟨σ',H',I',q⟩:=q;exact h2 pins s1 σ' H' D I' q
 |ret v=>exact q
 |brk=>exact q
 |cont=>exact q
theorem y6a(h1:PS X st t):PSs X [st] t:=by
 intro pins s σ H D I h;refine wpAny_execs_cons (thn (h1 pins s σ H D I h) fun f s1 q=>?_)
 cases f with
 |next=>exact wpAny_execs_nil q
 |ret v=>exact q
 |brk=>exact q
 |cont=>exact q
theorem Inv.quiet(I:Inv X pins σ H s):interactive X.env=false:=by simp[interactive,I.ok.kind]
def tDrop(te:TE):TS:=fun D σ H=>te σ H fun _ H1=>D.nx σ H1
theorem q61(he:PE X e te)(hs:swapsWith e none pos.line X.env=pure false:=by rfl):PS X (.Expr e pos) (tDrop te):=by
 intro pins s σ H D I h;exact wpAny_Expr_any (thn (he pins s σ H _ I h) fun v s1 ⟨x,H1,I1,r1,q1⟩=>⟨σ,H1,I1,q1⟩) I.quiet hs
def tRet(te:TE):TS:=fun D σ H=>te σ H D.rt
theorem x4i(he:PE X e te):PS X (.Return (some e) pos) (tRet te):=by
 intro pins s σ H D I h;exact wpAny_Return_some (thn (he pins s σ H _ I h) fun v s1 ⟨x,H1,I1,r1,q1⟩=>⟨x,σ,H1,I1,r1,q1⟩)
def tIfS(c:TT)(t u:TS):TS:=fun D σ H=>c σ H fun b H1=>if b=true then t D σ H1 else u D σ H1
theorem z3h{a b:List Stmt}{tc:TT}(hc:PT X c tc)(ha:PSs X a t)(hb:PSs X b u):PS X (.If c a b pos) (tIfS tc t u):=by
 intro pins s σ H D I h;refine wpAny_If (thn (hc pins s σ H _ I h) fun d s1 ⟨H1,I1,q1⟩=>?_)
 cases d with
 |true=>exact ha pins s1 σ H1 D I1 q1
 |false=>exact hb pins s1 σ H1 D I1 q1
end
abbrev TG:=V->St->Hp->(St->Hp->Prop)->Prop
abbrev TGs:=List V->St->Hp->(St->Hp->Prop)->Prop
def PG(X:Cx)(target:Expr)(t:TG):Prop:=
 ∀(pins:List (Addr×Obj))(s:Shared)(σ:St)(H:Hp)(v:V)(u:Value)(Q:St->Hp->Prop),Inv X pins σ H s->RelV v u->t v σ H Q ->
  wpAny (model X.prog X.w) X.A (assign target X.env u) (fun _ s'=>∃σ' H',Inv X pins σ' H' s'/\Q σ' H') X.xe s
def PGs(X:Cx)(ts:List Expr)(t:TGs):Prop:=
 ∀(pins:List (Addr×Obj))(s:Shared)(σ:St)(H:Hp)(vs:List V)(us:List Value)(Q:St->Hp->Prop),Inv X pins σ H s->Vals vs us->t vs σ H Q ->
  wpAny (model X.prog X.w) X.A (assignInOrder ((assignEach ts X.env).map (·.2)) us) (fun _ s'=>∃σ' H',Inv X pins σ' H' s'/\Q σ' H') X.xe s
def gName(i:Nat):TG:=fun v σ H Q=>Q (σ.set i (some v)) H
theorem y6b(hN:X.N.Nodup)(hi:X.N[i]?=some x)(hx:Loc X.env.scope x)(hf:X.fn x=true\/X.env.scope.names.lookup x=some .local:=by walk_at "2"):PG X (.Name x pos) (gName i):=by
 intro pins s σ H v u Q I r h;exact wpAny_assign_Name (q93 I hN hi hx r (fun s' I'=>⟨_,H,I',h⟩) hf)
def gNil:TGs:=fun vs σ H Q=>vs=[]/\Q σ H
def gCons(t:TG)(u:TGs):TGs:=fun vs σ H Q=>∃v r,vs=v::r/\t v σ H fun σ' H'=>u r σ' H' Q
theorem x7d:PGs X [] gNil:=by
 intro pins s σ H vs us Q I r h;obtain⟨e,h⟩:=h;subst e;cases r;exact assignInOrder_nil ⟨σ,H,I,h⟩
theorem q7f{t:TG}{u:TGs}(h1:PG X e t)(h2:PGs X es u)
  (hs:(assignEach (e::es) X.env).map (·.2)=assign e X.env::(assignEach es X.env).map (·.2):=by rfl):PGs X (e::es) (gCons t u):=by
 intro pins s σ H vs us Q I r h;obtain⟨v,vr,e1,h⟩:=h;subst e1;cases r with
 |cons r rr=>
  rw[hs];refine assignInOrder_cons (thn (h1 pins s σ H _ _ _ I r h) fun _ s1 ⟨σ1,H1,I1,q1⟩=>?_)
  exact h2 pins s1 σ1 H1 _ _ Q I1 rr q1
def gTup(K:Fg)(n:Nat)(t:TGs):TG:=fun v σ H Q=>∃a xs,v=.ref a/\SqT K H a xs/\xs.length=n/\t xs σ H Q
theorem x9n{t:TGs}{n:Nat}(hc:X.calm=true)(h:PGs X es t)
  (hn:(assignEach es X.env).length=n:=by rfl)(hst:(assignEach es X.env).findIdx? (·.1)=none:=by rfl):PG X (.Tuple es k pos) (gTup X.K n t):=by
 intro pins s σ H v u Q I r hw;obtain⟨a,xs,e1,hq,hl,hw⟩:=hw;subst e1;cases r;obtain⟨its,rv,ht,hz⟩:=I.tuple hq;refine assign_Tuple_tuple (I.ok.hd hc) ht (by simp[hn,<- hl,rv.length]) hst fun h' hx=>?_
 have I1:Inv X pins σ H {s with heap:=h'}:=I.kept (t':=s.toks) fun b o e=>hx b o (w0r (Heap.lt_size e)) e
 exact h pins _ σ H xs _ Q I1 (by simpa using rv) hw
def tAsg(te:TE)(g:TG):TS:=fun D σ H=>te σ H fun x H1=>g x σ H1 D.nx
theorem y97{pos':Pos}(hN:X.N.Nodup)(hi:X.N[i]?=some x)(hx:Loc X.env.scope x)(he:PE X e te)(hs:swapsWith e (some (.Name x pos')) pos.line X.env=pure false:=by rfl)(hf:X.fn x=true\/X.env.scope.names.lookup x=some .local:=by walk_at "2"):
  PS X (.Assign [.Name x pos'] e pos) (tAsg te (gName i)):=by
 intro pins s σ H D I h;refine wpAny_Assign_Name (thn (he pins s σ H _ I h) fun v s1 ⟨y,H1,I1,r1,q1⟩=>?_) hs
 exact q93 I1 hN hi hx r1 (fun s2 I2=>⟨_,H1,I2,q1⟩) hf
def tWhile(c:TT)(tb:TS):TS:=fun D σ H=>∃W:Nat->St->Hp->Prop,(∃m,W m σ H)/\∀m σ H,W m σ H ->
 c σ H fun b H1=>if b=true then ∃N:St->Hp->Prop,(∀σ' H',N σ' H'->∃m',m'<m/\W m' σ' H')/\tb {D with nx:=N,ct:=N,bk:=D.nx} σ H1 else D.nx σ H1
theorem y2v{body:List Stmt}{tc:TT}(hp:PassesOwn (model X.prog X.w) X.A X.env X.xe)(hc:PT X c tc)(hb:PSs X body tb):PS X (.While c body [] pos) (tWhile tc tb):=by
 intro pins s σ H D I h;obtain⟨W,⟨m0,w0⟩,turn⟩:=h;refine wpAny_While (codeAny_whileLoop (fun n s'=>∃σ' H',Inv X pins σ' H' s'/\W n σ' H') ?_ m0 ⟨σ,H,I,w0⟩)
 rintro n s1 ⟨σ1,H1,I1,w1⟩;refine wpAny_passesOwn hp (thn (hc pins s1 σ1 H1 _ I1 (turn n σ1 H1 w1)) fun b s2 ⟨H2,I2,q2⟩=>?_)
 cases b with
 |true=>
  obtain⟨N,hN,q2⟩:=q2;rw[if_pos rfl];refine wpAny_passesOwn hp (thn (hb pins s2 σ1 H2 _ I2 q2) fun f s3 q3=>?_)
  cases f with
  |next=>
   obtain⟨σ3,H3,I3,n3⟩:=q3;obtain⟨m',hm,w3⟩:=hN σ3 H3 n3;exact⟨m',hm,σ3,H3,I3,w3⟩
  |cont=>
   obtain⟨σ3,H3,I3,n3⟩:=q3;obtain⟨m',hm,w3⟩:=hN σ3 H3 n3;exact⟨m',hm,σ3,H3,I3,w3⟩
  |brk=>exact q3
  |ret v=>exact q3
 |false=>
  rw[if_neg w1e];exact wpAny_execs_nil ⟨σ1,H2,I2,q2⟩
structure It where
 go:Nat->Hp->Prop
 yld:Nat->Hp->V->Hp->Prop
 stop:Nat->Hp->Prop
def FpOk(X:Cx)(pins:List (Addr×Obj))(H:Hp)(b:Addr):Prop:=
 H b=none/\b≠X.env.locals/\b∉X.fs/\(b∈X.ex\/X.s₀.heap.objs.size<=b)/\(∀x c,X.env.cells.lookup x=some c->c≠b)/\∀p∈X.pn++pins,p.1≠b
theorem Inv.fpOk(I:Inv X pins σ H s)(hb:s.heap.objs.size<=b)(hn:H' b=none):FpOk X pins H' b:=by
 refine⟨hn,w3f (w0t I.lt hb),I.nofs hb,.inr (w0m I.sz hb),fun x c e z=>?_,fun p hp z=>?_⟩
 ·obtain⟨v,q⟩:=I.cell x c e;exact absurd (w0t q.lt (by rw[z];exact hb)) (w2f _)
 ·exact absurd (w0t (Heap.lt_size (I.pin p hp).1) (by rw[z];exact hb)) (w2f _)
structure Turn(P:Program)(w:World)(K:Fg)(tg:Expr)(J:It)(fp:List Addr)(it:Addr)(tn:Nat->Heap->Prop):Prop where
 mem:it∈fp
 obj:∀i h,tn i h->∀b∈fp,∃o,h.get? b=some o/\∀v,o.data≠.cell v
 keep:∀i h h',tn i h->(∀b∈fp,∀o,h.get? b=some o->h'.get? b=some o)->tn i h'
 item:∀(X:Cx),X.prog=P->X.w=w->X.K=K->X.calm=true->∀(i:Nat)(pins:List (Addr×Obj))(s:Shared)(σ:St)(H:Hp)(E:Value->Shared->Prop),Inv X pins σ H s->(∀b∈fp,FpOk X pins H b)->tn i s.heap->J.go i H ->
  wpAny (model P w) X.A (pyNext (.ref it)) (fun r s1=>∃u,r=some u /\
   wpAny (model P w) X.A (letOwnedTupleGo tg (.ref it) u) (fun _ s2=>∃x H',Inv X pins σ H' s2/\RelV x u/\J.yld i H x H'/\tn (i+1) s2.heap/\∀b∈fp,H' b=none) E s1) E s
 done:∀(X:Cx),X.prog=P->X.w=w->X.K=K->X.calm=true->∀(i:Nat)(pins:List (Addr×Obj))(s:Shared)(σ:St)(H:Hp)(E:Value->Shared->Prop),Inv X pins σ H s->(∀b∈fp,FpOk X pins H b)->tn i s.heap->J.stop i H ->
  wpAny (model P w) X.A (pyNext (.ref it)) (fun r s1=>r=none/\Inv X pins σ H s1) E s
 self:∀(A:Around)(i:Nat)(s:Shared)(Q:Value->Shared->Prop)(E:Value->Shared->Prop),tn i s.heap->Q (.ref it) s->wpAny (model P w) A (pyIter (.ref it)) Q E s
abbrev TI:=St->Hp->(It->Hp->Prop)->Prop
def PIE(X:Cx)(pins:List (Addr×Obj))(σ:St)(tg:Expr)(R:It->Hp->Prop)(itv:Value)(s2:Shared):Prop:=
 ∃(it:Addr)(fp:List Addr)(tn:Nat->Heap->Prop)(J:It)(H':Hp),itv=.ref it/\Inv X pins σ H' s2/\Turn X.prog X.w X.K tg J fp it tn/\tn 0 s2.heap/\(∀b∈fp,FpOk X pins H' b)/\R J H'
def PI(X:Cx)(tg iter:Expr)(wi:TI):Prop:=
 ∀(pins:List (Addr×Obj))(s:Shared)(σ:St)(H:Hp)(R:It->Hp->Prop),Inv X pins σ H s->wi σ H R ->
  wpAny (model X.prog X.w) X.A (eval iter X.env) (fun v s1=>wpAny (model X.prog X.w) X.A (pyIter v) (PIE X pins σ tg R) X.xe s1) X.xe s
theorem x8g{E : Value -> Shared -> Prop}{s : Shared}{it : Addr}{o : Obj}{n : String}{vs : Array Value}{Q : Unit -> Shared -> Prop}(ho : s.heap.get? it = some o)(hc : o.cls = .type n)(hd : o.data = .fields vs)
    (hn : ["enumerate", "zip", "dict_itemiterator", "dict_reverseitemiterator", "odict_iterator", "itertools.zip_longest", "itertools.pairwise"].contains n = false)(hQ : Q () s) : wpAny M A (letOwnedTupleGo tg (.ref it) u) Q E s := by
  unfold letOwnedTupleGo
  cases tg <;> first
    | exact wpAny_pure hQ
    | (cases u <;> first
        | exact wpAny_pure hQ
        | (refine wpAny_bind (wpAny_load ho ?_)
           rw [hc, hd];show wpAny M A (if (["enumerate", "zip", "dict_itemiterator", "dict_reverseitemiterator", "odict_iterator", "itertools.zip_longest", "itertools.pairwise"].contains n && vs[0]? == some (rawInt _)) = true then _ else _) Q E s;rw [if_neg (by intro h; rw [hn, Bool.false_and] at h; cases h)];exact wpAny_pure hQ))
def Itl(K:Fg)(a:Addr):It:=
 ⟨fun i H=>∃xs x,SqL K H a xs/\xs[i]?=some x,fun i H x H'=>H'=H/\∀xs,SqL K H a xs->xs[i]?=some x,fun i H=>∃xs,SqL K H a xs/\xs.length<=i⟩
def Itt(K:Fg)(a:Addr):It:=
 ⟨fun i H=>∃xs x,SqT K H a xs/\xs[i]?=some x,fun i H x H'=>H'=H/\∀xs,SqT K H a xs->xs[i]?=some x,fun i H=>∃xs,SqT K H a xs/\xs.length<=i⟩
def Itr(lo:Int)(n:Nat):It:=⟨fun i _=>i<n,fun i H x H'=>H'=H/\x=.int (lo+i),fun i _=>n<=i⟩
theorem x9o(a it:Addr):Turn P w K tg (Itl K a) [it] it (fun i h=>h.IsListIter it a i) where
 mem:=by simp
 obj:=fun i h st b hb=>by
  have e:b=it:=by simpa using hb
  subst e;obtain⟨o,e,c,d⟩:=st;exact⟨o,e,fun v z=>by rw[d]at z;cases z⟩
 keep:=fun i h h' st k=>st.at fun o e=>k it (by simp) o e
 item:=by
  intro X hP hw hK hc i pins s σ H E I hf st hg;subst hP hw hK;obtain⟨xs,x,hq,hx⟩:=hg;obtain⟨its,rv,p,hz⟩:=I.list hq;obtain⟨u,hu,ru⟩:=rv.get hx;obtain⟨f0,f1,f2,f3,f4,f5⟩:=hf it (by simp);refine wpAny_pyNext_list_item st p.isList (x:=u) (by simpa using hu) fun h' st' sb=>?_
  have I1:Inv X pins σ H {s with heap:=h'}:=I.turned (t':=s.toks) (fun b o hb e=>(sb.2 b hb).trans e) f0 f1 f3 f4 f5
  obtain⟨o,e,c,d⟩:=id st';exact⟨u,rfl,x8g (s:={s with heap:=h'}) e c d (by decide) ⟨x,H,I1,ru,⟨rfl,fun ys hy=>by rw[I.list_inj hy hq];exact hx⟩,st',fun b hb=>(hf b hb).1⟩⟩
 done:=by
  intro X hP hw hK hc i pins s σ H E I hf st hg;subst hP hw hK;obtain⟨xs,hq,hx⟩:=hg;obtain⟨its,rv,p,hz⟩:=I.list hq;obtain⟨f0,f1,f2,f3,f4,f5⟩:=hf it (by simp);have hl:=rv.length;exact wpAny_pyNext_list_end (I.ok.hd hc) st p.isList (by simp;omega) fun h' eb=>⟨rfl,I.turned (t':=s.toks) (fun b o hb e=>eb b o hb e) f0 f1 f3 f4 f5⟩
 self:=fun _ _ _ _ _ st h=>wpAny_pyIter_listiter st h
theorem x8h(a it:Addr):Turn P w K tg (Itt K a) [it] it (fun i h=>h.IsTupleIter it a i) where
 mem:=by simp
 obj:=fun i h st b hb=>by
  have e:b=it:=by simpa using hb
  subst e;obtain⟨o,e,c,d⟩:=st;exact⟨o,e,fun v z=>by rw[d]at z;cases z⟩
 keep:=fun i h h' st k=>st.at fun o e=>k it (by simp) o e
 item:=by
  intro X hP hw hK hc i pins s σ H E I hf st hg;subst hP hw hK;obtain⟨xs,x,hq,hx⟩:=hg;obtain⟨its,rv,p,hz⟩:=I.tuple hq;obtain⟨u,hu,ru⟩:=rv.get hx;obtain⟨f0,f1,f2,f3,f4,f5⟩:=hf it (by simp);refine wpAny_pyNext_tuple_item st (show s.heap.IsTuple a its.toArray from p) (x:=u) (by simpa using hu) fun h' st' sb=>?_
  have I1:Inv X pins σ H {s with heap:=h'}:=I.turned (t':=s.toks) (fun b o hb e=>(sb.2 b hb).trans e) f0 f1 f3 f4 f5
  obtain⟨o,e,c,d⟩:=id st';exact⟨u,rfl,x8g (s:={s with heap:=h'}) e c d (by decide) ⟨x,H,I1,ru,⟨rfl,fun ys hy=>by rw[I.tuple_inj hy hq];exact hx⟩,st',fun b hb=>(hf b hb).1⟩⟩
 done:=by
  intro X hP hw hK hc i pins s σ H E I hf st hg;subst hP hw hK;obtain⟨xs,hq,hx⟩:=hg;obtain⟨its,rv,p,hz⟩:=I.tuple hq;obtain⟨f0,f1,f2,f3,f4,f5⟩:=hf it (by simp);have hl:=rv.length;exact wpAny_pyNext_tuple_end (I.ok.hd hc) st (show s.heap.IsTuple a its.toArray from p) (by simp;omega) fun h' eb=>⟨rfl,I.turned (t':=s.toks) (fun b o hb e=>eb b o hb e) f0 f1 f3 f4 f5⟩
 self:=fun _ _ _ _ _ st h=>wpAny_pyIter_tupleiter st h
theorem x8i(it:Addr)(lo:Int)(n:Nat):Turn P w K tg (Itr lo n) [it] it (fun i h=>IsRangeIter h it (lo+(i:Nat)*1) ((n:Int)-(i:Nat)) 1) where
 mem:=by simp
 obj:=fun i h st b hb=>by
  have e:b=it:=by simpa using hb
  subst e
  exact⟨_,st,fun v z=>by
   have z':Data.fields _=Data.cell v:=z;cases z'⟩
 keep:=fun i h h' st k=>k it (by simp) _ st
 item:=by
  intro X hP hw hK hc i pins s σ H E I hf st hg;subst hP hw hK;obtain⟨f0,f1,f2,f3,f4,f5⟩:=hf it (by simp);have W:=Walks.range (prog:=X.prog) (w:=X.w) (I.ok.hd hc) it lo 1 n;refine W.item i s _ _ hg st fun v h' tk hv st' kk=>?_
  obtain⟨t,rfl⟩:=hv;have I1:Inv X pins σ H {s with heap:=h',toks:=tk}:=I.turned (fun b o hb e=>kk b o (by simpa using hb) e) f0 f1 f3 f4 f5
  refine⟨_,rfl,x8g (s:={s with heap:=h',toks:=tk}) (n:="range_iterator") st' rfl rfl (by decide) ⟨.int (lo+i),H,I1,⟨t,?_⟩,⟨rfl,rfl⟩,st',fun b hb=>(hf b hb).1⟩⟩
  rw[Int.mul_one]
 done:=by
  intro X hP hw hK hc i pins s σ H E I hf st hg;subst hP hw hK;obtain⟨f0,f1,f2,f3,f4,f5⟩:=hf it (by simp);exact wpAny_pyNext_range_end (I.ok.hd hc) st (by have:n<=i:=hg;omega) fun h' eb=>⟨rfl,I.turned (t':=s.toks) (fun b o hb e=>eb b o hb e) f0 f1 f3 f4 f5⟩
 self:=fun _ _ _ _ _ st h=>wpAny_pyIter_rangeiter st h
theorem y2w{R:It->Hp->Prop}{lo hi:Int}{t u v:Tok}{tk:Nat}(I:Inv X pins σ H s)(h1:-(2^62)<=lo)(h2:lo<2^62)(h3:-(2^62)<=hi)(h4:hi<2^62)
  (q:R (Itr lo (hi-lo).toNat) H):wpAny (model X.prog X.w) X.A (pyIter (.ref s.heap.objs.size)) (PIE X pins σ tg R) E {s with heap:=s.heap.push {cls:=.type "range", data:=.fields #[.int lo t,.int hi u,.int 1 v]},toks:=tk}:=by
 refine wpAny_pyIter_range (IsRange.new ..) (small_one h1 h2 h3 h4) ?_;have I1:Inv X pins σ H {s with heap:=s.heap.push {cls:=.type "range", data:=.fields #[.int lo t,.int hi u,.int 1 v]},toks:=tk}:=I.kept fun b o e=>Heap.get?_push_of_some _ e
 refine⟨(s.heap.push {cls:=.type "range", data:=.fields #[.int lo t,.int hi u,.int 1 v]}).objs.size,[(s.heap.push {cls:=.type "range", data:=.fields #[.int lo t,.int hi u,.int 1 v]}).objs.size],_,_,H,rfl,
  I1.kept (t':=tk) fun b o e=>Heap.get?_push_of_some _ e,x8i _ lo (hi-lo).toNat,?_,fun b hb=>?_,q⟩
 ·have e1:lo+((0:Nat):Int)*1=lo:=by simp
  have e2:(((hi-lo).toNat:Nat):Int)-((0:Nat):Int)=Builtin.Range.rangeSize lo hi 1:=by rw[rangeSize_one];split<;>omega
  show IsRangeIter _ _ (lo+((0:Nat):Int)*1) ((((hi-lo).toNat:Nat):Int)-((0:Nat):Int)) 1;rw[e1,e2];exact Heap.get?_push_size _ rfl
 ·have e:b=(s.heap.push {cls:=.type "range", data:=.fields #[.int lo t,.int hi u,.int 1 v]}).objs.size:=by simpa using hb
  subst e;exact I1.fpOk (w0g _) (I1.hok.fresh (w0g _))
def iRng1(ta:TA):TI:=fun σ H R=>ta σ H fun vs H1=>∃j:Int,vs=[.int j]/\-(2^62)<=j/\j<2^62/\R (Itr 0 j.toNat) H1
theorem q8b{a:Expr}{ta:TA}(hg:Gl X "range")(hm:X.mg "range"=none)(ha:PA X [a] ta)(hs:starEach [a] X.env=[(false,eval a X.env)]:=by rfl):PI X tg (.Call (.Name "range" p) [a] [] pos) (iRng1 ta):=by
 intro pins s σ H R I h;refine Call_ (q4f I hg hm boot_range (PyProof.Rows.callWith_type1 (thn (ha pos pins s σ H _ I h) fun us s1 ⟨vs,H1,I1,r1,q1⟩=>?_) hs rfl))
 obtain⟨j,e,q1,q2,q⟩:=q1;subst e;cases r1 with
 |cons r rr=>
  cases rr;obtain⟨t,rfl⟩:=r;exact call_range_1 (y2w I1 (by omega) (by omega) q1 q2 (by simpa using q))
def tFor(wi:TI)(g:TG)(tb:TS):TS:=fun D σ H=>wi σ H fun J H1=>∃W:Nat->Nat->St->Hp->Prop,(∃m,W 0 m σ H1)/\∀i m σ H,W i m σ H ->
 (J.stop i H/\D.nx σ H)\/(J.go i H/\∃N:St->Hp->Prop,(∀σ' H',N σ' H'->∃m',m'<m/\W (i+1) m' σ' H')/\∀x H',J.yld i H x H'->g x σ H' fun σ2 H2=>tb {D with nx:=N,ct:=N,bk:=D.nx} σ2 H2)
def pinsAt(fp:List Addr)(h:Heap):List (Addr×Obj):=fp.filterMap fun b=>(h.get? b).map fun o=>(b,o)
theorem q3k{o:Obj}(hb:b∈fp)(e:h.get? b=some o):(b,o)∈pinsAt fp h:=w2o.mpr ⟨b,hb,by rw[e];rfl⟩
theorem x9p{p:Addr×Obj}(hp:p∈pinsAt fp h):p.1∈fp/\h.get? p.1=some p.2:=by
 obtain⟨b,hb,e⟩:=w2o.mp hp;cases q:h.get? b with
 |none=>rw[q]at e;cases e
 |some o=>
  rw[q]at e;have e':(b,o)=p:=Option.some.inj e;subst e';exact⟨hb,q⟩
theorem Inv.pinned(I:Inv X pins σ H s)(hf:∀b∈fp,FpOk X pins H b)(ho:∀b∈fp,∃o,s.heap.get? b=some o/\∀v,o.data≠.cell v):Inv X (pins++pinsAt fp s.heap) σ H s:=
 I.pins_of fun p hp=>(w1r.mp hp).elim (fun z=>I.pin p (w0i _ z)) fun z=>by
  obtain⟨hb,e⟩:=x9p z;obtain⟨f0,f1,f2,_⟩:=hf p.1 hb;obtain⟨o,e',d⟩:=ho p.1 hb;rw[e]at e';cases e';exact⟨e,f0,f1,f2,d⟩
theorem Inv.unpinned{pl:List (Addr×Obj)}(I:Inv X (pins++pl) σ H s):Inv X pins σ H s:=I.pins_of fun p hp=>I.pin p (w0i _ (w2g _ hp))
theorem x4j{iter:Expr}{body:List Stmt}{wi:TI}{g:TG}(hp:PassesOwn (model X.prog X.w) X.A X.env X.xe)(hc:X.calm=true)(hi:PI X tg iter wi)(hg:PG X tg g)(hb:PSs X body tb)
  (hs:∀x,foldedSetIterable iter X.env x=pure x:=by intro _;rfl):PS X (.For tg iter body [] pos) (tFor wi g tb):=by
 intro pins s σ H D I h;refine wpAny_For (thn (hi pins s σ H _ I h) fun v s1 h1=>thn h1 fun itv s2 h2=>?_) hs
 obtain⟨it,fp,tn,J,H2,e,I2,T,st2,f2,W,⟨m0,w0⟩,turn⟩:=h2;subst e;have stat:∀{H':Hp},(∀b∈fp,H' b=none)->∀b∈fp,FpOk X pins H' b:=fun hn b hb=>⟨hn b hb,(f2 b hb).2⟩
 refine codeAny_forLoop_any (fun n s'=>∃i σ' H',Inv X pins σ' H' s'/\tn i s'.heap/\(∀b∈fp,H' b=none)/\W i n σ' H') ?_ m0 ⟨0,σ,H2,I2,st2,fun b hb=>(f2 b hb).1,w0⟩
 rintro n s3 ⟨i,σ3,H3,I3,st3,fr3,w3⟩;rcases turn i n σ3 H3 w3 with⟨stop,qn⟩|⟨go,N,hN,step⟩
 ·refine wpAny_passesOwn hp (thn (T.done X rfl rfl rfl hc i pins s3 σ3 H3 X.xe I3 (stat fr3) st3 stop) fun r s4 ⟨hr,I4⟩=>?_)
  subst hr;exact wpAny_execs_nil ⟨σ3,H3,I4,qn⟩
 ·refine wpAny_passesOwn hp (thn (T.item X rfl rfl rfl hc i pins s3 σ3 H3 X.xe I3 (stat fr3) st3 go) fun r s4 ⟨u,hr,h4⟩=>?_)
  subst hr;refine wpAny_passesOwn hp (thn h4 fun _ s5 ⟨x,H5,I5,r5,y5,st5,fr5⟩=>?_)
  have I5':=I5.pinned (stat fr5) (T.obj _ _ st5);refine wpAny_passesOwn hp (thn (hg _ s5 σ3 H5 x u _ I5' r5 (step x H5 y5)) fun _ s6 ⟨σ6,H6,I6,q6⟩=>?_)
  refine wpAny_passesOwn hp (thn (hb _ s6 σ6 H6 _ I6 q6) fun f s7 q7=>?_)
  have again:∀{σ7:St}{H7:Hp},Inv X (pins++pinsAt fp s5.heap) σ7 H7 s7->N σ7 H7->∃m,m<n/\∃i σ' H',Inv X pins σ' H' s7/\tn i s7.heap/\(∀b∈fp,H' b=none)/\W i m σ' H':=fun {σ7 H7} I7 n7=>by
   obtain⟨m',hm,w7⟩:=hN σ7 H7 n7;refine⟨m',hm,i+1,σ7,H7,I7.unpinned,T.keep _ _ _ st5 fun b hb o e=>(I7.pin (b,o) (w0i _ (w0i _ (q3k hb e)))).1,fun b hb=>?_,w7⟩
   obtain⟨o,e,d⟩:=T.obj _ _ st5 b hb;exact(I7.pin (b,o) (w0i _ (w0i _ (q3k hb e)))).2.1
  cases f with
  |next=>obtain⟨σ7,H7,I7,n7⟩:=q7;exact again I7 n7
  |cont=>obtain⟨σ7,H7,I7,n7⟩:=q7;exact again I7 n7
  |brk=>obtain⟨σ7,H7,I7,q7⟩:=q7;exact⟨σ7,H7,I7.unpinned,q7⟩
  |ret v=>obtain⟨x7,σ7,H7,I7,r7,q7⟩:=q7;exact⟨x7,σ7,H7,I7.unpinned,r7,q7⟩
theorem y2x{g:TG}{D:Ends}(Pv:Nat->St->Hp->Prop)(h0:Pv 0 σ H)(hl:∀i σ H,i<=xs.length->Pv i σ H->SqL K H a xs)
  (hs:∀i x σ H,xs[i]?=some x->Pv i σ H->g x σ H fun σ2 H2=>tb {D with nx:=Pv (i+1),ct:=Pv (i+1),bk:=D.nx} σ2 H2)(hd:∀σ H,Pv xs.length σ H->D.nx σ H):
  ∃W:Nat->Nat->St->Hp->Prop,(∃m,W 0 m σ H)/\∀i m σ H,W i m σ H ->
   ((Itl K a).stop i H/\D.nx σ H)\/((Itl K a).go i H/\∃N:St->Hp->Prop,(∀σ' H',N σ' H'->∃m',m'<m/\W (i+1) m' σ' H')/\∀x H',(Itl K a).yld i H x H'->g x σ H' fun σ2 H2=>tb {D with nx:=N,ct:=N,bk:=D.nx} σ2 H2):=by
 refine⟨fun i m σ H=>m=xs.length-i/\i<=xs.length/\Pv i σ H,⟨xs.length,by simp,w1c _,h0⟩,?_⟩
 rintro i m σ H ⟨rfl,hi,p⟩;have q:=hl i σ H hi p
 by_cases hlt:i<xs.length
 ·refine .inr ⟨⟨xs,xs[i],q,by simp[hlt]⟩,Pv (i+1),fun σ' H' p'=>⟨xs.length-(i+1),by omega,rfl,hlt,p'⟩,fun x H' y=>?_⟩
  obtain⟨e,y⟩:=y;subst e;exact hs i x σ _ (y xs q) p
 ·have e:i=xs.length:=by omega
  subst e;exact .inl ⟨⟨xs,q,w0g _⟩,hd σ H p⟩
theorem y6c{g:TG}{D:Ends}(Pv:Nat->St->Hp->Prop)(h0:Pv 0 σ H)(hl:∀i σ H,i<=xs.length->Pv i σ H->SqT K H a xs)
  (hs:∀i x σ H,xs[i]?=some x->Pv i σ H->g x σ H fun σ2 H2=>tb {D with nx:=Pv (i+1),ct:=Pv (i+1),bk:=D.nx} σ2 H2)(hd:∀σ H,Pv xs.length σ H->D.nx σ H):
  ∃W:Nat->Nat->St->Hp->Prop,(∃m,W 0 m σ H)/\∀i m σ H,W i m σ H ->
   ((Itt K a).stop i H/\D.nx σ H)\/((Itt K a).go i H/\∃N:St->Hp->Prop,(∀σ' H',N σ' H'->∃m',m'<m/\W (i+1) m' σ' H')/\∀x H',(Itt K a).yld i H x H'->g x σ H' fun σ2 H2=>tb {D with nx:=N,ct:=N,bk:=D.nx} σ2 H2):=by
 refine⟨fun i m σ H=>m=xs.length-i/\i<=xs.length/\Pv i σ H,⟨xs.length,by simp,w1c _,h0⟩,?_⟩
 rintro i m σ H ⟨rfl,hi,p⟩;have q:=hl i σ H hi p
 by_cases hlt:i<xs.length
 ·refine .inr ⟨⟨xs,xs[i],q,by simp[hlt]⟩,Pv (i+1),fun σ' H' p'=>⟨xs.length-(i+1),by omega,rfl,hlt,p'⟩,fun x H' y=>?_⟩
  obtain⟨e,y⟩:=y;subst e;exact hs i x σ _ (y xs q) p
 ·have e:i=xs.length:=by omega
  subst e;exact .inl ⟨⟨xs,q,w0g _⟩,hd σ H p⟩
theorem x9q{lo:Int}{n:Nat}{g:TG}{D:Ends}(Pv:Nat->St->Hp->Prop)(h0:Pv 0 σ H)
  (hs:∀i σ H,i<n->Pv i σ H->g (.int (lo+i)) σ H fun σ2 H2=>tb {D with nx:=Pv (i+1),ct:=Pv (i+1),bk:=D.nx} σ2 H2)(hd:∀σ H,Pv n σ H->D.nx σ H):
  ∃W:Nat->Nat->St->Hp->Prop,(∃m,W 0 m σ H)/\∀i m σ H,W i m σ H ->
   ((Itr lo n).stop i H/\D.nx σ H)\/((Itr lo n).go i H/\∃N:St->Hp->Prop,(∀σ' H',N σ' H'->∃m',m'<m/\W (i+1) m' σ' H')/\∀x H',(Itr lo n).yld i H x H'->g x σ H' fun σ2 H2=>tb {D with nx:=N,ct:=N,bk:=D.nx} σ2 H2):=by
 refine⟨fun i m σ H=>m=n-i/\i<=n/\Pv i σ H,⟨n,by simp,w1c _,h0⟩,?_⟩
 rintro i m σ H ⟨rfl,hi,p⟩
 by_cases hlt:i<n
 ·refine .inr ⟨hlt,Pv (i+1),fun σ' H' p'=>⟨n-(i+1),by omega,rfl,hlt,p'⟩,fun x H' y=>?_⟩
  obtain⟨e,y⟩:=y;subst e y;exact hs i σ _ hlt p
 ·have e:i=n:=by omega
  subst e;exact .inl ⟨w0g _,hd σ H p⟩
abbrev R2:=V->V->Hp->VK->Prop
variable{r:R2}
def OpR(X:Cx)(f:Value->Value->Sem Value)(r:R2):Prop:=
 ∀(pins:List (Addr×Obj))(s:Shared)(σ:St)(H:Hp)(x y:V)(v u:Value)(Q:VK),Inv X pins σ H s->RelV x v->RelV y u->r x y H Q ->
  wpAny (model X.prog X.w) X.A (f v u) (EP X pins σ Q) X.xe s
def UnR(X:Cx)(f:Value->Sem Value)(r:V->Hp->VK->Prop):Prop:=
 ∀(pins:List (Addr×Obj))(s:Shared)(σ:St)(H:Hp)(x:V)(v:Value)(Q:VK),Inv X pins σ H s->RelV x v->r x H Q ->
  wpAny (model X.prog X.w) X.A (f v) (EP X pins σ Q) X.xe s
def CallR(X:Cx)(f:Value)(r:List V->Hp->VK->Prop):Prop:=
 ∀(pins:List (Addr×Obj))(s:Shared)(σ:St)(H:Hp)(xs:List V)(us:List Value)(Q:VK),Inv X pins σ H s->Vals xs us->r xs H Q ->
  wpAny (model X.prog X.w) X.A (call f us) (EP X pins σ Q) X.xe s
def TruR(X:Cx)(r:V->Hp->(Bool->Hp->Prop)->Prop):Prop:=
 ∀(pins:List (Addr×Obj))(s:Shared)(σ:St)(H:Hp)(x:V)(v:Value)(Q:Bool->Hp->Prop),Inv X pins σ H s->RelV x v->r x H Q ->
  wpAny (model X.prog X.w) X.A (truthy v) (TP X pins σ Q) X.xe s
def tOp(r:R2)(ta tb:TE):TE:=fun σ H Q=>ta σ H fun x H1=>tb σ H1 fun y H2=>r x y H2 Q
def tUn(r:V->Hp->VK->Prop)(ta:TE):TE:=fun σ H Q=>ta σ H fun x H1=>r x H1 Q
def rI(C:Int->Int->Prop)(g:Int->Int->V):R2:=fun x y H Q=>∃i j,x=.int i/\y=.int j/\C i j/\Q (g i j) H
def rI0(g:Int->Int->V):R2:=fun x y H Q=>∃i j,x=.int i/\y=.int j/\Q (g i j) H
def rU(g:Int->V):V->Hp->VK->Prop:=fun x H Q=>∃i,x=.int i/\Q (g i) H
section
variable{a b:Expr}{tb tc:TE}
theorem binT(ha:PE X a ta)(hb:PE X b tb){R:V->V->Hp->Prop}(I:Inv X pins σ H s)
  (h:ta σ H fun x H1=>tb σ H1 fun y H2=>R x y H2){Q:Value->Shared->Prop}
  (hf:∀v u s2 x y H2,Inv X pins σ H2 s2->RelV x v->RelV y u->R x y H2->wpAny (model X.prog X.w) X.A (f v u) Q X.xe s2):
  wpAny (model X.prog X.w) X.A (eval a X.env) (fun v s₁=>wpAny (model X.prog X.w) X.A (eval b X.env) (fun u s₂=>wpAny (model X.prog X.w) X.A (f v u) Q X.xe s₂) X.xe s₁) X.xe s:=by
 refine thn (ha pins s σ H _ I h) fun v s1 ⟨x,H1,I1,r1,q1⟩=>?_
 refine thn (hb pins s1 σ H1 _ I1 q1) fun u s2 ⟨y,H2,I2,r2,q2⟩=>?_
 exact hf v u s2 x y H2 I2 r1 r2 q2
theorem z3i{op:Operator}(ho:OpR X (binaryOp op) r)(ha:PE X a ta)(hb:PE X b tb):PE X (.BinOp a op b pos) (tOp r ta tb):=by
 intro pins s σ H Q I h;exact wpAny_BinOp (binT ha hb I h fun v u s2 x y H2 I2 rx ry q=>ho pins s2 σ H2 x y v u Q I2 rx ry q)
theorem opI{C:Int->Int->Prop}{g:Int->Int->Int}
  (rule:∀(i j:Int)(t u:Tok)(s:Shared)(Q:Value->Shared->Prop)(E:Value->Shared->Prop),C i j->Q (.int (g i j) s.toks) {s with toks:=s.toks+1}->wpAny (model X.prog X.w) X.A (f (.int i t) (.int j u)) Q E s):
  OpR X f (rI C fun i j=>.int (g i j)):=by
 intro pins s σ H x y v u Q I rx ry h;obtain⟨i,j,rfl,rfl,hc,q⟩:=h;obtain⟨t,rfl⟩:=rx;obtain⟨t',rfl⟩:=ry;exact rule i j t t' s _ _ hc ⟨.int (g i j),H,I.tok _,⟨_,rfl⟩,q⟩
theorem opI0{g:Int->Int->Int}
  (rule:∀(i j:Int)(t u:Tok)(s:Shared)(Q:Value->Shared->Prop)(E:Value->Shared->Prop),Q (.int (g i j) s.toks) {s with toks:=s.toks+1}->wpAny (model X.prog X.w) X.A (f (.int i t) (.int j u)) Q E s):
  OpR X f (rI0 fun i j=>.int (g i j)):=by
 intro pins s σ H x y v u Q I rx ry h;obtain⟨i,j,rfl,rfl,q⟩:=h;obtain⟨t,rfl⟩:=rx;obtain⟨t',rfl⟩:=ry;exact rule i j t t' s _ _ ⟨.int (g i j),H,I.tok _,⟨_,rfl⟩,q⟩
theorem opB0{g:Int->Int->Bool}
  (rule:∀(i j:Int)(t u:Tok)(s:Shared)(Q:Value->Shared->Prop)(E:Value->Shared->Prop),Q (.bool (g i j)) s->wpAny (model X.prog X.w) X.A (f (.int i t) (.int j u)) Q E s):
  OpR X f (rI0 fun i j=>.bl (g i j)):=by
 intro pins s σ H x y v u Q I rx ry h;obtain⟨i,j,rfl,rfl,q⟩:=h;obtain⟨t,rfl⟩:=rx;obtain⟨t',rfl⟩:=ry;exact rule i j t t' s _ _ ⟨.bl (g i j),H,I,rfl,q⟩
def CDiv(i j:Int):Prop:=0<j/\j<1073741824
def CMul(i j:Int):Prop:=(-(2^64)<i/\i<2^64)\/(-(2^64)<j/\j<2^64)
theorem CMul.ok{i j:Int}(h:CMul i j):IntMulOk i j:=by
 rcases h with⟨h1,h2⟩|⟨h1,h2⟩
 ·exact .of_left (intBits_le_64 h1 h2)
 ·exact .of_right (intBits_le_64 h1 h2)
theorem op_add:OpR X (binaryOp .Add) (rI0 fun i j=>.int (i+j)):=opI0 fun _ _ _ _ _ _ _ q=>add_int q
theorem y98:OpR X (binaryOp .Sub) (rI0 fun i j=>.int (i-j)):=opI0 fun _ _ _ _ _ _ _ q=>sub_int q
theorem y99:OpR X (binaryOp .Mult) (rI CMul fun i j=>.int (i*j)):=opI fun _ _ _ _ _ _ _ hc q=>mul_int q hc.ok
theorem y6d:OpR X (binaryOp .FloorDiv) (rI CDiv fun i j=>.int (i / j)):=opI fun i j _ _ _ _ _ hc q=>by
 have h1:(0:Int)<j:=hc.1;have h2:j<1073741824:=hc.2;exact floordiv_int (by omega) (by rw[Int.fdiv_eq_ediv_of_nonneg i (by omega)];exact q) (.inl (PyProof.noPylong_small (by omega)))
theorem z0a:OpR X (binaryOp .Mod) (rI (fun _ j=>0<j) fun i j=>.int (i%j)):=opI fun i j _ _ _ _ _ hc q=>by
 have h1:(0:Int)<j:=hc;exact mod_int' (by omega) (by rw[Int.fmod_eq_emod_of_nonneg i (by omega)];exact q)
end
section
variable{a b:Expr}{tb tc:TE}
theorem x9r{Q:VK}{k k':Bool}(I:Inv X pins σ H s)(q:Q (.bl k) H)(e:k=k'):EP X pins σ Q (.bool k') s:=by
 subst e;exact⟨.bl k,H,I,rfl,q⟩
theorem z3j:OpR X (compareOp .Lt) (rI0 fun i j=>.bl (decide (i<j))):=opB0 fun _ _ _ _ _ _ _ q=>lt_int q
theorem z3k:OpR X (compareOp .Gt) (rI0 fun i j=>.bl (decide (j<i))):=opB0 fun _ _ _ _ _ _ _ q=>gt_int q
theorem OpR.or{r':R2}(h:OpR X f r)(h':OpR X f r'):OpR X f (fun x y H Q=>r x y H Q\/r' x y H Q):=by
 intro pins s σ H x y v u Q I rx ry q;rcases q with q|q
 ·exact h pins s σ H x y v u Q I rx ry q
 ·exact h' pins s σ H x y v u Q I rx ry q
theorem nomark(b:Expr)(h:op≠.In:=by decide)(h2:op≠.NotIn:=by decide):behindInMarks op b=false:=by
 have e1:(op==CmpOp.In)=false:=by cases op<;>first|rfl|exact absurd rfl h
 have e2:(op==CmpOp.NotIn)=false:=by cases op<;>first|rfl|exact absurd rfl h2
 cases b<;>simp[behindInMarks,e1,e2]
theorem y6e(ho:OpR X (compareOp op) r)(ha:PE X a ta)(hb:PE X b tb)(hm:behindInMarks op b=false):PE X (.Compare a [op] [b] pos) (tOp r ta tb):=by
 intro pins s σ H Q I h;exact wpAny_Compare1 (binT ha hb I h fun v u s2 x y H2 I2 rx ry q=>ho pins s2 σ H2 x y v u Q I2 rx ry q) hm
def tTest(t:TE):TT:=fun σ H Q=>t σ H fun x H'=>∃k,x=.bl k/\Q k H'
theorem y6f(ho:OpR X (compareOp op) r)(ha:PE X a ta)(hb:PE X b tb)(hm:behindInMarks op b=false):PT X (.Compare a [op] [b] pos) (tTest (tOp r ta tb)):=by
 intro pins s σ H Q I h
 refine wpAny_isTrue_Compare1 (thn (ha pins s σ H _ I h) fun v s1 ⟨x,H1,I1,r1,q1⟩=>thn (hb pins s1 σ H1 _ I1 q1) fun u s2 ⟨y,H2,I2,r2,q2⟩=>
  thn (ho pins s2 σ H2 x y v u _ I2 r1 r2 q2) fun c s3 ⟨z,H3,I3,r3,k,e,q3⟩=>?_) hm
 subst e;cases r3;exact wpAny_truthy_bool ⟨H3,I3,q3⟩
def TruV(K:Fg)(x:V)(H:Hp)(k:Bool):Prop:=
 match x with
 |.non=>k=false
 |.bl b=>k=b
 |.int i=>k=(i != 0)
 |.str y=>y.length<=sizeLine/\k=((y.length:Int) != 0)
 |.byt y=>y.size<=sizeLine/\k=((y.size:Int) != 0)
 |.ref p=>(∃xs,SqL K H p xs/\k=!xs.isEmpty)\/(∃xs,SqT K H p xs/\k=!xs.isEmpty)\/∃kvs,H p=some (.dK kvs)/\k=!kvs.isEmpty
 |_=>False
theorem x8j{κ:Type}{kvs:List (κ×V)}{vs:List (κ×Value)}(r:KV kvs vs):(!vs.isEmpty)=!kvs.isEmpty:=by
 cases r<;>rfl
theorem x0q{its:List Value}(r:Vals xs its):(!its.toArray.isEmpty)=!xs.isEmpty:=by
 cases r<;>simp
theorem line63:(sizeLine:Nat)<2^63:=by rw[sizeLine_eq];decide
theorem z0b:TruR X (fun x H Q=>∃k,TruV X.K x H k/\Q k H):=by
 intro pins s σ H x v Q I rx h;obtain⟨k,e,q⟩:=h;have hl:=line63;have hs:sizeLine=16777216:=sizeLine_eq;cases x with
 |non=>
  cases rx;have e':k=false:=e;subst e';exact truthy_none ⟨H,I,q⟩
 |bl b=>
  cases rx;have e':k=b:=e;subst e';exact wpAny_truthy_bool ⟨H,I,q⟩
 |int i=>
  obtain⟨t,rfl⟩:=rx;have e':k=(i != 0):=e;subst e';exact PySem.P.truthy_int ⟨H,I,q⟩
 |str y=>
  obtain⟨t,rfl⟩:=rx;obtain⟨hy,e'⟩:y.length<=sizeLine/\k=((y.length:Int) != 0):=e;subst e';exact PySem.P.truthy_str (by omega) ⟨H,I.tok _,q⟩
 |byt y=>
  obtain⟨t,rfl⟩:=rx;obtain⟨hy,e'⟩:y.size<=sizeLine/\k=((y.size:Int) != 0):=e;subst e';exact PySem.W.truthy_bytes (by omega) ⟨H,I.tok _,q⟩
 |ref p=>
  cases rx;have e':(∃xs,SqL X.K H p xs/\k=!xs.isEmpty)\/(∃xs,SqT X.K H p xs/\k=!xs.isEmpty)\/∃kvs,H p=some (.dK kvs)/\k=!kvs.isEmpty:=e;rcases e' with⟨xs,hx,e'⟩|⟨xs,hx,e'⟩|⟨kvs,hx,e'⟩
  ·subst e';obtain⟨its,r,pl,hz⟩:=I.list hx;have hlen:=r.length;exact wpAny_truthy_list pl.isList (by simp only[w0d];omega) ⟨H,I.tok _,by rw[x0q r];exact q⟩
  ·subst e';obtain⟨its,r,pl,hz⟩:=I.tuple hx;have hlen:=r.length;exact truthy_tuple pl (by simp only[w0d];omega) ⟨H,I.tok _,by rw[x0q r];exact q⟩
  ·subst e';obtain⟨hz,hS,vs,r,m⟩:kvs.length<=sizeLine/\(p==sysModules)=false/\∃vs,KV kvs vs/\s.heap.DictOf (mixKind X.prog X.w) p vs:=I.hok p _ hx;have hlen:kvs.length=vs.length:=Paired.length r;exact wpAny_truthy_dict hS m (by omega) ⟨H,I.tok _,by rw[x8j r];exact q⟩
 |_=>exact(show False from e).elim
theorem y2y(ha:PE X a ta)(he:∀whole,isTrue a X.env whole=(do let v <- whole;standAt a.pos;holding [v] (truthy v))):
  PT X a (fun σ H Q=>ta σ H fun x H'=>∃k,TruV X.K x H' k/\Q k H'):=by
 intro pins s σ H Q I h;exact isTrue_plain (thn (ha pins s σ H _ I h) fun v s1 ⟨x,H1,I1,r1,q1⟩=>z0b pins s1 σ H1 x v Q I1 r1 q1) (he _)
theorem op_add_str:OpR X (binaryOp .Add) (fun x y H Q=>∃i j,x=.str i/\y=.str j/\i.length+j.length<=sizeLine/\Q (.str (i++j)) H):=by
 intro pins s σ H x y v u Q I rx ry h;obtain⟨i,j,rfl,rfl,hz,q⟩:=h;obtain⟨t,rfl⟩:=rx;obtain⟨t',rfl⟩:=ry;exact add_str (fun t' tk=>⟨.str (i++j),H,I.tok _,⟨_,rfl⟩,q⟩) hz
theorem vals1{x:V}(r:Vals [x] us):∃u,us=[u]/\RelV x u:=by
 cases r with
 |cons r1 r2=>cases r2;exact⟨_,rfl,r1⟩
theorem vals2{x y:V}(r:Vals [x,y] us):∃u w',us=[u,w']/\RelV x u/\RelV y w':=by
 cases r with
 |cons r1 r2=>
  cases r2 with
  |cons r3 r4=>cases r4;exact⟨_,_,rfl,r1,r3⟩
theorem x9s:CallR X (.type "int") (fun xs H Q=>(∃i,xs=[.int i]/\Q (.int i) H)\/∃k,xs=[.bl k]/\Q (.int (if k then 1 else 0)) H):=by
 intro pins s σ H xs us Q I r h;rcases h with⟨i,rfl,q⟩|⟨k,rfl,q⟩
 ·obtain⟨u,rfl,t,rfl⟩:=vals1 r;exact call_int_int ⟨.int i,H,I,⟨_,rfl⟩,q⟩
 ·obtain⟨u,rfl,r1⟩:=vals1 r;cases r1;exact call_int_bool ⟨.int (if k then 1 else 0),H,I.tok _,⟨_,rfl⟩,q⟩
def LenV(K:Fg)(x:V)(H:Hp)(n:Nat):Prop:=
 match x with
 |.str y=>y.length<=sizeLine/\n=y.length
 |.byt y=>y.size<=sizeLine/\n=y.size
 |.ref p=>(∃xs,SqL K H p xs/\n=xs.length)\/∃xs,SqT K H p xs/\n=xs.length
 |_=>False
theorem y2z:CallR X (.builtin "len") (fun xs H Q=>∃x n,xs=[x]/\LenV X.K x H n/\Q (.int n) H):=by
 intro pins s σ H xs us Q I r h;obtain⟨x,n,rfl,e,q⟩:=h;obtain⟨u,rfl,rx⟩:=vals1 r;have hl:=line63;have hs:sizeLine=16777216:=sizeLine_eq;cases x with
 |str y=>
  obtain⟨t,rfl⟩:=rx;obtain⟨hy,e'⟩:y.length<=sizeLine/\n=y.length:=e;subst e';exact len_str (by omega) ⟨.int _,H,I.tok _,⟨_,rfl⟩,q⟩
 |byt y=>
  obtain⟨t,rfl⟩:=rx;obtain⟨hy,e'⟩:y.size<=sizeLine/\n=y.size:=e;subst e';exact PySem.W.len_bytes (by omega) ⟨.int _,H,I.tok _,⟨_,rfl⟩,q⟩
 |ref p=>
  cases rx;have e':(∃xs,SqL X.K H p xs/\n=xs.length)\/∃xs,SqT X.K H p xs/\n=xs.length:=e;rcases e' with⟨xs,hx,e'⟩|⟨xs,hx,e'⟩
  ·subst e';obtain⟨its,r',pl,hz⟩:=I.list hx;have hlen:=r'.length;exact Calls.call_len_list pl.isList (by simp only[w0d];omega) ⟨.int xs.length,H,I.tok _,⟨_,by simp only[w0d];rw[hlen]⟩,q⟩
  ·subst e';obtain⟨its,r',pl,hz⟩:=I.tuple hx;have hlen:=r'.length;exact len_tuple pl (by simp only[w0d];omega) ⟨.int xs.length,H,I.tok _,⟨_,by simp only[w0d];rw[hlen]⟩,q⟩
 |_=>exact(show False from e).elim
end
structure ObjM(h:Heap)(x dx C:Addr)(mA:Str->Option Value):Prop where
 obj:h.get? x=some (PySem.W.instObj C dx)
 ns:h.Ns1 dx mA
 ne:dx≠x
structure Cls(K:Fg)(C:Addr):Prop where
 pg:PySem.W.plainGet K C Str.empty=true
 hd:PySem.W.hasDictIn K C=true
 po:PySem.W.plainOver K C=true
 sa:findIn K (.ref C) "__setattr__"=some (some (.builtin "object.__setattr__"))
structure Con(K:Fg)(C:Addr)(f:Str)(v:V)(u:Value):Prop where
 at_:findIn K (.ref C) f=some (some u)
 rel:RelV v u
 get:specialIn K u "__get__"=some none
 cp:PySem.W.copiedNames.contains f=false
structure Meth(K:Fg)(C:Addr)(m:Str)(f:Addr):Prop where
 at_:findIn K (.ref C) m=some (some (.ref f))
 fn:PySem.W.isFn K (.ref f)=true
 kp:keepIn K (.ref f)=true
section
variable{Q:Value->Shared->Prop}{c:Value}{b:Bool}
inductive TyOf(K:Fg)(H:Hp):V->Value->Prop where
 |non:TyOf K H .non (.type "NoneType")
 |bl (x:Bool):TyOf K H (.bl x) (.type "bool")
 |int (i:Int):TyOf K H (.int i) (.type "int")
 |str (x:Str):TyOf K H (.str x) (.type "str")
 |flt (x:UInt64):TyOf K H (.flt x) (.type "float")
 |lst {a:Addr} {xs:List V} (e:H a=some (.lst xs)):TyOf K H (.ref a) (.type "list")
 |frz {a:Addr} {o:Obj} {xs:List V} (e:H a=some (.frz o (.lst xs))):TyOf K H (.ref a) (.type "list")
 |tup {a:Addr} {xs:List V} (e:H a=some (.tup xs)):TyOf K H (.ref a) (.type "tuple")
 |dK {a:Addr} {kvs:List (Key×V)} (e:H a=some (.dK kvs)):TyOf K H (.ref a) (.type "dict")
 |dT {a:Addr} {sh:Sh} {kvs:List (Kx×V)} {kas:List Addr} (e:H a=some (.dT sh kvs kas)):TyOf K H (.ref a) (.type "dict")
 |ins {a C dx:Addr} {fs:List (Str×V)} (e:H a=some (.ins C dx fs)) (cl:Cls K C) (ha:findIn K (.ref C) "__class__"=some (some (.builtin "object.__class__")))
   (hn:specialIn K (.builtin "object.__class__") "__get__"=some (some (.builtin "getset_descriptor.__get__"))) (htk:takesIn K (.builtin "object.__class__")=some true)
   (hm:PySem.W.mroIn K C (.type "object")=some true):TyOf K H (.ref a) (.ref C)
end
structure Room(k:Nat)(A:Around):Prop where
 hd:A.handled=none
 dp:A.depth+3*k+5<recursionLimit
 un:A.units+16*k+200<cLine
 gd:A.guards=some []
theorem Room.mono{j:Nat}(r:Room k A)(h:j<=k):Room j A:=⟨r.hd,by have:=r.dp;omega,by have:=r.un;omega,r.gd⟩
theorem Room.deeper(r:Room (k+1) A)(env:Env):Room k (A.deeper env):=
 ⟨r.hd,by have:=r.dp;show A.depth+1+3*k+5<_;omega,by have:=r.un;show A.units+3+16*k+200<_;omega,r.gd⟩
theorem Room.in1(r:Room (k+1) A):Room k A.in1:=
 ⟨r.hd,by have:=r.dp;show A.depth+3*k+5<_;omega,by have:=r.un;show A.units+1+16*k+200<_;omega,r.gd⟩
theorem Room.depth(r:Room k A):A.depth<recursionLimit:=by have:=r.dp;omega
def tNil:TA:=fun _ H Q=>Q [] H
def tCons(ta:TE)(tr:TA):TA:=fun σ H Q=>ta σ H fun x H1=>tr σ H1 fun xs H2=>Q (x::xs) H2
theorem q8c:PA X [] tNil:=fun _ _ _ _ H Q I h=>Calls.spliced_nil ⟨[],H,I,.nil,h⟩
theorem q47(ha:PE X e te)(hr:PA X es t)(hs:starEach (e::es) X.env=(false,eval e X.env)::starEach es X.env:=by rfl):PA X (e::es) (tCons te t):=by
 intro pos pins s σ H Q I h;rw[hs];show wpAny _ _ (spliced ((false,eval e X.env)::backTo pos (starEach es X.env))) _ _ s;refine Calls.spliced_cons (thn (ha pins s σ H _ I h) fun u s1 ⟨x,H1,I1,r1,q1⟩=>?_)
 exact thn (hr pos pins s1 σ H1 _ I1 q1) fun us s2 ⟨xs,H2,I2,r2,q2⟩=>⟨x::xs,H2,I2,.cons r1 r2,q2⟩
def tTup(t:TA):TE:=fun σ H Q=>t σ H fun xs H1=>xs.length<=sizeLine/\∀p,H1 p=none->Q (.ref p) (upd H1 p (.tup xs))
def tLst(t:TA):TE:=fun σ H Q=>t σ H fun xs H1=>xs.length<=sizeLine/\∀p,H1 p=none->Q (.ref p) (upd H1 p (.lst xs))
theorem x4k{x1}(h:PA X es t):PE X (.Tuple es x1 pos) (tTup t):=by
 intro pins s σ H Q I hq;refine wpAny_Tuple_spliced (thn (h pos pins s σ H _ I hq) fun us s1 ⟨xs,H1,I1,r,z,q⟩=>⟨by rw[<- r.length];exact z,?_⟩)
 have hf:H1 s1.heap.objs.size=none:=I1.hok.fresh (w0g _);refine⟨.ref s1.heap.objs.size,upd H1 s1.heap.objs.size (.tup xs),I1.laid (t':=s1.toks) (fun b u e=>Heap.get?_push_of_some _ e) (w0g _) ?_,rfl,q _ hf⟩
 exact⟨z,us,r,⟨_,Heap.get?_push_size _ rfl,rfl,_,rfl⟩,⟨_,Heap.get?_push_size _ rfl,rfl⟩⟩
theorem z0c(h:PA X es t):PE X (.List es pos) (tLst t):=by
 intro pins s σ H Q I hq;refine wpAny_List_spliced (thn (h pos pins s σ H _ I hq) fun us s1 ⟨xs,H1,I1,r,z,q⟩=>⟨by rw[<- r.length];exact z,?_⟩)
 have hf:H1 s1.heap.objs.size=none:=I1.hok.fresh (w0g _);refine⟨.ref s1.heap.objs.size,upd H1 s1.heap.objs.size (.lst xs),I1.laid (t':=s1.toks) (fun b u e=>Heap.get?_push_of_some _ e) (w0g _) ?_,rfl,q _ hf⟩
 exact⟨z,us,0,r,Heap.get?_push_size _ rfl⟩
abbrev Sp:=List V->Hp->VK->XK->Prop
variable{sp:Sp}
abbrev CXT:=List Env->Hp->Shared->XK->Value->Shared->Prop
variable{CX:CXT}
structure Env0(P:Program)(w:World)(K:Fg)(mg:Str->Option Value)(base:Heap)(A:Around)(outer:List Env)(s:Shared)(H:Hp):Prop where
 frames:A.frames=some outer
 mod:Mod K mg base
 bs:∀b o,base.get? b=some o->s.heap.get? b=some o/\H b=none
 bsz:base.objs.size<=s.heap.objs.size
 funs:s.heap.FunFrames base outer
 frf:∀b∈frs outer,H b=none
 hok:HOk P w H s.heap
 bare:AllBare s.gens
 tab:TabOk K H
def CE(outer:List Env)(P:Program)(w:World)(H:Hp)(s:Shared)(Q:VK)(u:Value)(s':Shared):Prop:=
 ∃v H',s'.os=s.os/\AllBare s'.gens/\Un (frs outer) [] H H' s.heap s'.heap/\HOk P w H' s'.heap/\RelV v u/\Q v H'
def CR(CX:CXT)(outer:List Env)(P:Program)(w:World)(H:Hp)(s:Shared)(Q:VK)(E:XK)(r:Result)(s':Shared):Prop:=
 match r with
 |.ok (.ret u)=>CE outer P w H s Q u s'
 |.ok _=>False
 |.error e=>CX outer H s E e s'
structure FnOk(P:Program)(w:World)(K:Fg)(mg:Str->Option Value)(base:Heap)(CX:CXT)(k:Nat)(f:Addr)(fd:FuncData)(ps:List Str)(sp:Sp):Prop where
 len:∀vs H Q E,sp vs H Q E->vs.length=ps.length
 run:∀(A:Around)(outer:List Env)(s:Shared)(H:Hp)(args:Args)(us:List Value)(vs:List V)(Q:VK)(E:XK),Room k A->Env0 P w K mg base A outer s H->BindsTo s fd args (ps.zip us)->Vals vs us->sp vs H Q E ->
  codeAny (model P w) A (.call (.ref f) args) (CR CX outer P w H s Q E) s
theorem FnOk.imp{f:Addr}{sp':Sp}(F:FnOk P w K mg base CX k f fd ps sp)
  (h:∀vs H Q E,sp' vs H Q E->sp vs H Q E):FnOk P w K mg base CX k f fd ps sp':=
 ⟨fun vs H Q E q=>F.len vs H Q E (h _ _ _ _ q),fun A outer s H args us vs Q E hr he hb hv hs=>F.run A outer s H args us vs Q E hr he hb hv (h _ _ _ _ hs)⟩
section
variable{s':Shared}
theorem Inv.env0(I:Inv X pins σ H s):Env0 X.prog X.w X.K X.mg X.base X.A X.stack s H:=
 ⟨I.ok.frames,I.ok.mod,I.bs,w0m I.ok.bsz I.sz,I.stack,I.stkFree,I.hok,I.bare,I.ok.tab.un I.base⟩
theorem Inv.after{Q:VK}(I:Inv X pins σ H s)(h:CE X.stack X.prog X.w H s Q u s'):EP X pins σ Q u s':=by
 obtain⟨v,H',os,bare,un,hok,r,q⟩:=h;obtain⟨hh,g,d,t,os'⟩:=s';obtain rfl:os'=s.os:=os;exact⟨v,H',I.call (h':=hh) (g':=g) (d':=d) (t':=t) (ch:=[]) un hok bare (fun b z=>absurd z (by simp)),r,q⟩
end
def Binds(K:Fg)(fd:FuncData)(ps:List Str)(ds:List Value):Prop:=
 ∀(s:Shared)(us:List Value),K.In s.heap->(us++ds).length=ps.length->BindsTo s fd ⟨us,[]⟩ (ps.zip (us++ds))
theorem Binds.all(h:∀us:List Value,us.length=ps.length->bindArgs fd ⟨us,[]⟩=pure (ps.zip us)):Binds K fd ps []:=fun s us _ hl=>by
 rw[w1l]at hl |-
 exact .of_eq (h us hl)
section
variable{f:Addr}{dvs:List V}{ds:List Value}{E:XK}{m:Str}{apos:Pos}{o:Expr}
structure Mk(K:Fg)(C f:Addr):Prop where
 makes:PySem.W.makesIn K C=true
 init:findIn K (.ref C) "__init__"=some (some (.ref f))
 fn:PySem.W.isFn K (.ref f)=true
 kp:keepIn K (.ref C)=true
end
section
variable{f:Addr}{ks:List Str}{E:XK}{m:Str}{apos kpos:Pos}{o:Expr}{kws:List Keyword}{tk:TA}{nm:Option Str}
structure KBinds(K:Fg)(fd:FuncData)(ps ks:List Str)(g:List Value->List Value->List Value)(gV:List V->List V->List V):Prop where
 to:∀(s:Shared)(us ws:List Value),K.In s.heap->(g us ws).length=ps.length->BindsTo s fd ⟨us,ks.zip ws⟩ (ps.zip (g us ws))
 rel:∀{vs:List V}{us:List Value}{zs:List V}{ws:List Value},Vals vs us->Vals zs ws->Vals (gV vs zs) (g us ws)
variable{g:List Value->List Value->List Value}{gV:List V->List V->List V}
end
structure FnScope(N P:List Str)(sc:Scope):Prop where
 kind:sc.kind=.function
 co:sc.isCoroutine=false
 gen:sc.isGenerator=false
 nd:N.Nodup
 pre:N.take P.length=P
 par:∀x∈P,sc.names.lookup x=some .local\/sc.names.lookup x=some .cell
 nofree:∀y∈sc.names,y.2≠.free
theorem x2p{kindOf:Str->Option NameKind}:∀{binds:List (Str×Value)}{m:Str->Option Value},(∀v,(x,v)∉binds)->bindL kindOf binds m x=m x
 |[],_,_=>rfl
 |(n,v)::r,m,h=>by
  unfold bindL;rw[x2p fun w hw=>h w (w0f _ hw)]
  split
  ·have:x≠n:=by rintro rfl;exact h v w0h
   simp[this]
  ·rfl
theorem x2q{kindOf:Str->Option NameKind}:∀{binds:List (Str×Value)}{m:Str->Option Value},(∀v,(x,v)∉binds)->bindC kindOf binds m x=m x
 |[],_,_=>rfl
 |(n,v)::r,m,h=>by
  unfold bindC;rw[x2q fun w hw=>h w (w0f _ hw)]
  split
  ·rfl
  ·have:x≠n:=by rintro rfl;exact h v w0h
   simp[this]
theorem x2r{kindOf:Str->Option NameKind}{x:Str}{v:Value}:∀{P:List Str}{vs:List Value}{i:Nat}{m:Str->Option Value},P.Nodup->P[i]?=some x->vs[i]?=some v->kindOf x=some .local ->
  bindL kindOf (P.zip vs) m x=some v
 |[],_,_,_,_,h,_,_=>by simp at h
 |_::_,[],_,_,_,_,h,_=>by simp at h
 |p::P,w::vs,0,m,nd,h1,h2,hk=>by
  simp at h1 h2;subst h1;subst h2;show bindL kindOf ((p,w)::P.zip vs) m p=_;unfold bindL;rw[x2p fun v hv=>(w2c.mp nd).1 (w2y hv).1,if_pos hk]
  simp
 |p::P,w::vs,i+1,m,nd,h1,h2,hk=>by
  show bindL kindOf ((p,w)::P.zip vs) m x=_;unfold bindL;exact x2r (i:=i) (w2c.mp nd).2 (by simpa using h1) (by simpa using h2) hk
theorem x2s{kindOf:Str->Option NameKind}{x:Str}{v:Value}:∀{P:List Str}{vs:List Value}{i:Nat}{m:Str->Option Value},P.Nodup->P[i]?=some x->vs[i]?=some v->kindOf x≠some .local ->
  bindC kindOf (P.zip vs) m x=some v
 |[],_,_,_,_,h,_,_=>by simp at h
 |_::_,[],_,_,_,_,h,_=>by simp at h
 |p::P,w::vs,0,m,nd,h1,h2,hk=>by
  simp at h1 h2;subst h1;subst h2;show bindC kindOf ((p,w)::P.zip vs) m p=_;unfold bindC;rw[x2q fun v hv=>(w2c.mp nd).1 (w2y hv).1,if_neg hk]
  simp
 |p::P,w::vs,i+1,m,nd,h1,h2,hk=>by
  show bindC kindOf ((p,w)::P.zip vs) m x=_;unfold bindC;exact x2s (i:=i) (w2c.mp nd).2 (by simpa using h1) (by simpa using h2) hk
def start(N:List Str)(vs:List V):St:=vs.map some++List.replicate (N.length-vs.length) none
def cxOf(CX:CXT)(P:Program)(w:World)(K:Fg)(mg:Str->Option Value)(base:Heap)(N:List Str)(qual:Str)(scope:Scope)(f:Addr)(cd:Value)(A:Around)(outer:List Env)(s:Shared)(H:Hp)(E:XK):Cx where
 prog:=P
 w:=w
 K:=K
 mg:=mg
 base:=base
 A:=A.deeper (envOfC qual scope s.heap.objs.size f cd)
 N:=N
 s₀:=s
 H₀:=H
 env:=envOfC qual scope s.heap.objs.size f cd
 outer:=outer
 stack:=envOfC qual scope s.heap.objs.size f cd::outer
 ex:=[]
 calm:=true
 fn:=fun _=>true
 pn:=[]
 xe:=fun e s'=>wpAny (model P w) (A.deeper (envOfC qual scope s.heap.objs.size f cd)) (leaving (envOfC qual scope s.heap.objs.size f cd) e) (fun _ s''=>CX outer H s E e s'') (fun e' s''=>CX outer H s E e' s'') s'
theorem x4l{sc:Scope}{n:Nat}(h:sc.names.lookup x=some .cell):∃c,(cellsFrom n sc.names []).lookup x=some c:=by
 have q:=PySem.W.cellsFrom_some sc.names n [] (.inl h);exact w3v.mp q
theorem x9t{qual:Str}{scope:Scope}{f:Addr}{cd:Value}{outer:List Env}{s1:Shared}{E:XK}{vs:List V}
  (S:FnScope N ps scope)(hd:A.handled=none)(e0:Env0 P w K mg base A outer s H)(hl:vs.length=ps.length)(r:Vals vs us)
  (x:InCallC s s.heap.objs.size (bindL (envOfC qual scope s.heap.objs.size f cd).kindOf (ps.zip us) fun _=>none) (cellsFrom (s.heap.objs.size+1) scope.names []) (bindC (envOfC qual scope s.heap.objs.size f cd).kindOf (ps.zip us) fun _=>none) s1):
  Inv (cxOf CX P w K mg base N qual scope f cd A outer s H E) [] (start N vs) H s1:=by
 have hpl:ps.length<=N.length:=by have:=congrArg List.length S.pre;rw[w2k]at this;omega
 obtain⟨h1,tk,rfl,hk⟩:=x.done;have noA:∀b:Addr,b∉(cxOf CX P w K mg base N qual scope f cd A outer s H E).ex:=fun b z=>absurd (show b∈([]:List Addr)from z) (by simp)
 refine⟨⟨e0.mod,S.kind,rfl,rfl,w0g _,fun y z c h1 h2=>?_,fun y hy=>?_,fun y c _ h=>?_,fun _=>hd,Around.frames_deeper e0.frames,.inr ⟨rfl,rfl⟩,fun b z=>absurd z (noA b),e0.bs,e0.bsz,fun b _ _=>noA b,fun b z=>absurd z (noA b),e0.funs,e0.frf,e0.tab⟩,
  rfl,e0.bare,Un.kept hk,⟨_,x.toInCall.ns,fun i y v h1 h2 h3=>?_⟩,fun y c h=>⟨_,x.cell y c h⟩,e0.hok.fresh (w0g _),fun y c h=>?_,fun p hp=>absurd (show p∈([]:List (Addr×Obj))from hp) (by simp),e0.hok.kept hk,?_⟩
 ·exact name_of_addr x.apart (PySem.mem_of_lookup h1) (PySem.mem_of_lookup h2)
 ·have hy:scope.names.lookup y=some .cell\/scope.names.lookup y=some .free:=hy;rcases hy with hy|hy
  ·exact x4l hy
  ·exact absurd rfl (S.nofree _ (PySem.mem_of_lookup hy))
 ·exact w4g (x.above y c (PySem.mem_of_lookup h))
 ·have hi:i<vs.length:=by
   unfold start at h2
   by_cases hi:i<vs.length
   ·exact hi
   ·rw[w1o (by simpa using hi)]at h2;rw[w1z]at h2;split at h2<;>cases h2
  have ha:vs[i]?=some v:=by
   unfold start at h2;rw[w1q (by simpa using hi),w0v]at h2;cases e:vs[i]? with
   |none=>rw[e]at h2;cases h2
   |some a=>rw[e]at h2;cases h2;rfl
  obtain⟨u,hu,rv⟩:=r.get ha
  have hp:ps[i]?=some y:=by
   rw[<- S.pre,List.getElem?_take_of_lt (by omega)];exact h1
  have ndP:ps.Nodup:=by rw[<- S.pre];exact S.nd.sublist (List.take_sublist _ _)
  refine⟨u,rv,?_⟩;rcases S.par y (w0y hp)with k|k
  ·exact .inl ⟨k,x2r ndP hp hu k⟩
  ·obtain⟨c,e⟩:=x4l (n:=s.heap.objs.size+1) k;refine .inr ⟨.inl k,c,e,?_⟩;have q:=x.cell y c e;rw[x2s ndP hp hu (by show scope.names.lookup y≠_;rw[k];decide)]at q;exact q
 ·exact e0.hok.fresh (w4g (x.above y c (PySem.mem_of_lookup h)))
 ·unfold start;show _=N.length;rw[w0p,w0a,w3g];omega
theorem y50{f:Addr}{name qual:Str}{params:Arguments}{body:List Stmt}{scope:Scope}{dV kV doc pm cdv ct oc:Value}{an od:Option Addr}
  {osl:Array (Option Value)}(lk:K.lookup f=some ⟨oc,od,.func (PySem.W.fnOf name qual params body scope dV kV doc pm an cdv ct),osl⟩)(hcd:PySem.W.codeIn K cdv qual=true)(S:FnScope N ps scope)
  (len:∀vs H Q E,sp vs H Q E->vs.length=ps.length)
  (hbody:∀(A:Around)(outer:List Env)(s:Shared)(H:Hp)(vs:List V)(Q:VK)(E:XK),Room k (A.deeper (envOfC qual scope s.heap.objs.size f cdv))->sp vs H Q E ->
   ∃t,PSs (cxOf CX P w K mg base N qual scope f cdv A outer s H E) body t/\t {nx:=fun _ H'=>Q .non H',rt:=Q} (start N vs) H):
  FnOk P w K mg base CX (k+1) f (PySem.W.fnOf name qual params body scope dV kV doc pm an cdv ct) ps sp:=by
 refine⟨len,fun A outer s H args us vs Q E hr e0 hb r hsp=>?_⟩
 have hl:=len _ _ _ _ hsp;have KX:K.In s.heap:=e0.mod.kin.keeps fun b o e=>(e0.bs b o e).1
 have lim:s.heap.NoLimit:=e0.mod.nolimit.keeps fun b o e=>(e0.bs b o e).1
 have hkind:∀y∈ps.zip us,scope.names.lookup y.1=some .local\/(scope.names.lookup y.1=some .cell/\((cellsFrom (s.heap.objs.size+1) scope.names []).lookup y.1).isSome=true):=fun⟨n,v⟩ hy=>by
  rcases S.par n (w2y hy).1 with q|q
  ·exact .inl q
  ·exact .inr ⟨q,PySem.W.cellsFrom_some _ _ _ (.inl q)⟩
 refine codeAny_call_function hr.depth (KX _ _ lk) rfl S.co S.gen rfl (PySem.W.codeRec_of KX hcd) (hb _ _ _ _ ?_)
 refine wpAny_newFunctionEnv_cells S.kind hkind fun env he s1 x=>?_
 subst he;refine⟨lim.keeps x.toInCall.keep,codeAny_func ?_⟩
 obtain⟨t,ht,hq⟩:=hbody A outer s H vs Q E (hr.deeper _) hsp;have I:Inv (cxOf CX P w K mg base N qual scope f cdv A outer s H E) [] (start N vs) H s1:=x9t S hr.hd e0 hl r x;refine wpAny_mono (ht [] s1 (start N vs) H _ I hq) (fun fl s' hs=>?_) fun e s' hs=>hs
 have fin:∀{σ':St}{H':Hp}{v:V}{u:Value},Inv (cxOf CX P w K mg base N qual scope f cdv A outer s H E) [] σ' H' s'->RelV v u->Q v H'->CE outer P w H s Q u s':=
  fun {σ' H' v u} J rv q=>⟨v,H',J.os,J.bare,J.base,J.hok,rv,q⟩
 cases fl with
 |ret u=>
  obtain⟨v,σ',H',J,rv,q⟩:=hs;exact fin J rv q
 |next=>
  obtain⟨σ',H',J,q⟩:=hs;exact fin (v:=V.non) (u:=Value.none) J rfl q
 |brk=>
  obtain⟨_,_,_,q⟩:=hs;exact False.elim q
 |cont=>
  obtain⟨_,_,_,q⟩:=hs;exact False.elim q
section
variable{id T:String}{r:List V->Hp->VK->Prop}
def tCB(r:List V->Hp->VK->Prop)(t:TA):TE:=fun σ H Q=>t σ H fun vs H1=>r vs H1 Q
theorem x4m(hc:CallR X (.builtin id) r)(hg:Gl X x)(hm:X.mg x=none)(hv:bootBuiltins x=some (.builtin id))(ha:PA X (e::es) t)(hn:x≠"__name__":=by decide)(hdb:(x==("__debug__":Str))=false:=by decide)
  (he:starEach (e::es) X.env=(false,eval e X.env)::starEach es X.env:=by rfl)(hpl:(backTo pos (starEach es X.env)).any (·.1)=false:=by rfl):PE X (.Call (.Name x p) (e::es) [] pos) (tCB r t):=by
 intro pins s σ H Q I h;refine wpAny_Call_Name_kw (q4f I hg hm hv ?_ hn hdb);exact PyProof.Rows.callWith_builtin1 (thn (ha pos pins s σ H _ I h) fun us s1 ⟨vs,H1,I1,r1,q1⟩=>hc pins s1 σ H1 vs us Q I1 r1 q1) he hpl
theorem x2t(hc:CallR X (.type T) r)(hg:Gl X x)(hm:X.mg x=none)(hv:bootBuiltins x=some (.type T))(ha:PA X (e::es) t)(hn:x≠"__name__":=by decide)(hdb:(x==("__debug__":Str))=false:=by decide)
  (he:starEach (e::es) X.env=(false,eval e X.env)::starEach es X.env:=by rfl)(hpl:(backTo pos (starEach es X.env)).any (·.1)=false:=by rfl):PE X (.Call (.Name x p) (e::es) [] pos) (tCB r t):=by
 intro pins s σ H Q I h;refine wpAny_Call_Name_kw (q4f I hg hm hv ?_ hn hdb);exact PyProof.Rows.callWith_type1 (thn (ha pos pins s σ H _ I h) fun us s1 ⟨vs,H1,I1,r1,q1⟩=>hc pins s1 σ H1 vs us Q I1 r1 q1) he hpl
end
end L2
namespace HT
open PySem PyProof.Rows
section
variable{prog:Program}{w:World}{A:Around}{E:Value->Shared->Prop}{s:Shared}
theorem cat_tup{t b:Addr}{vs ws:List Value}{Q:Value->Shared->Prop}(ht:IsTup s.heap t vs.toArray)(hb:IsTup s.heap b ws.toArray)(hv:vs≠[])
  (h1:ws=[]->Q (.ref t) s)(h2:ws≠[]->Q (.ref s.heap.objs.size) {s with heap:=s.heap.push {cls:=.type "tuple", data:=.seq (vs++ws).toArray}})
  (hsz:vs.length+ws.length<=sizeLine):wpAny (model prog w) A (binaryOp .Add (.ref t) (.ref b)) Q E s:=by
 obtain⟨⟨cls,dd,data,sl⟩,ho,hc,n,hd⟩:=id ht;obtain⟨⟨cls2,dd2,data2,sl2⟩,ho2,hc2,n2,hd2⟩:=id hb;simp only at hc hd hc2 hd2;subst hc hd hc2 hd2;have e:vs.toArray++ws.toArray=(vs++ws).toArray:=by simp
 by_cases hw:ws=[]
 ·exact concat_meets ⟨_,ho,rfl⟩ ⟨_,ho2,rfl⟩ noFill_tuple_add seq_tuple_add PySem.F.slot_tuple_add PySem.F.entry_tuple_add (PySem.F.args_tuple_add_2 _ _)
   (tuple_addW1 t b vs.toArray ws.toArray n n2 dd dd2 sl sl2 (by simpa using hv) (by simp[hw])) ⟨ho,ho2,h1 hw⟩
 ·refine concat_meets ⟨_,ho,rfl⟩ ⟨_,ho2,rfl⟩ noFill_tuple_add seq_tuple_add PySem.F.slot_tuple_add PySem.F.entry_tuple_add (PySem.F.args_tuple_add_2 _ _)
   (tuple_addW2 t b vs.toArray ws.toArray n n2 dd dd2 sl sl2 (by simpa using hv) (by simpa using hw) (by rw[w0d,w0d];exact hsz)) ⟨ho,ho2,?_⟩
  rw[e];exact h2 hw
def sIx(n d:Nat):Option Int->Nat
 |none=>d
 |some v=>if v<0 then(v+(n:Int)).toNat else min v.toNat n
theorem sIx_none(n d:Nat):sIx n d none=d:=rfl
theorem sIx_nat(n d k:Nat):sIx n d (some (k:Int))=min k n:=by
 show(if(k:Int)<0 then((k:Int)+(n:Int)).toNat else min (k:Int).toNat n)=min k n;rw[if_neg (by omega),w1p]
theorem z0d(n d:Nat)(hd:d<=n)(o:Option Int):sIx n d o<=n:=by
 cases o with
 |none=>exact hd
 |some v=>
  show(if v<0 then(v+(n:Int)).toNat else min v.toNat n)<=n
  by_cases hv:v<0
  ·rw[if_pos hv];omega
  ·rw[if_neg hv];exact w4b _ _
theorem x7e(v:Int)(n d:Nat):(if v<0 then max (v+(n:Int)) 0 else min v (n:Int))=((sIx n d (some v):Nat):Int):=by
 show(if v<0 then max (v+(n:Int)) 0 else min v (n:Int))=(((if v<0 then(v+(n:Int)).toNat else min v.toNat n):Nat):Int)
 by_cases hv:v<0
 ·simp only[if_pos hv];omega
 ·simp only[if_neg hv];omega
theorem x8k(lo hi:Option Int)(n:Nat):Builtin.Slice.sliceAdjust lo hi 1 (n:Int)=(((sIx n 0 lo:Nat):Int),((sIx n n hi:Nat):Int)):=by
 have h1:¬((1:Int)<0):=by omega
 unfold Builtin.Slice.sliceAdjust;simp only[h1,if_false];refine Prod.ext ?_ ?_
 ·cases lo with
  |none=>rfl
  |some v=>exact x7e v n 0
 ·cases hi with
  |none=>rfl
  |some v=>exact x7e v n n
theorem x8l(i j:Nat):Builtin.Slice.slicePlaces (i:Int) (j:Int) 1=j-i:=by
 unfold Builtin.Slice.slicePlaces;have h1:(1:Int)>0:=by omega
 simp only[h1,if_true,Int.ediv_one];split<;>omega
theorem x0r{v:Value}{o:Option Int}{Q:Option Int->Shared->Prop}(p:IsPart v o)(h:Q o s):wpAny (model prog w) A (Builtin.Slice.slicePartIndex v) Q E s:=by
 cases p with
 |none=>exact slicePart_none h
 |int i t=>exact slicePart_int h
theorem q94{sl:Addr}{vl vu:Value}{lo hi:Option Int}{n:Nat}{Q:Int×Int×Nat->Shared->Prop}(hs:s.heap.IsSliceOf sl vl vu .none)(pl:IsPart vl lo)(pu:IsPart vu hi)
  (h:Q (((sIx n 0 lo:Nat):Int),1,sIx n n hi-sIx n 0 lo) s):wpAny (model prog w) A (Builtin.Slice.sliceApplied (.ref sl) (pure (n:Int))) Q E s:=by
 obtain⟨os,hos,hcs,hds⟩:=id hs;unfold Builtin.Slice.sliceApplied Builtin.Slice.sliceFields;refine wpAny_bind (wpAny_bind (wpAny_field hos hds (x:=vl) rfl (wpAny_bind (wpAny_field hos hds (x:=vu) rfl (wpAny_bind (wpAny_field hos hds (x:=.none) rfl (wpAny_pure ?_)))))));refine wpAny_bind (slicePart_none ?_);show wpAny _ _ (if((1:Int)==0)=true then _ else _) _ _ s;rw[if_neg (by decide)];refine wpAny_bind (x0r pl (wpAny_bind (x0r pu (wpAny_bind (wpAny_pure ?_)))));show wpAny _ _ (match Builtin.Slice.sliceAdjust lo hi 1 (n:Int)with|(lo,hi)=>pure (lo,(1:Int),Builtin.Slice.slicePlaces lo hi 1)) _ _ s;rw[x8k lo hi n];show wpAny _ _ (pure (((sIx n 0 lo:Nat):Int),(1:Int),Builtin.Slice.slicePlaces ((sIx n 0 lo:Nat):Int) ((sIx n n hi:Nat):Int) 1)) _ _ s;rw[x8l];exact wpAny_pure h
theorem y20(xs:Array Value)(i k:Nat):((List.range k).filterMap fun(m:Nat)=>xs[((i:Int)+(m:Int)*1).toNat]?).toArray=((xs.toList.drop i).take k).toArray:=by
 have e:(fun(m:Nat)=>xs[((i:Int)+(m:Int)*1).toNat]?)=fun m=>xs[i+m]?:=by
  funext m
  have:((i:Int)+(m:Int)*1).toNat=i+m:=by omega
  rw[this]
 rw[e];have:=pick_run xs i k;rw[List.filterMap_map]at this;have e2:((fun x=>xs[x]?) ∘ fun x=>i+x)=fun m=>xs[i+m]?:=rfl
 rw[e2]at this;rw[this]
theorem getItem_tuple_cut{t sl:Addr}{items:Array Value}{vl vu:Value}{lo hi:Option Int}{Q:Value->Shared->Prop}(ht:IsTup s.heap t items)(hs:s.heap.IsSliceOf sl vl vu .none)(pl:IsPart vl lo)(pu:IsPart vu hi)
  (hw:¬(sIx items.size 0 lo=0/\sIx items.size items.size hi=items.size))
  (h:Q (.ref s.heap.objs.size) {s with heap:=s.heap.push {cls:=.type "tuple", data:=.seq ((items.toList.drop (sIx items.size 0 lo)).take (sIx items.size items.size hi-sIx items.size 0 lo)).toArray}})
  (hsz:items.size<=sizeLine):wpAny (model prog w) A (getItem (.ref t) (.ref sl)) Q E s:=by
 have htake:sizeOk (.seq ((items.toList.drop (sIx items.size 0 lo)).take (sIx items.size items.size hi-sIx items.size 0 lo)).toArray):=by
  show((items.toList.drop (sIx items.size 0 lo)).take (sIx items.size items.size hi-sIx items.size 0 lo)).toArray.size<=sizeLine;rw[w0d,w2k,w2l,w3n];exact w0m (w4b _ _) (w0m (Nat.sub_le _ _) hsz)
 have hj:sIx items.size items.size hi<=items.size:=z0d _ _ (w0g _) hi;obtain⟨os,hos,hcs,hds⟩:=id hs;have hTs:s.TypeIs (.ref sl) "slice":=⟨os,hos,hcs⟩;unfold getItem;try with_reducible refine wpAny_holding ?_
 first|refine wpAny_bind (wpAny_pure ?_)|skip
 refine wpAny_bind (wpAny_sequenceKey ht.typeIs (by decide) ?_)
 refine wpAny_bind (wpAny_callSpecial?_slot (name:=Str.ofString "__getitem__") ht.typeIs PyProof.Rows.slot_tuple_getitem
  (wpAny_call_entry PyProof.Rows.slot_tuple_getitem ht.typeIs entry_tuple_getitem ?_ (args_tuple_getitem _ _)))
 show wpAny _ _ (Builtin.Tuple.tupleItemsOf (.ref t) >>= _) _ _ s;refine wpAny_bind (tupleItemsOf_ ht ?_);refine wpAny_bind (wpAny_typeOf hTs ?_);rw[if_pos (by decide)];refine wpAny_bind (q94 hs pl pu ?_)
 have hno:¬((((sIx items.size 0 lo:Nat):Int)==0&&(1:Int)==1&&(sIx items.size items.size hi-sIx items.size 0 lo)==items.size)=true):=by
  intro q;rw[w0o,w0o]at q;have q1:((sIx items.size 0 lo:Nat):Int)=0:=eq_of_beq q.1.1;have q2:sIx items.size items.size hi-sIx items.size 0 lo=items.size:=eq_of_beq q.2;exact hw ⟨by omega,by omega⟩
 show wpAny _ _ (if(((sIx items.size 0 lo:Nat):Int)==0&&(1:Int)==1&&(sIx items.size items.size hi-sIx items.size 0 lo)==items.size)=true then _ else _) _ _ s;rw[if_neg hno,y20]
 first
  |exact wpAny_bind (m:=Builtin.Tuple.tupleExact _) (wpAny_newObj_type (wpAny_pure ⟨_,rfl,wpAny_pure h⟩) htake)
  |exact wpAny_bind (m:=Builtin.Tuple.tupleExact _) (wpAny_newObj_type (wpAny_bind (wpAny_pure (wpAny_pure ⟨_,rfl,wpAny_pure h⟩))) htake)
  |exact wpAny_bind (wpAny_bind (m:=Builtin.Tuple.tupleExact _) (wpAny_newObj_type (wpAny_pure (wpAny_pure ⟨_,rfl,wpAny_pure h⟩)) htake))
  |exact wpAny_bind (wpAny_bind (m:=Builtin.Tuple.tupleExact _) (wpAny_newObj_type (wpAny_pure ⟨_,rfl,wpAny_pure h⟩) htake))
end
end HT
namespace L2
open PySem PySem.Spec PyProof.Rows
variable{A:Around}{X:Cx}{xs:List V}{us:List Value}{n:Nat}{s:Shared}{α:Type}{x:V}{v:Value}
abbrev TO:=St->Hp->(Option Int->Hp->Prop)->Prop
def PO(X:Cx)(e:Option Expr)(t:TO):Prop:=
 ∀(pins:List (Addr×Obj))(s:Shared)(σ:St)(H:Hp)(Q:Option Int->Hp->Prop),Inv X pins σ H s->t σ H Q ->
  wpAny (model X.prog X.w) X.A (evalPart e X.env) (fun u s'=>∃o H',Inv X pins σ H' s'/\IsPart u o/\Q o H') X.xe s
def tNoPart:TO:=fun _ H Q=>Q none H
def tPart(t:TE):TO:=fun σ H Q=>t σ H fun x H1=>∃i,x=.int i/\Q (some i) H1
section
variable{e:Expr}{te:TE}{lo hi:Option Expr}{tl th:TO}{pos p2:Pos}
theorem y6g:PO X none tNoPart:=by
 intro pins s σ H Q I h;rw[evalPart_none];exact wpAny_pure ⟨none,H,I,.none,h⟩
theorem y6h(h:PE X e te):PO X (some e) (tPart te):=by
 intro pins s σ H Q I hw;rw[evalPart_some];refine thn (h pins s σ H _ I hw) fun u s1 ⟨x,H1,I1,r1,q1⟩=>?_
 obtain⟨i,rfl,q⟩:=q1;obtain⟨t,rfl⟩:=r1;exact⟨some i,H1,I1,.int i t,q⟩
def SlR(X:Cx)(r:V->Option Int->Option Int->Hp->VK->Prop):Prop:=
 ∀(pins:List (Addr×Obj))(s:Shared)(σ:St)(H:Hp)(x:V)(v vl vu:Value)(lo hi:Option Int)(sl:Addr)(Q:VK),Inv X pins σ H s->RelV x v->s.heap.IsSliceOf sl vl vu .none->IsPart vl lo->IsPart vu hi->r x lo hi H Q ->
  ∃T id,typeLookup (.type T) "__getitem__"=pure (some (.builtin id))/\s.TypeIs v T/\wpAny (model X.prog X.w) X.A (getItem v (.ref sl)) (EP X pins σ Q) X.xe s
theorem SlR.or{r r':V->Option Int->Option Int->Hp->VK->Prop}(h:SlR X r)(h':SlR X r'):SlR X (fun x lo hi H Q=>r x lo hi H Q\/r' x lo hi H Q):=by
 intro pins s σ H x v vl vu lo hi sl Q I rx hs pl pu q;rcases q with q|q
 ·exact h pins s σ H x v vl vu lo hi sl Q I rx hs pl pu q
 ·exact h' pins s σ H x v vl vu lo hi sl Q I rx hs pl pu q
def tSl(r:V->Option Int->Option Int->Hp->VK->Prop)(te:TE)(tl th:TO):TE:=fun σ H Q=>te σ H fun x H1=>tl σ H1 fun l H2=>th σ H2 fun u H3=>r x l u H3 Q
theorem y21{r:V->Option Int->Option Int->Hp->VK->Prop}(hr:SlR X r)(he:PE X e te)(hl:PO X lo tl)(hu:PO X hi th):PE X (.Subscript e (.Slice lo hi none p2) pos) (tSl r te tl th):=by
 intro pins s σ H Q I h;refine Subscript_ (thn (he pins s σ H _ I h) fun v s1 ⟨x,H1,I1,r1,q1⟩=>?_)
 refine wpAny_Slice (thn (hl pins s1 σ H1 _ I1 q1) fun vl s2 ⟨l,H2,I2,pl,q2⟩=>thn (hu pins s2 σ H2 _ I2 q2) fun vu s3 ⟨u,H3,I3,pu,q3⟩=>?_)
 rw[evalPart_none];refine wpAny_pure ?_;have I4:Inv X pins σ H3 {s3 with heap:=s3.heap.push {cls:=.type "slice", data:=.fields #[vl,vu,.none]}}:=I3.kept (t':=s3.toks) fun b ob q=>Heap.get?_push_of_some _ q
 obtain⟨T,id,hT,ht,hg⟩:=hr pins {s3 with heap:=s3.heap.push {cls:=.type "slice", data:=.fields #[vl,vu,.none]}} σ H3 x v vl vu l u s3.heap.objs.size Q I4 r1 (Heap.IsSliceOf.new ..) pl pu q3;show wpAny (model X.prog X.w) X.A (subscriptTail e (.Slice lo hi none p2) v (.ref s3.heap.objs.size)) (EP X pins σ Q) X.xe {s3 with heap:=s3.heap.push {cls:=.type "slice", data:=.fields #[vl,vu,.none]}};exact tail_any (ops:=[.ref s3.heap.objs.size,v]) ht hT hg (by with_unfolding_all rfl)
def cutV(xs:List V)(lo hi:Option Int):List V:=(xs.drop (HT.sIx xs.length 0 lo)).take (HT.sIx xs.length xs.length hi-HT.sIx xs.length 0 lo)
theorem q9j(xs:List V)(lo hi:Option Int):(cutV xs lo hi).length<=xs.length:=by
 unfold cutV;rw[w2k,w2l];exact w0m (w4b _ _) (Nat.sub_le _ _)
def rSlT(K:Fg):V->Option Int->Option Int->Hp->VK->Prop:=fun x lo hi H Q=>∃a xs,x=.ref a/\SqT K H a xs /\
 ¬(HT.sIx xs.length 0 lo=0/\HT.sIx xs.length xs.length hi=xs.length)/\∀p,H p=none->Q (.ref p) (upd H p (.tup (cutV xs lo hi)))
theorem z0e:SlR X (rSlT X.K):=by
 intro pins s σ H x v vl vu lo hi sl Q I rx hs pl pu h;obtain⟨a,xs,rfl,hx,hw,q⟩:=h;cases rx;obtain⟨its,r,ht,hz⟩:=I.tuple hx;have hlen:its.toArray.size=xs.length:=by rw[w0d];exact r.length.symm
 refine⟨"tuple", _,PyProof.Rows.slot_tuple_getitem.lookup,ht.typeIs,?_⟩;refine HT.getItem_tuple_cut ht hs pl pu (by rw[hlen];exact hw) ?_ (by rw[hlen];exact hz);rw[hlen];refine⟨.ref s.heap.objs.size,_,I.laid (t':=s.toks) (o:=.tup (cutV xs lo hi)) (fun b ob q=>Heap.get?_push_of_some _ q) (w0g _) ?_,rfl,q _ (I.hok.fresh (w0g _))⟩
 exact⟨w0m (q9j xs lo hi) hz,_,(r.drop (HT.sIx xs.length 0 lo)).take (HT.sIx xs.length xs.length hi-HT.sIx xs.length 0 lo),IsTup.new _ _,_,Heap.get?_push_size _ rfl,rfl⟩
def rCatT(K:Fg):R2:=fun x y H Q=>∃a b xs ys,x=.ref a/\y=.ref b/\SqT K H a xs/\SqT K H b ys/\xs≠[]/\xs.length+ys.length<=sizeLine /\
 (ys=[]->Q (.ref a) H)/\(ys≠[]->∀p,H p=none->Q (.ref p) (upd H p (.tup (xs++ys))))
theorem Vals.nil_iff(r:Vals xs us):us=[]↔xs=[]:=by
 cases r with
 |nil=>simp
 |cons _ _=>simp
theorem op_catT:OpR X (binaryOp .Add) (rCatT X.K):=by
 intro pins s σ H x y v u Q I rx ry h;obtain⟨a,b,xs,ys,rfl,rfl,ha,hb,hx,hz,q1,q2⟩:=h;cases rx;cases ry;obtain⟨its,r1,p1,_⟩:=I.tuple ha;obtain⟨its2,r2,p2,_⟩:=I.tuple hb;refine HT.cat_tup p1 p2 (fun z=>hx (r1.nil_iff.mp z)) (fun z=>⟨.ref a,H,I,rfl,q1 (r2.nil_iff.mp z)⟩) (fun z=>?_) (by rw[<- r1.length,<- r2.length];exact hz)
 refine⟨.ref s.heap.objs.size,_,I.laid (t':=s.toks) (o:=.tup (xs++ys)) (fun b ob q=>Heap.get?_push_of_some _ q) (w0g _) ?_,rfl,q2 (fun w=>z (r2.nil_iff.mpr w)) _ (I.hok.fresh (w0g _))⟩
 exact⟨by rw[w0p];exact hz,_,r1.append r2,IsTup.new _ _,_,Heap.get?_push_size _ rfl,rfl⟩
end
def ixN(n:Nat)(i:Int):Option Nat:=if 0<=i then(if i<n then some i.toNat else none)else if -(n:Int)<=i then some (i+n).toNat else none
def atI(xs:List α)(i:Int):Option α:=(ixN xs.length i).bind fun j=>xs[j]?
theorem y6i{i:Int}{j:Nat}(h:ixN n i=some j):seqIndex? i n=some j/\j<n/\-(n:Int)<=i/\i<n:=by
 unfold ixN at h
 by_cases h0:0<=i
 ·rw[if_pos h0]at h
  by_cases h1:i<n
  ·rw[if_pos h1]at h;have e:i.toNat=j:=Option.some.inj h;exact⟨by rw[seqIndex_of h0 h1,e],by omega,by omega,h1⟩
  ·rw[if_neg h1]at h;cases h
 ·rw[if_neg h0]at h
  by_cases h1:-(n:Int)<=i
  ·rw[if_pos h1]at h;have e:(i+n).toNat=j:=Option.some.inj h;exact⟨by rw[seqIndex_neg (by omega) h1,e],by omega,h1,by omega⟩
  ·rw[if_neg h1]at h;cases h
theorem x10{xs:List α}{i:Int}{v:α}(h:atI xs i=some v):∃j,seqIndex? i xs.length=some j/\xs[j]?=some v/\j<xs.length/\-(xs.length:Int)<=i/\i<xs.length:=by
 unfold atI at h;cases e:ixN xs.length i with
 |none=>rw[e]at h;cases h
 |some j=>
  rw[e]at h;obtain⟨h1,h2,h3,h4⟩:=y6i e;exact⟨j,h1,h,h2,h3,h4⟩
theorem q5u{xs:List α}{j:Nat}{v:α}(h:xs[j]?=some v):atI xs (j:Int)=some v:=by
 have hj:j<xs.length:=(w0c.mp h).1
 have e:ixN xs.length (j:Int)=some j:=by
  unfold ixN;rw[if_pos (by omega),if_pos (by omega)];simp
 unfold atI;rw[e];exact h
def PlainIx(b:Expr):Prop:=∀o i,subscripted b false o i=operate [o,i] (getItem o i)
def IxR(X:Cx)(r:R2):Prop:=
 ∀(value slice:Expr)(pins:List (Addr×Obj))(s:Shared)(σ:St)(H:Hp)(x y:V)(v u:Value)(Q:VK),Inv X pins σ H s->RelV x v->RelV y u->r x y H Q ->
  subscripted slice false v u=operate [v,u] (getItem v u)->wpAny (model X.prog X.w) X.A (subscriptTail value slice v u) (EP X pins σ Q) X.xe s
def MtR(X:Cx)(id:String)(r:V->List V->Hp->VK->Prop):Prop:=
 ∀(pins:List (Addr×Obj))(s:Shared)(σ:St)(H:Hp)(x:V)(xs:List V)(v:Value)(us:List Value)(Q:VK),Inv X pins σ H s->RelV x v->Vals xs us->r x xs H Q ->
  wpAny (model X.prog X.w) X.A (call (.builtin id) (v::us)) (EP X pins σ Q) X.xe s
section
variable{a b:Expr}{ta tb:TE}{pos:Pos}
theorem IxR.or{r r':R2}(h:IxR X r)(h':IxR X r'):IxR X (fun x y H Q=>r x y H Q\/r' x y H Q):=by
 intro value slice pins s σ H x y v u Q I rx ry q hs;rcases q with q|q
 ·exact h value slice pins s σ H x y v u Q I rx ry q hs
 ·exact h' value slice pins s σ H x y v u Q I rx ry q hs
theorem x8m{r:R2}(hr:IxR X r)(ha:PE X a ta)(hb:PE X b tb)(hs:PlainIx b):PE X (.Subscript a b pos) (tOp r ta tb):=by
 intro pins s σ H Q I h;exact Subscript_ (binT ha hb I h fun v u s2 x y H2 I2 rx ry q=>hr a b pins s2 σ H2 x y v u Q I2 rx ry q (hs _ _))
def rIxL(K:Fg):R2:=fun x y H Q=>∃p xs i v,x=.ref p/\y=.int i/\SqL K H p xs/\atI xs i=some v/\Q v H
def rIxT(K:Fg):R2:=fun x y H Q=>∃p xs i v,x=.ref p/\y=.int i/\SqT K H p xs/\atI xs i=some v/\Q v H
def rIxS:R2:=fun x y H Q=>∃z i c,x=.str z/\y=.int i/\z.length<=sizeLine/\atI z.cps.toList i=some c/\Q (.str ⟨#[c]⟩) H
theorem ix_list:IxR X (rIxL X.K):=by
 intro value slice pins s σ H x y v u Q I rx ry h hs;obtain⟨p,xs,i,z,rfl,rfl,hq,he,q⟩:=h;cases rx;obtain⟨t,rfl⟩:=ry;obtain⟨its,r,pl,hz⟩:=I.list hq;obtain⟨j,h1,h2,h3,h4,h5⟩:=x10 he;obtain⟨w,ew,rw'⟩:=r.get h2;have hl:=r.length;have hn:=line63;have fin:EP X pins σ Q w s:=⟨z,H,I,rw',q⟩
 by_cases h0:0<=i
 ·have hj:i.toNat=j:=by
   rw[seqIndex_of h0 h5]at h1;exact Option.some.inj h1
  exact item_listR pl.isList h0 (by omega) (by rw[hj];simpa using ew) fin hs
 ·have hj:(i+(its.toArray.size:Int)).toNat=j:=by
   rw[seqIndex_neg (by omega) h4]at h1;rw[w0d,<- hl];exact Option.some.inj h1
  exact subscriptTail_builtinR (x:=w) pl.isList.typeIs slot_list_getitem.lookup
   (wpAny_getItem_list_neg (Q:=fun r s'=>r=w/\EP X pins σ Q r s') pl.isList (by omega) (by rw[w0d]<;>omega) (by omega) (by rw[hj];simpa using ew) ⟨rfl,fin⟩) hs
theorem ix_tup:IxR X (rIxT X.K):=by
 intro value slice pins s σ H x y v u Q I rx ry h hs;obtain⟨p,xs,i,z,rfl,rfl,hq,he,q⟩:=h;cases rx;obtain⟨t,rfl⟩:=ry;obtain⟨its,r,pl,hz⟩:=I.tuple hq;obtain⟨j,h1,h2,h3,h4,h5⟩:=x10 he;obtain⟨w,ew,rw'⟩:=r.get h2;have hl:=r.length;have hn:=line63;have fin:EP X pins σ Q w s:=⟨z,H,I,rw',q⟩
 exact subscriptTail_builtinR (x:=w) pl.typeIs slot_tuple_getitem.lookup
  (getItem_tuple (j:=j) (Q:=fun r s'=>r=w/\EP X pins σ Q r s') pl (by omega) (by omega) (by rw[w0d,<- hl];exact h1) (by simpa using ew) ⟨rfl,fin⟩) hs
theorem z0f:IxR X rIxS:=by
 intro value slice pins s σ H x y v u Q I rx ry h hs;obtain⟨z,i,c,rfl,rfl,hz,he,q⟩:=h;obtain⟨t,rfl⟩:=rx;obtain⟨t',rfl⟩:=ry;obtain⟨j,h1,h2,h3,h4,h5⟩:=x10 he;have hl:z.cps.toList.length=z.length:=by simp[Str.length]
 rw[hl]at h1 h4 h5;have hn:=line63
 exact tail_any (typeIs_str s z t) slot_str_getitem.lookup (getItem_str (c:=c) (by
  have e1:decide (i < -(2^63:Int))=false:=decide_eq_false (by omega);have e2:decide (i>=2^63)=false:=decide_eq_false (by omega);rw[e1,e2,Bool.or_false]) (by rw[h1];simpa using h2) ⟨.str ⟨#[c]⟩,H,I.tok _,⟨_,rfl⟩,q⟩) hs
def rIx(K:Fg):R2:=fun x y H Q=>rIxL K x y H Q\/rIxT K x y H Q\/rIxS x y H Q
theorem z0g:IxR X (rIx X.K):=ix_list.or (ix_tup.or z0f)
theorem x4n(lo hi:Option Int)(n:Nat):(sliceBounds lo hi none n).1=((HT.sIx n 0 lo:Nat):Int)/\(sliceBounds lo hi none n).2.1=((HT.sIx n n hi:Nat):Int)/\(sliceBounds lo hi none n).2.2=1:=by
 refine⟨?_,?_,rfl⟩
 ·cases lo with
  |none=>simp[sliceBounds,HT.sIx]
  |some i=>
   simp only[sliceBounds,HT.sIx,Option.getD_none,show(1:Int)>0 by decide,if_true]
   by_cases h:i<0
   ·simp only[h,if_true]<;>omega
   ·simp only[h,if_false]<;>omega
 ·cases hi with
  |none=>simp[sliceBounds,HT.sIx]
  |some i=>
   simp only[sliceBounds,HT.sIx,Option.getD_none,show(1:Int)>0 by decide,if_true]
   by_cases h:i<0
   ·simp only[h,if_true]<;>omega
   ·simp only[h,if_false]<;>omega
theorem x3v(its:List Value)(lo hi:Option Int):slicePick its.toArray lo hi none=((its.drop (HT.sIx its.length 0 lo)).take (HT.sIx its.length its.length hi-HT.sIx its.length 0 lo)).toArray:=by
 obtain⟨h1,h2,h3⟩:=x4n lo hi its.toArray.size;unfold slicePick;rw[h1,h2,h3];simp only[sliceRange_one,pick_run,w0d]<;>rfl
def rSlL(K:Fg):V->Option Int->Option Int->Hp->VK->Prop:=fun x lo hi H Q=>∃a xs,x=.ref a/\SqL K H a xs/\∀p,H p=none->Q (.ref p) (upd H p (.lst (cutV xs lo hi)))
theorem sl_list:SlR X (rSlL X.K):=by
 intro pins s σ H x v vl vu lo hi sl Q I rx hs pl pu h;obtain⟨a,xs,rfl,hx,q⟩:=h;cases rx;obtain⟨its,r,ht,hz⟩:=I.list hx;have hlen:=r.length;refine⟨"list", _,slot_list_getitem.lookup,ht.isList.typeIs,?_⟩;refine wpAny_getItem_list_slice ht.isList hs pl pu .none (by simp) ?_ (by rw[w0d]<;>omega);rw[x3v,<- hlen];refine⟨.ref s.heap.objs.size,_,I.laid (t':=s.toks) (o:=.lst (cutV xs lo hi)) (fun b ob q=>Heap.get?_push_of_some _ q) (w0g _) ?_,rfl,q _ (I.hok.fresh (w0g _))⟩
 exact⟨w0m (q9j xs lo hi) hz,_,0,(r.drop (HT.sIx xs.length 0 lo)).take (HT.sIx xs.length xs.length hi-HT.sIx xs.length 0 lo),Heap.get?_push_size _ rfl⟩
def flatV:V->Bool
 |.non=>true
 |.bl _=>true
 |.int _=>true
 |.str _=>true
 |_=>false
def eqV:V->V->Bool
 |.non,.non=>true
 |.bl a,.bl b=>a==b
 |.bl a,.int b=>(if a then 1 else 0)==b
 |.int a,.bl b=>a==(if b then 1 else 0)
 |.int a,.int b=>a==b
 |.str a,.str b=>a==b
 |_,_=>false
theorem z0h{y:V}{u:Value}(ry:RelV y u)(rx:RelV x v)(fy:flatV y=true)(fx:flatV x=true):SeqAt.EqAt A s u v (eqV y x):=by
 cases y with
 |non=>
  cases ry;cases x with
  |non=>cases rx;exact SeqAt.EqAt.same _
  |bl b=>cases rx;exact SeqAt.EqAt.none_bool b
  |int b=>obtain⟨t,rfl⟩:=rx;exact SeqAt.EqAt.none_int b t
  |str b=>obtain⟨t,rfl⟩:=rx;exact SeqAt.EqAt.none_str b t
  |_=>exact absurd (show false=true from fx) w1e
 |bl a=>
  cases ry;cases x with
  |non=>cases rx;exact SeqAt.EqAt.bool_none a
  |bl b=>cases rx;exact SeqAt.EqAt.bool_bool a b
  |int b=>obtain⟨t,rfl⟩:=rx;exact SeqAt.EqAt.bool_int a b t
  |str b=>obtain⟨t,rfl⟩:=rx;exact SeqAt.EqAt.bool_str a b t
  |_=>exact absurd (show false=true from fx) w1e
 |int a=>
  obtain⟨t',rfl⟩:=ry;cases x with
  |non=>cases rx;exact SeqAt.EqAt.int_none a t'
  |bl b=>cases rx;exact SeqAt.EqAt.int_bool a t' b
  |int b=>obtain⟨t,rfl⟩:=rx;exact SeqAt.EqAt.int_int a t' b t
  |str b=>obtain⟨t,rfl⟩:=rx;exact SeqAt.EqAt.int_str a t' b t
  |_=>exact absurd (show false=true from fx) w1e
 |str a=>
  obtain⟨t',rfl⟩:=ry;cases x with
  |non=>cases rx;exact SeqAt.EqAt.str_none a t'
  |bl b=>cases rx;exact SeqAt.EqAt.str_bool a t' b
  |int b=>obtain⟨t,rfl⟩:=rx;exact SeqAt.EqAt.str_int a t' b t
  |str b=>obtain⟨t,rfl⟩:=rx;exact SeqAt.EqAt.str_str a t' b t
  |_=>exact absurd (show false=true from fx) w1e
 |_=>exact absurd (show false=true from fy) w1e
def eqU(x:V)(u:Value):Bool:=match u with
 |.none=>eqV .non x
 |.bool b=>eqV (.bl b) x
 |.int i _=>eqV (.int i) x
 |.str z _=>eqV (.str z) x
 |_=>false
theorem x9u{y:V}{u:Value}(r:RelV y u)(f:flatV y=true):eqU x u=eqV y x:=by
 cases y with
 |non=>cases r;rfl
 |bl b=>cases r;rfl
 |int i=>obtain⟨t,rfl⟩:=r;rfl
 |str z=>obtain⟨t,rfl⟩:=r;rfl
 |_=>exact absurd (show false=true from f) w1e
theorem q62:∀{xs:List V}{us:List Value},Vals xs us->xs.all flatV=true->us.any (eqU x)=xs.any fun y=>eqV y x
 |_,_,.nil,_=>rfl
 |y::xs,u::us,.cons r t,f=>by
  rw[w2j,w0o]at f;rw[w2t,w2t,x9u r f.1,q62 t f.2]
theorem q5y(rx:RelV x v)(fx:flatV x=true):∀{xs:List V}{us:List Value},Vals xs us->xs.all flatV=true->∀u∈us,SeqAt.EqAt A s u v (eqU x u)
 |_,_,.nil,_=>fun u hu=>by cases hu
 |y::xs,u::us,.cons r t,f=>fun u' hu=>by
  rw[w2j,w0o]at f;rcases w0j.mp hu with rfl|hu
  ·rw[x9u r f.1];exact z0h r rx f.1 fx
  ·exact q5y rx fx t f.2 u' hu
def inV(x:V)(xs:List V):Bool:=xs.any fun y=>eqV y x
def rIn(K:Fg)(neg:Bool):R2:=fun x y H Q=>∃p xs,y=.ref p/\(SqL K H p xs\/SqT K H p xs)/\flatV x=true/\xs.all flatV=true/\Q (.bl (if neg then !inV x xs else inV x xs)) H
theorem x9v:OpR X (compareOp .In) (rIn X.K false):=by
 intro pins s σ H x y v u Q I rx ry h;obtain⟨p,xs,rfl,hq,fx,fs,q⟩:=h;cases ry;rcases hq with hq|hq
 ·obtain⟨its,r,pl,hz⟩:=I.list hq;refine SeqAt.in_listAt (eqU x) pl.isList (fun w hw=>q5y rx fx r fs w (by simpa using hw)) ⟨.bl _,H,I,rfl,?_⟩
  rw[show its.toArray.any (eqU x)=its.any (eqU x) by simp,q62 r fs];exact q
 ·obtain⟨its,r,pl,hz⟩:=I.tuple hq;refine SeqAt.in_tupleAt (eqU x) pl (fun w hw=>q5y rx fx r fs w (by simpa using hw)) ⟨.bl _,H,I,rfl,?_⟩
  rw[show its.toArray.any (eqU x)=its.any (eqU x) by simp,q62 r fs];exact q
theorem q8d:OpR X (compareOp .NotIn) (rIn X.K true):=by
 intro pins s σ H x y v u Q I rx ry h;obtain⟨p,xs,rfl,hq,fx,fs,q⟩:=h;cases ry;rcases hq with hq|hq
 ·obtain⟨its,r,pl,hz⟩:=I.list hq;refine SeqAt.notIn_listAt (eqU x) pl.isList (fun w hw=>q5y rx fx r fs w (by simpa using hw)) ⟨.bl _,H,I,rfl,?_⟩
  rw[show its.toArray.any (eqU x)=its.any (eqU x) by simp,q62 r fs];exact q
 ·obtain⟨its,r,pl,hz⟩:=I.tuple hq;refine SeqAt.notIn_tupleAt (eqU x) pl (fun w hw=>q5y rx fx r fs w (by simpa using hw)) ⟨.bl _,H,I,rfl,?_⟩
  rw[show its.toArray.any (eqU x)=its.any (eqU x) by simp,q62 r fs];exact q
theorem x4o:CallR X (.type "list") (fun xs H Q=>∃p ys,xs=[.ref p]/\(SqL X.K H p ys\/SqT X.K H p ys)/\∀l,H l=none->Q (.ref l) (upd H l (.lst ys))):=by
 intro pins s σ H xs us Q I r h;obtain⟨p,ys,rfl,hq,q⟩:=h;obtain⟨u,rfl,rx⟩:=vals1 r;cases rx
 have fin:∀(its:List Value),Vals ys its->ys.length<=sizeLine->∀(h':Heap)(c':Nat),(∀b o',s.heap.get? b=some o'->h'.get? b=some o') ->
   h'.get? s.heap.objs.size=some {cls:=.type "list", dict:=none,data:=.seq its.toArray c',slots:=#[]}->EP X pins σ Q (.ref s.heap.objs.size) {s with heap:=h'}:=fun its r' hz h' c' kp e=>
  ⟨.ref s.heap.objs.size,_,I.laid (t':=s.toks) kp (w0g _) (show ObjOk X.prog X.w _ h' _ (.lst ys)from⟨hz,its,c',r',e⟩),rfl,q _ (I.hok.fresh (w0g _))⟩
 rcases hq with hq|hq
 ·obtain⟨its,r',pl,hz⟩:=I.list hq;have hlen:=r'.length;obtain⟨o,ho,hc,n,hd⟩:=pl.isList;exact call_list_seq p (.inl rfl) ho hc hd (fun h' c' kp e=>fin its r' hz h' c' kp e) (by simp only[w0d]<;>omega)
 ·obtain⟨its,r',pl,hz⟩:=I.tuple hq;have hlen:=r'.length;obtain⟨o,ho,hc,n,hd⟩:=pl;exact call_list_seq p (.inr rfl) ho hc hd (fun h' c' kp e=>fin its r' hz h' c' kp e) (by simp only[w0d]<;>omega)
theorem x3w:CallR X (.type "tuple") (fun xs H Q=>∃p ys,xs=[.ref p]/\((SqL X.K H p ys/\∀l,H l=none->Q (.ref l) (upd H l (.tup ys)))\/(SqT X.K H p ys/\Q (.ref p) H))):=by
 intro pins s σ H xs us Q I r h;obtain⟨p,ys,rfl,h⟩:=h;obtain⟨u,rfl,rx⟩:=vals1 r;cases rx;rcases h with⟨hq,q⟩|⟨hq,q⟩
 ·obtain⟨its,r',pl,hz⟩:=I.list hq;have hlen:=r'.length;refine call_tuple_list pl.isList (fun h' kp=>?_) (by simp only[w0d]<;>omega)
  have I1:Inv X pins σ H {s with heap:=h'}:=I.kept (t':=s.toks) kp
  have I2:Inv X pins σ (upd H h'.objs.size (.tup ys)) {s with heap:=h'.push {cls:=.type "tuple", data:=.seq its.toArray}}:=
   I1.laid (t':=s.toks) (fun b o e=>Heap.get?_push_of_some _ e) (w0g _) (show ObjOk X.prog X.w _ _ _ (.tup ys)from⟨hz,its,r',IsTup.new _ _,_,Heap.get?_push_size _ rfl,rfl⟩)
  exact⟨.ref h'.objs.size,_,I2,rfl,q _ (I1.hok.fresh (w0g _))⟩
 ·obtain⟨its,r',pl,hz⟩:=I.tuple hq;exact call_tuple_same pl ⟨.ref p,H,I,rfl,q⟩
def tyV(K:Fg)(T:String)(x:V)(H:Hp):Prop:=match x with
 |.str _=>T="str"
 |.int _=>T="int"
 |.ref p=>(T="list" /\ ∃xs,SqL K H p xs)\/(T="tuple" /\ ∃o,K.lookup p=some o/\o.cls=.type "tuple" /\ o.dict=none) \/
   (T="dict" /\ ((∃kvs,H p=some (.dK kvs))\/∃sh kvs kas,H p=some (.dT sh kvs kas)))\/(T="set" /\ ∃S n,H p=some (.set S n))
 |_=>False
theorem x9w{pins:List (Addr×Obj)}{σ:St}{H:Hp}{T:String}(I:Inv X pins σ H s)(r:RelV x v)(ty:tyV X.K T x H):
  s.TypeIs v T/\∀a,v=.ref a->∃ob,s.heap.get? a=some ob/\ob.dict=none:=by
 cases x with
 |str z=>
  obtain⟨t,rfl⟩:=r;cases(show T="str" from ty);exact⟨typeIs_str s z t,fun _ e=>nomatch e⟩
 |int i=>
  obtain⟨t,rfl⟩:=r;cases(show T="int" from ty);exact⟨typeIs_int s i t,fun _ e=>nomatch e⟩
 |ref p=>
  cases r;rcases ty with⟨rfl,xs,hq⟩|⟨rfl,o,hk,hc,hd⟩|⟨rfl,hk⟩|⟨rfl,S,n,hk⟩
  ·obtain⟨its,_,pl,_⟩:=I.list hq;refine⟨pl.isList.typeIs,fun a e=>?_⟩
   cases e;obtain⟨o,n,e,c,hd,_⟩:=pl;exact⟨o,e,hd⟩
  ·refine⟨⟨o,I.kIn p o hk,hc⟩,fun a e=>?_⟩
   cases e;exact⟨o,I.kIn _ o hk,hd⟩
  ·have z:∃o,s.heap.get? p=some o/\o.ExactDict:=by
    rcases hk with⟨kvs,hk⟩|⟨sh,kvs,kas,hk⟩
    ·obtain⟨_,_,_,_,o,_,_,e,ex,_⟩:=I.hok p _ hk;exact⟨o,e,ex⟩
    ·obtain⟨_,_,_,_,_,o,_,_,e,ex,_⟩:=I.hok p _ hk;exact⟨o,e,ex⟩
   obtain⟨o,e,ex⟩:=z;refine⟨⟨o,e,ex.1⟩,fun a e2=>?_⟩
   cases e2;exact⟨o,e,ex.2.1⟩
  ·obtain⟨o,_,_,_,e,ex,_⟩:=I.hok p _ hk;refine⟨⟨o,e,ex.1⟩,fun a e2=>?_⟩
   cases e2;exact⟨o,e,ex.2.1⟩
 |_=>exact False.elim ty
def tBM0(K:Fg)(T:String)(r:V->List V->Hp->VK->Prop)(to:TE):TE:=fun σ H Q=>to σ H fun x H1=>tyV K T x H1/\r x [] H1 Q
def tBM(K:Fg)(T:String)(r:V->List V->Hp->VK->Prop)(to:TE)(t:TA):TE:=fun σ H Q=>to σ H fun x H1=>tyV K T x H1/\t σ H1 fun xs H2=>r x xs H2 Q
variable{o e:Expr}{es:List Expr}{to:TE}{t:TA}{name:Str}{apos cpos:Pos}{T id:String}{r:V->List V->Hp->VK->Prop}
theorem z0i(pa:PlainAttrs T)(slot:Slot T name id)(hty:typeOf (.builtin id)=pure (.type "method_descriptor"))(hm:MtR X id r)(ho:PE X o to)
  (hbase:attributeBase o name X.env (eval o X.env)=eval o X.env:=by rfl)(hline:(apos.endLine==cpos.line)=true:=by rfl):PE X (.Call (.Attribute o name apos) [] [] cpos) (tBM0 X.K T r to):=by
 intro pins s σ H Q I h;refine wpAny_Call_method0_late hbase hline (thn (ho pins s σ H _ I h) fun v s1 ⟨x,H1,I1,r1,ty,q1⟩=>?_)
 obtain⟨h1,h2⟩:=x9w I1 r1 ty;exact⟨T,id,pa,slot,hty,h1,h2,Calls.callWith_builtin rfl (PySem.evalArgs_none (hm pins s1 σ H1 x [] v [] Q I1 r1 .nil q1))⟩
theorem x8n(pa:PlainAttrs T)(slot:Slot T name id)(hty:typeOf (.builtin id)=pure (.type "method_descriptor"))(hm:MtR X id r)(ho:PE X o to)(ha:PA X (e::es) t)
  (hbase:attributeBase o name X.env (eval o X.env)=eval o X.env:=by rfl)
  (hfew:((backTo cpos (starEach (e::es) X.env)).all (fun x=>!x.1)&&(backToKw cpos (keywordEach [] X.env)).all (fun x=>x.1.isSome)
   && decide ((e::es).length+([]:List Keyword).length+(if([]:List Keyword).isEmpty then 0 else 1)<30))=true:=by rfl)
  (hline:(apos.endLine==cpos.line)=true:=by rfl)(hs:starEach (e::es) X.env=(false,eval e X.env)::starEach es X.env:=by rfl)(hplain:(backTo cpos (starEach es X.env)).any (·.1)=false:=by rfl):
  PE X (.Call (.Attribute o name apos) (e::es) [] cpos) (tBM X.K T r to t):=by
 intro pins s σ H Q I h;refine wpAny_Call_method_late hbase hfew hline rfl (thn (ho pins s σ H _ I h) fun v s1 ⟨x,H1,I1,r1,ty,q1⟩=>?_)
 obtain⟨h1,h2⟩:=x9w I1 r1 ty;refine⟨T,id,pa,slot,hty,h1,h2,?_⟩;have hA:=ha cpos pins s1 σ H1 _ I1 q1;rw[hs]at hA |-
 refine Calls.callWith_builtin (by show(false||(backTo cpos (starEach es X.env)).any (·.1))=false;rw[hplain]<;>rfl) (Calls.evalArgs_plain ?_);exact thn hA fun us s2 ⟨vs,H2,I2,r2,q2⟩=>hm pins s2 σ H2 x vs v us Q I2 r1 r2 q2
/- xs.append(e),list.index on a module's tuple .. are MtR facts of 06m -/
end
def MtM(X:Cx)(id:String)(r:V->List V->Hp->VK->Prop):Prop:=
 ∀(pins:List (Addr×Obj))(s:Shared)(σ:St)(H:Hp)(x:V)(xs:List V)(v:Value)(us:List Value)(Q:VK),Inv X pins σ H s->RelV x v->Vals xs us->r x xs H Q ->
  wpAny (model X.prog X.w) X.A (call (.builtin id) (v::us)) (EP X pins σ Q) X.xe s
theorem Vals.one(h:Vals [x] us):∃u,us=[u]/\RelV x u:=vals1 h
theorem Vals.zero:∀{us:List Value},Vals [] us->us=[]
 |_,.nil=>rfl
theorem Vals.reverse(h:Vals xs us):Vals xs.reverse us.reverse:=by
 induction h with
 |nil=>exact .nil
 |cons r t ih=>rw[w2a,w2a];exact Vals.append ih (.cons r .nil)
section
variable{pins:List (Addr×Obj)}{σ:St}{H:Hp}{l b:Addr}{ys zs:List V}
theorem Inv.lset{its its':List Value}{f:Array Value->Array Value}{t':Nat}(I:Inv X pins σ H s)(hH:H l=some (.lst xs))
  (e:s.heap.get? l=some {cls:=.type "list", data:=.seq its.toArray n})(hf:f its.toArray=its'.toArray)(hv:Vals ys its')(hz:ys.length<=sizeLine):
  Inv X pins σ (upd H l (.lst ys)) {s with heap:=s.heap.update l (Obj.mapSeq f),toks:=t'}:=by
 have q:=PySem.IsL.update e f;rw[hf]at q;refine I.write (x:=l) (e:=l) (by rw[hH];exact trivial) (.inl rfl) (fun b' u hb hu=>(Heap.get?_update_other s.heap (Obj.mapSeq f) (Ne.symm hb)).trans hu) ⟨_,q⟩ ?_
 exact⟨hz,its',_,hv,q⟩
theorem Inv.lnew{its:List Value}{t':Nat}(I:Inv X pins σ H s)(hv:Vals ys its)(hz:ys.length<=sizeLine):
  Inv X pins σ (upd H s.heap.objs.size (.lst ys)) {s with heap:=s.heap.push {cls:=.type "list", data:=.seq its.toArray},toks:=t'}:=
 I.laid (fun _ _ q=>Heap.get?_push_of_some _ q) (w0g _) ⟨hz,its,0,hv,Heap.get?_push_size _ rfl⟩
theorem Inv.fresh(I:Inv X pins σ H s):H s.heap.objs.size=none:=I.hok.fresh (w0g _)
theorem Inv.lstM(I:Inv X pins σ H s)(hH:H l=some (.lst xs)):xs.length<=sizeLine/\∃(its:List Value)(n:Nat),Vals xs its/\xs.length=its.length/\s.heap.get? l=some {cls:=.type "list", data:=.seq its.toArray n}:=by
 obtain⟨z,its,n,r,e⟩:=I.hok l _ hH;exact⟨z,its,n,r,r.length,e⟩
theorem notLongL(h:n<=sizeLine):Builtin.List.listTooLong n=false:=by
 unfold Builtin.List.listTooLong;exact decide_eq_false (by omega)
end
def rAppend:V->List V->Hp->VK->Prop:=fun x vs H Q=>∃l xs y,x=.ref l/\vs=[y]/\H l=some (.lst xs)/\xs.length<sizeLine/\Q .non (upd H l (.lst (xs++[y])))
theorem q8e:MtM X "list.append" rAppend:=by
 intro pins s σ H x vs v us Q I rx rv h;obtain⟨l,xs,y,rfl,rfl,hH,hz,q⟩:=h;cases rx;obtain⟨u,rfl,ru⟩:=rv.one;obtain⟨z,its,n,r,hl,e⟩:=I.lstM hH;refine call_meets F.slot_list_append ⟨_,e,rfl⟩ F.entry_list_append (F.args_list_append_2 _ _) (PySem.list_append l its.toArray n u (by rw[w0d];omega)) ⟨e,?_⟩;refine⟨.non,_,I.lset (its':=its++[u]) hH e (by simp) (r.append (.cons ru .nil)) ?_,rfl,q⟩;rw[w0p,w2r];omega
def rClear:V->List V->Hp->VK->Prop:=fun x vs H Q=>∃l xs,x=.ref l/\vs=[]/\H l=some (.lst xs)/\Q .non (upd H l (.lst []))
theorem y22:MtM X "list.clear" rClear:=by
 intro pins s σ H x vs v us Q I rx rv h;obtain⟨l,xs,rfl,rfl,hH,q⟩:=h;cases rx;have hus:=rv.zero;subst hus;obtain⟨z,its,n,r,hl,e⟩:=I.lstM hH;refine call_meets F.slot_list_clear ⟨_,e,rfl⟩ F.entry_list_clear (F.args_list_clear_1 _) (AutoSeq1.list_clear_list_0 l its.toArray n (by rw[w0d];omega)) ⟨e,?_⟩;exact⟨.non,_,I.lset (its':=[]) (ys:=[]) hH e rfl .nil (w1c _),rfl,q⟩
end L2
namespace Att
open PySem PySem.W PySem.Calls PyProof.Rows
theorem x0s{P:Params}{h:Heap}:∀(ns:List Int)(vs:List Value),WellAll P h vs (ns.map WData.int)->IntsAre vs ns:=by
 intro ns
 induction ns with
 |nil=>
  intro vs w;rw[w1s]at w;cases w;exact .nil
 |cons n ns ih=>
  intro vs w;rw[w0n]at w;cases w with
  |cons a b=>
   cases a;exact .cons _ _ (ih _ b)
theorem x2u{l:OpenLaw}{n:Nat}(hn:l.most=some n){P:Params}{h:Heap}{args:List WData}{vals:List Value}
  (hpre:l.row.toRowW.claim.pre args=true)(hwl:WellAll P h vals args):
  ∃a vs ns,vals=[Value.ref a]/\args=[WData.list (ns.map WData.int)]/\h.get? a=some {cls:=.type "list", data:=.seq vs.toArray}/\IntsAre vs ns/\ns.length<=n:=by
 have hsh:WShape.hasAll [] args [.list .int]=true:=(pre_splitW hpre).1;have hc:l.pre.holds [] {args:=args}=true:=(pre_splitW hpre).2;obtain⟨d,r,rfl,h1,h2⟩:=hasAllW_cons hsh;obtain rfl:=hasAllW_nil h2;obtain⟨xs,rfl,h3⟩:=hasW_list h1;obtain⟨ns,rfl⟩:=items_int h3
 have hlen:ns.length<=n:=by
  unfold OpenLaw.pre at hc
  have h4:(WTm.not (.lt (.lit (.int (n:Int))) (.len (.arg 0)))).holds [] {args:=[.list (ns.map .int)]}=true:=by
   have h4:=(holds_andW hc).1;rw[hn]at h4;exact h4
  have h5:=condW_of h4 (w_not (w_lt w_lit (w_len_list (w_arg rfl))));rw[w0a]at h5;refine Nat.le_of_not_lt fun q=>?_
  have q':(n:Int)<((ns.length:Nat):Int):=by omega
  first
   |(rw[decide_eq_true q']at h5;exact absurd h5 (by decide))
   |(simp at h5;omega)
 cases hwl with
 |cons w1 w2=>
  cases w2;cases w1 with
  |list ho hall=>exact⟨_,_,ns,rfl,rfl,ho,x0s ns _ hall,hlen⟩
theorem x2v(l:OpenLaw)(args:List WData):l.row.toRowW.claim.post args (.bool true) args=true:=
 postW_of (r:=l.row.toRowW) (X:=(true==true))
  (show WShape.has [] (.bool true) .bool=true by first|rfl|decide|simp[WShape.has,WShape.arms,WShape.armsAll])
  (show(WTm.eq .res (.lit (.bool true))).value [] {args:=args,res:=some (.bool true),after:=args}=some (.bool (true==true))from w_eq_bool (w_res rfl) w_lit) rfl
theorem attach_call{l:OpenLaw}{n:Nat}{q:Program}{loose:List Str}{XP:(Str->Option Value)->Heap->Prop}{YP:World->Heap->Prop}{d:DefRec}
  (hn:l.most=some n)(hdf:d.params.defaults=[])
  (call:∀(w:World)(s₀ s₁:Shared)(mg mb:Str->Option Value)(fa:Addr)(o:Obj)(pm cd doc:Value)(a:Addr)(vs:List Value)(ns:List Int),
   Ground q loose [] XP w s₀ mg mb s₁.heap->YP w s₁.heap ->
   s₁.heap.get? fa=some o->o.data=.func (docDef d.name d.params d.body d.scope pm cd doc)->s₁.heap.CodeRec cd d.name->mg d.name=some (.ref fa) ->
   s₁.heap.get? a=some {cls:=.type "list", data:=.seq vs.toArray}->IntsAre vs ns->ns.length<=n->s₁.gens=#[] ->
   codeAny (model l.prog w) callerA (.call (.ref fa) ⟨[.ref a],[]⟩) (fun r s'=>r=.ok (.ret (.bool true))/\OldK s₁.heap s'.heap/\s'.os=s₁.os/\AllBare s'.gens) s₁):
  WalkO q loose XP YP l.row.toRowW d [] (fun f vs=>PySem.call f vs):=by
 intro w s₀ s₁ mg mb G Y fa o pm cd doc dV kV ho hd hcd hD hmg hg args vals as hpre hlay hrd hwl hlo;obtain rfl:dV=.none:=Dflts.none hD hdf;obtain rfl:kV=.none:=Dflts.noKw hD;obtain⟨a,vs,ns,rfl,rfl,hobj,hints,hlen⟩:=x2u hn hpre hwl;refine enter_call (codeAny_mono (call w s₀ s₁ mg mb fa o pm cd doc a vs ns G Y ho (fd_plain hd) hcd hmg hobj hints hlen hg) fun r s' hq=>?_)
 obtain⟨rfl,h2,h3,h4⟩:=hq;exact⟨.inl ⟨.bool true,.bool true,[],rfl,fun _=>rfl,.bool true,x2v l _,fun _=>⟨List.Pairwise.nil,fun _ hm=>(nomatch hm)⟩⟩,h2,h3,h4⟩
section
variable{prog:Program}{w:World}{A:Around}{E:Value->Shared->Prop}{s:Shared}{K:Frag}
def ledger(h:Heap)(L d:Addr):List (Addr×Obj):=(List.range h.objs.size).filterMap fun a=>if a=L\/a=d then none else(h.get? a).map fun o=>(a,o)
end
end Att
namespace L2
open PySem PySem.Spec PyProof.Rows
theorem q8f:∀{vs:List Value}{ns:List Int},IntsAre vs ns->Vals (ns.map V.int) vs
 |_,_,.nil=>.nil
 |_,_,.cons n t h=>.cons ⟨t,rfl⟩ (q8f h)
def Only(H:Hp):Prop:=∀b,H b=none\/∃o xs,H b=some (.frz o (.lst xs))
theorem y23{P:Program}{w:World}{K:Fg}{mg mb:Str->Option Value}{CX:CXT}{k:Nat}{fa a:Addr}{fd:FuncData}{x:Str}{sp:Sp}{s₁:Shared}{vs:List Value}{ns:List Int}
  (KX:K.In s₁.heap)(hns:s₁.heap.Ns mainGlobals mg)(hb:s₁.heap.Ns builtinsNs mb)(hbb:∀x:Str,x≠"__name__"->mb x=bootBuiltins x)(hlim:s₁.heap.NoLimit)(hg:s₁.gens=#[])
  (ha:s₁.heap.get? a=some {cls:=.type "list", data:=.seq vs.toArray})(hi:IntsAre vs ns)(hl:ns.length<=sizeLine)(hr:Room k callerA)
  (F:∀base:Heap,K.In base->base.Ns mainGlobals mg->FnOk P w K mg base CX k fa fd [x] sp)(hbind:∀(s:Shared)(u:Value),BindsTo s fd ⟨[u],[]⟩ [(x,u)])
  (hsp:∀H:Hp,Only H->SqL K H a (ns.map V.int)->sp [.ref a] H (fun v _=>v=.bl true) fun _ _ _=>False)
  (hCX:∀H e s',CX [] H s₁ (fun _ _ _=>False) e s'->False)(hNM:noMark K=true):
  codeAny (model P w) callerA (.call (.ref fa) ⟨[.ref a],[]⟩) (fun r s'=>r=.ok (.ret (.bool true))/\OldK s₁.heap s'.heap/\s'.os=s₁.os/\AllBare s'.gens) s₁:=by
 have rv:=q8f hi;have lenV:=hi.length
 have core:∀H:Hp,Only H->SqL K H a (ns.map V.int)->HOk P w H s₁.heap->(∀b,H b≠none->b=a)->(H a≠none->K.lookup a=none) ->
   codeAny (model P w) callerA (.call (.ref fa) ⟨[.ref a],[]⟩) (fun r s'=>r=.ok (.ret (.bool true))/\OldK s₁.heap s'.heap/\s'.os=s₁.os/\AllBare s'.gens) s₁:=by
  intro H hO hS hok hA hK;have base_of:∀{b:Addr}{o:Obj},s₁.heap.get? b=some o->H b=none->(hidT s₁.heap H).get? b=some o:=fun e n=>x4g e n
  have noA:∀{b:Addr}{o:Obj}{es:Array DictEntry}{ep:Nat},s₁.heap.get? b=some o->o.data=.dict es ep->H b=none:=fun {b o es ep} e d=>by
   cases q:H b with
   |none=>rfl
   |some u=>
    have e':b=a:=hA b (by rw[q];simp);subst e';rw[ha]at e;cases e;have d':Data.seq vs.toArray _=Data.dict es ep:=d;cases d'
  have nsK:∀{b:Addr}{m:Str->Option Value},s₁.heap.Ns b m->(hidT s₁.heap H).Ns b m:=fun {b m} ⟨o,es,ep,e,d,r⟩=>⟨o,es,ep,base_of e (noA e d),d,r⟩
  have hKb:K.In (hidT s₁.heap H):=fun b o e=>base_of (KX b o e) (by
   cases q:H b with
   |none=>rfl
   |some u=>
    have e':b=a:=hA b (by rw[q];simp);subst e';rw[hK (by rw[q];simp)]at e;cases e)
  have hM:Mod K mg (hidT s₁.heap H):=⟨hKb,nsK hns,⟨mb,nsK hb,hbb⟩,let ⟨mc,h1,h2⟩:=hlim;⟨mc,nsK h1,h2⟩⟩;have e0:Env0 P w K mg (hidT s₁.heap H) callerA [] s₁ H:=⟨rfl,hM,fun b o e=>x7c e,Nat.le_of_eq (x2o _ _),trivial,fun b hb=>absurd (show b∈([]:List Addr)from hb) (by simp),hok,.of_eq hg,.vac hNM⟩
  refine codeAny_mono ((F _ hKb (nsK hns)).run callerA [] s₁ H ⟨[.ref a],[]⟩ [.ref a] [.ref a] _ _ hr e0 (hbind s₁ (.ref a)) (.cons rfl .nil) (hsp H hO hS)) fun r s' h=>?_
  cases r with
  |error e=>exact(hCX H e s' h).elim
  |ok fl=>
   cases fl with
   |next=>exact False.elim h
   |brk=>exact False.elim h
   |cont=>exact False.elim h
   |ret u=>
    obtain⟨v,H',os,bare,un,hok',r',q⟩:=h;have q':v=.bl true:=q;subst q';obtain rfl:u=Value.bool true:=r';refine⟨rfl,OldK.of_keep fun b o e=>?_,os,bare⟩
    cases q:H b with
    |none=>exact un.keep b o e q (by intro z;exact absurd (show b∈([]:List Addr)from z) (by simp)) (by simp)
    |some u=>
     rcases hO b with z|⟨ob,xs,z⟩
     ·rw[q]at z;cases z
     ·have z2:=un.frzs b ob _ z;obtain⟨e1,_⟩:=hok b _ z;obtain⟨e2,_⟩:=hok' b _ z2;rw[e]at e1;cases e1;exact e2
 cases hk:K.lookup a with
 |some o=>
  have e:=KX a o hk;rw[ha]at e;cases e;refine core (fun _=>none) (fun _=>.inl rfl) (.inr ⟨_,vs.toArray,_,hk,rfl,rfl,rfl,by rw[w0d,lenV];exact hl,by simpa using rv⟩) (fun b u z=>by have z':(none:Option HO)=some u:=z;cases z') (fun b z=>absurd rfl z) fun z=>absurd rfl z
 |none=>
  refine core (fun b=>if b=a then some (.frz {cls:=.type "list", data:=.seq vs.toArray} (.lst (ns.map V.int)))else none) (fun b=>?_) (.inl (.inr ⟨{cls:=.type "list", data:=.seq vs.toArray},if_pos rfl⟩)) (fun b u z=>?_) (fun b z=>?_) fun _=>hk
  ·by_cases hb:b=a
   ·exact .inr ⟨_,_,if_pos hb⟩
   ·exact .inl (if_neg hb)
  ·by_cases hb:b=a
   ·have z':=(if_pos hb).symm.trans z;cases z';subst hb;exact⟨ha,by rw[w0a];exact hl,vs,_,rv,ha⟩
   ·have z':=(if_neg hb).symm.trans z;cases z'
  ·by_cases hb:b=a
   ·exact hb
   ·exact absurd (if_neg hb) z
noncomputable abbrev KOf{K:Fg}{h:Heap}(_:K.In h):Fg:=K
theorem y6j{l:PySem.W.OpenLaw}{n k:Nat}{q:Program}{loose:List Str}{XP:(Str->Option Value)->Heap->Prop}{YP:World->Heap->Prop}{d:DefRec}{K:Params->Fg}{CX:World->CXT}{sp:World->Sp}{x:Str}
  (hn:l.most=some n)(hn2:n<=sizeLine)(hdf:d.params.defaults=[])(hr:Room k callerA)
  (hY:∀(w:World)(h:Heap),YP w h->(K w.params).In h)
  (F:∀(w:World)(mg:Str->Option Value)(fa:Addr)(h:Heap),(K w.params).In h->h.Ns mainGlobals mg->mg d.name=some (.ref fa) ->
   ∃fd:FuncData,(∀(s:Shared)(u:Value),BindsTo s fd ⟨[u],[]⟩ [(x,u)]) /\
    ∀base:Heap,(K w.params).In base->base.Ns mainGlobals mg->FnOk l.prog w (K w.params) mg base (CX w) k fa fd [x] (sp w))
  (hsp:∀(w:World)(H:Hp)(a:Addr)(ns:List Int),ns.length<=n->Only H->SqL (K w.params) H a (ns.map V.int)->sp w [.ref a] H (fun v _=>v=.bl true) fun _ _ _=>False)
  (hCX:∀(w:World)(H:Hp)(s:Shared)(e:Value)(s':Shared),CX w [] H s (fun _ _ _=>False) e s'->False)(hNM:∀w:World,noMark (K w.params)=true):
  PySem.W.WalkO q loose XP YP l.row.toRowW d [] (fun f vs=>PySem.call f vs):=by
 refine Att.attach_call hn hdf fun w s₀ s₁ mg mb fa o pm cd doc a vs ns G Y ho hd hcd hmg hobj hints hlen hg=>?_
 have KX:=hY w _ Y;obtain⟨fd,hb,hF⟩:=F w mg fa _ KX G.T.g hmg;exact y23 KX G.T.g G.T.b G.T.builtins G.T.nolimit hg hobj hints (w0m hlen hn2) hr hF hb (fun H hO hS=>hsp w H a ns hlen hO hS) (fun H e s'=>hCX w H s₁ e s') (hNM w)
end L2
/- THE LAST THEOREM (shape; LID, My.* are yours):
   My.Adr: a structure of the addresses that your layer names (classes, functions); My.Txt K t: a structure (Prop) of the equations over K;
   My.txt_mk : {K} {implicit addresses ..} (e1 : nsIn K mainGlobals "law" = some (some (.ref f))) (e2 : K.lookup f = some ⟨oc, od, .func (fnOf "law" "law" params body scope dV kV doc pm an cdv ct), sl⟩) (e3 : codeIn K cdv "law" = true) .. : ∃ t, My.Txt K t
set_option maxRecDepth 100000 in
set_option maxHeartbeats 0 in
theorem PySem.Challenge.cw_LID_holds : PySem.Challenge.rw_LID.Holds := by
 w_on; o_law; k_head; (case hw => w_witness2)
 k_fill
 refine L2.y6j (l := PySem.Challenge.rw_LID) (n := 63) (k := 40) (x := "script") (CX := fun w => ..) (sp := fun _ => My.sp_law) rfl (by decide) rfl ⟨rfl, by decide, by decide⟩ (fun w h Y => PySem.W.kIn_of Y) ?F ?S ?C
 case F =>
  intro w mg fa h KX G hmg
  have T : ∃ t, My.Txt (L2.KOf KX) t := by
   dsimp only [L2.KOf]                          -- K must stand as «<heap const> w.params» for k_is;refine' My.txt_mk ?e1 ?e2 ?e3 ..
   (case e1 => PySem.W.k_is)                    -- in the order: a name -> its address -> its object -> its parts
   (case e2 => PySem.W.k_is)
   ..
  obtain ⟨t, T⟩ := T;have e0 := hmg.symm.trans (mg_of KX G T.law);cases e0                                       -- fa is the law's own address;exact ⟨_, fun s u => .of_eq rfl, fun base kb nb => My.law_fn T kb nb⟩     -- if «.of_eq rfl» comes too early: refine' ⟨_, ?b, fun base kb nb => My.law_fn T kb nb⟩; exact fun s u => .of_eq rfl
 case S => exact fun w H a ns hl hO hS => ..
 case C => exact ..
(the tactic k_is has no namespace: write k_is) -/
namespace L2
open PySem PySem.Spec PyProof.Rows
variable{a f:Addr}{X:Cx}{env:Env}{e:Expr}{fd:FuncData}{B base h h1:Heap}{H H':Hp}{pins:List (Addr×Obj)}{l:List Env}{es ifs:List Expr}{js:List Nat}{N ps:List Str}{k:Nat}{pos:Pos}{P:Program}{K:Fg}{s:Shared}{sp:Sp}{σ:St}{qual x:Str}{mg:Str->Option Value}{t:TA}{te:TE}{v:V}{a0 cls:Value}{w:World}
def defArgs(s:Stmt):Arguments:=match s with
 |.FunctionDef _ a _ _ _ _ _ _ _ _=>a
 |_=>{posonlyargs:=[],args:=[],vararg:=none,kwonlyargs:=[],kw_defaults:=[],kwarg:=none,defaults:=[]}
def defBody(s:Stmt):List Stmt:=match s with
 |.FunctionDef _ _ b _ _ _ _ _ _ _=>b
 |_=>[]
def defScope(s:Stmt):Scope:=match s with
 |.FunctionDef _ _ _ _ _ _ sc _ _ _=>sc
 |_=>{kind:=.function,names:=[],isGenerator:=false,isCoroutine:=false}
noncomputable abbrev CX0:CXT:=fun _ _ _ _ _ _=>False
noncomputable abbrev E0:XK:=fun _ _ _=>False
structure Fun(K:Fg)(x qual:Str)(st:Stmt)(f:Addr)(fd:FuncData):Prop where
 ex:∃(oc:Value)(od:Option Addr)(kV doc pm:Value)(an:Option Addr)(cdv ct:Value)(osl:Array (Option Value)),
  fd=PySem.W.fnOf x qual (defArgs st) (defBody st) (defScope st) .none kV doc pm an cdv ct/\K.lookup f=some ⟨oc,od,.func fd,osl⟩/\PySem.W.codeIn K cdv qual=true
 kp:keepIn K (.ref f)=true
theorem Fun.binds{st:Stmt}{ps:List Str}(F:Fun K x qual st f fd)
  (h:∀(kV doc pm:Value)(an:Option Addr)(cdv ct:Value)(us:List Value),us.length=ps.length->bindArgs (PySem.W.fnOf x qual (defArgs st) (defBody st) (defScope st) .none kV doc pm an cdv ct) ⟨us,[]⟩=pure (ps.zip us)):Binds K fd ps []:=by
 obtain⟨oc,od,kV,doc,pm,an,cdv,ct,osl,rfl,lk,hcd⟩:=F.ex;exact .all (h kV doc pm an cdv ct)
theorem q0j{st:Stmt}{oc:Value}{od an:Option Addr}{osl:Array (Option Value)}{kV doc pm cdv ct:Value}(l:K.lookup f=some ⟨oc,od,.func (PySem.W.fnOf x qual (defArgs st) (defBody st) (defScope st) .none kV doc pm an cdv ct),osl⟩)
  (c:PySem.W.codeIn K cdv qual=true)(k:keepIn K (.ref f)=true):Fun K x qual st f (PySem.W.fnOf x qual (defArgs st) (defBody st) (defScope st) .none kV doc pm an cdv ct):=⟨⟨oc,od,kV,doc,pm,an,cdv,ct,osl,rfl,l,c⟩,k⟩
theorem pv(i:Nat)(hN:X.N[i]?=some x:=by rfl)(hv:Vis X.env.scope x:=by walk_at "1")(hd:(x==("__debug__":Str))=false:=by decide)
  (hcd:(x==("__classdict__":Str))=false:=by decide):PE X (.Name x pos) (tVar i):=y9z hN hv hd hcd
def Same(H H':Hp):Prop:=∀b o,H b=some o->H' b=some o
theorem Same.refl(H:Hp):Same H H:=fun _ _ h=>h
theorem Same.trans{H1 H2:Hp}(a:Same H H1)(b:Same H1 H2):Same H H2:=fun c o h=>b c o (a c o h)
theorem Same.free(e:Same H H'){l:Addr}(h:H' l=Option.none):H l=Option.none:=by
 cases q:H l with
 |none=>rfl
 |some o=>
  rw[e l o q]at h;cases h
theorem Same.seq{xs:List V}(e:Same H H')(h:SqL K H a xs):SqL K H' a xs:=by
 rcases h with(h|⟨o,h⟩)|h
 ·exact .inl (.inl (e _ _ h))
 ·exact .inl (.inr ⟨o,e _ _ h⟩)
 ·exact .inr h
set_option maxHeartbeats 4000000
theorem ObjOk.get{o:HO}(x:ObjOk P w H h a o):∃ob,h.get? a=some ob:=by
 cases o with
 |lst xs=>obtain⟨_,_,_,_,e⟩:=x;exact⟨_,e⟩
 |tup xs=>obtain⟨_,_,_,p,_⟩:=x;obtain⟨o,e,_⟩:=p;exact⟨o,e⟩
 |dK kvs=>obtain⟨_,_,_,_,o,_,_,e,_⟩:=x;exact⟨_,e⟩
 |dT sh kvs kas=>obtain⟨_,_,_,_,_,o,_,_,e,_⟩:=x;exact⟨_,e⟩
 |set S n=>obtain⟨o,_,_,_,e,_⟩:=x;exact⟨_,e⟩
 |ins C dx fs=>obtain⟨_,_,_,e,_⟩:=x;exact⟨_,e⟩
 |own y=>obtain⟨_,e⟩:=x;exact⟨_,e⟩
 |xd fs=>obtain⟨_,⟨_,_,_,e,_⟩,_⟩:=x;exact⟨_,e⟩
 |rng lo hi=>obtain⟨_,_,_,e⟩:=x;exact⟨_,e⟩
 |frz ob u=>obtain⟨e,_⟩:=x;exact⟨_,e⟩
 |tbl ps=>rcases x with⟨_,_,_,_,e,_⟩|⟨_,_,_,_,_,_,_,_,_,_,_,_,e⟩<;>exact⟨_,e⟩
 |met f y=>exact⟨_,(show h.get? a=some _ from x)⟩
 |ext φ=>obtain⟨_,⟨_,e⟩,_⟩:=x;exact⟨_,e⟩
structure Fly(outer:List Env)(H H':Hp)(h h':Heap)(e:Addr)(cls:Value)(B:Heap):Prop where
 fl:∃a0,Heap.FlyingW B outer e cls a0 h'
 old:∀b o,h.get? b=some o->H b=none->b∉frs outer->B.get? b=some o
 trk:∀b u o,H' b=some u->h'.get? b=some o->B.get? b=some o
 all:∀b o,h.get? b=some o->b∈frs outer\/∃o',B.get? b=some o'
 new:h.get? e=none
def CX1(P:Program)(w:World):CXT:=fun outer H s E ev s'=>∃(e:Addr)(cls:Value)(H':Hp)(B:Heap),
 ev=.ref e/\s'.os=s.os/\AllBare s'.gens/\Un (frs outer) [] H H' s.heap s'.heap/\HOk P w H' s'.heap/\Fly outer H H' s.heap s'.heap e cls B/\E cls none H'
def PassX(CX:CXT)(X:Cx)(EE:L2.St->XK):Prop:=∀(pins:List (Addr×Obj))(σ:St)(H:Hp)(s:Shared)(e:Value)(s':Shared),Inv X pins σ H s->CX X.stack H s (EE σ) e s'->X.xe e s'
def RaisX(X:Cx)(EE:L2.St->XK):Prop:=∀(pins:List (Addr×Obj))(σ:St)(H:Hp)(s:Shared)(e:Addr)(cls:Value)(vs:List Value)(h':Heap),Inv X pins σ H s->Heap.MadeExcOf s.heap h' e cls vs->EE σ cls none H->X.xe (.ref e) {s with heap:=h'}
section
variable{CX:CXT}{scope:Scope}{cd:Value}{A:Around}{outer:List Env}{s₀:Shared}{H₀:Hp}{E:XK}
theorem x7f{s':Shared}{e:Addr}{h'':Heap}
  (I:Inv (cxOf CX P w K mg base N qual scope f cd A outer s₀ H₀ E) pins σ H s)(J:Inv (cxOf CX P w K mg base N qual scope f cd A outer s₀ H₀ E) pins σ H' s')
  (old:∀b o,s.heap.get? b=some o->H b=none->b∉frs (envOfC qual scope s₀.heap.objs.size f cd::outer)->B.get? b=some o)
  (trk:∀b u o,H' b=some u->s'.heap.get? b=some o->B.get? b=some o)
  (all:∀b o,s.heap.get? b=some o->b∈frs (envOfC qual scope s₀.heap.objs.size f cd::outer)\/∃o',B.get? b=some o')
  (new:s.heap.get? e=none)
  (fl:Heap.FlyingW B outer e cls a0 h'')(up:s'.heap.UpToSlots h'')(hE:E cls none H'):
  CX1 P w outer H₀ s₀ E (.ref e) {s' with heap:=h''}:=by
 have neL:∀b o,s₀.heap.get? b=some o->b∉frs outer->b∉frs (envOfC qual scope s₀.heap.objs.size f cd::outer):=fun b o q nb hb=>by
  rcases w0j.mp (show b∈s₀.heap.objs.size::frs outer from hb)with z|z
  ·exact absurd (Heap.lt_size q) (by rw[z];exact w2f _)
  ·exact nb z
 have ex0:∀b:Addr,b∉([]:List Addr):=fun b z=>nomatch z
 have slot:∀b o,s₀.heap.get? b=some o->b∈frs outer->∃sl,h''.get? b=some {o with slots:=sl}:=fun b o q hb=>by
  obtain⟨sl,e1⟩:=J.base.slot b o q (J.ok.frf b hb) hb (ex0 b);obtain⟨_,o2,e2,nd⟩:=J.funs.mem hb
  rw[e1]at e2;cases e2;obtain⟨sl',e3⟩:=up b _ e1 nd;exact⟨sl',e3⟩
 refine⟨e,cls,H',B,rfl,J.os,J.bare,⟨fun b o q n hb hx=>?_,fun b o q n hb hx=>slot b o q hb,fun b o q n hx=>J.base.free b o q n hx,fun b o q hx=>?_,J.base.tups,J.base.frzs,J.base.tbls⟩,fun a o q=>?_,⟨⟨a0,fl⟩,fun b o q n hb=>?_,fun b u o q z=>?_,fun b o q=>?_,?_⟩,hE⟩
 ·exact fl.1 b o (old b o (I.base.keep b o q n hb hx) (I.base.free b o q n hx) (neL b o q hb))
 ·by_cases hb:b∈frs outer
  ·obtain⟨sl,z⟩:=slot b o q hb;exact⟨_,z⟩
  ·obtain⟨o1,e1⟩:=I.base.there b o q hx;rcases all b o1 e1 with z|⟨o',z⟩
   ·exact absurd z (neL b o q hb)
   ·exact⟨o',fl.1 b o' z⟩
 ·refine(J.hok a o q).stay (fun b u hb z=>?_) (fun _ z=>z) fun _ _ _ z=>z
  rcases hb with rfl|hb
  ·exact fl.1 _ _ (trk b o u q z)
  ·exact fl.1 _ _ (trk b _ u hb z)
 ·exact old b o (I.base.keep b o q n hb (ex0 b)) (I.base.free b o q n (ex0 b)) (neL b o q hb)
 ·obtain⟨o1,e1⟩:=(J.hok b u q).get;have e2:=trk b u o1 q e1;have e3:=fl.1 b o1 e2;rw[e3]at z;cases z;exact e2
 ·obtain⟨o1,e1⟩:=I.base.there b o q (ex0 b);rcases all b o1 e1 with z|z
  ·by_cases hb:b∈frs outer
   ·exact .inl hb
   ·exact absurd z (neL b o q hb)
  ·exact .inr z
 ·cases q:s₀.heap.get? e with
  |none=>rfl
  |some o=>
   obtain⟨o1,e1⟩:=I.base.there e o q (ex0 e);rw[new]at e1;cases e1
theorem pass1:PassX (CX1 P w) (cxOf (CX1 P w) P w K mg base N qual scope f cd A outer s₀ H₀ E) (fun _=>E):=by
 intro pins σ H s ev s' I hx;obtain⟨e,cls,H',B,rfl,hos,hg,un,hok,fly,hE⟩:=hx;have J:=I.call' (ch:=[]) hos un hok hg (fun b hb=>nomatch hb)
 obtain⟨a0,fl⟩:=fly.fl;refine wpAny_leaves_onW (base:=B) I.ok.frames rfl fl fun h'' fl2 up=>?_
 exact x7f I J fly.old fly.trk fly.all fly.new fl2 up hE
theorem rais1:RaisX (cxOf (CX1 P w) P w K mg base N qual scope f cd A outer s₀ H₀ E) (fun _=>E):=by
 intro pins σ H s e cls vs h' I hx hE;have J:Inv (cxOf (CX1 P w) P w K mg base N qual scope f cd A outer s₀ H₀ E) pins σ H {s with heap:=h'}:=I.kept (t':=s.toks) hx.keeps;have hin:∀env∈(envOfC qual scope s₀.heap.objs.size f cd::outer),∀b,env.frame=some b->b∈frs (envOfC qual scope s₀.heap.objs.size f cd::outer):=fun env he b hb=>w2o.mpr ⟨env,he,hb⟩
 refine wpAny_leaves_madeW (base:=PySem.W.hideAll s.heap (frs (envOfC qual scope s₀.heap.objs.size f cd::outer))) (h:=s.heap) I.ok.frames rfl (fun b o q=>PySem.W.of_hideAll _ q) (PySem.W.funFrames_hide I.stack hin) hx fun h'' t fl _ _ up=>?_
 refine x7f I J (fun b o q _ nb=>hideAll_get _ q nb) (fun b u o q z=>?_) (fun b o q=>?_) hx.new fl up hE
 ·obtain⟨o1,e1⟩:=(I.hok b u q).get;have e2:=hx.keeps b o1 e1;have z':h'.get? b=some o:=z;rw[e2]at z';cases z';refine hideAll_get _ e1 fun hb=>?_
  rw[I.stkFree b hb]at q;cases q
 ·by_cases hb:b∈frs (envOfC qual scope s₀.heap.objs.size f cd::outer)
  ·exact .inl hb
  ·exact .inr ⟨o,hideAll_get _ q hb⟩
end
theorem passE:PassX (CX1 P w) X (fun _=>E0):=fun _ _ _ _ _ _ _ h=>by
 obtain⟨_,_,_,_,_,_,_,_,_,_,z⟩:=h;exact False.elim z
def tCallX(sp:Sp)(dvs:List V)(EE:L2.St->XK)(t:TA):TE:=fun σ H Q=>t σ H fun vs H1=>sp (vs++dvs) H1 Q (EE σ)
section
variable{CX:CXT}{C:Addr}{dvs:List V}{ds:List Value}{EE:L2.St->XK}{m:Str}{p apos:Pos}{o:Expr}{ta:TE}
theorem y6k{Q:VK}{us:List Value}{vs:List V}(F:FnOk X.prog X.w X.K X.mg X.base CX k f fd ps sp)(hr:Room k X.A)(hb:Binds X.K fd ps ds)(hd:Vals dvs ds)(hx:PassX CX X EE)
  (I:Inv X pins σ H s)(r:Vals vs us)(h:sp (vs++dvs) H Q (EE σ)):wpAny (model X.prog X.w) X.A (call (.ref f) us) (EP X pins σ Q) X.xe s:=by
 have r2:Vals (vs++dvs) (us++ds):=r.append hd;have hl:(us++ds).length=ps.length:=by rw[<- r2.length];exact F.len _ _ _ _ h
 refine wpAny_call (codeAny_mono (F.run X.A X.stack s H ⟨us,[]⟩ (us++ds) (vs++dvs) Q (EE σ) hr I.env0 (hb s us I.kIn hl) r2 h) fun r s' hq=>?_)
 cases r with
 |error e=>exact hx pins σ H s e s' I hq
 |ok fl=>
  cases fl with
  |ret u=>exact I.after hq
  |next=>exact False.elim hq
  |brk=>exact False.elim hq
  |cont=>exact False.elim hq
theorem y24(F:FnOk X.prog X.w X.K X.mg X.base CX k f fd ps sp)(hr:Room k X.A)(hg:Gl X x)(hm:X.mg x=some (.ref f))(hk:keepIn X.K (.ref f)=true)(hb:Binds X.K fd ps ds)(hd:Vals dvs ds)(hx:PassX CX X EE)
  (ha:PA X (e::es) t)(hdb:(x==("__debug__":Str))=false:=by decide)(he:starEach (e::es) X.env=(false,eval e X.env)::starEach es X.env:=by rfl)(hpl:(backTo pos (starEach es X.env)).any (·.1)=false:=by rfl):
  PE X (.Call (.Name x p) (e::es) [] pos) (tCallX sp dvs EE t):=by
 intro pins s σ H Q I h;refine wpAny_Call_Name_kw (q60 I hg hm ?_ hdb);refine PySem.W.callWith_K (h₀:=X.base) I.ok.mod.kin hk (thn (ha pos pins s σ H _ I h) fun us s1 ⟨vs,H1,I1,r,q⟩=>⟨I1.kIn,?_⟩) he hpl
 exact y6k F hr hb hd hx I1 r q
end
theorem Fun.okX{st:Stmt}(F:Fun K x qual st f fd)(S:FnScope N ps (defScope st))(len:∀vs H Q E,sp vs H Q E->vs.length=ps.length)
  (hbody:∀(cdv:Value)(A:Around)(outer:List Env)(s:Shared)(H:Hp)(vs:List V)(Q:VK)(E:XK),Room k (A.deeper (envOfC qual (defScope st) s.heap.objs.size f cdv))->sp vs H Q E ->
   ∃t,PSs (cxOf (CX1 P w) P w K mg base N qual (defScope st) f cdv A outer s H E) (defBody st) t/\t {nx:=fun _ H'=>Q .non H',rt:=Q} (start N vs) H):FnOk P w K mg base (CX1 P w) (k+1) f fd ps sp:=by
 obtain⟨oc,od,kV,doc,pm,an,cdv,ct,osl,rfl,lk,hcd⟩:=F.ex;exact y50 lk hcd S len fun A outer s H vs Q E hr hsp=>hbody cdv A outer s H vs Q E hr hsp
def strKeysIn(K:Fg)(a:Addr):Bool:=match K.lookup a with
 |some ⟨_,_,.dict es _,_⟩=>es.toList.all fun e=>match e.key with|.str _ _=>true|_=>false
 |_=>false
def noInitIn(K:Fg)(a:Addr):Bool:=strKeysIn K a&&PySem.W.nsIn K a "__init__"==some none
noncomputable abbrev veMro:List Value:=[.type "ValueError", .type "Exception", .type "BaseException", .type "object"]
def excIn(K:Fg)(C A:Addr):Bool:=match K.lookup C,K.lookup A with
 |some ⟨.type "type", _,.cls cd,sl⟩,some ⟨_,_,.cls ca,_⟩=>(match sl.toList with
   |[_,_,_,_,some (.builtin n),_]=>n=="ValueError.__new__"&&cd.mro==(.ref C::.ref A::veMro)&&!cd.hasDel&&noInitIn K cd.ns&&noInitIn K ca.ns
   |_=>false)
 |_,_=>false
theorem x2w(X:K.In h)(q:noInitIn K a=true):∃m,h.Ns a m/\m "__init__"=none:=by
 unfold noInitIn at q;rw[w0o]at q;obtain⟨q1,q2⟩:=q;unfold strKeysIn at q1;split at q1
 ·rename_i c d es n sl hl
  have hs:StrKeys es:=fun e he=>by
   have:=w0z.mp q1 e (by simpa using he);split at this
   ·rename_i k t hk;exact⟨_,_,hk⟩
   ·cases this
  refine⟨nsFind es,⟨_,es,n,X _ _ hl,rfl,hs,fun _=>rfl⟩,?_⟩
  have q2:=beq_iff_eq.mp q2;unfold PySem.W.nsIn at q2;rw[hl]at q2;dsimp only at q2;unfold nsFind findBy;rw[<- Array.find?_toList];split at q2
  ·cases q2
  ·rename_i he;rw[he];rfl
 ·cases q1
theorem q8g{C A:Addr}(X:K.In h)(q:excIn K C A=true):
  ∃nm qn N bs hdct sn sub ab col dd k0 k1 k2 k3 k5 mN,h.get? C=some (excClassObj nm qn C N bs (.ref A::veMro) hdct sn sub ab col dd k0 k1 k2 k3 k5 "ValueError.__new__")/\h.Ns N mN/\mN "__init__"=none/\OwnTail h veMro (.ref A::veMro):=by
 unfold excIn at q;split at q
 ·rename_i dd cd sl ca0 cad ca csl hC hA;split at q
  ·rename_i k0 k1 k2 k3 n k5 hs;simp only[w0o,beq_iff_eq,w3w]at q;obtain⟨⟨⟨⟨rfl,hm⟩,hdel⟩,hn⟩,hna⟩:=q;obtain⟨nm,bs,mro,ns,qn,hd,sn,sub,ab,col,del⟩:=cd;dsimp only at hm hdel hn;subst hm hdel
   have hsl:sl=#[k0,k1,k2,k3,some (.builtin "ValueError.__new__"),k5]:=by
    obtain⟨l⟩:=sl;simp only at hs;rw[hs]
   subst hsl;obtain⟨mN,hN,hi⟩:=x2w X hn;obtain⟨mA,hNA,hiA⟩:=x2w X hna;exact⟨nm,qn,ns,bs,hd,sn,sub,ab,col,dd,k0,k1,k2,k3,k5,mN,X _ _ hC,hN,hi,.own (X _ _ hA) hNA hiA .base⟩
  ·cases q
 ·cases q
def tRaise(C:Addr)(EE:L2.St->XK)(t:TA):TS:=fun _ σ H=>t σ H fun vs H1=>vs.length<=sizeLine/\EE σ (.ref C) none H1
section
variable{C Ac:Addr}{EE:L2.St->XK}{np cpos:Pos}
theorem y25(hx:RaisX X EE)(hc:X.calm=true)(hg:Gl X x)(hm:X.mg x=some (.ref C))(hC:excIn X.K C Ac=true)(ha:PA X (e::es) t)
  (hdb:(x==("__debug__":Str))=false:=by decide)(he:starEach (e::es) X.env=(false,eval e X.env)::starEach es X.env:=by rfl)(hpl:(backTo cpos (starEach es X.env)).any (·.1)=false:=by rfl):
  PS X (.Raise (some (.Call (.Name x np) (e::es) [] cpos)) none pos) (tRaise C EE t):=by
 intro pins s σ H D I h;obtain⟨nm,qn,N,bs,hdct,sn,sub,ab,col,dd,k0,k1,k2,k3,k5,mN,hC1,hN,hi,T⟩:=q8g I.kIn hC
 have hpl2:(backTo cpos (starEach (e::es) X.env)).any (·.1)=false:=by
  rw[he];show(false||(backTo cpos (starEach es X.env)).any (·.1))=false;rw[hpl];rfl
 refine wpAny_Raise_call_subT (C:=C) (nm:=nm) (q:=qn) (N:=N) (bs:=bs) (bm:=.ref Ac::veMro) (hdct:=hdct) (sn:=sn) (sub:=sub) (ab:=ab) (col:=col) (dd:=dd) (k0:=k0) (k1:=k1) (k2:=k2) (k3:=k3) (k5:=k5)
  PySem.F.excBase_ValueError (mN:=mN) (by rfl) (I.ok.hd hc) hpl2 hi (q60 I hg hm ⟨rfl,?_⟩ hdb)
 have key:=ha cpos pins s σ H _ I h;rw[he]at key |-
 refine Calls.evalArgs_plain (wpAny_mono key (fun us s1 ⟨vs,H1,I1,r,hz,q⟩=>?_) fun _ _ y=>y)
 obtain⟨nm',qn',N',bs',hdct',sn',sub',ab',col',dd',k0',k1',k2',k3',k5',mN',hC1',hN',hi',T'⟩:=q8g I1.kIn hC;have kk:∀b o,X.base.get? b=some o->s1.heap.get? b=some o:=I1.bk
 have hCb:X.base.get? C=s1.heap.get? C:=by
  obtain⟨_,_,_,_,_,_,_,_,_,_,_,_,_,_,_,_,z,_⟩:=q8g I.ok.mod.kin hC;rw[z];exact(kk _ _ z).symm
 have hCs:s.heap.get? C=s1.heap.get? C:=by
  obtain⟨_,_,_,_,_,_,_,_,_,_,_,_,_,_,_,_,z,_⟩:=q8g I.ok.mod.kin hC;rw[I.bk _ _ z];exact(kk _ _ z).symm
 have hC2:s1.heap.get? C=some (excClassObj nm qn C N bs (.ref Ac::veMro) hdct sn sub ab col dd k0 k1 k2 k3 k5 "ValueError.__new__"):=hCs ▸ hC1;rw[hC2]at hC1';cases hC1';have em:mN' "__init__"=none:=hi'
 have hN2:s1.heap.Ns N mN:=by
  obtain⟨o1,es1,ep1,a1,a2,a3,a4⟩:=hN;obtain⟨_,_,N3,_,_,_,_,_,_,_,_,_,_,_,_,m3,z3,n3,_,_⟩:=q8g I.ok.mod.kin hC;have z4:=I.bk _ _ z3;rw[hC1]at z4;cases z4;obtain⟨o5,es5,ep5,b1,b2,b3,b4⟩:=n3;have c1:=I.bk _ _ b1;rw[a1]at c1;cases c1;exact⟨_,es1,ep1,I1.bk _ _ b1,a2,a3,a4⟩
 exact⟨rfl,by rw[<- r.length];exact hz,hC2,hN2,T',fun h' ea hme=>hx pins σ H1 s1 ea (.ref C) us h' I1 hme q⟩
end
def excO(e:Addr)(cls:Value):HO:=.ext fun h=>∃o vs,h.get? e=some o/\o.cls=cls/\o.data=.fields vs
theorem y6l{e:Addr}(x:∃o vs,h.get? e=some o/\o.cls=cls/\o.data=.fields vs):ObjOk P w H h e (excO e cls):=by
 obtain⟨o,vs,h1,h2,h3⟩:=x;refine⟨⟨o,vs,h1,h2,h3⟩,⟨o,h1⟩,fun g1 g2 ⟨o',vs',q1,q2,q3⟩ k=>⟨o',vs',k o' q1,q2,q3⟩⟩
noncomputable abbrev Cx.tr(X:Cx)(pn:List (Addr×Obj))(xe:Value->Shared->Prop):Cx:={X with pn:=pn,xe:=xe}
noncomputable abbrev Cx.hn(X:Cx)(e:Addr):Cx:={X with A:=X.A.mark (some (.ref e)),calm:=false,xe:=fun _ _=>False}
section
variable{pins':List (Addr×Obj)}{xe:Value->Shared->Prop}{e:Addr}
theorem Cx.Ok.tr(ok:X.Ok)(pn:List (Addr×Obj))(xe:Value->Shared->Prop):(X.tr pn xe).Ok:=
 ⟨ok.mod,ok.kind,ok.glob,ok.blt,ok.above,ok.inj,ok.has,ok.cab,ok.hd,ok.frames,ok.stk,ok.exf,ok.bs,ok.bsz,ok.noex,ok.exfs,ok.funs,ok.frf,ok.tab⟩
theorem Cx.Ok.untr{pn:List (Addr×Obj)}(ok:(X.tr pn xe).Ok):X.Ok:=
 ⟨ok.mod,ok.kind,ok.glob,ok.blt,ok.above,ok.inj,ok.has,ok.cab,ok.hd,ok.frames,ok.stk,ok.exf,ok.bs,ok.bsz,ok.noex,ok.exfs,ok.funs,ok.frf,ok.tab⟩
theorem Cx.Ok.hn(ok:X.Ok)(e:Addr):(X.hn e).Ok:=
 ⟨ok.mod,ok.kind,ok.glob,ok.blt,ok.above,ok.inj,ok.has,ok.cab,(fun z=>nomatch z),ok.frames,ok.stk,ok.exf,ok.bs,ok.bsz,ok.noex,ok.exfs,ok.funs,ok.frf,ok.tab⟩
theorem Inv.tr(I:Inv X pins σ H s)(xe:Value->Shared->Prop):Inv (X.tr (X.pn++pins) xe) [] σ H s:=
 ⟨I.ok.tr _ xe,I.os,I.bare,I.base,I.loc,I.cell,I.free,I.freeC,fun p hp=>I.pin p (by simpa using hp),I.hok,I.len⟩
theorem Inv.untr(I:Inv (X.tr (X.pn++pins) xe) pins' σ H s):Inv X pins σ H s:=
 ⟨I.ok.untr,I.os,I.bare,I.base,I.loc,I.cell,I.free,I.freeC,fun p hp=>I.pin p (w2g _ hp),I.hok,I.len⟩
theorem Inv.hn(I:Inv X pins σ H s)(e:Addr):Inv (X.hn e) pins σ H s:=
 ⟨I.ok.hn e,I.os,I.bare,I.base,I.loc,I.cell,I.free,I.freeC,I.pin,I.hok,I.len⟩
theorem Inv.unhn(ok:X.Ok)(I:Inv (X.hn e) pins σ H s):Inv X pins σ H s:=
 ⟨ok,I.os,I.bare,I.base,I.loc,I.cell,I.free,I.freeC,I.pin,I.hok,I.len⟩
theorem Inv.forget{h':Heap}{m':Str->Option Value}{t:Nat}(I:Inv X pins σ H s)(hs:Heap.SameBut X.env.locals s.heap h')(hn':h'.Ns X.env.locals m'):Inv X pins (List.replicate X.N.length none) H {s with heap:=h',toks:=t}:=by
 obtain⟨m,hn,hl⟩:=id I.loc;obtain⟨oL,_,_,hoL,_⟩:=id hn
 have tracked:HOk X.prog X.w H h':=fun b ob e=>by
  refine(I.hok b ob e).stay (fun c w' hc q=>(hs.2 c ?_).trans q) (fun _ q=>q) fun _ _ _ q=>q
  rintro rfl;rcases hc with rfl|hc
  ·rw[I.free]at e;cases e
  ·rw[I.free]at hc;cases hc
 refine⟨I.ok,I.os,I.bare,⟨fun b o e n hb hx=>?_,fun b o e n hb hx=>?_,I.base.free,fun b o e hx=>?_,I.base.tups,I.base.frzs,I.base.tbls⟩,⟨m',hn',fun j y v' e1 e2 e3=>?_⟩,fun y c e=>?_,I.free,I.freeC,fun p hp=>?_,tracked,by simp⟩
 ·exact(hs.2 b (w0r (w0t (Heap.lt_size e) I.ok.above))).trans (I.base.keep b o e n hb hx)
 ·obtain⟨sl,e1⟩:=I.base.slot b o e n hb hx;exact⟨sl,(hs.2 b (w0r (w0t (Heap.lt_size e) I.ok.above))).trans e1⟩
 ·obtain⟨o',e1⟩:=I.base.there b o e hx;exact⟨o',(hs.2 b (w0r (w0t (Heap.lt_size e) I.ok.above))).trans e1⟩
 ·rw[w1z]at e2;split at e2<;>cases e2
 ·obtain⟨w',z⟩:=I.cell y c e;exact⟨w',z.sameBut hs (I.cne y c e)⟩
 ·obtain⟨e,n,ne,nf,d⟩:=I.pin p hp;exact⟨(hs.2 p.1 ne).trans e,n,ne,nf,d⟩
theorem Fly.un{h2 h3:Heap}(un:Un (frs l) [] H H' h1 h2)(fly:Fly l H H' h1 h2 e cls B)(fl:Heap.FlyingW B l e cls a0 h3)(up:h2.UpToSlots h3):Un (frs l) [] H H' h1 h3:=by
 obtain⟨a1,fl1⟩:=fly.fl;have ex0:∀b:Addr,b∉([]:List Addr):=fun b z=>nomatch z
 have slot:∀b o,h1.get? b=some o->H b=none->b∈frs l->∃sl,h3.get? b=some {o with slots:=sl}:=fun b o q n hb=>by
  obtain⟨sl,e1⟩:=un.slot b o q n hb (ex0 b);obtain⟨_,o2,e2,nd⟩:=fl1.2.2.1.mem hb;rw[e1]at e2;cases e2;obtain⟨sl',e3⟩:=up b _ e1 nd;exact⟨sl',e3⟩
 refine⟨fun b o q n hb hx=>fl.1 b o (fly.old b o q n hb),fun b o q n hb hx=>slot b o q n hb,un.free,fun b o q hx=>?_,un.tups,un.frzs,un.tbls⟩
 rcases fly.all b o q with hb|⟨o',z⟩
 ·obtain⟨_,o2,e2,nd⟩:=fl.2.2.1.mem hb;exact⟨o2,e2⟩
 ·exact⟨o',fl.1 b o' z⟩
theorem Fly.hok{h2 h3:Heap}(hok:HOk P w H' h2)(fly:Fly l H H' h1 h2 e cls B)(fl:Heap.FlyingW B l e cls a0 h3):HOk P w H' h3:=fun a o q=>by
 refine(hok a o q).stay (fun b u hb z=>?_) (fun _ z=>z) fun _ _ _ z=>z
 rcases hb with rfl|hb
 ·exact fl.1 _ _ (fly.trk b o u q z)
 ·exact fl.1 _ _ (fly.trk b _ u hb z)
theorem Fly.free{h2:Heap}(hok:HOk P w H' h2)(fly:Fly l H H' h1 h2 e cls B):H' e=none:=by
 obtain⟨a0,fl⟩:=fly.fl;cases q:H' e with
 |none=>rfl
 |some u=>
  obtain⟨o,z⟩:=(hok e u q).get;have:=fly.trk e u o q z;rw[fl.2.1]at this;cases this
theorem Un.taken{fs:List Addr}{h3:Heap}{o:HO}(un:Un fs [] H H' h1 h3)(new:h1.get? e=none)(fr:H' e=none):Un fs [] H (upd H' e o) h1 h3:=by
 refine⟨un.keep,un.slot,fun b ob q n hx=>?_,un.there,fun b xs q=>?_,fun b ob u q=>?_,fun b ps q=>?_⟩
 ·have:b≠e:=fun z=>by rw[z,new]at q;cases q
  rw[q0c this];exact un.free b ob q n hx
 ·have z:=un.tups b xs q;rw[q0c (q0m z fr)];exact z
 ·have z:=un.frzs b ob u q;rw[q0c (q0m z fr)];exact z
 ·obtain⟨more,z⟩:=un.tbls b ps q;exact⟨more,by rw[q0c (q0m z fr)];exact z⟩
theorem HOk.taken{o:HO}(hok:HOk P w H' h)(fr:H' e=none)(new:ObjOk P w (upd H' e o) h e o):HOk P w (upd H' e o) h:=fun b u q=>by
 by_cases hb:b=e
 ·subst hb;rw[q0h]at q;cases q;exact new
 ·rw[q0c hb]at q;exact(hok b u q).stay (fun _ _ _ z=>z) (fun c z=>by rw[q0c (q0m z fr)];exact z) fun c xs _ z=>by rw[q0c (q0m z fr)];exact z
end
def tTry(K:Fg)(c:Addr)(i n:Nat)(tb:(St->XK)->TS)(th:TS):TS:=fun D σ H=>
 tb (fun σ' cls _ H'=>exmOne K cls (.ref c)=some true/\∀e,H' e=none ->
  th {nx:=fun _ H''=>D.nx (List.replicate n none) H'',rt:=D.rt,bk:=fun _ H''=>D.bk (List.replicate n none) H'',ct:=fun _ H''=>D.ct (List.replicate n none) H''} (σ'.set i (some (.ref e))) (upd H' e (excO e cls))) D σ H
theorem z0j{body suite:List Stmt}{b₀:Stmt}{c n:Str}{i:Nat}{Cc:Addr}{np hpos:Pos}{tb:(St->XK)->TS}{th:TS}
  (hg:Gl X c)(hm:X.mg c=some (.ref Cc))(hN:X.N.Nodup)(hi:X.N[i]?=some n)(hx:X.env.scope.names.lookup n=some .local)
  (hb:∀(EE:L2.St->XK)(pn:List (Addr×Obj))(xe:Value->Shared->Prop),PassX (CX1 X.prog X.w) (X.tr pn xe) EE->PSs (X.tr pn xe) body (tb EE))
  (hh:∀e:Addr,PSs (X.hn e) (b₀::suite) th)
  (hs:X.stack=X.env::X.outer:=by rfl)(hf:X.env.frame=some X.env.locals:=by rfl)(hdb:(c==("__debug__":Str))=false:=by decide):
  PS X (.Try body [.ExceptHandler (some (.Name c np)) (some n) (b₀::suite) hpos] [] [] pos) (tTry X.K Cc i X.N.length tb th):=by
 intro pins s σ H D I h;refine wpAny_Try_except (wpAny_mono (hb _ (X.pn++pins) _ ?pass [] s σ H D (I.tr _) h) (fun f s1 q=>?_) fun _ _ z=>z)
 case pass=>
  intro pins' σ' H1 s1 ev s2 I1 hx1;obtain⟨e,cls,H2,B,rfl,hos,hgn,un,hok,fly,hmt,hE⟩:=hx1;have I0:Inv X pins σ' H1 s1:=I1.untr;have un:Un (frs X.stack) [] H1 H2 s1.heap s2.heap:=un;have fly:Fly X.stack H1 H2 s1.heap s2.heap e cls B:=fly;have hfr:=fly.free hok;obtain⟨a0,fl⟩:=fly.fl;have fl':Heap.FlyingW B (X.env::X.outer) e cls a0 s2.heap:=hs ▸ fl;have fr':X.A.frames=some (X.env::X.outer):=hs ▸ I0.ok.frames;have noch:∀b∈([]:List Addr),(b∈X.ex\/X.s₀.heap.objs.size<=b)/\b≠X.env.locals/\(∀x c,X.env.cells.lookup x=some c->c≠b)/\∀p∈X.pn++pins,p.1≠b:=fun b z=>nomatch z
  have land:∀h5 tk,Heap.FlyingW B (X.env::X.outer) e cls a0 h5->s2.heap.UpToSlots h5->Inv X pins σ' H2 {s2 with heap:=h5,toks:=tk}:=fun h5 tk fl5 up5=>by
   have fl5':Heap.FlyingW B X.stack e cls a0 h5:=hs.symm ▸ fl5;exact I0.call' (s':={s2 with heap:=h5,toks:=tk}) (ch:=[]) hos (fly.un un fl5' up5) (fly.hok hok fl5') hgn noch
  refine wpAny_looks_onW (base:=B) fr' hf fl' fun h₄ held up₄=>?_
  refine wpAny_landsW held fun h₅ fl₅ up₅'=>?_
  have up₅:s2.heap.UpToSlots h₅:=up₄.trans up₅';have I5:=land h₅ s2.toks fl₅ up₅;refine wpAny_handleBy_cons (codeAny_handlers_test ?_) (by intro q;cases q);refine q60 (X:=X.hn e) (I5.hn e) hg hm ?_ hdb;obtain⟨ob,hob,hoc⟩:=fl₅.there;have LT:PySem.W.Looks (model X.prog X.w) h₅ (typeOf (.ref e)) cls:=hoc ▸ (PySem.W.Looks.ld hob).andThen .now;refine(PySem.W.exm_one (M:=model X.prog X.w) I5.kIn LT hmt).at ?_;show codeAny _ _ _ _ _;refine codeAny_handlers_suite_as ?_;refine lands_againW fl₅ fun h₆ fl₆ up₆'=>?_
  have up₆:s2.heap.UpToSlots h₆:=up₅.trans up₆';obtain⟨oe,ws,hoe,hoec,hoed,_⟩:=fl₆.first
  have fl6':Heap.FlyingW B X.stack e cls a0 h₆:=hs.symm ▸ fl₆
  have I7:Inv X pins σ' (upd H2 e (excO e cls)) {s2 with heap:=h₆}:=
   I0.call' (s':={s2 with heap:=h₆}) (ch:=[]) hos ((fly.un un fl6' up₆).taken fly.new hfr) ((fly.hok hok fl6').taken hfr (y6l ⟨oe,ws,hoe,hoec,hoed⟩)) hgn noch
  refine q93 (X:=X.hn e) (I7.hn e) hN hi (.inl hx) (v:=.ref e) rfl (fun s8 I8=>?_) (.inr hx)
  refine wpAny_mono (hh e pins s8 _ _ _ I8 (hE e hfr)) (fun f s9 q=>?_) fun _ _ z=>z.elim
  show wpAny _ _ _ _ _ _
  have go:∀{σ9:St}{H9:Hp},Inv (X.hn e) pins σ9 H9 s9->∀R:Unit->Shared->Prop,(∀s',Inv X pins (List.replicate X.N.length none) H9 s'->R () s')->wpAny (model X.prog X.w) X.A (do bindName X.env n .none;unbindBehindTheSuite X.env n hpos) R X.xe s9:=fun {σ9 H9} I9 R hR=>by
   obtain⟨m9,hn9,_⟩:=I9.loc;refine wpAny_nameGoes (env:=X.env) hx hn9 (by rw[I0.ok.kind];rfl) fun h' m' hn' hsb=>hR _ ?_
   exact(I9.unhn I0.ok).forget hsb hn'
  cases f with
  |next=>obtain⟨σ9,H9,I9,q⟩:=q;exact go I9 _ fun s' I'=>⟨_,H9,I',q⟩
  |brk=>obtain⟨σ9,H9,I9,q⟩:=q;exact go I9 _ fun s' I'=>⟨_,H9,I',q⟩
  |cont=>obtain⟨σ9,H9,I9,q⟩:=q;exact go I9 _ fun s' I'=>⟨_,H9,I',q⟩
  |ret u=>obtain⟨v,σ9,H9,I9,r,q⟩:=q;exact go I9 _ fun s' I'=>⟨v,_,H9,I',r,q⟩
 ·cases f with
  |next=>obtain⟨σ',H',I',q⟩:=q;exact wpAny_execs_nil ⟨σ',H',I'.untr,q⟩
  |brk=>obtain⟨σ',H',I',q⟩:=q;exact⟨σ',H',I'.untr,q⟩
  |cont=>obtain⟨σ',H',I',q⟩:=q;exact⟨σ',H',I'.untr,q⟩
  |ret u=>obtain⟨v,σ',H',I',r,q⟩:=q;exact⟨v,σ',H',I'.untr,r,q⟩
structure RoomH(k:Nat)(A:Around):Prop where
 dp:A.depth+3*k+5<recursionLimit
 un:A.units+16*k+200<cLine
 gd:A.guards=some []
structure FnOkH(P:Program)(w:World)(K:Fg)(mg:Str->Option Value)(base:Heap)(k:Nat)(f:Addr)(fd:FuncData)(ps:List Str)(sp:Sp):Prop where
 len:∀vs H Q E,sp vs H Q E->vs.length=ps.length
 run:∀(A:Around)(outer:List Env)(s:Shared)(H:Hp)(args:Args)(us:List Value)(vs:List V)(Q:VK),RoomH k A->Env0 P w K mg base A outer s H->BindsTo s fd args (ps.zip us)->Vals vs us->sp vs H Q E0 ->
  codeAny (model P w) A (.call (.ref f) args) (CR CX0 outer P w H s Q E0) s
noncomputable abbrev Cx.cp(X:Cx)(Nc:List Str)(scope:Scope)(cl:List (Str×Addr))(C:Addr)(s₀:Shared)(H₀:Hp)(ex:List Addr):Cx:=
 {X with N:=Nc,s₀:=s₀,H₀:=H₀,env:=compEnvC scope cl C X.env,outer:=X.stack,ex:=ex,fn:=fun _=>false,pn:=[],xe:=fun _ _=>False}
theorem q5z:∀(names:List (Str×NameKind))(acc:List (Str×Addr)),(∀x∈names,x.2=.free->∃c,env.cells.lookup x.1=some c) ->
  ∃cl,(forIn names acc fun(x:Str×NameKind) (r:List (Str×Addr))=>(if(x.2==NameKind.free)=true then(cellOf env x.1 >>= fun a=>pure (ForInStep.yield ((x.1,a)::r)))else pure (ForInStep.yield r):Sem (ForInStep (List (Str×Addr)))))=pure cl /\
   (∀x c,cl.lookup x=some c->acc.lookup x=some c\/env.cells.lookup x=some c)/\(∀x,((x,NameKind.free)∈names\/(acc.lookup x).isSome=true)->(cl.lookup x).isSome=true)
 |[],acc,_=>⟨acc,rfl,fun x c h=>.inl h,fun x h=>h.elim (fun z=>nomatch z) id⟩
 |(n,k)::r,acc,h=>by
  by_cases hk:k=.free
  ·subst hk;obtain⟨c,hc⟩:=h (n,.free) w0h rfl;obtain⟨cl,e1,e2,e3⟩:=q5z r ((n,c)::acc) fun x hx=>h x (w0f _ hx)
   refine⟨cl,?_,fun x d hd=>?_,fun x hx=>?_⟩
   ·rw[w2q];have:cellOf env n=pure c:=by unfold cellOf;rw[hc]
    simp only[beq_self_eq_true,if_true,this,pure_bind];exact e1
   ·rcases e2 x d hd with z|z
    ·rw[w1b]at z
     by_cases hx:(x==n)=true
     ·rw[hx]at z;have:x=n:=by simpa using hx
      subst this;cases z;exact .inr hc
     ·rw[w1k.mpr hx]at z;exact .inl z
    ·exact .inr z
   ·refine e3 x ?_;rcases hx with z|z
    ·rcases w0j.mp z with y|y
     ·cases y;exact .inr (by rw[w1b];simp)
     ·exact .inl y
    ·refine .inr ?_;rw[w1b]
     by_cases hx:(x==n)=true
     ·rw[hx];rfl
     ·rw[w1k.mpr hx];exact z
  ·obtain⟨cl,e1,e2,e3⟩:=q5z r acc fun x hx=>h x (w0f _ hx)
   refine⟨cl,?_,e2,fun x hx=>e3 x ?_⟩
   ·rw[w2q];have:(k==NameKind.free)=false:=by simpa using hk
    simp only[this,w2n,if_false,pure_bind];exact e1
   ·rcases hx with z|z
    ·rcases w0j.mp z with y|y
     ·cases y;exact absurd rfl hk
     ·exact .inl y
    ·exact .inr z
theorem q5r{scope:Scope}(h:∀x∈scope.names,x.2=.free->∃c,env.cells.lookup x.1=some c):
  ∃cl,closureFor scope env=pure cl/\(∀x c,cl.lookup x=some c->env.cells.lookup x=some c)/\∀x,(x,NameKind.free)∈scope.names->∃c,cl.lookup x=some c:=by
 obtain⟨cl,e1,e2,e3⟩:=q5z scope.names [] h;refine⟨cl,?_,fun x c hc=>(e2 x c hc).resolve_left (fun z=>nomatch z),fun x hx=>w3v.mp (e3 x (.inl hx))⟩
 unfold closureFor
 first
  |exact e1
  |(rw[e1];rfl)
  |(simp only[e1];rfl)
theorem q8h{env : Env} : ∀ {names : List (Str × NameKind)} {x : Str}, (∀ y ∈ names, y.2 ≠ .cell) ->
    ((names.map fun (n, k) => if (k == NameKind.free && env.scope.kind == .function && env.kindOf n == some .cell) then (n, NameKind.cell) else (n, k)).lookup x = some .cell \/
     (names.map fun (n, k) => if (k == NameKind.free && env.scope.kind == .function && env.kindOf n == some .cell) then (n, NameKind.cell) else (n, k)).lookup x = some .free) -> (x, NameKind.free) ∈ names
  | [], x, _, h => by rcases h with h | h <;> cases h
  | (n, k) :: r, x, hc, h => by
    have ih := @q8h env r x fun y hy => hc y (w0f _ hy)
    rw [w0n] at h;dsimp only at h
    by_cases hx : (x == n) = true
    . have e : x = n := by simpa using hx
      subst e
      by_cases hk : k = .free
      . subst hk; exact w0h
      . exfalso
        have hb : (k == NameKind.free) = false := by simpa using hk
        simp only [hb, Bool.false_and, w2n, if_false, w1b, hx] at h;rcases h with h | h
        . exact hc (x, k) w0h (Option.some.inj h)
        . exact hk (Option.some.inj h)
    . refine w0f _ (ih ?_)
      have hb : (x == n) = false := w1k.mpr hx
      by_cases hq : (k == NameKind.free && env.scope.kind == .function && env.kindOf n == some .cell) = true
      . rw [if_pos hq] at h
        simpa only [w1b, hb] using h
      . rw [if_neg hq] at h
        simpa only [w1b, hb] using h
theorem x2x{prog:Program}{A:Around}{R:Result->Shared->Prop}{elt target iter:Expr}{scope:Scope}{it acc:Value}(I:Nat->Shared->Prop)
  (turn:∀n s,I n s->wpAny (model prog w) A (pyNext it) (fun r s1=>match r with
   |none=>R (.ok .next) s1
   |some v=>wpAny (model prog w) A (letOwnedTupleGo target it v) (fun _ s2=>wpAny (model prog w) A (assign target env v) (fun _ s3=>
     wpAny (model prog w) A (forIn ifs true fun c r=>if r=true then do let ok <- isTrue c env (eval c env);pure (ForInStep.yield ok)else pure (ForInStep.yield r)) (fun ok s4=>
      if ok=true then wpAny (model prog w) A (eval elt env) (fun x s5=>wpAny (model prog w) A (call (.builtin "list.append") [acc,x]) (fun _ s6=>∃m,m<n/\I m s6) (fun _ _=>False) s5) (fun _ _=>False) s4
      else ∃m,m<n/\I m s4) (fun _ _=>False) s3) (fun _ _=>False) s2) (fun _ _=>False) s1) (fun _ _=>False) s)
  (n:Nat)(h:I n s):codeAny (model prog w) A (.compLoop (.ListComp elt [⟨target,iter,ifs,0⟩] scope pos) 0 it acc env) R s:=by
 refine codeAny_loop rfl I (fun n s hI=>?_) n h
 show wpAny _ A ((compTurn (.ListComp elt [⟨target,iter,ifs,0⟩] scope pos) 0 it acc env).onRaise (fun x=>do noteFrame x env;theTreesLotGoes x)) _ _ s
 refine wpAny_noted ?_;rw[compTurn_list];refine wpAny_bind (wpAny_standAt (wpAny_bind (wpAny_mono (turn n s hI) (fun r s1 h1=>?_) fun _ _ z=>z.elim)))
 cases r with
 |none=>exact wpAny_pure h1
 |some v=>
  refine wpAny_bind (wpAny_mono h1 (fun _ s2 h2=>?_) fun _ _ z=>z.elim)
  refine wpAny_bind (wpAny_mono h2 (fun _ s3 h3=>?_) fun _ _ z=>z.elim)
  refine wpAny_bind (wpAny_mono h3 (fun ok s4 h4=>?_) fun _ _ z=>z.elim)
  cases ok with
  |false=>exact wpAny_pure ⟨rfl,h4⟩
  |true=>exact wpAny_bind (wpAny_bind (wpAny_mono h4 (fun x s5 h5=>wpAny_bind (wpAny_mono h5 (fun _ s6 h6=>wpAny_pure (wpAny_pure ⟨rfl,h6⟩)) fun _ _ z=>z.elim)) fun _ _ z=>z.elim))
def pj(js:List Nat)(σ:St):St:=js.map fun j=>(σ[j]?).getD none
theorem z0k{i:Nat}(h:(pj js σ)[i]?=some (some v)):∃j,js[i]?=some j/\σ[j]?=some (some v):=by
 unfold pj at h;rw[w0v]at h;cases e:js[i]? with
 |none=>rw[e]at h;cases h
 |some j=>
  rw[e]at h;have h:(σ[j]?).getD none=some v:=Option.some.inj h;refine⟨j,rfl,?_⟩;cases e2:σ[j]? with
  |none=>rw[e2]at h;cases h
  |some z=>rw[e2]at h;rw[show z=some v from h]
def PTs(X:Cx)(ifs:List Expr)(t:TT):Prop:=
 ∀(pins:List (Addr×Obj))(s:Shared)(σ:St)(H:Hp)(Q:Bool->Hp->Prop),Inv X pins σ H s->t σ H Q ->
  wpAny (model X.prog X.w) X.A (forIn ifs true fun c r=>if r=true then do let ok <- isTrue c X.env (eval c X.env);pure (ForInStep.yield ok)else pure (ForInStep.yield r)) (TP X pins σ Q) X.xe s
def tYes:TT:=fun _ H Q=>Q true H
theorem y6m:PTs X [] tYes:=fun pins s σ H Q I h=>wpAny_tests_nil ⟨H,I,h⟩
theorem y6n{c:Expr}{t:TT}(h:PT X c t):PTs X [c] t:=fun pins s σ H Q I hq=>wpAny_tests_one (h pins s σ H Q I hq)
def Kp(σ σ':St):Prop:=∀(i:Nat) v,σ[i]?=some (some v)->σ'[i]?=some (some v)
theorem Kp.one:Kp (List.replicate 1 none++σ) (some v::σ):=fun i u h=>by
 cases i with
 |zero=>cases h
 |succ i=>exact h
theorem Kp.two{u:V}:Kp (List.replicate 2 none++σ) (some v::some u::σ):=fun i w h=>by
 match i,h with
 |0,h=>cases h
 |1,h=>cases h
 |i+2,h=>exact h
def tComp(wi:TI)(nl:Nat)(js:List Nat)(g:TG)(tc:TT)(te:TE):TE:=fun σ H Q=>wi σ H fun J H1=>∀D,H1 D=none->∃W:Nat->Nat->Hp->Prop,(∃m,W 0 m (upd H1 D (.lst [])))/\∀i m H2,W i m H2 ->
 (J.stop i H2/\Q (.ref D) H2)\/(J.go i H2/\∀x H3,J.yld i H2 x H3->g x (List.replicate nl none++pj js σ) H3 fun σ4 H4=>Kp (List.replicate nl none++pj js σ) σ4/\tc σ4 H4 fun b H5=>
  if b=true then te σ4 H5 fun y H6=>∃ys,H6 D=some (.lst ys)/\ys.length<sizeLine/\∃m',m'<m/\W (i+1) m' (upd H6 D (.lst (ys++[y])))else ∃m',m'<m/\W (i+1) m' H5)
section
variable{elt target iter:Expr}{scope:Scope}{wi:TI}{g:TG}{tc:TT}
theorem x4p{Nl Nf:List Str}{fp:List Addr}{cl:List (Str×Addr)}{tk:Nat}{mC:Str->Option Value}
  (I:Inv X pins σ H s)(hfp:∀b∈fp,FpOk X pins H b)(hob:∀b∈fp,∃o,s.heap.get? b=some o/\∀v,o.data≠.cell v)
  (hk:scope.kind=.function)(hcell:∀y∈scope.names,y.2≠.cell)(hcl:∀x c,cl.lookup x=some c->X.env.cells.lookup x=some c)(hcf:∀x,(x,NameKind.free)∈scope.names->∃c,cl.lookup x=some c)
  (hj:∀(i j:Nat) y,Nf[i]?=some y->js[i]?=some j->X.N[j]?=some y)(hlen:js.length=Nf.length)
  (hNf:∀y∈Nf,(y,NameKind.free)∈scope.names/\Vis X.env.scope y/\X.env.kindOf y≠some .local)
  (hvis:∀y∈Nf,(relabel scope X.env).names.lookup y=some .cell\/(relabel scope X.env).names.lookup y=some .free)
  (hn:h1.Ns (s.heap.objs.size+1) mC)(hs:Heap.SameBut (s.heap.objs.size+1) ((s.heap.push {cls:=.type "list", dict:=none,data:=.seq ([]:List Value).toArray}).push {cls:=.type "dict", data:=.dict #[]}) h1):
  Inv (X.cp (Nl++Nf) scope cl (s.heap.objs.size+1) {s with heap:=s.heap.push {cls:=.type "list", dict:=none,data:=.seq ([]:List Value).toArray}} (upd H s.heap.objs.size (.lst [])) fp) [] (List.replicate Nl.length none++pj js σ) (upd H s.heap.objs.size (.lst [])) {s with heap:=h1,toks:=tk}:=by
 have fD:H s.heap.objs.size=none:=I.hok.fresh (w0g _);have up1:∀b u,s.heap.get? b=some u->(s.heap.push {cls:=.type "list", dict:=none,data:=.seq ([]:List Value).toArray}).get? b=some u:=fun b u q=>Heap.get?_push_of_some _ q
 have szp:(s.heap.push {cls:=.type "list", dict:=none,data:=.seq ([]:List Value).toArray}).objs.size=s.heap.objs.size+1:=Heap.size_push ..
 have up2:∀b u,(s.heap.push {cls:=.type "list", dict:=none,data:=.seq ([]:List Value).toArray}).get? b=some u->h1.get? b=some u:=fun b u q=>by
  have hlt:=Heap.lt_size q;rw[szp]at hlt;exact(hs.2 b (w0r hlt)).trans (Heap.get?_push_of_some _ q)
 have up:∀b u,s.heap.get? b=some u->h1.get? b=some u:=fun b u q=>up2 b u (up1 b u q)
 have ltOf:∀b o,s.heap.get? b=some o->b≠s.heap.objs.size:=fun b o q=>w0r (Heap.lt_size q)
 have fr0:∀b o,s.heap.get? b=some o->H b=none->upd H s.heap.objs.size (.lst []) b=none:=fun b o q n=>by rw[q0c (ltOf b o q)];exact n
 have hasC:∀x,((relabel scope X.env).names.lookup x=some .cell\/(relabel scope X.env).names.lookup x=some .free)->∃c,cl.lookup x=some c:=fun x hx=>hcf x (q8h hcell hx)
 have hokD:HOk X.prog X.w (upd H s.heap.objs.size (.lst [])) (s.heap.push {cls:=.type "list", dict:=none,data:=.seq ([]:List Value).toArray}):=
  I.hok.laid up1 (w0g _) ⟨w1c _,[],_,.nil,Heap.get?_push_size _ rfl⟩
 have cellK:∀x c,cl.lookup x=some c->∃v,s.heap.IsCell c v:=fun x c e=>I.cell x c (hcl x c e)
 have cellUp:∀c v,s.heap.IsCell c v->h1.IsCell c v:=fun c v ⟨o,q,r⟩=>⟨o,up _ _ q,r⟩
 refine⟨⟨I.ok.mod,hk,I.ok.glob,I.ok.blt,(by show(s.heap.push _).objs.size<=_;rw[szp];exact w0g _),fun x y c e1 e2=>I.ok.inj x y c (hcl x c e1) (hcl y c e2),fun x hx=>hasC x hx,(fun x c z=>nomatch z),I.ok.hd,I.ok.frames,.inl rfl,fun b hb=>⟨?_,fun x c e=>?_⟩,fun b o q=>?_,?_,fun b o q hb=>?_,fun b hb hb2=>?_,?_,fun b hb=>?_,(I.ok.tab.un I.base).laid fD⟩,
  rfl,I.bare,Un.kept up2,⟨mC,hn,fun i y v e1 e2 e3=>?_⟩,fun x c e=>?_,?_,fun x c e=>?_,fun p hp=>(by cases hp),hokD.kept up2,?_⟩
 ·obtain⟨o,q,_⟩:=hob b hb;exact w0r (w2u (Heap.lt_size q))
 ·exact(hfp b hb).2.2.2.2.1 x c (hcl x c e)
 ·obtain⟨q1,q2⟩:=I.bs b o q;exact⟨up1 _ _ q1,fr0 b o q1 q2⟩
 ·show X.base.objs.size<=(s.heap.push _).objs.size;rw[szp];exact Nat.le_succ_of_le (w0m I.ok.bsz I.sz)
 ·rcases(hfp b hb).2.2.2.1 with z|z
  ·exact I.ok.noex b o q z
  ·obtain⟨q1,_⟩:=I.ok.bs b o q;exact absurd (Heap.lt_size q1) (w5f.mpr z)
 ·rcases w0j.mp (I.stkSub b hb2)with z|z
  ·exact(hfp b hb).2.1 z
  ·exact(hfp b hb).2.2.1 z
 ·exact I.stack.of_keeps fun b o q _=>⟨o,up1 _ _ q,rfl⟩
 ·obtain⟨_,o,q,_⟩:=I.stack.mem hb;exact fr0 b o q (I.stkFree b hb)
 ·-- the names
  have e2':(List.replicate Nl.length none++pj js σ)[i]?=some (some v):=e2;have e1':(Nl++Nf)[i]?=some y:=e1
  by_cases hi:i<Nl.length
  ·rw[w1q (by simpa using hi),w1z]at e2';split at e2'<;>cases e2'
  ·have hi':Nl.length<=i:=w5f.mp hi;rw[w1o (by simpa using hi')]at e2';rw[w1o hi']at e1';rw[w3g]at e2';obtain⟨j,ej,eσ⟩:=z0k e2';have hNy:=hj _ _ _ e1' ej;obtain⟨hfr,hv,hnl⟩:=hNf y (w0y e1');obtain⟨m,hm,hl⟩:=I.loc;obtain⟨u,r,l⟩:=hl j y v hNy eσ hv;refine⟨u,r,?_⟩;rcases l with⟨k,_⟩|⟨k,c,ec,z⟩
   ·exact absurd k hnl
   ·obtain⟨c',ec'⟩:=hcf y hfr;have:=hcl y c' ec';rw[ec]at this;cases this;exact .inr ⟨hvis y (w0y e1'),c,ec',cellUp _ _ z⟩
 ·obtain⟨v,z⟩:=cellK x c e;exact⟨v,cellUp _ _ z⟩
 ·show upd H s.heap.objs.size (.lst []) (s.heap.objs.size+1)=none;rw[q0c (w4c _)];exact I.hok.fresh (w3o _)
 ·obtain⟨v,o,q,_⟩:=cellK x c e;exact fr0 c o q (I.freeC x c (hcl x c e))
 ·show(List.replicate Nl.length none++pj js σ).length=(Nl++Nf).length;rw[w0p,w0p,w3g];unfold pj;rw[w0a,hlen]
theorem x9x{σ':St}{s':Shared}{Nc:List Str}{fp:List Addr}{cl:List (Str×Addr)}{h':Heap}
  (I:Inv X pins σ H s)(hfp:∀b∈fp,FpOk X pins H b)
  (J:Inv (X.cp Nc scope cl (s.heap.objs.size+1) {s with heap:=s.heap.push {cls:=.type "list", dict:=none,data:=.seq ([]:List Value).toArray}} (upd H s.heap.objs.size (.lst [])) fp) [] σ' H' s')
  (hs:Heap.SameBut (s.heap.objs.size+1) s'.heap h'):Inv X pins σ H' {s' with heap:=h'}:=by
 have fD:H s.heap.objs.size=none:=I.hok.fresh (w0g _);have up1:∀b u,s.heap.get? b=some u->(s.heap.push {cls:=.type "list", dict:=none,data:=.seq ([]:List Value).toArray}).get? b=some u:=fun b u q=>Heap.get?_push_of_some _ q
 have neC:∀b o,s.heap.get? b=some o->b≠s.heap.objs.size+1:=fun b o q=>w0r (w2u (Heap.lt_size q))
 have fr0:∀b o,s.heap.get? b=some o->H b=none->upd H s.heap.objs.size (.lst []) b=none:=fun b o q n=>by rw[q0c (w0r (Heap.lt_size q))];exact n
 have old:∀b u,H b=some u->upd H s.heap.objs.size (.lst []) b=some u:=fun b u q=>by rw[q0c (q0m q fD)];exact q
 have B:Un (frs X.stack) fp (upd H s.heap.objs.size (.lst [])) H' (s.heap.push {cls:=.type "list", dict:=none,data:=.seq ([]:List Value).toArray}) s'.heap:=J.base;have hC:H' (s.heap.objs.size+1)=none:=J.free;refine I.call' (s':={s' with heap:=h'}) (ch:=fp) (J.os.trans rfl) ⟨fun b o q n hb hx=>?_,fun b o q n hb hx=>?_,fun b o q n hx=>B.free b o (up1 _ _ q) (fr0 b o q n) hx,fun b o q hx=>?_,fun b xs q=>B.tups b xs (old _ _ q),fun b o u q=>B.frzs b o u (old _ _ q),fun b ps q=>B.tbls b ps (old _ _ q)⟩ (fun a o q=>?_) J.bare fun b hb=>?_
 ·exact(hs.2 b (neC b o q)).trans (B.keep b o (up1 _ _ q) (fr0 b o q n) hb hx)
 ·obtain⟨sl,z⟩:=B.slot b o (up1 _ _ q) (fr0 b o q n) hb hx;exact⟨sl,(hs.2 b (neC b o q)).trans z⟩
 ·obtain⟨o',z⟩:=B.there b o (up1 _ _ q) hx;exact⟨o',(hs.2 b (neC b o q)).trans z⟩
 ·refine(J.hok a o q).stay (fun c v hc z=>(hs.2 c ?_).trans z) (fun _ z=>z) fun _ _ _ z=>z
  rintro rfl;rcases hc with rfl|hc
  ·rw[hC]at q;cases q
  ·rw[hC]at hc;cases hc
 ·obtain⟨_,f1,f2,f3,f4,f5⟩:=hfp b hb;exact⟨f3,f1,f4,f5⟩
theorem y6o{Nl Nf:List Str}(hc:X.calm=true)(hi:PI X target iter wi)
  (hk:scope.kind=.function)(hcell:∀y∈scope.names,y.2≠.cell)(hnames:∀x∈scope.names,x.2=.local->scope.names.lookup x.1=some .local)
  (hfree:∀x∈scope.names,x.2=.free->X.env.kindOf x.1=some .cell\/X.env.kindOf x.1=some .free)
  (hj:∀(i j:Nat) y,Nf[i]?=some y->js[i]?=some j->X.N[j]?=some y)(hlen:js.length=Nf.length)
  (hNf:∀y∈Nf,(y,NameKind.free)∈scope.names/\Vis X.env.scope y/\X.env.kindOf y≠some .local)
  (hvis:∀y∈Nf,(relabel scope X.env).names.lookup y=some .cell\/(relabel scope X.env).names.lookup y=some .free)
  (hg:∀cl C s₀ H₀ ex,PG (X.cp (Nl++Nf) scope cl C s₀ H₀ ex) target g)(ht:∀cl C s₀ H₀ ex,PTs (X.cp (Nl++Nf) scope cl C s₀ H₀ ex) ifs tc)(he:∀cl C s₀ H₀ ex,PE (X.cp (Nl++Nf) scope cl C s₀ H₀ ex) elt te)
  (hs:∀x,foldedSetIterable iter X.env x=pure x:=by intro _;rfl):
  PE X (.ListComp elt [⟨target,iter,ifs,0⟩] scope pos) (tComp wi Nl.length js g tc te):=by
 intro pins s σ H Q I h;obtain⟨cl,hclos,hcl,hcf⟩:=q5r (scope:=scope) (env:=X.env) fun x hx hf=>I.ok.has x.1 (hfree x hx hf)
 rw[eval_ListComp];refine wpAny_comprehension_free (use:=none) rfl hs hclos hk hnames (thn (hi pins s σ H _ I h) fun v s1 h1=>thn h1 fun itv s2 h2=>?_)
 obtain⟨it,fp,tn,J,H2,e,I2,T,st2,f2,rd⟩:=h2;subst e;refine wpAny_newObj_type (wpAny_newFunctionEnv hcell (by intro y hy;simp at hy) (fun h₁ hns₁ hsb₁=>?_) hk)
 dsimp only at hns₁ hsb₁ |-
 have szp:(s2.heap.push {cls:=.type "list", dict:=none,data:=.seq ([]:List Value).toArray}).objs.size=s2.heap.objs.size+1:=Heap.size_push ..;rw[szp]at hns₁ hsb₁ |-
 have fD:H2 s2.heap.objs.size=none:=I2.hok.fresh (w0g _);obtain⟨W,⟨m0,w0⟩,turn⟩:=rd s2.heap.objs.size fD;have obj2:=T.obj 0 s2.heap st2;have IS:=x4p (Nl:=Nl) (Nf:=Nf) (js:=js) (cl:=cl) (tk:=s2.toks+([]:List (Str×Value)).length) I2 f2 obj2 hk hcell hcl hcf hj hlen hNf hvis hns₁ hsb₁
 have upS:∀b u,s2.heap.get? b=some u->h₁.get? b=some u:=fun b u q=>by
  have hlt:=Heap.lt_size q;exact(hsb₁.2 b (w0r (w2u hlt))).trans (Heap.get?_push_of_some _ (Heap.get?_push_of_some _ q))
 have stS:tn 0 h₁:=T.keep 0 s2.heap h₁ st2 fun b hb o q=>upS b o q
 have noD:∀b∈fp,upd H2 s2.heap.objs.size (.lst []) b=none:=fun b hb=>by
  obtain⟨o,q,_⟩:=obj2 b hb;rw[q0c (w0r (Heap.lt_size q))];exact(f2 b hb).1
 have stat:∀{H':Hp},(∀b∈fp,H' b=none)->∀b∈fp,FpOk (X.cp (Nl++Nf) scope cl (s2.heap.objs.size+1) {s2 with heap:=s2.heap.push {cls:=.type "list", dict:=none,data:=.seq ([]:List Value).toArray}} (upd H2 s2.heap.objs.size (.lst [])) fp) [] H' b:=fun hn b hb=>by
  refine⟨hn b hb,(IS.ok.exf b hb).1,IS.ok.exfs b hb,.inl hb,(IS.ok.exf b hb).2,fun p hp=>(by cases hp)⟩
 have loop:∀s4:Shared,s4={s2 with heap:=h₁,toks:=s2.toks+([]:List (Str×Value)).length} ->
   codeAny (model X.prog X.w) X.A (.compLoop (.ListComp elt [⟨target,iter,ifs,0⟩] scope pos) 0 (.ref it) (.ref s2.heap.objs.size) (compEnvC scope cl (s2.heap.objs.size+1) X.env))
    (compPost (model X.prog X.w) X.A X.xe none (EP X pins σ Q) (.ref s2.heap.objs.size) (s2.heap.objs.size+1)) s4:=by
  rintro s4 rfl;refine x2x (fun n s'=>∃i H',Inv (X.cp (Nl++Nf) scope cl (s2.heap.objs.size+1) {s2 with heap:=s2.heap.push {cls:=.type "list", dict:=none,data:=.seq ([]:List Value).toArray}} (upd H2 s2.heap.objs.size (.lst [])) fp) [] (List.replicate Nl.length none++pj js σ) H' s'/\tn i s'.heap/\(∀b∈fp,H' b=none)/\W i n H') ?_ m0 ⟨0,_,IS,stS,noD,w0⟩
  rintro n s3 ⟨i,H3,I3,st3,fr3,w3⟩;rcases turn i n H3 w3 with⟨stop,qn⟩|⟨go,step⟩
  ·refine thn (T.done (X.cp (Nl++Nf) scope cl (s2.heap.objs.size+1) {s2 with heap:=s2.heap.push {cls:=.type "list", dict:=none,data:=.seq ([]:List Value).toArray}} (upd H2 s2.heap.objs.size (.lst [])) fp) rfl rfl rfl hc i [] s3 _ H3 _ I3 (stat fr3) st3 stop) fun r s5 ⟨hr,I5⟩=>?_
   subst hr;obtain⟨m5,hn5,_⟩:=I5.loc;refine⟨m5,hn5,fun h' hs'=>⟨.ref s2.heap.objs.size,H3,x9x I2 f2 I5 hs',rfl,qn⟩⟩
  ·refine thn (T.item (X.cp (Nl++Nf) scope cl (s2.heap.objs.size+1) {s2 with heap:=s2.heap.push {cls:=.type "list", dict:=none,data:=.seq ([]:List Value).toArray}} (upd H2 s2.heap.objs.size (.lst [])) fp) rfl rfl rfl hc i [] s3 _ H3 _ I3 (stat fr3) st3 go) fun r s5 ⟨u,hr,h5⟩=>?_
   subst hr;refine thn h5 fun _ s6 ⟨x,H6,I6,r6,y6,st6,fr6⟩=>?_
   have I6':=I6.pinned (stat fr6) (T.obj _ _ st6);refine thn (hg _ _ _ _ _ _ s6 _ H6 x u _ I6' r6 (step x H6 y6)) fun _ s7 ⟨σ7,H7,I7,kp,q7⟩=>?_
   refine thn (ht _ _ _ _ _ _ s7 σ7 H7 _ I7 q7) fun ok s8 ⟨H8,I8,q8⟩=>?_
   have again:∀{σ9:St}{H9:Hp}{s9:Shared},Inv (X.cp (Nl++Nf) scope cl (s2.heap.objs.size+1) {s2 with heap:=s2.heap.push {cls:=.type "list", dict:=none,data:=.seq ([]:List Value).toArray}} (upd H2 s2.heap.objs.size (.lst [])) fp) ([]++pinsAt fp s6.heap) σ9 H9 s9 ->
     Kp (List.replicate Nl.length none++pj js σ) σ9->(∃m',m'<n/\W (i+1) m' H9)->∃m,m<n/\∃i H',Inv (X.cp (Nl++Nf) scope cl (s2.heap.objs.size+1) {s2 with heap:=s2.heap.push {cls:=.type "list", dict:=none,data:=.seq ([]:List Value).toArray}} (upd H2 s2.heap.objs.size (.lst [])) fp) [] (List.replicate Nl.length none++pj js σ) H' s9/\tn i s9.heap/\(∀b∈fp,H' b=none)/\W i m H':=fun {σ9 H9 s9} I9 hw ⟨m',hm,w9⟩=>by
    refine⟨m',hm,i+1,H9,I9.unpinned.weak (by rw[I9.len,<- IS.len]) hw,T.keep _ _ _ st6 fun b hb o q=>(I9.pin (b,o) (w0i _ (w0i _ (q3k hb q)))).1,fun b hb=>?_,w9⟩
    obtain⟨o,q,d⟩:=T.obj _ _ st6 b hb;exact(I9.pin (b,o) (w0i _ (w0i _ (q3k hb q)))).2.1
   cases ok with
   |false=>exact again I8 kp (by simpa using q8)
   |true=>
    have q8':=by simpa only[if_true]using q8
    refine thn (he _ _ _ _ _ _ s8 σ7 H8 _ I8 q8') fun y s9 ⟨yv,H9,I9,r9,ys,hD,hz,q9⟩=>?_
    refine thn (q8e _ s9 σ7 H9 (.ref s2.heap.objs.size) [yv] (.ref s2.heap.objs.size) [y] (fun v H'=>v=.non/\H'=upd H9 s2.heap.objs.size (.lst (ys++[yv]))) I9 rfl (.cons r9 .nil) ⟨_,ys,yv,rfl,rfl,hD,hz,rfl,rfl⟩) fun _ s10 ⟨_,H10,I10,_,_,e10⟩=>?_
    subst e10;exact again I10 kp q9
 exact codeAny_compStart_list (loop _ rfl) (T.self X.A 0 _ _ _ stS (loop _ rfl))
end
theorem q50{env:Env}:∀{names:List (Str×NameKind)}{x:Str},names.lookup x=some .free ->
  (names.map fun(n,k)=>if(k==NameKind.free&&env.scope.kind==.function&&env.kindOf n==some .cell)then(n,NameKind.cell)else(n,k)).lookup x=some .cell \/
  (names.map fun(n,k)=>if(k==NameKind.free&&env.scope.kind==.function&&env.kindOf n==some .cell)then(n,NameKind.cell)else(n,k)).lookup x=some .free
 |[],x,h=>by cases h
 |(n,k)::r,x,h=>by
  have ih:=@q50 env r x;rw[w0n];dsimp only
  by_cases hx:(x==n)=true
  ·simp only[w1b,hx]at h;cases h
   by_cases hq:(NameKind.free==NameKind.free&&env.scope.kind==.function&&env.kindOf n==some .cell)=true
   ·rw[if_pos hq];left;simp[w1b,hx]
   ·rw[if_neg hq];right;simp[w1b,hx]
  ·have hb:(x==n)=false:=w1k.mpr hx;simp only[w1b,hb]at h;have z:=ih h
   by_cases hq:(k==NameKind.free&&env.scope.kind==.function&&env.kindOf n==some .cell)=true
   ·rw[if_pos hq];simpa only[w1b,hb]using z
   ·rw[if_neg hq];simpa only[w1b,hb]using z
def compOk(sc scope:Scope)(N Nf:List Str)(js:List Nat):Bool:=
 scope.kind==.function&&scope.names.all (fun y=>y.2 != .cell)&&scope.names.all (fun y=>y.2 != .local||scope.names.lookup y.1==some .local) &&
 scope.names.all (fun y=>y.2 != .free||sc.names.lookup y.1==some .cell||sc.names.lookup y.1==some .free)&&js.length==Nf.length &&
 (List.range js.length).all (fun i=>match js[i]?,Nf[i]? with|some j,some y=>N[j]?==some y|_,_=>true) &&
 Nf.all (fun y=>scope.names.lookup y==some .free&&(sc.names.lookup y==some .cell||sc.names.lookup y==some .free))
theorem q95{elt target iter:Expr}{scope sc:Scope}{wi:TI}{g:TG}{tc:TT}{Nl Nf:List Str}(hc:X.calm=true)(hi:PI X target iter wi)
  (ok:compOk sc scope N Nf js=true)
  (hg:∀cl C s₀ H₀ ex,PG (X.cp (Nl++Nf) scope cl C s₀ H₀ ex) target g)(ht:∀cl C s₀ H₀ ex,PTs (X.cp (Nl++Nf) scope cl C s₀ H₀ ex) ifs tc)(he:∀cl C s₀ H₀ ex,PE (X.cp (Nl++Nf) scope cl C s₀ H₀ ex) elt te)
  (hsc:X.env.scope=sc:=by rfl)(hN:X.N=N:=by rfl)(hs:∀x,foldedSetIterable iter X.env x=pure x:=by intro _;rfl):
  PE X (.ListComp elt [⟨target,iter,ifs,0⟩] scope pos) (tComp wi Nl.length js g tc te):=by
 unfold compOk at ok;simp only[w0o,w0z,beq_iff_eq,bne_iff_ne,w4h,w0x]at ok;obtain⟨⟨⟨⟨⟨⟨k1,k2⟩,k3⟩,k4⟩,k5⟩,k6⟩,k7⟩:=ok;have kind:∀x,X.env.kindOf x=sc.names.lookup x:=fun x=>by rw[<- hsc];rfl
 refine y6o hc hi k1 k2 (fun x hx hl=>(k3 x hx).resolve_left fun z=>z hl) (fun x hx hf=>?_) (fun i j y e1 e2=>?_) k5 (fun y hy=>?_) (fun y hy=>?_) hg ht he hs
 ·rw[kind];rcases k4 x hx with(z|z)|z
  ·exact absurd hf z
  ·exact .inl z
  ·exact .inr z
 ·have hlt:i<js.length:=(w0c.mp e2).1;have z:=k6 i hlt;rw[e1,e2]at z;rw[hN]
  simpa using z
 ·obtain⟨z1,z2⟩:=k7 y hy;refine⟨PySem.mem_of_lookup z1,?_,?_⟩
  ·rw[hsc];rcases z2 with z|z
   ·exact .inr (.inl z)
   ·exact .inr (.inr z)
  ·rw[kind];rcases z2 with z|z<;>(rw[z];decide)
 ·exact q50 (k7 y hy).1
abbrev TF:=Str->St->Hp->(Str->Hp->Prop)->Prop
def PF(X:Cx)(es:List Expr)(t:TF):Prop:=∀(acc:Str)(pins:List (Addr×Obj))(s:Shared)(σ:St)(H:Hp)(Q:Str->Hp->Prop),Inv X pins σ H s->t acc σ H Q ->
 Joins (model X.prog X.w) X.A X.xe (evalEach es X.env) acc (fun out s'=>out.length<=sizeLine/\∃H',Inv X pins σ H' s'/\Q out H') s
theorem y26(hc:X.calm=true):CallR X (.builtin "all") (fun xs H Q=>∃p ys,xs=[.ref p]/\SqL X.K H p ys/\(∀y∈ys,∃b,y=.bl b)/\Q (.bl (ys.all fun y=>decide (y=.bl true))) H):=by
 intro pins s σ H xs us Q I r h;obtain⟨p,ys,rfl,hq,hb,q⟩:=h;obtain⟨u,rfl,rx⟩:=vals1 r;cases rx;obtain⟨its,r',pl,hz⟩:=I.list hq;have hl:=pl.isList;have hlt:p<s.heap.objs.size:=by obtain⟨_,e,_⟩:=hl;exact Heap.lt_size e
 have hh:X.A.in1.handled=none:=I.ok.hd hc;refine call_all_walk (wpAny_pyIter_list hl ⟨s.heap.objs.size,[s.heap.objs.size,p],[s.heap.objs.size],_,_,_,fun i=>decide (ys[i]?=some (.bl true)),rfl,Walks.list hh s.heap.objs.size p (w0r hlt) its.toArray,⟨⟨_,Heap.get?_push_size _ rfl,rfl,rfl⟩,hl.push _⟩,?_,fun h' tk kp=>?_⟩)
 ·intro i v s1 Q1 E1 hv hQ;have hv':its[i]?=some v:=by simpa using hv
  have hi:i<ys.length:=by rw[r'.length];exact(w0c.mp hv').1
  obtain⟨u,hu,ru⟩:=r'.get (w0b hi);rw[hv']at hu;cases hu;obtain⟨b,eb⟩:=hb ys[i] (w1w hi);rw[eb]at ru;cases ru;refine wpAny_truthy_bool ?_
  have e:decide (ys[i]?=some (V.bl true))=b:=by
   rw[w0b hi,eb];cases b<;>simp
  rw[<- e];exact hQ
 ·have e:(List.range its.toArray.size).all (fun i=>decide (ys[i]?=some (V.bl true)))=ys.all fun y=>decide (y=.bl true):=by
   rw[w1i,w0z,w0z];constructor
   ·intro hA y hy;obtain⟨i,hi,rfl⟩:=w4s hy;have z:=hA i (by rw[w0x,w0d,<- r'.length];exact hi);rw[w0b hi]at z
    simpa using z
   ·intro hA i hi;rw[w0x,w0d,<- r'.length]at hi;have z:=hA ys[i] (w1w hi);rw[w0b hi]
    simpa using z
  refine⟨.bl _,H,I.kept (t':=tk) fun b o hbo=>kp b o (fun z=>?_) (Heap.get?_push_of_some _ hbo),rfl,e ▸ q⟩
  rw[w1g]at z;exact absurd (Heap.lt_size hbo) (by rw[z];exact w2f _)
namespace RevT
variable{I c f:Addr}{A:Around}{X:Cx}{e:Expr}{h:Heap}{H H':Hp}{EE:L2.St->XK}{es:List Expr}{ps:List Str}{k:Nat}{P prog:Program}{K:Fg}{s:Shared}{x:Str}{t:TA}{E:Value->Shared->Prop}{w:World}
theorem nolen:typeLookup (.type "list_reverseiterator") "__len__"=pure none:=by rw[typeLookup_type,builtinLookup_eq_fast];kernel_rfl
theorem hint:typeLookup (.type "list_reverseiterator") "__length_hint__"=pure (some (.builtin "list_reverseiterator.__length_hint__")):=by rw[typeLookup_type,builtinLookup_eq_fast];kernel_rfl
section
variable{fp wr:List Addr}{G:Array GenState->Array GenState->Prop}{n:Nat}{P:Nat->Value->Prop}{St:Nat->Shared->Prop}
theorem x6k{Q:List Value->Shared->Prop}(W:WalksS prog w A.in1 I fp wr G n P St)(hT:∀i s,St i s->s.TypeIs (.ref I) "list_reverseiterator")(hst:St 0 s)(hfp:∀b∈fp,b<s.heap.objs.size)(hI:I∈fp)
  (hQ:∀s' acc,Moved wr G s s'->ItemsOf P acc n->Q acc.toList s')(hn:n<=sizeLine):wpAny (model prog w) A (collect (.ref I)) Q E s:=by
 have hSf:s.heap.objs.size∉fp:=fun hm=>w2f _ (hfp _ hm)
 have hSI:s.heap.objs.size≠I:=fun e=>hSf (e ▸ hI)
 unfold collect;refine wpAny_bind (wpAny_runValue (codeAny_builtin F.entry_proto_collect ?_));rw[Around.under_plainId F.plain_proto_collect _];show wpAny _ A.in1 (newList [] >>= fun l=>again (.builtin "list.__iadd__" ⟨[l,.ref I],[]⟩)) _ _ s
 refine wpAny_bind (wpAny_newObj_type ?_);refine wpAny_pure ⟨plainId_quiet F.plain_list_iadd _,codeAny_builtin F.entry_list_iadd ?_⟩;rw[Around.under_plainId F.plain_list_iadd _];have hst1:=W.frame 0 s (s.heap.push {cls:=.type "list", data:=.seq ([]:List Value).toArray}) s.toks hst (w0g _) fun b _ o e=>Heap.get?_push_of_some _ e
 have hS1:(s.heap.push {cls:=.type "list", data:=.seq ([]:List Value).toArray}).get? s.heap.objs.size=some {cls:=.type "list", data:=.seq ([]:List Value).toArray}:=Heap.get?_push_size _ rfl;have h1:Builtin.List.listSameRef (.ref s.heap.objs.size) (.ref I)=false:=by simp[Builtin.List.listSameRef,hSI]
 show wpAny _ A.in1 (Builtin.List.listExtendWith (.ref s.heap.objs.size) (.ref I) (.ref s.heap.objs.size)) _ _ _;unfold Builtin.List.listExtendWith;refine wpAny_bind (wpAny_typeOf (hT 0 _ hst1) ?_);rw[if_neg (by rw[h1];decide)];refine wpAny_bind (W.self 0 _ _ _ hst1 ?_);refine wpAny_bind (wpAny_holding ?_);unfold Builtin.List.listLengthHint;refine wpAny_bind (wpAny_specialOf (hT 0 _ hst1) nolen ?_);show wpAny _ A.in1 (specialOf (Value.ref I) (Str.ofString "__length_hint__") >>= _) _ _ _;refine wpAny_bind (wpAny_specialOf (hT 0 _ hst1) hint ?_)
 (generalize hid:("list_reverseiterator.__length_hint__":String)=id0;(fail_if_success (clear hid id0));wp_delta;rw[show splitId id0=some ("list_reverseiterator", "__length_hint__")from by subst hid;decide +kernel];subst hid)
 refine wpAny_bind (wpAny_isInstance (b:=true) (hT 0 _ hst1) (by rw[isSubtype_type];kernel_rfl) ?_);refine wpAny_pure ?_;rw[if_neg (by decide)];refine wpAny_pure ⟨plainId_quiet F.plain_extend_loop _,codeAny_extend_loopS W hn _ hSf _ n 0 _ _ _ rfl (w1c _) hst1 hS1 (ItemsOf.nil P) fun s' acc' c' hm hS' hacc=>?_⟩
 show wpAny _ A (load s.heap.objs.size >>= _) _ _ s';refine wpAny_bind (wpAny_load hS' ?_);exact wpAny_pure (hQ s' acc' (Moved.drop_new (o:={cls:=.type "list", data:=.seq ([]:List Value).toArray}) (tk:=s.toks) hm (w0g _)) hacc)
end
open AutoSeq1 (wpAny_loadPart')
theorem x8o{l:Addr}{items:Array Value}{Q:List Value->Shared->Prop}(hh:A.handled=none)(hne:l≠I)(hit:s.heap.IsRevIter I l ((items.size:Int)-1))(hl:s.heap.IsList l items)(hsz:items.size<=sizeLine)
  (hQ:∀s' acc,Moved [I] (fun a b=>b=a) s s'->ItemsOf (fun i v=>items[items.size-1-i]?=some v) acc items.size->Q acc.toList s'):wpAny (model prog w) A (collect (.ref I)) Q E s:=by
 have hlt:∀b∈[I,l],b<s.heap.objs.size:=fun b hb=>by
  rcases w0j.mp hb with z|z
  ·rw[z];obtain⟨_,e,_⟩:=hit;exact Heap.lt_size e
  ·rw[w1g.mp z];obtain⟨_,e,_⟩:=hl;exact Heap.lt_size e
 exact x6k (Walks.listRev (A:=A.in1) hh I l hne items).toS (fun _ _ st=>st.2.1.typeIs) ⟨w1c _,by simpa using hit,hl⟩ hlt w0h hQ hsz
theorem x3x(I l:Addr)(items:Array Value)(hne:l≠I)(hsz:items.size<=sizeLine):
  Meets (Builtin.«tuple.__new__» ⟨[.type "tuple", .ref I],[]⟩)
   (fun A R s=>A.handled=none/\s.heap.IsRevIter I l ((items.size:Int)-1)/\s.heap.IsList l items/\∀(s':Shared)(acc:Array Value),Moved [I] (fun a b=>b=a) s s'->ItemsOf (fun i v=>items[items.size-1-i]?=some v) acc items.size ->
    R (.ok (.ret (.ref s'.heap.objs.size))) {s' with heap:=s'.heap.push {cls:=.type "tuple", data:=.seq acc}}):=
 .of_wp fun prog w A R s h=>by
  obtain⟨hh,hit,hl,h⟩:=h;have hsub:=sub_tuple_self;have hinit:=init_tuple_lookup;have hmh:=madeHere_tuple;have hT:s.TypeIs (.ref I) "list_reverseiterator":=hit.typeIs;have hh1:A.in1.handled=none:=hh
  wp_walk using wpAny_typeOf hT,x8o hh1 hne hit hl hsz
  intro s' acc hm hacc;show wpAny _ _ (Builtin.Tuple.tupleExact acc.toList.toArray >>= fun v=>ret v) _ _ _
  unfold Builtin.Tuple.tupleExact;refine wpAny_bind (wpAny_newObj_type ?_ (show acc.toList.toArray.size<=sizeLine by simp only[w4n];rw[hacc.1];exact hsz));refine wpAny_pure ⟨_,rfl,?_⟩;have e:acc.toList.toArray=acc:=by simp
  rw[e];exact h s' acc hm hacc
theorem call_rev{l:Addr}{items:Array Value}{Q:Value->Shared->Prop}(hh:A.handled=none)(hne:l≠I)(hit:s.heap.IsRevIter I l ((items.size:Int)-1))(hl:s.heap.IsList l items)(hsz:items.size<=sizeLine)
  (h:∀(h':Heap)(tk:Nat)(acc:Array Value),(∀b o,b≠I->s.heap.get? b=some o->h'.get? b=some o)->ItemsOf (fun i v=>items[items.size-1-i]?=some v) acc items.size->Q (.ref h'.objs.size) {s with heap:=h'.push {cls:=.type "tuple", data:=.seq acc},toks:=tk}):
  wpAny (model prog w) A (call (.type "tuple") [.ref I]) Q E s:=by
 refine callType_new F.called_tuple (by decide) (F.typeCall_tuple_1 _) (F.newCall_tuple_1 _) (fun obj=>F.args_object_init_2 obj _) F.entry_tuple_new
  (x3x I l items hne hsz) ⟨hh,hit,hl,fun s' acc hm hacc=>⟨⟨_,Heap.get?_push_size _ rfl,rfl⟩,?_⟩⟩
 rw[Moved.eq_with hm];exact h s'.heap s'.toks acc (fun b o hb e=>hm.heap b o (fun z=>hb (w1g.mp z)) e) hacc
end RevT
def tTupRev(K:Fg)(te:TE):TE:=fun σ H Q=>te σ H fun x H1=>∃p ys,x=.ref p/\SqL K H1 p ys/\∀l,H1 l=none->Q (.ref l) (upd H1 l (.tup ys.reverse))
theorem x9y{te:TE}{p1 p2 pos1 pos2:Pos}(hc:X.calm=true)(hm1:X.mg "tuple"=none)(hm2:X.mg "reversed"=none)(he:PE X e te)(hg1:Gl X "tuple":=by rfl)(hg2:Gl X "reversed":=by rfl)
  (hs1:starEach [.Call (.Name "reversed" p2) [e] [] pos2] X.env=(false,eval (.Call (.Name "reversed" p2) [e] [] pos2) X.env)::starEach [] X.env:=by rfl)(hs2:starEach [e] X.env=(false,eval e X.env)::starEach [] X.env:=by rfl):
  PE X (.Call (.Name "tuple" p1) [.Call (.Name "reversed" p2) [e] [] pos2] [] pos1) (tTupRev X.K te):=by
 intro pins s σ H Q I h;refine wpAny_Call_Name_kw (q4f I hg1 hm1 PyProof.Rows.Boot.«tuple» ?_ (by decide));refine PyProof.Rows.callWith_type1 ?_ hs1 rfl;rw[hs1];show wpAny _ _ (spliced ((false,eval (.Call (.Name "reversed" p2) [e] [] pos2) X.env)::backTo pos1 (starEach [] X.env))) _ _ s;refine Calls.spliced_cons ?_;refine wpAny_Call_Name_kw (q4f I hg2 hm2 PyProof.Rows.Boot.«reversed» ?_ (by decide));refine PyProof.Rows.callWith_type1 ?_ hs2 rfl;rw[hs2];show wpAny _ _ (spliced ((false,eval e X.env)::backTo pos2 (starEach [] X.env))) _ _ s;refine Calls.spliced_cons (thn (he pins s σ H _ I h) fun v s1 ⟨x,H1,I1,rx,p,ys,ex,hq,q⟩=>Calls.spliced_nil ?_)
 subst ex;cases rx;obtain⟨its,r',pl,hz⟩:=I1.list hq;have hl:=pl.isList;have hlt:p<s1.heap.objs.size:=by obtain⟨_,e,_⟩:=hl;exact Heap.lt_size e
 refine call_reversed_list hl ?_;refine Calls.spliced_nil ?_;have hh:X.A.handled=none:=I1.ok.hd hc;refine RevT.call_rev (items:=its.toArray) hh (w0r hlt) ⟨_,Heap.get?_push_size _ rfl,rfl,rfl⟩ (hl.push _) (by simp only[w0d];rw[<- r'.length];exact hz) fun h' tk acc kp hacc=>?_
 have up:∀b o,s1.heap.get? b=some o->h'.get? b=some o:=fun b o hbo=>kp b o (w0r (Heap.lt_size hbo)) (Heap.get?_push_of_some _ hbo)
 have I2:Inv X pins σ H1 {s1 with heap:=h',toks:=tk}:=I1.kept (t':=tk) up
 have ea:acc=its.reverse.toArray:=by
  obtain⟨n1,n2⟩:=hacc;apply Array.ext';apply w3e;intro i
  by_cases hi:i<its.length
  ·have hi':i<acc.size:=by rw[n1];simpa using hi
   have z:=n2 i acc[i] (by simp[hi']);simp only[w0d,List.getElem?_toArray]at z;rw[w4i hi,z];simp[hi']
  ·rw[w1m (by simp at n1 |-;omega),w1m (by simp;omega)]
 subst ea
 have I3:Inv X pins σ (upd H1 h'.objs.size (.tup ys.reverse)) {s1 with heap:=h'.push {cls:=.type "tuple", data:=.seq its.reverse.toArray},toks:=tk}:=
  I2.laid (t':=tk) (fun b o e=>Heap.get?_push_of_some _ e) (w0g _) (show ObjOk X.prog X.w _ _ _ (.tup ys.reverse)from⟨by rw[w3p];exact hz,its.reverse,r'.reverse,IsTup.new _ _,_,Heap.get?_push_size _ rfl,rfl⟩)
 exact⟨.ref h'.objs.size,_,I3,rfl,q _ (I2.hok.fresh (w0g _))⟩
open PySem PySem.Spec PyProof.Rows
structure ExcCls(K:Fg)(D:Addr):Prop where
 ga:findIn K (.ref D) "__getattribute__"=some (some (.builtin "BaseException.__getattribute__"))
 gt:findIn K (.ref D) "__getattr__"=some none
 cl:findIn K (.ref D) "__class__"=some (some (.builtin "object.__class__"))
 gs:specialIn K (.builtin "object.__class__") "__get__"=some (some (.builtin "getset_descriptor.__get__"))
 tk:takesIn K (.builtin "object.__class__")=some true
 mo:PySem.W.mroIn K D (.type "object")=some true
 mb:PySem.W.mroIn K D (.type "BaseException")=some true
 cd:(PySem.W.clsIn K D).isSome=true
def excClsIn(K:Fg)(D:Addr):Bool:=
 findIn K (.ref D) "__getattribute__"==some (some (.builtin "BaseException.__getattribute__"))&&findIn K (.ref D) "__getattr__"==some none &&
 findIn K (.ref D) "__class__"==some (some (.builtin "object.__class__"))&&specialIn K (.builtin "object.__class__") "__get__"==some (some (.builtin "getset_descriptor.__get__")) &&
 takesIn K (.builtin "object.__class__")==some true&&PySem.W.mroIn K D (.type "object")==some true&&PySem.W.mroIn K D (.type "BaseException")==some true&&(PySem.W.clsIn K D).isSome
theorem ExcCls.of{D:Addr}(h:excClsIn K D=true):ExcCls K D:=by
 unfold excClsIn at h;simp only[w0o,beq_iff_eq]at h;obtain⟨⟨⟨⟨⟨⟨⟨h1,h2⟩,h3⟩,h4⟩,h5⟩,h6⟩,h7⟩,h8⟩:=h;exact⟨h1,h2,h3,h4,h5,h6,h7,h8⟩
def ExcAt(e D:Addr)(h:Heap):Prop:=∃o vs,h.get? e=some o/\o.cls=.ref D/\o.data=.fields vs
section
variable{e D:Addr}
open PySem.W Builtin Builtin.ObjectAttr Builtin.Getset_descriptor
theorem x0t{M:Model}(p:ExcAt e D h):Looks M h (typeOf (.ref e)) (.ref D):=by
 obtain⟨o,vs,h1,h2,h3⟩:=p;exact h2 ▸ (Looks.ld h1).andThen .now
theorem y27{M:Model}(X:K.In h)(C:ExcCls K D):Looks M h (find (.ref e) (.ref D) "__class__") (.bind (.builtin "getset_descriptor.__get__") (.builtin "object.__class__")):=by
 have L1:=looks_findIn (M:=M) X C.cl;have L2:Looks M h (getOf (some (.builtin "object.__class__"))) (some (.builtin "getset_descriptor.__get__")):=looks_specialIn X C.gs;have L3:=looks_takesIn (M:=M) X C.tk;refine L1.andThen (L2.andThen ?_);exact(show Looks M h (dataDescriptor? (some (.builtin "object.__class__")) (some (.builtin "getset_descriptor.__get__"))) (some (.builtin "getset_descriptor.__get__", .builtin "object.__class__"))from L3.andThen .now).andThen (Looks.tag .now)
theorem y6p{tp:Value}{R:Result->Shared->Prop}(X:K.In s.heap)(p:ExcAt e D s.heap)(hm:mroIn K D (.type "object")=some true)
  (h:R (.ok (.ret (.ref D))) s):codeAny (model prog w) A (.call (.builtin "getset_descriptor.__get__") ⟨[.builtin "object.__class__", .ref e,tp],[]⟩) R s:=by
 obtain⟨hh,g,dr,t,os⟩:=s;have L0:=x0t (M:=model prog w) p;have L1:=looks_mroIn (M:=model prog w) X hm;refine codeAny_call_builtin KF.slot_gs.plain KF.entry_gs (KF.slot_gs.check _ _ _ _ _ _ _ _ KF.type_class (KF.args_gs _ _ _) ?_);unfold Builtin.«getset_descriptor.__get__» descrGet;rw[dga_obj];refine wpAny_bind (wpAny_pure ?_);unfold descrGetter descrCheckInstance descrNameAndClass isInstance;simp only[KF.owner_class]
 repeat lk
 refine⟨Code.quiet_builtin _ (by decide +kernel),codeAny_builtin KF.entry_class ?_⟩;unfold Builtin.«object.__class__» shownTypeOf
 repeat lk
 exact h
theorem x9z{M:Model}{nameV:Value}{Q:Unit->Shared->Prop}{g:Array GenState}{d:Drawn}{t:Nat}{os:OsState}(X:K.In h)(p:ExcAt e D h)(hm:mroIn K D (.type "BaseException")=some true)(hq:Q () ⟨h,g,d,t,os⟩):
  wpAny M A (checkBuiltinCall "BaseException.__getattribute__" ⟨[.ref e,nameV],[]⟩) Q E ⟨h,g,d,t,os⟩:=by
 have hk:builtinKind "BaseException.__getattribute__"=some .slot:=by decide +kernel
 have hsplit:splitId "BaseException.__getattribute__"=some ("BaseException", "__getattribute__"):=by decide +kernel
 have L0:=x0t (M:=M) p;have L1:=looks_mroIn (M:=M) X hm;have LI:Looks M h (isInstance (.ref e) (.type "BaseException")) true:=L0.andThen L1;have ha:=PySem.F.args_bexc_ga (.ref e) nameV;simp only[checkBuiltinCall,hk,hsplit];refine wpAny_bind (LI.at ?_);rw[if_neg (by decide)];unfold argsOk at ha;split
 ·rename_i sig hs;rw[hs]at ha;exact wpAny_of_eq ha hq
 ·exact wpAny_pure hq
theorem x90{Q:Option Value->Shared->Prop}(X:K.In s.heap)(p:ExcAt e D s.heap)(C:ExcCls K D)(h:Q (some (.ref D)) {s with toks:=s.toks+1}):wpAny (model prog w) A (getAttr? (.ref e) "__class__") Q E s:=by
 obtain⟨hh,g,d,t,os⟩:=s;have L0:=x0t (M:=model prog w) p;have L1:=looks_findIn (M:=model prog w) X C.ga;have L2:=looks_findIn (M:=model prog w) X C.gt;have L3:=y27 (M:=model prog w) (e:=e) X C;unfold getAttr? getAttrBy? getAttrBy;refine wpAny_bind (wpAny_mkText (wpAny_bind (wpAny_attempt (wpAny_holding (wpAny_bind (L0.at (wpAny_bind (L1.at ?_))))))));have hx2:(Value.builtin "BaseException.__getattribute__"==Value.builtin "object.__getattribute__")=false:=by decide +kernel
 have hx1:(onTheHeap (Value.ref D)&&Value.builtin "BaseException.__getattribute__"==Value.builtin "object.__getattribute__")=false:=by rw[hx2];rfl
 dsimp only;rw[if_neg (by rw[hx1];decide)];unfold getAttrByItsOwn hookBefore;rw[if_pos (by rfl)];refine wpAny_bind (L2.at ?_);refine wpAny_bind (wpAny_attempt (wpAny_holding ?_));unfold callGetattribute;rw[if_neg (by decide)];unfold boundAndCalled;have f3:=PySem.F.excAttr_ValueError.ga.bind (.ref e);refine wpAny_bind (wpAny_of_eq f3 ?_);refine wpAny_call (codeAny_call_builtin PySem.F.excAttr_ValueError.ga.plain F.entry_bexc_ga (x9z (K:=K) (D:=D) X p C.mb ?_));unfold Builtin.«object.__getattribute__»;refine wpAny_bind (wpAny_of_eq (a:=(Value.ref e,[Value.str (Str.ofString "__class__") t])) (by rfl) ?_);dsimp only;refine wpAny_bind (wpAny_of_eq (a:=Str.ofString "__class__") (by rfl) ?_);refine wpAny_bind (L0.at (wpAny_bind (L3.at ?_)));dsimp only;unfold bindTo;refine wpAny_bind (wpAny_holding (wpAny_call (y6p (K:=K) (D:=D) X p C.mo ?_)));dsimp only;refine wpAny_pure ?_;dsimp only;refine wpAny_of_eq (a:=Value.ref D) (by rfl) ?_;exact wpAny_pure h
theorem y28(C:ExcCls K D):KitX K (.ref e) (.ref D) (ExcAt e D) where
 ty:=fun _ _ _ p=>x0t p
 it:=fun M h X p=>by
  have hcD:=C.cd;unfold clsIn at hcD;split at hcD
  ·rename_i c' d' cd' sl' ho;intro A' Q' E' s' k q;unfold isType loadHead;exact wpAny_bind (wpAny_loadPart (k _ _ (X _ _ ho)) (wpAny_pure q))
  ·cases hcD
 ne:=fun h tp dd its n sl X htp=>by
  refine w1k.mpr fun q=>?_
  have e1:D=tp:=Value.ref.inj (beq_iff_eq.mp q);subst e1;have hcD:=C.cd;unfold clsIn at hcD;split at hcD
  ·rename_i c' d' cd' sl' ho;have z:=(X _ _ ho).symm.trans htp;cases z
  ·cases hcD
 ca:=fun X p k=>x90 X p C k
end
def ClsV:V->Value->Prop
 |.ty n,c=>c=.type n
 |.ref a,c=>c=.ref a
 |_,_=>False
structure Cal(P:Program)(w:World)(K:Fg)(mg:Str->Option Value)(base:Heap)(k:Nat)(x:Str)(ps:List Str)(sp:Sp):Prop where
 ex:∃f fd,FnOk P w K mg base (CX1 P w) k f fd ps sp/\mg x=some (.ref f)/\keepIn K (.ref f)=true/\Binds K fd ps []
structure CalH(P:Program)(w:World)(K:Fg)(mg:Str->Option Value)(base:Heap)(k:Nat)(x:Str)(ps:List Str)(sp:Sp):Prop where
 ex:∃f fd,FnOkH P w K mg base k f fd ps sp/\mg x=some (.ref f)/\keepIn K (.ref f)=true/\Binds K fd ps []
structure At(K:Fg)(mg:Str->Option Value)(x:Str)(st:Stmt)(ps:List Str):Prop where
 ex:∃f fd,Fun K x x st f fd/\mg x=some (.ref f)/\Binds K fd ps []
section
variable{mg:Str->Option Value}{base:Heap}
theorem At.cal{st:Stmt}{N:List Str}{sp:Sp}(F:At K mg x st ps)(S:FnScope N ps (defScope st))(len:∀vs H Q E,sp vs H Q E->vs.length=ps.length)
  (hbody:∀(f:Addr)(cdv:Value)(A:Around)(outer:List Env)(s:Shared)(H:Hp)(vs:List V)(Q:VK)(E:XK),Room k (A.deeper (envOfC x (defScope st) s.heap.objs.size f cdv))->sp vs H Q E ->
   ∃t,PSs (cxOf (CX1 P w) P w K mg base N x (defScope st) f cdv A outer s H E) (defBody st) t/\t {nx:=fun _ H'=>Q .non H',rt:=Q} (start N vs) H):Cal P w K mg base (k+1) x ps sp:=by
 obtain⟨f,fd,F,m,b⟩:=F.ex;exact⟨f,fd,F.okX S len (hbody f),m,F.kp,b⟩
end
section
variable{sp:Sp}{p pos:Pos}
theorem x91(C:Cal X.prog X.w X.K X.mg X.base k x ps sp)(hr:Room k X.A)(hx:PassX (CX1 X.prog X.w) X EE)(ha:PA X (e::es) t)(hg:Gl X x:=by rfl)
  (hdb:(x==("__debug__":Str))=false:=by decide)(he:starEach (e::es) X.env=(false,eval e X.env)::starEach es X.env:=by rfl)(hpl:(backTo pos (starEach es X.env)).any (·.1)=false:=by rfl):
  PE X (.Call (.Name x p) (e::es) [] pos) (tCallX sp [] EE t):=by
 obtain⟨f,fd,F,m,kp,b⟩:=C.ex;exact y24 F hr hg m kp b .nil hx ha hdb he hpl
end
section
variable{te:TE}{pos pos' p:Pos}
theorem x8p(i:Nat)(hN:X.N.Nodup)(he:PE X e te)(hi:X.N[i]?=some x:=by rfl)(hx:Loc X.env.scope x:=by walk_at "3")(hs:swapsWith e (some (.Name x pos')) pos.line X.env=pure false:=by rfl)(hf:X.fn x=true\/X.env.scope.names.lookup x=some .local:=by walk_at "2"):
  PS X (.Assign [.Name x pos'] e pos) (tAsg te (gName i)):=y97 hN hi hx he hs hf
theorem q1e(i:Nat)(hN:X.N.Nodup)(hi:X.N[i]?=some x:=by rfl)(hx:Loc X.env.scope x:=by walk_at "3")(hf:X.fn x=true\/X.env.scope.names.lookup x=some .local:=by walk_at "2"):PG X (.Name x pos) (gName i):=y6b hN hi hx hf
theorem x92{o:Expr}{to:TE}{apos:Pos}(ho:PE X o to)(ha:PA X (e::es) t)(hbase:attributeBase o "append" X.env (eval o X.env)=eval o X.env:=by rfl)
  (hfew:((backTo pos (starEach (e::es) X.env)).all (fun x=>!x.1)&&(backToKw pos (keywordEach [] X.env)).all (fun x=>x.1.isSome)&&decide ((e::es).length+([]:List Keyword).length+(if([]:List Keyword).isEmpty then 0 else 1)<30))=true:=by rfl)
  (hline:(apos.endLine==pos.line)=true:=by rfl)(hs:starEach (e::es) X.env=(false,eval e X.env)::starEach es X.env:=by rfl)(hplain:(backTo pos (starEach es X.env)).any (·.1)=false:=by rfl):
  PE X (.Call (.Attribute o "append" apos) (e::es) [] pos) (tBM X.K "list" rAppend to t):=x8n PySem.F.plainAttrs_list PySem.F.slot_list_append PySem.F.type_list_append q8e ho ha hbase hfew hline hs hplain
end
theorem q4q{p:Addr}(h:H p=none)(o:HO):Same H (upd H p o):=fun b u q=>by rw[q0c (q0m q h)];exact q
theorem Same.tup{a:Addr}{xs:List V}(e:Same H H')(h:SqT K H a xs):SqT K H' a xs:=by
 rcases h with(h|⟨o,h⟩)|h
 ·exact .inl (.inl (e _ _ h))
 ·exact .inl (.inr ⟨o,e _ _ h⟩)
 ·exact .inr h
noncomputable abbrev rawO(o:Obj):HO:=.frz o (.own 0)
noncomputable abbrev fnO(o:Obj)(q:Str)(c:Addr):HO:=.frz o (.tbl #[.bool false,.str q 0,.ref c])
noncomputable abbrev celO(o:Obj):HO:=.frz o (.ext fun _=>True)
noncomputable abbrev Cs:=List (Addr×Obj)
variable{cs:Cs}
def rmC(H:Hp)(cs:Cs):Hp:=fun b=>match cs.lookup b with
 |some _=>none
 |none=>H b
def addC(H:Hp)(cs:Cs):Hp:=fun b=>match cs.lookup b with
 |some o=>some (celO o)
 |none=>H b
section
variable{b:Addr}{o:Obj}{u:HO}
theorem q51(h:cs.lookup b=some o):rmC H cs b=none:=by unfold rmC;rw[h]
theorem q15(h:cs.lookup b=none):rmC H cs b=H b:=by unfold rmC;rw[h]
theorem q38(h:cs.lookup b=some o):addC H cs b=some (celO o):=by unfold addC;rw[h]
theorem q0z(h:cs.lookup b=none):addC H cs b=H b:=by unfold addC;rw[h]
theorem q52(h:H b=none):rmC H cs b=none:=by unfold rmC;split<;>first|rfl|exact h
def CelsIn(H:Hp)(cs:Cs):Prop:=∀b o,cs.lookup b=some o->H b=some (celO o)
theorem CelsIn.out(c:CelsIn H cs)(h:H b=none):cs.lookup b=none:=by
 cases q:cs.lookup b with
 |none=>rfl
 |some o=>rw[c b o q]at h;cases h
theorem CelsIn.out'(c:CelsIn H cs)(h:H b=some u)(n:∀o,u≠celO o):cs.lookup b=none:=by
 cases q:cs.lookup b with
 |none=>rfl
 |some o=>rw[c b o q]at h;cases h;exact absurd rfl (n o)
theorem CelsIn.rm_some(c:CelsIn H cs)(h:H b=some u)(n:∀o,u≠celO o):rmC H cs b=some u:=by rw[q15 (c.out' h n)];exact h
theorem y51(h:rmC H cs b=some u):H b=some u/\cs.lookup b=none:=by
 unfold rmC at h;split at h
 ·cases h
 ·rename_i q;exact⟨h,q⟩
theorem q9k(t:TupLike u):∀o,u≠celO o:=fun o z=>by subst z;exact t
end
section
variable{h':Heap}{fs ex:List Addr}
theorem HOk.rm(x:HOk P w H h)(c:CelsIn H cs):HOk P w (rmC H cs) h:=fun a u e=>by
 obtain⟨e1,_⟩:=y51 e;exact(x a u e1).stay (fun b v _ q=>q) (fun b q=>c.rm_some q fun o z=>nomatch z) fun b v t q=>c.rm_some q (q9k t)
theorem HOk.add(x:HOk P w H h)(hc:∀b o,cs.lookup b=some o->H b=none/\h.get? b=some o):HOk P w (addC H cs) h:=fun a u e=>by
 cases q:cs.lookup a with
 |some o=>
  rw[q38 q]at e;cases e;exact⟨(hc a o q).2,trivial,⟨o,(hc a o q).2⟩,fun _ _ _ _=>trivial⟩
 |none=>
  rw[q0z q]at e
  have out:∀b v,H b=some v->addC H cs b=some v:=fun b v z=>by
   cases q2:cs.lookup b with
   |some o=>rw[(hc b o q2).1]at z;cases z
   |none=>rw[q0z q2];exact z
  exact(x a u e).stay (fun b v _ q=>q) (fun b q=>out b _ q) fun b v t q=>out b v q
theorem y6q{o:Obj}{q:Str}(x:HOk P w H h)(e:H f=some (fnO o q c)):h.get? f=some o/\h.CodeRec (.ref c) q:=by
 obtain⟨h1,h2⟩:=(show h.get? f=some o/\ObjOk P w H h f (.tbl #[.bool false,.str q 0,.ref c])from x f _ e);refine⟨h1,?_⟩;rcases h2 with⟨_,_,p0,_⟩|⟨q',c',oc,ob,vs,t,_,p1,p2,h3,h4,h5,_⟩
 ·cases p0
 ·cases p1;cases p2;exact⟨c,oc,vs,t,rfl,(show h.get? c=some oc/\_ from x c _ h3).1,h4,h5⟩
theorem Un.cells(u:Un fs ex (rmC H cs) H' h h')(c:CelsIn H cs):Un fs ex H (addC H' cs) h h' where
 keep:=fun b o q n hb hx=>u.keep b o q (q52 n) hb hx
 slot:=fun b o q n hb hx=>u.slot b o q (q52 n) hb hx
 free:=fun b o q n hx=>by rw[q0z (c.out n)];exact u.free b o q (q52 n) hx
 there:=u.there
 tups:=fun b xs q=>by
  have z:=c.out' q fun o z=>nomatch z
  rw[q0z z];exact u.tups b xs (by rw[q15 z];exact q)
 frzs:=fun b o v q=>by
  cases z:cs.lookup b with
  |some o'=>
   rw[q38 z];rw[c b o' z]at q;exact q
  |none=>rw[q0z z];exact u.frzs b o v (by rw[q15 z];exact q)
 tbls:=fun b ps q=>by
  have z:=c.out' q fun o z=>nomatch z
  rw[q0z z];exact u.tbls b ps (by rw[q15 z];exact q)
theorem Un.nocells(u:Un fs ex (addC H cs) H' h h')(hok:HOk P w H' h')(hc:∀b o,cs.lookup b=some o->H b=none/\h.get? b=some o):Un fs ex H (rmC H' cs) h h':=by
 have inn:∀b o,cs.lookup b=some o->H' b=some (celO o)/\h'.get? b=some o:=fun b o z=>by
  have q:=u.frzs b o _ (q38 z);exact⟨q,(show h'.get? b=some o/\_ from hok b _ q).1⟩
 refine⟨fun b o q n hb hx=>?_,fun b o q n hb hx=>?_,fun b o q n hx=>?_,u.there,fun b xs q=>?_,fun b o v q=>?_,fun b ps q=>?_⟩
 ·cases z:cs.lookup b with
  |some o'=>
   have:=(hc b o' z).2;rw[q]at this;cases this;exact(inn b _ z).2
  |none=>exact u.keep b o q (by rw[q0z z];exact n) hb hx
 ·cases z:cs.lookup b with
  |some o'=>
   have:=(hc b o' z).2;rw[q]at this;cases this;exact⟨o.slots,(inn b _ z).2⟩
  |none=>exact u.slot b o q (by rw[q0z z];exact n) hb hx
 ·cases z:cs.lookup b with
  |some o'=>exact q51 z
  |none=>rw[q15 z];exact u.free b o q (by rw[q0z z];exact n) hx
 ·have z:cs.lookup b=none:=by
   cases z:cs.lookup b with
   |some o'=>rw[(hc b o' z).1]at q;cases q
   |none=>rfl
  rw[q15 z];exact u.tups b xs (by rw[q0z z];exact q)
 ·have z:cs.lookup b=none:=by
   cases z:cs.lookup b with
   |some o'=>rw[(hc b o' z).1]at q;cases q
   |none=>rfl
  rw[q15 z];exact u.frzs b o v (by rw[q0z z];exact q)
 ·have z:cs.lookup b=none:=by
   cases z:cs.lookup b with
   |some o'=>rw[(hc b o' z).1]at q;cases q
   |none=>rfl
  rw[q15 z];exact u.tbls b ps (by rw[q0z z];exact q)
end
noncomputable abbrev lamEnv(qual:Str)(scope:Scope)(f:Addr)(cd:Value)(cl:List (Str×Addr))(s:Shared):Env:=PySem.W.envX qual scope s.heap.objs.size f cd cl
def cxLam(P:Program)(w:World)(K:Fg)(mg:Str->Option Value)(base:Heap)(N:List Str)(qual:Str)(scope:Scope)(f:Addr)(cd:Value)(cl:List (Str×Addr))(A:Around)(outer:List Env)(s:Shared)(H:Hp):Cx where
 prog:=P
 w:=w
 K:=K
 mg:=mg
 base:=base
 A:=A.deeper (lamEnv qual scope f cd cl s)
 N:=N
 s₀:=s
 H₀:=H
 env:=lamEnv qual scope f cd cl s
 outer:=outer
 stack:=lamEnv qual scope f cd cl s::outer
 ex:=[]
 calm:=true
 fn:=fun _=>false
 pn:=[]
 xe:=fun _ _=>False
structure LamScope(ps Nf:List Str)(sc:Scope):Prop where
 kind:sc.kind=.function
 co:sc.isCoroutine=false
 gen:sc.isGenerator=false
 nd:ps.Nodup
 nocell:∀y∈sc.names,y.2≠.cell
 par:∀x∈ps,sc.names.lookup x=some .local
 fr:∀y∈Nf,sc.names.lookup y=some .free
structure LamCells(cl:List (Str×Addr))(Nf:List Str)(sc:Scope)(zs:List V)(h:Heap)(cs:Cs):Prop where
 inj:∀x y c,cl.lookup x=some c->cl.lookup y=some c->x=y
 has:∀x,(x,NameKind.free)∈sc.names->∃c,cl.lookup x=some c
 all:∀x c,cl.lookup x=some c->∃o,cs.lookup c=some o
 cel:∀c o,cs.lookup c=some o->h.get? c=some o/\∃v,o.data=.cell v
 val:∀(i:Nat) y z,Nf[i]?=some y->zs[i]?=some z->∃c o u,cl.lookup y=some c/\cs.lookup c=some o/\o.data=.cell (some u)/\RelV z u
section
variable{mg:Str->Option Value}{base:Heap}{Nf:List Str}{qual:Str}{scope:Scope}{cd:Value}{cl:List (Str×Addr)}{outer:List Env}{us:List Value}{vs zs:List V}
theorem y29{v:Value}:∀{ps:List Str}{us:List Value}{i:Nat},ps.Nodup->ps[i]?=some x->us[i]?=some v->(ps.zip us).reverse.lookup x=some v:=by
 intro ps us i nd h1 h2;have hm:(x,v)∈(ps.zip us).reverse:=List.mem_reverse.mpr (w0y (i:=i) (by rw[w3t];exact⟨h1,h2⟩))
 have hn:((ps.zip us).reverse.map (·.1)).Nodup:=by
  rw[List.map_reverse];show List.Pairwise (·≠·) _;rw[List.pairwise_reverse];refine List.Pairwise.imp (fun h=>Ne.symm h) (show((ps.zip us).map (·.1)).Nodup from ?_)
  exact nd.sublist (by
   clear hm h1 h2
   induction ps generalizing us with
   |nil=>simp
   |cons p ps ih=>cases us with
    |nil=>simp
    |cons u us=>simpa using ih (us:=us) (w2c.mp nd).2)
 generalize (ps.zip us).reverse=l at hm hn
 induction l with
 |nil=>cases hm
 |cons p l ih=>
  obtain⟨y,z⟩:=p;rw[w1b];rcases w0j.mp hm with e|hm2
  ·cases e;simp
  ·have hne:(x==y)=false:=by
    rw[beq_eq_false_iff_ne];rintro rfl;exact(w2c.mp hn).1 (w1f.mpr ⟨(x,v),hm2,rfl⟩)
   rw[hne];exact ih hm2 (w2c.mp hn).2
theorem y6r{h₁:Heap}{tk:Nat}(S:LamScope ps Nf scope)(C:LamCells cl Nf scope zs s.heap cs)(hd:A.handled=none)(e0:Env0 P w K mg base A outer s H)(hn:∀c o,cs.lookup c=some o->H c=none)
  (hl:vs.length=ps.length)(hz:zs.length=Nf.length)(r:Vals vs us)
  (ns:h₁.Ns s.heap.objs.size (fun x=>(ps.zip us).reverse.lookup x))(hs:Heap.SameBut s.heap.objs.size (s.heap.push {cls:=.type "frame", data:=.dict #[]}) h₁):
  Inv (cxLam P w K mg base (ps++Nf) qual scope f cd cl A outer s H) [] (vs.map some++zs.map some) H {s with heap:=h₁,toks:=tk}:=by
 have hk:∀b o,s.heap.get? b=some o->h₁.get? b=some o:=fun b o e=>hs.extBut b o (w0r (Heap.lt_size e)) (Heap.get?_push_of_some _ e)
 have noA:∀b:Addr,b∉([]:List Addr):=fun b z=>nomatch z
 have nofree:∀x c,cl.lookup x=some c->H c=none/\∃o,s.heap.get? c=some o/\∃v,o.data=.cell v:=fun x c e=>by
  obtain⟨o,q⟩:=C.all x c e;exact⟨hn c o q,o,C.cel c o q⟩
 refine⟨⟨e0.mod,S.kind,rfl,rfl,w0g _,C.inj,fun y hy=>?_,(fun x c z=>nomatch z),fun _=>hd,Around.frames_deeper e0.frames,.inr ⟨rfl,rfl⟩,fun b z=>absurd z (noA b),e0.bs,e0.bsz,fun b _ _=>noA b,fun b z=>absurd z (noA b),e0.funs,e0.frf,e0.tab⟩,
  rfl,e0.bare,Un.kept hk,⟨_,ns,fun i y v h1 h2 h3=>?_⟩,fun y c h=>?_,e0.hok.fresh (w0g _),fun y c h=>(nofree y c h).1,fun p hp=>absurd (show p∈([]:List (Addr×Obj))from hp) (by simp),e0.hok.kept hk,?_⟩
 ·have hy:scope.names.lookup y=some .cell\/scope.names.lookup y=some .free:=hy;rcases hy with hy|hy
  ·exact absurd rfl (S.nocell _ (PySem.mem_of_lookup hy))
  ·exact C.has y (PySem.mem_of_lookup hy)
 ·have h1:(ps++Nf)[i]?=some y:=h1
  by_cases hi:i<ps.length
  ·rw[w1q (by simpa [hl]using hi),w0v]at h2;rw[w1q hi]at h1
   have ha:vs[i]?=some v:=by
    cases e:vs[i]? with
    |none=>rw[e]at h2;cases h2
    |some a=>rw[e]at h2;cases h2;rfl
   obtain⟨u,hu,rv⟩:=r.get ha;exact⟨u,rv,.inl ⟨S.par y (w0y h1),y29 S.nd h1 hu⟩⟩
  ·have hi':ps.length<=i:=w5f.mp hi;rw[w1o (by simpa [hl]using hi'),w0v,w0a,hl]at h2;rw[w1o hi']at h1
   have ha:zs[i-ps.length]?=some v:=by
    cases e:zs[i-ps.length]? with
    |none=>rw[e]at h2;cases h2
    |some a=>rw[e]at h2;cases h2;rfl
   obtain⟨c,o,u,e1,e2,e3,e4⟩:=C.val _ _ _ h1 ha;exact⟨u,e4,.inr ⟨.inr (S.fr y (w0y h1)),c,e1,o,hk _ _ (C.cel c o e2).1,e3⟩⟩
 ·obtain⟨_,o,q,v,d⟩:=nofree y c h;exact⟨v,o,hk _ _ q,d⟩
 ·show _=(ps++Nf).length;simp[hl,hz]
theorem y6s{CX:CXT}{name:Str}{params:Arguments}{body:Expr}{pm ctv:Value}{c':Addr}{t:TE}{Q:VK}{E:XK}
  (hr:Room (k+1) A)(e0:Env0 P w K mg base A outer s H)(hf:H f=some (fnO (kla_obj name qual params body scope cl pm c' ctv) qual c'))
  (S:LamScope ps Nf scope)(CI:CelsIn H cs)(C:LamCells cl Nf scope zs s.heap cs)(hbind:bindArgs (kla_fn name qual params body scope cl pm (.ref c') ctv) ⟨us,[]⟩=pure (ps.zip us))
  (hl:vs.length=ps.length)(hz:zs.length=Nf.length)(r:Vals vs us)
  (hb:PE (cxLam P w K mg base (ps++Nf) qual scope f (.ref c') cl A outer s (rmC H cs)) body t)(hq:t (vs.map some++zs.map some) (rmC H cs) fun v H'=>(∀b o,cs.lookup b=some o->H' b=none)->Q v (addC H' cs)):
  codeAny (model P w) A (.call (.ref f) ⟨us,[]⟩) (CR CX outer P w H s Q E) s:=by
 have lim:s.heap.NoLimit:=e0.mod.nolimit.keeps fun b o e=>(e0.bs b o e).1
 obtain⟨hfo,hcd⟩:=y6q e0.hok hf
 have e1:Env0 P w K mg base A outer s (rmC H cs):=⟨e0.frames,e0.mod,fun b o q=>⟨(e0.bs b o q).1,q52 (e0.bs b o q).2⟩,e0.bsz,e0.funs,fun b hb=>q52 (e0.frf b hb),e0.hok.rm CI,e0.bare,fun a q P m=>by
  obtain⟨ps,e,p⟩:=e0.tab a q P m;exact⟨ps,CI.rm_some e (fun o z=>nomatch z),p⟩⟩
 refine PySem.W.kla_callFunE hr.depth hfo rfl S.co S.gen rfl hcd ?_;rw[hbind];refine wpAny_pure (wpAny_newFunctionEnv S.nocell (fun y hy=>S.par y.1 (w2y hy).1) (fun h₁ hns hsb=>⟨lim.fresh _ hsb,?_⟩) S.kind)
 show codeAny _ _ (.expr body (lamEnv qual scope f (.ref c') cl s)) _ _;have I:=y6r (tk:=s.toks+(ps.zip us).length) (qual:=qual) (f:=f) (cd:=.ref c') S C hr.hd e1 (fun c o q=>q51 q) hl hz r hns hsb
 refine PySem.W.kla_codeExpr (wpAny_mono (hb [] _ _ _ _ I hq) (fun u s' hs'=>?_) fun e s' z=>False.elim z)
 obtain⟨v,H',J,rv,q⟩:=hs';have un:Un (frs outer) [] (rmC H cs) H' s.heap s'.heap:=J.base;refine⟨v,addC H' cs,J.os,J.bare,un.cells CI,J.hok.add fun b o z=>?_,rv,q fun b o z=>un.free b o (C.cel b o z).1 (q51 z) (by simp)⟩
 have nf:b∉frs outer:=fun hb=>by
  have:=e0.frf b hb;rw[CI b o z]at this;cases this
 have g:=(C.cel b o z).1;exact⟨un.free b o g (q51 z) (by simp),un.keep b o g (q51 z) nf (by simp)⟩
end
def FnV(P:Program)(w:World)(K:Fg)(mg:Str->Option Value)(base:Heap)(CX:CXT)(k:Nat)(sp:V->List V->Hp->VK->XK->Prop):Prop:=∀(x:V)(vs:List V)(H:Hp)(Q:VK)(E:XK),sp x vs H Q E ->
 ∃f oc od fd sl u,x=.ref f/\H f=some (.frz ⟨oc,od,.func fd,sl⟩ u)/\∀(A:Around)(outer:List Env)(s:Shared)(us:List Value),Room k A->Env0 P w K mg base A outer s H->Vals vs us ->
  codeAny (model P w) A (.call (.ref f) ⟨us,[]⟩) (CR CX outer P w H s Q E) s
theorem x8q{pos':Pos}{a b:Int}{c cv:Value}(l:List Value)(h:TriplesOk l)(z:codeAmong pos' (l++[rawInt a,rawInt b,c])=some cv):codeAmong pos' l=some cv\/cv=c:=by
 fun_induction TriplesOk l with
 |case1=>
  simp only[w4j,codeAmong,rawInt]at z;split at z
  ·cases z;exact .inr rfl
  ·cases z
 |case2 x t y u v rest ih=>
  simp only[List.cons_append,codeAmong]at z |-
  split at z
  ·rename_i hc;rw[if_pos hc];exact .inl z
  ·rename_i hc;rw[if_neg hc];exact ih h z
 |case3=>exact h.elim
def BMain(h:Heap)(mg:Str->Option Value):Prop:=∃bm ob,mg "__builtins__"=some (.ref bm)/\bm≠builtinsNs/\h.get? bm=some ob/\ob.cls=.type "module" /\ ob.dict=some builtinsNs/\ob.data=.plain
def LamAt(X:Cx)(params:Arguments)(body:Expr)(scope:Scope)(clos:List (Str×Addr))(f:Addr)(H H':Hp):Prop:=closureFor scope X.env=pure clos/\∃(H1:Hp)(pm ctv:Value)(c':Addr),(H1=H\/∃c oc,H c=none/\H1=upd H c (rawO oc))/\H1 f=none /\
 H'=upd H1 f (fnO (kla_obj "<lambda>" (X.env.qual++"<lambda>") params body scope clos pm c' ctv) (X.env.qual++"<lambda>") c')
def tLam(X:Cx)(params:Arguments)(body:Expr)(scope:Scope):TE:=fun _ H Q=>∀f clos H',LamAt X params body scope clos f H H'->Q (.ref f) H'
structure Maker(X:Cx):Prop where
 ex:∃c P a,X.env.code=.ref c/\codeHdIn X.K c P=true/\(a,markO P (X.env.qual++"<lambda>"))∈X.K
 bm:BMain X.base X.mg
section
variable{params:Arguments}{body:Expr}{scope:Scope}{lpos:Pos}
theorem z0l(M:Maker X)(hdef:defaultsOf params X.env=([],[]))(hfree:∀x∈scope.names,x.2=.free->X.env.kindOf x.1=some .cell\/X.env.kindOf x.1=some .free):
  PE X (.Lambda params body scope lpos) (tLam X params body scope):=by
 intro pins s σ H Q I h;obtain⟨clos,hclos,_,_⟩:=q5r (scope:=scope) (env:=X.env) fun x hx hf=>I.ok.has x.1 (hfree x hx hf)
 obtain⟨c,P,a,hcode,hch,hmk⟩:=M.ex;have hhd:=PySem.W.codeHd_of_K I.mod.kin hch;obtain⟨ps,hP,p0,p1⟩:=I.ok.tab a _ P hmk;obtain⟨more,eP⟩:=I.base.tbls P ps hP
 have q0:(ps++more)[0]?=some (.bool true):=by
  rw[w1n (by obtain⟨z,_⟩:=w2e.mp p0;exact z)];exact p0
 have q1:(ps++more)[1]?=some (.str (X.env.qual++"<lambda>") 0):=by
  rw[w1n (by obtain⟨z,_⟩:=w2e.mp p1;exact z)];exact p1
 have oP:ObjOk X.prog X.w H s.heap P (.tbl (ps++more)):=I.hok P _ eP;rcases oP with⟨q,qs,r0,r1,g1,tr,cd⟩|⟨_,_,_,_,_,_,r0,_⟩
 case inr=>rw[q0]at r0;cases r0
 rw[q1]at r1;cases r1;have nP:∀b,H b=none->b≠P:=fun b n z=>by rw[z,eP]at n;cases n
 have hgP:mainGlobals≠P:=by
  obtain⟨o,es,ep,e,_⟩:=I.mod.glob;exact nP _ (I.bs _ o e).2
 have hB:s.heap.BuiltinsAt X.mg P:=by
  obtain⟨bm,ob,b1,b2,b3,b4,b5,b6⟩:=M.bm;refine⟨bm,ob,b1,b2,fun z=>?_,nP _ (I.bs bm ob b3).2,(I.bs bm ob b3).1,b4,b5,b6⟩
  obtain⟨o,es,ep,e,d,_⟩:=I.mod.glob;rw[z,e]at b3;cases b3;rw[d]at b6;cases b6
 have hns:=I.mod.glob.keeps I.bk;refine PySem.W.kla_eval hdef ?_;cases hc:codeAmong lpos qs.toList with
 |some cv=>
  obtain⟨c',oc,vs,t,rfl,k1,k2,k3⟩:=cd lpos cv hc;refine PySem.W.kla_makeFunctionHit (mg:=X.mg) hclos I.ok.glob hns hcode (hhd.keeps I.bk) g1 tr hc hB fun ctv h' tk hk hsz=>?_
  have fr:H h'.objs.size=none:=I.hok.fresh hsz;refine⟨.ref h'.objs.size,_,I.laid (t':=tk) (fun b u e=>Heap.get?_push_of_some _ (hk b u e)) hsz ?_,rfl,h _ clos _ ⟨hclos,H,(X.mg "__name__").getD .none,ctv,c',.inl rfl,fr,rfl⟩⟩
  exact⟨Heap.get?_push_size _ rfl,.inr ⟨_,c',oc,_,vs,t,rfl,rfl,rfl,by rw[q0c (q0m k1 fr)];exact k1,k2,k3,Heap.get?_push_size _ rfl⟩⟩
 |none=>
  refine PySem.W.kla_makeFunction (mg:=X.mg) hclos I.ok.glob hns hcode (hhd.keeps I.bk) g1 tr hc hgP hB fun c' ctv h' tk hx hge hlt hrec htb=>?_
  obtain⟨c2,oc,vs,t,ec,hoc,hd,hv⟩:=hrec;cases ec;have fc:H c'=none:=I.hok.fresh hge;have hne:∀b u,H b=some u->b≠c':=fun b u z=>q0m z fc
  have kp:∀b o,H b=none->s.heap.get? b=some o->h'.get? b=some o:=fun b o n e=>hx b o (nP b n) e
  have hok1:HOk X.prog X.w (upd H c' (rawO oc)) h':=fun a u e=>by
   by_cases ha:a=c'
   ·subst ha;rw[q0h]at e;cases e;exact⟨hoc,oc,hoc⟩
   ·rw[q0c ha]at e
    by_cases haP:a=P
    ·subst haP;rw[eP]at e;cases e;refine .inl ⟨_,_,q0,q1,htb,?_,fun pos cv z=>?_⟩
     ·rw[w4t];exact TriplesOk_snoc _ _ _ _ tr
     ·rw[w4t]at z;rcases x8q _ tr z with z|z
      ·obtain⟨d,od,vd,td,k0,k1,k2,k3⟩:=cd pos cv z;exact⟨d,od,vd,td,k0,by rw[q0c (hne d _ k1)];exact k1,k2,k3⟩
      ·exact⟨c',oc,vs,t,z,q0h,hd,hv⟩
    ·refine(I.hok a u e).stay (fun b v hb q=>hx b v ?_ q) (fun b q=>by rw[q0c (hne b _ q)];exact q) fun b v _ q=>by rw[q0c (hne b _ q)];exact q
     rcases hb with rfl|hb
     ·exact haP
     ·rintro rfl;rw[eP]at hb;cases hb
  have un:Un X.fs [] H (upd H c' (rawO oc)) s.heap h':=by
   refine⟨fun b o q n _ _=>kp b o n q,fun b o q n _ _=>⟨o.slots,kp b o n q⟩,fun b o q n _=>?_,fun b o q _=>?_,fun b xs q=>by rw[q0c (hne b _ q)];exact q,fun b o u q=>by rw[q0c (hne b _ q)];exact q,fun b qs q=>⟨#[],by rw[q0c (hne b _ q),q];simp⟩⟩
   ·rw[q0c (w0r (w0t (Heap.lt_size q) hge))];exact n
   ·by_cases hb:b=P
    ·subst hb;exact⟨_,htb⟩
    ·exact⟨o,hx b o hb q⟩
  have I1:Inv X pins σ (upd H c' (rawO oc)) {s with heap:=h',toks:=tk}:=I.un un hok1;have f1:upd H c' (rawO oc) h'.objs.size=none:=I1.hok.fresh (w0g _);refine⟨.ref h'.objs.size,_,I1.laid (t':=tk) (fun b u e=>Heap.get?_push_of_some _ e) (w0g _) ?_,rfl,h _ clos _ ⟨hclos,_,(X.mg "__name__").getD .none,ctv,c',.inr ⟨c',oc,fc,rfl⟩,f1,rfl⟩⟩
  exact⟨Heap.get?_push_size _ rfl,.inr ⟨_,c',oc,_,vs,t,rfl,rfl,rfl,by rw[q0c (q0m q0h f1)];exact q0h,hd,hv,Heap.get?_push_size _ rfl⟩⟩
end
theorem q9l{α:Type}{k:Addr}{v:α}:∀{l:List (Addr×α)},(k,v)∈l->∃v',l.lookup k=some v'
 |[],h=>nomatch h
 |(a,b)::l,h=>by
  rw[w1b]
  by_cases e:(k==a)=true
  ·rw[e];exact⟨b,rfl⟩
  ·rw[w1k.mpr e];rcases w0j.mp h with z|z
   ·cases z;simp at e
   ·exact q9l z
def celsAt(clos:List (Str×Addr))(h:Heap):Cs:=(clos.map (·.1)).filterMap fun x=>(clos.lookup x).bind fun c=>(h.get? c).map fun o=>(c,o)
theorem q9m{clos:List (Str×Addr)}{o:Obj}(e:(celsAt clos h).lookup c=some o):∃x,clos.lookup x=some c/\h.get? c=some o:=by
 obtain⟨x,_,hx⟩:=w2o.mp (PySem.W.mem_of_lookupK e);obtain⟨c',e1,e2⟩:=w3y.mp hx;obtain⟨o',e3,e4⟩:=w0l.mp e2;cases e4;exact⟨x,e1,e3⟩
theorem x0u{clos:List (Str×Addr)}{o:Obj}(e:clos.lookup x=some c)(g:h.get? c=some o):(celsAt clos h).lookup c=some o:=by
 have hm:(c,o)∈celsAt clos h:=w2o.mpr ⟨x,w1f.mpr ⟨(x,c),PySem.mem_of_lookup e,rfl⟩,by rw[e];show(h.get? c).map _=_;rw[g];rfl⟩;obtain⟨o',e'⟩:=q9l hm;obtain⟨_,_,g'⟩:=q9m e';rw[g]at g';cases g';exact e'
structure CellsOf(clos:List (Str×Addr))(Nf:List Str)(scope:Scope)(js:List Nat)(σ:St)(H:Hp)(cs:Cs):Prop where
 inj:∀x y c,clos.lookup x=some c->clos.lookup y=some c->x=y
 has:∀x,(x,NameKind.free)∈scope.names->∃c,clos.lookup x=some c
 all:∀x c,clos.lookup x=some c->∃o,cs.lookup c=some o
 cel:∀c o,cs.lookup c=some o->H c=none/\∃v,o.data=.cell v
 val:∀(i:Nat) y j z,Nf[i]?=some y->js[i]?=some j->σ[j]?=some (some z)->∃c o u,clos.lookup y=some c/\cs.lookup c=some o/\o.data=.cell (some u)/\RelV z u
theorem pure_inj{α:Type}{a b:α}(h:(pure a:Sem α)=pure b):a=b:=by
 first
  |exact PySem.Sem.pure_inj h
  |(injection h)
  |(cases h;rfl)
set_option maxHeartbeats 1000000
def Sh.isI:Sh->Bool
 |.int=>true
 |_=>false
end L2
namespace D
open PySem L2
variable{a:Addr}{X:Cx}{G G' G1 H H' H1:Hp}{EE:L2.St->XK}{es:List Expr}{vs xs:List V}{r:List V->Hp->VK->Prop}{i k:Nat}{b:Option Nat}{p pos pos':Pos}{K:Fg}{sh:Sh}{σ:St}{st:Stmt}{x:Str}{α:Type}{v:V}
noncomputable abbrev Sv:=Int ⊕ Bool
inductive Dd where
 |k (kvs:List (Key×Sv))
structure Lm where
 qual:Str
 params:Arguments
 body:Expr
 scope:Scope
 nf:List Str
set_option genInjectivity true in
inductive W where
 |non|bl (b:Bool)|int (i:Int)|str (x:Str)|tup (xs:List W)|lst (xs:List W)|exc (c:Value)|dic (kvs:Dd)|dw (fz:Bool) (sh:Sh) (ks:List Kx) (ws:List W)|fn (i:Nat) (l:Lm) (ws:List W)
variable{ws:List W}{w:W}{f:W->W->Option W}
inductive SK where
 |old (w:W)|new (w:W)|acc (ws:List W)|thro (us ws vs:List W)|tn (us:List W) (wss:List (List W))|pt (us ws:List W) (w:W)|fz (w:W)|fzo (w:W)
inductive S where
 |no|fr (w:W)|own (io:Option Nat) (ws:List W)|dic (kvs:Dd)|thr (us ws vs:List W)|nest (wss:List (List W))|dw (sh:Sh) (ks:List Kx) (ws:List W)|x (k:SK)
variable{e e1:List S}{E:Value->List S->Prop}
def SK.plain:SK->Option W
 |.old w=>some w
 |.new w=>some w
 |_=>none
def SK.look:SK->Option W
 |.old w=>some w
 |.new w=>some w
 |.acc ws=>some (.lst ws)
 |_=>none
def sV:Sv->V
 |.inl i=>.int i
 |.inr b=>.bl b
def kvV{κ:Type}(kvs:List (κ×Sv)):List (κ×V):=kvs.map fun p=>(p.1,sV p.2)
def dO:Dd->HO
 |.k kvs=>.dK (kvV kvs)
def isDic:HO->Bool
 |.dK _=>true
 |_=>false
theorem q5g{d:Dd}{u:HO}(h:isDic u=false):dO d≠u:=fun z=>by
 subst z;cases d<;>cases h
def KeysG(G:Hp):List Kx->List Addr->Prop
 |[],[]=>True
 |k::ks,b::bs=>KRep G k (.ref b)/\KeysG G ks bs
 |[],_::_=>False
 |_::_,[]=>False
theorem KeysG.mono(e:Same G G'):∀{ks:List Kx}{bs:List Addr},KeysG G ks bs->KeysG G' ks bs
 |[],[],_=>trivial
 |k::ks,b::bs,h=>⟨KRep.keeps (fun _ _ _ z=>e _ _ z) k h.1,KeysG.mono e h.2⟩
 |[],_::_,h=>h.elim
 |_::_,[],h=>h.elim
def kxK:Kx->Key
 |.int i=>.inl i
 |_=>.inl 0
def dwO(sh:Sh)(kvs:List (Kx×V))(kas:List Addr):HO:=if sh.isI=true then .dK (kvs.map fun p=>(kxK p.1,p.2))else .dT sh kvs kas
def isDT:HO->Bool
 |.dK _=>true
 |.dT _ _ _=>true
 |_=>false
theorem q53{kvs:List (Kx×V)}{kas:List Addr}{u:HO}(h:isDT u=false):dwO sh kvs kas≠u:=fun z=>by
 subst z;unfold dwO at h;split at h<;>cases h
def KeysS(sh:Sh)(G:Hp)(ks:List Kx)(kas:List Addr):Prop:=if sh.isI=true then ∀k∈ks,∃i,k=.int i else KeysG G ks kas
theorem KeysS.mono(e:Same G G'){ks:List Kx}{bs:List Addr}(h:KeysS sh G ks bs):KeysS sh G' ks bs:=by
 unfold KeysS at h |-
 split at h
 ·rename_i hi;rw[if_pos hi];exact h
 ·rename_i hi;rw[if_neg hi];exact h.mono e
def DAt(fz:Bool)(G:Hp)(a:Addr)(sh:Sh)(kvs:List (Kx×V))(kas:List Addr):Prop:=if fz=true then ∃o,G a=some (.frz o (dwO sh kvs kas))else G a=some (dwO sh kvs kas)
theorem DAt.mono{fz:Bool}{kvs:List (Kx×V)}{kas:List Addr}(e:Same G G')(h:DAt fz G a sh kvs kas):DAt fz G' a sh kvs kas:=by
 cases fz with
 |true=>obtain⟨o,h⟩:=h;exact⟨o,e _ _ h⟩
 |false=>exact e _ _ h
structure FnCells(G:Hp)(cl:List (Str×Addr))(l:Lm)(zs:List V)(cs:Cs):Prop where
 inj:∀x y c,cl.lookup x=some c->cl.lookup y=some c->x=y
 has:∀x,(x,NameKind.free)∈l.scope.names->∃c,cl.lookup x=some c
 all:∀x c,cl.lookup x=some c->∃o,cs.lookup c=some o
 cel:∀c o,cs.lookup c=some o->G c=some (celO o)/\∃v,o.data=.cell v
 val:∀(i:Nat) y z,l.nf[i]?=some y->zs[i]?=some z->∃c o u,cl.lookup y=some c/\cs.lookup c=some o/\o.data=.cell (some u)/\RelV z u
 len:zs.length=l.nf.length
theorem FnCells.mono{cl:List (Str×Addr)}{l:Lm}{zs:List V}{cs:Cs}(e:Same G G')(h:FnCells G cl l zs cs):FnCells G' cl l zs cs:=⟨h.inj,h.has,h.all,fun c o q=>⟨e _ _ (h.cel c o q).1,(h.cel c o q).2⟩,h.val,h.len⟩
def FnAtG(G:Hp)(l:Lm)(cl:List (Str×Addr))(f:Addr):Prop:=∃pm c' ctv,G f=some (fnO (kla_obj "<lambda>" l.qual l.params l.body l.scope cl pm c' ctv) l.qual c')
inductive RefTo(v:V)(P Q:Addr->List V->Prop):Prop where
 |mk (a:Addr) (xs:List V) (h:v=.ref a) (p:P a xs) (q:Q a xs):RefTo v P Q
inductive ConsOf(xs:List V)(P:V->Prop)(Q:List V->Prop):Prop where
 |mk (x:V) (r:List V) (h:xs=x::r) (p:P x) (q:Q r):ConsOf xs P Q
mutual
def Rep(K:Fg)(G:Hp):W->V->Prop
 |.non,v=>v=.non
 |.bl b,v=>v=.bl b
 |.int i,v=>v=.int i
 |.str x,v=>v=.str x
 |.tup ws,v=>RefTo v (SqT K G) fun _ xs=>Reps K G ws xs
 |.lst ws,v=>RefTo v (SqL K G) fun _ xs=>Reps K G ws xs
 |.exc c,v=>∃e,v=.ref e/\G e=some (excO e c)
 |.dic kvs,v=>∃e,v=.ref e/\G e=some (dO kvs)
 |.dw fz sh ks ws,v=>∃a kvs kas,v=.ref a/\DAt fz G a sh kvs kas/\kvs.map (·.1)=ks/\KeysS sh G ks kas/\Reps K G ws (kvs.map (·.2))
 |.fn _ l ws,v=>∃f cl zs cs,v=.ref f/\FnAtG G l cl f/\FnCells G cl l zs cs/\Reps K G ws zs
def Reps(K:Fg)(G:Hp):List W->List V->Prop
 |[],xs=>xs=[]
 |w::ws,xs=>ConsOf xs (Rep K G w) (Reps K G ws)
end
mutual
theorem Rep.mono{K:Fg}{G G':Hp}(e:Same G G'):∀(w:W){v:V},Rep K G w v->Rep K G' w v
 |.non,v,h=>h
 |.bl b,v,h=>h
 |.int i,v,h=>h
 |.str x,v,h=>h
 |.tup ws,v,h=>by
  obtain⟨a,xs,rfl,q,r⟩:=h;exact⟨a,xs,rfl,e.tup q,Reps.mono e ws r⟩
 |.lst ws,v,h=>by
  obtain⟨a,xs,rfl,q,r⟩:=h;exact⟨a,xs,rfl,e.seq q,Reps.mono e ws r⟩
 |.exc c,v,h=>by
  obtain⟨a,rfl,q⟩:=h;exact⟨a,rfl,e _ _ q⟩
 |.dic kvs,v,h=>by
  obtain⟨a,rfl,q⟩:=h;exact⟨a,rfl,e _ _ q⟩
 |.dw fz sh ks ws,v,h=>by
  obtain⟨a,kvs,kas,rfl,h1,h2,h3,h4⟩:=h;exact⟨a,kvs,kas,rfl,h1.mono e,h2,h3.mono e,Reps.mono e ws h4⟩
 |.fn i l ws,v,h=>by
  obtain⟨f,cl,zs,cs,rfl,⟨pm,c',ctv,h1⟩,h2,h3⟩:=h;exact⟨f,cl,zs,cs,rfl,⟨pm,c',ctv,e _ _ h1⟩,h2.mono e,Reps.mono e ws h3⟩
theorem Reps.mono{K:Fg}{G G':Hp}(e:Same G G'):∀(ws:List W){xs:List V},Reps K G ws xs->Reps K G' ws xs
 |[],xs,h=>h
 |w::ws,xs,h=>by
  obtain⟨x,r,rfl,h1,h2⟩:=h;exact⟨x,r,rfl,Rep.mono e w h1,Reps.mono e ws h2⟩
end
theorem Reps.length:∀{ws:List W}{xs:List V},Reps K G ws xs->xs.length=ws.length
 |[],xs,h=>by cases h;rfl
 |w::ws,xs,h=>by
  obtain⟨x,r,rfl,_,h2⟩:=h;simp[Reps.length h2]
theorem Reps.get:∀{ws:List W}{xs:List V}{i:Nat}{w:W},Reps K G ws xs->ws[i]?=some w->∃x,xs[i]?=some x/\Rep K G w x
 |[],xs,i,w,h,e=>by simp at e
 |w'::ws,xs,0,w,h,e=>by
  obtain⟨x,r,rfl,h1,h2⟩:=h;simp at e;subst e;exact⟨x,rfl,h1⟩
 |w'::ws,xs,i+1,w,h,e=>by
  obtain⟨x,r,rfl,h1,h2⟩:=h;obtain⟨y,e1,e2⟩:=Reps.get (i:=i) h2 (by simpa using e);exact⟨y,by simpa using e1,e2⟩
theorem Reps.getV:∀{ws:List W}{xs:List V}{i:Nat}{x:V},Reps K G ws xs->xs[i]?=some x->∃w,ws[i]?=some w/\Rep K G w x:=fun {ws xs i x} h e=>by
 have hl:=h.length;have hi:i<xs.length:=(w0c.mp e).1;have e2:ws[i]?=some ws[i]:=w0b (by omega);obtain⟨y,e3,r⟩:=h.get e2;rw[e]at e3;cases e3;exact⟨_,e2,r⟩
theorem Reps.append:∀{ws ws':List W}{xs xs':List V},Reps K G ws xs->Reps K G ws' xs'->Reps K G (ws++ws') (xs++xs')
 |[],ws',xs,xs',h,h'=>by cases h;exact h'
 |w::ws,ws',xs,xs',h,h'=>by
  obtain⟨x,r,rfl,h1,h2⟩:=h;exact⟨x,r++xs',rfl,h1,Reps.append h2 h'⟩
theorem Reps.one{x:V}(h:Rep K G w x):Reps K G [w] [x]:=⟨x,[],rfl,h,rfl⟩
theorem Reps.take:∀(n:Nat){ws:List W}{xs:List V},Reps K G ws xs->Reps K G (ws.take n) (xs.take n)
 |0,_,_,_=>rfl
 |n+1,[],_,h=>by cases h;rfl
 |n+1,w::ws,_,h=>by
  obtain⟨x,r,rfl,h1,h2⟩:=h;exact⟨x,r.take n,rfl,h1,Reps.take n h2⟩
theorem Reps.drop:∀(n:Nat){ws:List W}{xs:List V},Reps K G ws xs->Reps K G (ws.drop n) (xs.drop n)
 |0,_,_,h=>h
 |n+1,[],_,h=>by cases h;rfl
 |n+1,w::ws,_,h=>by
  obtain⟨x,r,rfl,h1,h2⟩:=h;exact Reps.drop n h2
theorem Reps.reverse:∀{ws:List W}{xs:List V},Reps K G ws xs->Reps K G ws.reverse xs.reverse
 |[],_,h=>by cases h;rfl
 |w::ws,_,h=>by
  obtain⟨x,r,rfl,h1,h2⟩:=h;rw[w2a,w2a];exact(Reps.reverse h2).append (.one h1)
structure Zt where
 H:Hp
 G:Hp
 io:List Addr
variable{Z Z':Zt}
def FzAt(Z:Zt)(G H:Hp)(l:Addr)(o:Obj)(ys:List V):Prop:=H l=some (.frz o (.lst ys))/\G l=none/\Z.H l=none
def NestIn(K:Fg)(Z:Zt)(G H:Hp):List Addr->List (List W)->Prop
 |[],[]=>True
 |l::ls,ws::wss=>(∃o ys,FzAt Z G H l o ys/\Reps K G ws ys)/\NestIn K Z G H ls wss
 |[],_::_=>False
 |_::_,[]=>False
inductive NestOk(K:Fg)(Z:Zt)(G H:Hp)(wss:List (List W))(v:Option V):Prop where
 |mk (a:Addr) (ls:List Addr) (h1:v=some (.ref a)) (h2:G a=some (.lst (ls.map V.ref))) (h3:ls.Nodup) (h4:NestIn K Z G H ls wss):NestOk K Z G H wss v
theorem NestIn.move(sg:Same G G')(hf:∀l o ys,H l=some (.frz o (.lst ys))->G l=none->Z.H l=none->H' l=some (.frz o (.lst ys))/\G' l=none/\Z'.H l=none):∀{ls:List Addr}{wss:List (List W)},NestIn K Z G H ls wss->NestIn K Z' G' H' ls wss
 |[],[],_=>trivial
 |l::ls,ws::wss,⟨⟨o,ys,⟨h1,h2,h3⟩,h4⟩,h⟩=>⟨⟨o,ys,hf l o ys h1 h2 h3,Reps.mono sg ws h4⟩,h.move sg hf⟩
 |[],_::_,h=>h.elim
 |_::_,[],h=>h.elim
theorem NestOk.move{wss:List (List W)}{v:Option V}(q:NestOk K Z G H wss v)(sg:Same G G')(hf:∀l o ys,H l=some (.frz o (.lst ys))->G l=none->Z.H l=none->H' l=some (.frz o (.lst ys))/\G' l=none/\Z'.H l=none):NestOk K Z' G' H' wss v:=by
 obtain⟨a,ls,h1,h2,h3,h4⟩:=q;exact⟨a,ls,h1,sg _ _ h2,h3,h4.move sg hf⟩
inductive DwOk(K:Fg)(Z:Zt)(G H:Hp)(sh:Sh)(ks:List Kx)(ws:List W)(v:Option V):Prop where
 |mk (a:Addr) (kvs:List (Kx×V)) (kas:List Addr) (h1:v=some (.ref a)) (h2:H a=some (dwO sh kvs kas)) (h3:G a=none) (h4:Z.H a=none) (h5:kvs.map (·.1)=ks) (h6:KeysS sh G ks kas) (h7:Reps K G ws (kvs.map (·.2))):DwOk K Z G H sh ks ws v
theorem DwOk.move{ks:List Kx}{v:Option V}(q:DwOk K Z G H sh ks ws v)(sg:Same G G')(hf:∀a kvs kas,H a=some (dwO sh kvs kas)->G a=none->Z.H a=none->H' a=some (dwO sh kvs kas)/\G' a=none/\Z'.H a=none):DwOk K Z' G' H' sh ks ws v:=by
 obtain⟨a,kvs,kas,h1,h2,h3,h4,h5,h6,h7⟩:=q;obtain⟨k1,k2,k3⟩:=hf a kvs kas h2 h3 h4;exact⟨a,kvs,kas,h1,k1,k2,k3,h5,h6.mono sg,Reps.mono sg ws h7⟩
mutual
def RepN(K:Fg)(Z:Zt)(G:Hp):W->V->Prop
 |.non,v=>v=.non
 |.bl b,v=>v=.bl b
 |.int i,v=>v=.int i
 |.str x,v=>v=.str x
 |.tup ws,v=>RefTo v (SqT K G) fun _ xs=>RepNs K Z G ws xs
 |.lst ws,v=>RefTo v (fun a xs=>G a=some (.lst xs)) fun a xs=>Z.H a=none/\RepNs K Z G ws xs
 |.exc _,_=>False
 |.dic _,_=>False
 |.dw _ _ _ _,_=>False
 |.fn _ _ _,_=>False
def RepNs(K:Fg)(Z:Zt)(G:Hp):List W->List V->Prop
 |[],xs=>xs=[]
 |w::ws,xs=>ConsOf xs (RepN K Z G w) (RepNs K Z G ws)
end
mutual
theorem RepN.rep{K:Fg}{Z:Zt}{G:Hp}:∀(w:W){v:V},RepN K Z G w v->Rep K G w v
 |.non,_,h=>h
 |.bl _,_,h=>h
 |.int _,_,h=>h
 |.str _,_,h=>h
 |.tup ws,_,⟨a,xs,e,q,r⟩=>⟨a,xs,e,q,RepNs.reps ws r⟩
 |.lst ws,_,⟨a,xs,e,q,_,r⟩=>⟨a,xs,e,.inl (.inl q),RepNs.reps ws r⟩
 |.exc _,_,h=>h.elim
 |.dic _,_,h=>h.elim
 |.dw _ _ _ _,_,h=>h.elim
 |.fn _ _ _,_,h=>h.elim
theorem RepNs.reps{K:Fg}{Z:Zt}{G:Hp}:∀(ws:List W){vs:List V},RepNs K Z G ws vs->Reps K G ws vs
 |[],_,h=>h
 |w::ws,_,⟨x,r,e,p,q⟩=>⟨x,r,e,RepN.rep w p,RepNs.reps ws q⟩
end
mutual
theorem RepN.move{K:Fg}{Z Z':Zt}{G G':Hp}(sg:Same G G')(hz:∀a xs,G a=some (.lst xs)->Z.H a=none->Z'.H a=none):∀(w:W){v:V},RepN K Z G w v->RepN K Z' G' w v
 |.non,_,h=>h
 |.bl _,_,h=>h
 |.int _,_,h=>h
 |.str _,_,h=>h
 |.tup ws,_,⟨a,xs,e,q,r⟩=>⟨a,xs,e,sg.tup q,RepNs.move sg hz ws r⟩
 |.lst ws,_,⟨a,xs,e,q,n,r⟩=>⟨a,xs,e,sg _ _ q,hz _ _ q n,RepNs.move sg hz ws r⟩
 |.exc _,_,h=>h.elim
 |.dic _,_,h=>h.elim
 |.dw _ _ _ _,_,h=>h.elim
 |.fn _ _ _,_,h=>h.elim
theorem RepNs.move{K:Fg}{Z Z':Zt}{G G':Hp}(sg:Same G G')(hz:∀a xs,G a=some (.lst xs)->Z.H a=none->Z'.H a=none):∀(ws:List W){vs:List V},RepNs K Z G ws vs->RepNs K Z' G' ws vs
 |[],_,h=>h
 |w::ws,_,⟨x,r,e,p,q⟩=>⟨x,r,e,RepN.move sg hz w p,RepNs.move sg hz ws q⟩
end
inductive AccOk(K:Fg)(Z:Zt)(G H:Hp)(ws:List W)(v:Option V):Prop where
 |mk (a:Addr) (o:Obj) (xs:List V) (h1:v=some (.ref a)) (h2:FzAt Z G H a o xs) (h3:RepNs K Z G ws xs):AccOk K Z G H ws v
inductive ThroOk(K:Fg)(Z:Zt)(G H:Hp)(us ws vs:List W)(v:Option V):Prop where
 |mk (t l:Addr) (o:Obj) (xs ys zs:List V) (h1:v=some (.ref t)) (h2:Z.G t=some (.tup (xs++.ref l::zs))) (h3:G t=some (.tup (xs++.ref l::zs))) (h4:FzAt Z G H l o ys) (h5:Reps K Z.G us xs/\Reps K Z.G ws ys/\Reps K Z.G vs zs) (h6:Reps K G us xs/\Reps K G ws ys/\Reps K G vs zs):ThroOk K Z G H us ws vs v
inductive TnOk(K:Fg)(Z:Zt)(G H:Hp)(us:List W)(wss:List (List W))(v:Option V):Prop where
 |mk (t l:Addr) (o:Obj) (ls:List Addr) (xs:List V) (h1:v=some (.ref t)) (h2:G t=some (.tup (xs++[.ref l]))) (h3:FzAt Z G H l o (ls.map V.ref)) (h4:ls.Nodup/\l∉ls) (h5:Reps K G us xs) (h6:NestIn K Z G H ls wss):TnOk K Z G H us wss v
inductive PtOk(K:Fg)(Z:Zt)(G H:Hp)(us ws:List W)(w:W)(v:Option V):Prop where
 |mk (p t l:Addr) (o:Obj) (xs ys:List V) (x:V) (h1:v=some (.ref p)) (h2:G p=some (.tup [.ref t,x])) (h3:G t=some (.tup (xs++[.ref l]))) (h4:FzAt Z G H l o ys) (h5:Reps K G us xs) (h6:Reps K G ws ys) (h7:Rep K G w x):PtOk K Z G H us ws w v
inductive ConsF(xs:List V)(as:List Addr)(P:V->List Addr->Prop)(Q:List V->List Addr->Prop):Prop where
 |mk (x:V) (r:List V) (b c:List Addr) (h:xs=x::r) (h':as=b++c) (p:P x b) (q:Q r c):ConsF xs as P Q
inductive LstF(as:List Addr)(a:Addr)(Q:List Addr->Prop):Prop where
 |mk (bs:List Addr) (h:as=a::bs) (q:Q bs):LstF as a Q
mutual
def RepF(K:Fg)(Z:Zt)(G H:Hp):W->V->List Addr->Prop
 |.non,v,as=>v=.non/\as=[]
 |.bl b,v,as=>v=.bl b/\as=[]
 |.int i,v,as=>v=.int i/\as=[]
 |.str x,v,as=>v=.str x/\as=[]
 |.tup ws,v,as=>RefTo v (SqT K G) fun _ xs=>RepFs K Z G H ws xs as
 |.lst ws,v,as=>RefTo v (fun a xs=>∃o,FzAt Z G H a o xs) fun a xs=>LstF as a (RepFs K Z G H ws xs)
 |.exc _,_,_=>False
 |.dic _,_,_=>False
 |.dw _ _ _ _,_,_=>False
 |.fn _ _ _,_,_=>False
def RepFs(K:Fg)(Z:Zt)(G H:Hp):List W->List V->List Addr->Prop
 |[],xs,as=>xs=[]/\as=[]
 |w::ws,xs,as=>ConsF xs as (RepF K Z G H w) (RepFs K Z G H ws)
end
mutual
theorem RepF.move{K:Fg}{Z Z':Zt}{G G' H H':Hp}(sg:Same G G'):∀(w:W){v:V}{as:List Addr},(∀l o ys,l∈as->FzAt Z G H l o ys->FzAt Z' G' H' l o ys)->RepF K Z G H w v as->RepF K Z' G' H' w v as
 |.non,_,_,_,h=>h
 |.bl _,_,_,_,h=>h
 |.int _,_,_,_,h=>h
 |.str _,_,_,_,h=>h
 |.tup ws,_,_,hf,⟨a,xs,e,q,r⟩=>⟨a,xs,e,sg.tup q,RepFs.move sg ws hf r⟩
 |.lst ws,_,_,hf,⟨a,xs,e,⟨o,q⟩,⟨bs,e2,r⟩⟩=>by
  subst e2;exact⟨a,xs,e,⟨o,hf _ _ _ (w0h ..) q⟩,bs,rfl,RepFs.move sg ws (fun l o ys z=>hf l o ys (w0f _ z)) r⟩
 |.exc _,_,_,_,h=>h.elim
 |.dic _,_,_,_,h=>h.elim
 |.dw _ _ _ _,_,_,_,h=>h.elim
 |.fn _ _ _,_,_,_,h=>h.elim
theorem RepFs.move{K:Fg}{Z Z':Zt}{G G' H H':Hp}(sg:Same G G'):∀(ws:List W){vs:List V}{as:List Addr},(∀l o ys,l∈as->FzAt Z G H l o ys->FzAt Z' G' H' l o ys)->RepFs K Z G H ws vs as->RepFs K Z' G' H' ws vs as
 |[],_,_,_,h=>h
 |w::ws,_,_,hf,⟨x,r,b,c,e,e2,p,q⟩=>by
  subst e2;exact⟨x,r,b,c,e,rfl,RepF.move sg w (fun l o ys z=>hf l o ys (w2g _ z)) p,RepFs.move sg ws (fun l o ys z=>hf l o ys (w0i _ z)) q⟩
end
mutual
theorem RepF.rep{K:Fg}{Z:Zt}{G G' H:Hp}(sg:Same G G')(hf:∀l o ys,FzAt Z G H l o ys->G' l=some (.frz o (.lst ys))):∀(w:W){v:V}{as:List Addr},RepF K Z G H w v as->Rep K G' w v
 |.non,_,_,h=>h.1
 |.bl _,_,_,h=>h.1
 |.int _,_,_,h=>h.1
 |.str _,_,_,h=>h.1
 |.tup ws,_,_,⟨a,xs,e,q,r⟩=>⟨a,xs,e,sg.tup q,RepFs.reps sg hf ws r⟩
 |.lst ws,_,_,⟨a,xs,e,⟨o,q⟩,⟨bs,_,r⟩⟩=>⟨a,xs,e,.inl (.inr ⟨o,hf _ _ _ q⟩),RepFs.reps sg hf ws r⟩
 |.exc _,_,_,h=>h.elim
 |.dic _,_,_,h=>h.elim
 |.dw _ _ _ _,_,_,h=>h.elim
 |.fn _ _ _,_,_,h=>h.elim
theorem RepFs.reps{K:Fg}{Z:Zt}{G G' H:Hp}(sg:Same G G')(hf:∀l o ys,FzAt Z G H l o ys->G' l=some (.frz o (.lst ys))):∀(ws:List W){vs:List V}{as:List Addr},RepFs K Z G H ws vs as->Reps K G' ws vs
 |[],_,_,h=>h.1
 |w::ws,_,_,⟨x,r,b,c,e,_,p,q⟩=>⟨x,r,e,RepF.rep sg hf w p,RepFs.reps sg hf ws q⟩
end
mutual
theorem RepF.fzs{K:Fg}{Z:Zt}{G H:Hp}:∀(w:W){v:V}{as:List Addr},RepF K Z G H w v as->∀{l:Addr},l∈as->∃o ys,FzAt Z G H l o ys
 |.non,_,_,h,_,m=>by rw[h.2]at m;cases m
 |.bl _,_,_,h,_,m=>by rw[h.2]at m;cases m
 |.int _,_,_,h,_,m=>by rw[h.2]at m;cases m
 |.str _,_,_,h,_,m=>by rw[h.2]at m;cases m
 |.tup ws,_,_,⟨a,xs,e,q,r⟩,_,m=>RepFs.fzs ws r m
 |.lst ws,_,_,⟨a,xs,e,⟨o,q⟩,⟨bs,e2,r⟩⟩,l,m=>by
  subst e2;rcases w0j.mp m with rfl|m
  ·exact⟨o,xs,q⟩
  ·exact RepFs.fzs ws r m
 |.exc _,_,_,h,_,_=>h.elim
 |.dic _,_,_,h,_,_=>h.elim
 |.dw _ _ _ _,_,_,h,_,_=>h.elim
 |.fn _ _ _,_,_,h,_,_=>h.elim
theorem RepFs.fzs{K:Fg}{Z:Zt}{G H:Hp}:∀(ws:List W){vs:List V}{as:List Addr},RepFs K Z G H ws vs as->∀{l:Addr},l∈as->∃o ys,FzAt Z G H l o ys
 |[],_,_,h,_,m=>by rw[h.2]at m;cases m
 |w::ws,_,_,⟨x,r,b,c,e,e2,p,q⟩,l,m=>by
  subst e2;rcases w1r.mp m with m|m
  ·exact RepF.fzs w p m
  ·exact RepFs.fzs ws q m
end
inductive FzOk(K:Fg)(Z:Zt)(G H:Hp)(w:W)(v:Option V):Prop where
 |mk (u:V) (as:List Addr) (h1:v=some u) (h2:as.Nodup) (h3:RepF K Z G H w u as):FzOk K Z G H w v
inductive FzoOk(K:Fg)(Z:Zt)(G H:Hp)(w:W)(v:Option V):Prop where
 |mk (u:V) (as:List Addr) (h1:v=some u) (h2:as.Nodup) (h3:RepF K Z Z.G H w u as) (h4:RepF K Z G H w u as):FzoOk K Z G H w v
def XOk(K:Fg)(Z:Zt)(G H:Hp):SK->Option V->Prop
 |.old w,v=>∃u,v=some u/\Rep K Z.G w u/\Rep K G w u
 |.new w,v=>∃u,v=some u/\RepN K Z G w u
 |.acc ws,v=>AccOk K Z G H ws v
 |.thro us ws vs,v=>ThroOk K Z G H us ws vs v
 |.tn us wss,v=>TnOk K Z G H us wss v
 |.pt us ws w,v=>PtOk K Z G H us ws w v
 |.fz w,v=>FzOk K Z G H w v
 |.fzo w,v=>FzoOk K Z G H w v
theorem XOk.move{k:SK}{v:Option V}(q:XOk K Z G H k v)(sg:Same G G')(hf:∀l o ys,H l=some (.frz o (.lst ys))->G l=none->Z.H l=none->H' l=some (.frz o (.lst ys))/\G' l=none/\Z.H l=none):XOk K Z G' H' k v:=by
 cases k with
 |old w=>obtain⟨u,h1,h2,h3⟩:=q;exact⟨u,h1,h2,Rep.mono sg w h3⟩
 |new w=>obtain⟨u,h1,h2⟩:=q;exact⟨u,h1,RepN.move sg (fun _ _ _ z=>z) w h2⟩
 |acc ws=>obtain⟨a,o,xs,h1,⟨h2,h3,h4⟩,h5⟩:=q;exact⟨a,o,xs,h1,hf _ _ _ h2 h3 h4,RepNs.move sg (fun _ _ _ z=>z) ws h5⟩
 |tn us wss=>obtain⟨t,l,o,ls,xs,h1,h2,⟨h3,h4,h5⟩,h6,h7,h8⟩:=q;exact⟨t,l,o,ls,xs,h1,sg _ _ h2,hf _ _ _ h3 h4 h5,h6,Reps.mono sg us h7,h8.move sg hf⟩
 |pt us ws w=>obtain⟨p,t,l,o,xs,ys,x,h1,h2,h3,⟨h4,h5,h6⟩,h7,h8,h9⟩:=q;exact⟨p,t,l,o,xs,ys,x,h1,sg _ _ h2,sg _ _ h3,hf _ _ _ h4 h5 h6,Reps.mono sg us h7,Reps.mono sg ws h8,Rep.mono sg w h9⟩
 |fz w=>obtain⟨u,as,h1,h2,h3⟩:=q;exact⟨u,as,h1,h2,RepF.move sg w (fun l o ys _ ⟨k1,k2,k3⟩=>hf l o ys k1 k2 k3) h3⟩
 |fzo w=>obtain⟨u,as,h1,h2,h3,h4⟩:=q;exact⟨u,as,h1,h2,RepF.move (.refl _) w (fun l o ys hm k=>⟨(hf l o ys k.1 (let ⟨_,_,z⟩:=RepF.fzs w h4 hm;z.2.1) k.2.2).1,k.2.1,k.2.2⟩) h3,RepF.move sg w (fun l o ys _ ⟨k1,k2,k3⟩=>hf l o ys k1 k2 k3) h4⟩
 |thro us ws vs=>obtain⟨t,l,o,xs,ys,zs,h1,h2,h3,⟨h4,h5,h6⟩,h7,h8,h9,h10⟩:=q;exact⟨t,l,o,xs,ys,zs,h1,h2,sg _ _ h3,hf _ _ _ h4 h5 h6,h7,Reps.mono sg us h8,Reps.mono sg ws h9,Reps.mono sg vs h10⟩
def IoOk(Z:Zt):Option Nat->Addr->Prop
 |none,a=>Z.H a=none
 |some j,a=>Z.io[j]?=some a
theorem IoOk.io(h:IoOk Z b a):a∈Z.io\/Z.H a=none:=by
 cases b with
 |none=>exact .inr h
 |some j=>exact .inl (w0y h)
inductive OwnOk(K:Fg)(Z:Zt)(G H:Hp)(b:Option Nat)(ws:List W)(v:Option V):Prop where
 |mk (a:Addr) (xs:List V) (h1:v=some (.ref a)) (h2:H a=some (.lst xs)) (h3:G a=none) (h4:IoOk Z b a) (h5:Reps K G ws xs):OwnOk K Z G H b ws v
inductive DicOk(Z:Zt)(G H:Hp)(kvs:Dd)(v:Option V):Prop where
 |mk (a:Addr) (h1:v=some (.ref a)) (h2:H a=some (dO kvs)) (h3:G a=none) (h4:Z.H a=none):DicOk Z G H kvs v
inductive ThrOk(K:Fg)(Z:Zt)(G H:Hp)(us ws vs:List W)(v:Option V):Prop where
 |mk (t l:Addr) (o:Obj) (xs ys zs:List V) (h1:v=some (.ref t)) (h2:G t=some (.tup (xs++.ref l::zs))) (h3:H l=some (.frz o (.lst ys))) (h4:G l=none) (h5:Z.H l=none) (h6:Reps K G us xs/\Reps K G ws ys/\Reps K G vs zs):ThrOk K Z G H us ws vs v
def SlotOk(K:Fg)(Z:Zt)(G H:Hp):S->Option V->Prop
 |.no,_=>True
 |.fr w,v=>∃u,v=some u/\Rep K G w u
 |.own b ws,v=>OwnOk K Z G H b ws v
 |.dic kvs,v=>DicOk Z G H kvs v
 |.thr us ws vs,v=>ThrOk K Z G H us ws vs v
 |.nest wss,v=>NestOk K Z G H wss v
 |.dw sh ks ws,v=>DwOk K Z G H sh ks ws v
 |.x k,v=>XOk K Z G H k v
structure Rel(K:Fg)(Z:Zt)(G:Hp)(σ:St)(H:Hp)(e:List S):Prop where
 sub:Same G H
 slot:∀(i:Nat)(s:S),e[i]?=some s->SlotOk K Z G H s (σ[i]?.getD none)
 len:e.length=σ.length
 dis:∀(i j:Nat)(b b':Option Nat)(ws ws':List W)(a:Addr),e[i]?=some (.own b ws)->e[j]?=some (.own b' ws')->σ[i]?=some (some (.ref a))->σ[j]?=some (some (.ref a))->i=j
 ent:∀a o,Z.H a=some o->a∉Z.io->H a=some o
 ion:∀a∈Z.io,H a≠none
 gen:∀a,Z.H a≠none->G a=Z.G a
inductive AtG(K:Fg)(Z:Zt)(σ:St)(H:Hp)(P:Hp->List S->Prop):Prop where
 |mk (G:Hp) (e:List S) (r:Rel K Z G σ H e) (h:P G e):AtG K Z σ H P
structure Grow(G H G' H':Hp):Prop where
 hh:Same H H'
 gg:Same G G'
 sub:Same G' H'
 new:∀a,H a≠none->G' a=G a
theorem Grow.refl(s:Same G H):Grow G H G H:=⟨.refl _,.refl _,s,fun _ _=>rfl⟩
theorem Grow.trans{G2 H2:Hp}(x:Grow G H G1 H1)(y:Grow G1 H1 G2 H2):Grow G H G2 H2:=
 ⟨x.hh.trans y.hh,x.gg.trans y.gg,y.sub,fun a h=>by
  rw[y.new a,x.new a h];cases q:H a with
  |none=>exact absurd q h
  |some o=>rw[x.hh a o q];simp⟩
theorem x93(e:Same H H')(h:H a≠none):H' a≠none:=by
 cases q:H a with
 |none=>exact absurd q h
 |some o=>rw[e a o q];simp
theorem Grow.laid(s:Same G H){D:Addr}(h:H D=none)(o:HO):Grow G H (upd G D o) (upd H D o) where
 hh:=q4q h o
 gg:=q4q (s.free h) o
 sub:=fun b u e=>by
  by_cases hb:b=D
  ·subst hb;rw[q0h]at e |-;exact e
  ·rw[q0c hb]at e |-;exact s b u e
 new:=fun a ha=>by rw[q0c (fun z=>ha (by rw[z];exact h))]
theorem Grow.hid(s:Same G H){D:Addr}(h:H D=none)(o:HO):Grow G H G (upd H D o) where
 hh:=q4q h o
 gg:=.refl _
 sub:=fun b u e=>by
  have:=s b u e;rw[q0c (q0m this h)];exact this
 new:=fun a ha=>rfl
theorem Rel.grow(r:Rel K Z G σ H e)(g:Grow G H G' H'):Rel K Z G' σ H' e where
 sub:=g.sub
 slot:=fun i s h=>by
  have q:=r.slot i s h;cases s with
  |no=>trivial
  |fr w=>
   obtain⟨u,h1,h2⟩:=q;exact⟨u,h1,Rep.mono g.gg w h2⟩
  |own b ws=>
   obtain⟨a,xs,h1,h2,h3,h4,h5⟩:=q;exact⟨a,xs,h1,g.hh _ _ h2,by rw[g.new a (by rw[h2];simp)];exact h3,h4,Reps.mono g.gg ws h5⟩
  |dic kvs=>
   obtain⟨a,h1,h2,h3,h4⟩:=q;exact⟨a,h1,g.hh _ _ h2,by rw[g.new a (by rw[h2];simp)];exact h3,h4⟩
  |thr us ws vs=>
   obtain⟨t,l,o,xs,ys,zs,h1,h2,h3,h4,h5,h6,h7,h8⟩:=q;exact⟨t,l,o,xs,ys,zs,h1,g.gg _ _ h2,g.hh _ _ h3,by rw[g.new l (by rw[h3];simp)];exact h4,h5,Reps.mono g.gg us h6,Reps.mono g.gg ws h7,Reps.mono g.gg vs h8⟩
  |nest wss=>exact NestOk.move q g.gg fun l o ys h1 h2 h3=>⟨g.hh _ _ h1,by rw[g.new l (by rw[h1];simp)];exact h2,h3⟩
  |x k=>exact XOk.move q g.gg fun l o ys h1 h2 h3=>⟨g.hh _ _ h1,by rw[g.new l (by rw[h1];simp)];exact h2,h3⟩
  |dw sh ks ws=>exact DwOk.move q g.gg fun l o ys h1 h2 h3=>⟨g.hh _ _ h1,by rw[g.new l (by rw[h1];simp)];exact h2,h3⟩
 len:=r.len
 dis:=r.dis
 ent:=fun a o h n=>g.hh _ _ (r.ent a o h n)
 ion:=fun a h=>x93 g.hh (r.ion a h)
 gen:=fun a h=>by
  have:H a≠none:=by
   cases q:Z.H a with
   |none=>exact absurd q h
   |some o=>
    by_cases hi:a∈Z.io
    ·exact r.ion a hi
    ·rw[r.ent a o q hi];simp
  rw[g.new a this];exact r.gen a h
theorem Rel.own(r:Rel K Z G σ H e)(h:e[i]?=some (.own b ws)):∃a xs,σ[i]?=some (some (.ref a))/\H a=some (.lst xs)/\G a=none/\(IoOk Z b a)/\Reps K G ws xs:=by
 obtain⟨a,xs,h1,h2,h3,h4,h5⟩:=r.slot i _ h;refine⟨a,xs,?_,h2,h3,h4,h5⟩;cases q:σ[i]? with
 |none=>rw[q]at h1;cases h1
 |some z=>rw[q]at h1;rw[show z=some (V.ref a)from h1]
theorem Rel.fr(r:Rel K Z G σ H e)(h:e[i]?=some (.fr w)):∃v,σ[i]?=some (some v)/\Rep K G w v:=by
 obtain⟨v,h1,h2⟩:=r.slot i _ h;refine⟨v,?_,h2⟩;cases q:σ[i]? with
 |none=>rw[q]at h1;cases h1
 |some z=>rw[q]at h1;rw[show z=some v from h1]
theorem Rel.at(r:Rel K Z G σ H e){s:S}(h:e[i]?=some s)(hs:SlotOk K Z G H s (σ[i]?.getD none)->σ[i]?.getD none=some v):σ[i]?=some (some v):=by
 have h1:=hs (r.slot i _ h);cases q:σ[i]? with
 |none=>rw[q]at h1;cases h1
 |some z=>rw[q]at h1;rw[show z=some v from h1]
theorem Rel.plain(r:Rel K Z G σ H e){k:SK}(h:e[i]?=some (.x k))(hk:k.plain=some w):∃v,σ[i]?=some (some v)/\Rep K G w v:=by
 have q:=r.slot i _ h;cases k with
 |old w'=>cases hk;obtain⟨v,h1,_,h2⟩:=q;exact⟨v,r.at h fun _=>h1,h2⟩
 |new w'=>cases hk;obtain⟨v,h1,h2⟩:=q;exact⟨v,r.at h fun _=>h1,RepN.rep _ h2⟩
 |_=>cases hk
theorem Rel.mut(r:Rel K Z G σ H e){ws':List W}{xs':List V}(h:e[i]?=some (.own b ws))(ha:σ[i]?=some (some (.ref a)))(q:Reps K G ws' xs'):Rel K Z G σ (upd H a (.lst xs')) (e.set i (.own b ws')):=by
 obtain⟨a',xs,h1,h2,h3,h4,h5⟩:=r.own h;rw[ha]at h1;cases h1;have hi:i<e.length:=(w0c.mp h).1;refine⟨fun c o z=>?_,fun j s z=>?_,by simpa using r.len,fun j k b1 b2 w1 w2 c z1 z2 z3 z4=>?_,fun c o z n=>?_,fun c z=>?_,r.gen⟩
 ·rw[q0c (q0m z h3)];exact r.sub c o z
 ·by_cases hj:j=i
  ·subst hj;rw[w0u hi]at z;cases z;exact⟨a,xs',by rw[ha];rfl,q0h,h3,h4,q⟩
  ·rw[w0s (fun z=>hj z.symm)]at z
   have y:=r.slot j s z;cases s with
   |no=>trivial
   |fr w=>exact y
   |own b2 w2=>
    obtain⟨c,ys,y1,y2,y3,y4,y5⟩:=y;refine⟨c,ys,y1,?_,y3,y4,y5⟩;rw[q0c];exact y2;rintro rfl;obtain⟨c',_,z1,_⟩:=r.own z;rw[z1]at y1;cases y1;exact hj (r.dis j i _ _ _ _ _ z h z1 ha)
   |dic kvs=>
    obtain⟨c,y1,y2,y3,y4⟩:=y;refine⟨c,y1,?_,y3,y4⟩;rw[q0c (q03 y2 h2 (q5g rfl))];exact y2
   |thr us w2 vs=>
    obtain⟨t,l,o,xs2,ys,zs,y1,y2,y3,y4,y5,y6⟩:=y;refine⟨t,l,o,xs2,ys,zs,y1,y2,?_,y4,y5,y6⟩;rw[q0c (q03 y3 h2 (fun z=>nomatch z))];exact y3
   |nest wss=>exact NestOk.move y (.refl _) fun l o ys k1 k2 k3=>⟨by rw[q0c (q03 k1 h2 (fun z=>nomatch z))];exact k1,k2,k3⟩
   |x k=>exact XOk.move y (.refl _) fun l o ys k1 k2 k3=>⟨by rw[q0c (q03 k1 h2 (fun z=>nomatch z))];exact k1,k2,k3⟩
   |dw sh ks ws=>exact DwOk.move y (.refl _) fun l o ys k1 k2 k3=>⟨by rw[q0c (q03 k1 h2 (q53 rfl))];exact k1,k2,k3⟩
 ·have old:∀(k:Nat)(bb:Option Nat)(ww:List W),(e.set i (S.own b ws'))[k]?=some (.own bb ww)->∃b' w',e[k]?=some (.own b' w'):=fun k bb ww z=>by
   by_cases hk:k=i
   ·subst hk;exact⟨_,_,h⟩
   ·rw[w0s (fun z=>hk z.symm)]at z;exact⟨_,_,z⟩
  obtain⟨_,_,q1⟩:=old _ _ _ z1;obtain⟨_,_,q2⟩:=old _ _ _ z2;exact r.dis _ _ _ _ _ _ _ q1 q2 z3 z4
 ·by_cases hc:c=a
  ·subst hc;exfalso;rcases h4.io with h4|h4
   ·exact n h4
   ·rw[h4]at z;cases z
  ·rw[q0c hc];exact r.ent c o z n
 ·by_cases hc:c=a
  ·subst hc;rw[q0h];simp
  ·rw[q0c hc];exact r.ion c z
theorem Rel.freeze(r:Rel K Z G σ H e)(h:e[i]?=some (.own none ws)):∃v G',σ[i]?=some (some v)/\Same G G'/\Rep K G' (.lst ws) v/\Rel K Z G' σ H (e.set i (.fr (.lst ws))):=by
 obtain⟨a,xs,h1,h2,h3,h4,h5⟩:=r.own h;have h4:Z.H a=none:=h4;have sg:Same G (upd G a (.lst xs)):=q4q h3 _;have hi:i<e.length:=(w0c.mp h).1;have rp:Rep K (upd G a (.lst xs)) (.lst ws) (.ref a):=⟨a,xs,rfl,SqL.of q0h,Reps.mono sg ws h5⟩;refine⟨.ref a,upd G a (.lst xs),h1,sg,rp,⟨fun c o z=>?_,fun j s z=>?_,by simpa using r.len,fun j k b1 b2 w1 w2 c z1 z2 z3 z4=>?_,r.ent,r.ion,fun c z=>?_⟩⟩
 ·by_cases hc:c=a
  ·subst hc;rw[q0h]at z;cases z;exact h2
  ·rw[q0c hc]at z;exact r.sub c o z
 ·by_cases hj:j=i
  ·subst hj;rw[w0u hi]at z;cases z;exact⟨.ref a,by rw[h1];rfl,rp⟩
  ·rw[w0s (fun z=>hj z.symm)]at z
   have y:=r.slot j s z;cases s with
   |no=>trivial
   |fr w=>
    obtain⟨u,y1,y2⟩:=y;exact⟨u,y1,Rep.mono sg w y2⟩
   |own b2 w2=>
    obtain⟨c,ys,y1,y2,y3,y4,y5⟩:=y;refine⟨c,ys,y1,y2,?_,y4,Reps.mono sg w2 y5⟩;rw[q0c];exact y3;rintro rfl;obtain⟨c',_,z1,_⟩:=r.own z;rw[z1]at y1;cases y1;exact hj (r.dis j i _ _ _ _ _ z h z1 h1)
   |dic kvs=>
    obtain⟨c,y1,y2,y3,y4⟩:=y;refine⟨c,y1,y2,?_,y4⟩;rw[q0c (q03 y2 h2 (q5g rfl))];exact y3
   |thr us w2 vs=>
    obtain⟨t,l,o,xs2,ys,zs,y1,y2,y3,y4,y5,y6,y7,y8⟩:=y;refine⟨t,l,o,xs2,ys,zs,y1,sg _ _ y2,y3,?_,y5,Reps.mono sg us y6,Reps.mono sg w2 y7,Reps.mono sg vs y8⟩;rw[q0c (q03 y3 h2 (fun z=>nomatch z))];exact y4
   |nest wss=>exact NestOk.move y sg fun l o ys k1 k2 k3=>⟨k1,by rw[q0c (q03 k1 h2 (fun z=>nomatch z))];exact k2,k3⟩
   |x k=>exact XOk.move y sg fun l o ys k1 k2 k3=>⟨k1,by rw[q0c (q03 k1 h2 (fun z=>nomatch z))];exact k2,k3⟩
   |dw sh ks ws=>exact DwOk.move y sg fun l o ys k1 k2 k3=>⟨k1,by rw[q0c (q03 k1 h2 (q53 rfl))];exact k2,k3⟩
 ·have old:∀(k:Nat)(bb:Option Nat)(ww:List W),(e.set i (S.fr (W.lst ws)))[k]?=some (.own bb ww)->e[k]?=some (.own bb ww):=fun k bb ww z=>by
   by_cases hk:k=i
   ·subst hk;rw[w0u hi]at z;cases z
   ·rw[w0s (fun z=>hk z.symm)]at z;exact z
  exact r.dis _ _ _ _ _ _ _ (old _ _ _ z1) (old _ _ _ z2) z3 z4
 ·by_cases hc:c=a
  ·subst hc;exact absurd h4 z
  ·rw[q0c hc];exact r.gen c z
def Free(σ:St)(e:List S)(a:Addr):Prop:=∀(j:Nat)(b:Option Nat)(ws:List W),e[j]?=some (.own b ws)->σ[j]?≠some (some (.ref a))
theorem Rel.set(r:Rel K Z G σ H e){v:V}(q:Rep K G w v):Rel K Z G (σ.set i (some v)) H (e.set i (.fr w)):=by
 refine⟨r.sub,fun j s z=>?_,by simpa using r.len,fun j k b1 b2 w1 w2 c z1 z2 z3 z4=>?_,r.ent,r.ion,r.gen⟩
 ·by_cases hj:j=i
  ·subst hj
   have hi:j<e.length:=by
    have:=(w0c.mp z).1;simpa using this
   rw[w0u hi]at z;cases z;rw[w0u (by rw[<- r.len];exact hi)];exact⟨v,rfl,q⟩
  ·rw[w0s (fun z=>hj z.symm)]at z |-
   exact r.slot j s z
 ·have old:∀(k:Nat)(bb:Option Nat)(ww:List W),(e.set i (S.fr w))[k]?=some (.own bb ww)->k≠i/\e[k]?=some (.own bb ww):=fun k bb ww z=>by
   by_cases hk:k=i
   ·subst hk
    have hi:k<e.length:=by
     have:=(w0c.mp z).1;simpa using this
    rw[w0u hi]at z;cases z
   ·rw[w0s (fun z=>hk z.symm)]at z;exact⟨hk,z⟩
  obtain⟨n1,q1⟩:=old _ _ _ z1;obtain⟨n2,q2⟩:=old _ _ _ z2;rw[w0s (fun z=>n1 z.symm)]at z3
  rw[w0s (fun z=>n2 z.symm)]at z4
  exact r.dis _ _ _ _ _ _ _ q1 q2 z3 z4
theorem Rel.setOwn(r:Rel K Z G σ H e)(h2:H a=some (.lst xs))(h3:G a=none)(h4:Z.H a=none)(hf:Free σ e a)(q:Reps K G ws xs):Rel K Z G (σ.set i (some (.ref a))) H (e.set i (.own none ws)):=by
 refine⟨r.sub,fun j s z=>?_,by simpa using r.len,fun j k b1 b2 w1 w2 c z1 z2 z3 z4=>?_,r.ent,r.ion,r.gen⟩
 ·by_cases hj:j=i
  ·subst hj
   have hi:j<e.length:=by
    have:=(w0c.mp z).1;simpa using this
   rw[w0u hi]at z;cases z;rw[w0u (by rw[<- r.len];exact hi)];exact⟨a,xs,rfl,h2,h3,h4,q⟩
  ·rw[w0s (fun z=>hj z.symm)]at z |-
   exact r.slot j s z
 ·have both:∀(k:Nat)(bb:Option Nat)(ww:List W),(e.set i (S.own none ws))[k]?=some (.own bb ww)->(σ.set i (some (.ref a)))[k]?=some (some (.ref c))->(k=i/\c=a)\/(k≠i/\e[k]?=some (.own bb ww)/\σ[k]?=some (some (.ref c))/\c≠a):=fun k bb ww z y=>by
   by_cases hk:k=i
   ·subst hk
    have hi:k<e.length:=by
     have:=(w0c.mp z).1;simpa using this
    rw[w0u (by rw[<- r.len];exact hi)]at y;cases y;exact .inl ⟨rfl,rfl⟩
   ·rw[w0s (fun z=>hk z.symm)]at z y
    exact .inr ⟨hk,z,y,fun e=>hf k bb ww z (by rw[y,e])⟩
  rcases both _ _ _ z1 z3 with⟨e1,c1⟩|⟨n1,q1,p1,c1⟩<;>rcases both _ _ _ z2 z4 with⟨e2,c2⟩|⟨n2,q2,p2,c2⟩
  ·rw[e1,e2]
  ·exact absurd c1 c2
  ·exact absurd c2 c1
  ·exact r.dis _ _ _ _ _ _ _ q1 q2 p1 p2
theorem Rel.forget(r:Rel K Z G σ H e){e':List S}(hl:e'.length=e.length)(h:∀(i:Nat)(s:S),e'[i]?=some s->s=.no\/e[i]?=some s):Rel K Z G σ H e':=by
 refine⟨r.sub,fun j s z=>?_,by rw[hl];exact r.len,fun j k b1 b2 w1 w2 c z1 z2 z3 z4=>?_,r.ent,r.ion,r.gen⟩
 ·rcases h j s z with rfl|q
  ·trivial
  ·exact r.slot j s q
 ·rcases h _ _ z1 with q1|q1
  ·cases q1
  ·rcases h _ _ z2 with q2|q2
   ·cases q2
   ·exact r.dis _ _ _ _ _ _ _ q1 q2 z3 z4
inductive R(α:Type) where
 |ok (a:α) (e:List S)|ex (c:Value) (e:List S)|no
noncomputable abbrev Den(α:Type):=List S->R α
variable{dA:Den (List W)}
def R.bind{β:Type}:R α->(α->List S->R β)->R β
 |.ok a e,k=>k a e
 |.ex c e,_=>.ex c e
 |.no,_=>.no
def R.holds(r:R α)(P:α->List S->Prop)(E:Value->List S->Prop):Prop:=match r with
 |.ok a e=>P a e
 |.ex c e=>E c e
 |.no=>False
theorem R.holds_bind{β:Type}{r:R α}{k:α->List S->R β}{P:β->List S->Prop}:(r.bind k).holds P E↔r.holds (fun a e=>(k a e).holds P E) E:=by
 cases r<;>rfl
theorem R.holds.imp{r:R α}{P P':α->List S->Prop}{E':Value->List S->Prop}(h:r.holds P E)(p:∀a e,P a e->P' a e)(x:∀c e,E c e->E' c e):r.holds P' E':=by
 cases r with
 |ok a e=>exact p a e h
 |ex c e=>exact x c e h
 |no=>exact h
def ofOpt(o:Option α)(e:List S):R α:=match o with
 |some a=>.ok a e
 |none=>.no
theorem ofOpt_holds{o:Option α}{P:α->List S->Prop}:(ofOpt o e).holds P E↔∃a,o=some a/\P a e:=by
 cases o with
 |none=>exact⟨fun h=>h.elim,fun⟨_,h,_⟩=>nomatch h⟩
 |some a=>exact⟨fun h=>⟨a,rfl,h⟩,fun⟨_,h,q⟩=>by cases h;exact q⟩
inductive SR where
 |nx (e:List S)|rt (s:S) (e:List S)|bk (e:List S)|ct (e:List S)|ex (c:Value) (e:List S)|no
section
variable(K:Fg)(Z:Zt)(EE:L2.St->XK)
abbrev XH(σ:St)(G:Hp):Value->List S->Prop:=fun c e'=>∀G' H',Rel K Z G' σ H' e'->Same G G'->EE σ c none H'
def liftE(d:Den W):TE:=fun σ H Q=>AtG K Z σ H fun G e=>(d e).holds (fun w e'=>∀G' v H',Rel K Z G' σ H' e'->Same G G'->Rep K G' w v->Q v H') (XH K Z EE σ G)
def liftA(d:Den (List W)):TA:=fun σ H Q=>AtG K Z σ H fun G e=>(d e).holds (fun ws e'=>∀G' vs H',Rel K Z G' σ H' e'->Same G G'->Reps K G' ws vs->Q vs H') (XH K Z EE σ G)
def liftT(d:Den Bool):TT:=fun σ H Q=>AtG K Z σ H fun G e=>(d e).holds (fun b e'=>∀G' H',Rel K Z G' σ H' e'->Same G G'->Q b H') (XH K Z EE σ G)
def liftF(d:Den (List W)):TE:=fun σ H Q=>AtG K Z σ H fun G e=>(d e).holds (fun ws e'=>∀G' a xs H',Rel K Z G' σ H' e'->Same G G'->H' a=some (.lst xs)->G' a=none->Z.H a=none->Free σ e' a->Reps K G' ws xs->Q (.ref a) H') (XH K Z EE σ G)
def PostS(D:Ends)(G:Hp):SR->Prop
 |.nx e'=>∀G' σ' H',Rel K Z G' σ' H' e'->Same G G'->D.nx σ' H'
 |.bk e'=>∀G' σ' H',Rel K Z G' σ' H' e'->Same G G'->D.bk σ' H'
 |.ct e'=>∀G' σ' H',Rel K Z G' σ' H' e'->Same G G'->D.ct σ' H'
 |.rt s e'=>∀G' σ' v H',Rel K Z G' σ' H' e'->Same G G'->SlotOk K Z G' H' s (some v)->D.rt v H'
 |.ex c e'=>∀G' σ' H',Rel K Z G' σ' H' e'->Same G G'->EE σ' c none H'
 |.no=>False
def liftS(d:List S->SR):TS:=fun D σ H=>AtG K Z σ H fun G e=>PostS K Z EE D G (d e)
end
section
variable(Z:Zt)(X:Cx)(EE:L2.St->XK)
def DE(e:Expr)(d:Den W):Prop:=PE X e (liftE X.K Z EE d)
def DF(e:Expr)(d:Den (List W)):Prop:=PE X e (liftF X.K Z EE d)
def DT(e:Expr)(d:Den Bool):Prop:=PT X e (liftT X.K Z EE d)
def DW(e:Expr)(d:Den Bool):Prop:=PW X e (liftT X.K Z EE d)
def DA(es:List Expr)(d:Den (List W)):Prop:=PA X es (liftA X.K Z EE d)
def DS(st:Stmt)(d:List S->SR):Prop:=PS X st (liftS X.K Z EE d)
def DSs(sts:List Stmt)(d:List S->SR):Prop:=PSs X sts (liftS X.K Z EE d)
end
theorem PE.mono{e:Expr}{t t':TE}(h:PE X e t)(i:∀σ H Q,t' σ H Q->t σ H Q):PE X e t':=fun pins s σ H Q I q=>h pins s σ H Q I (i σ H Q q)
theorem PT.mono{e:Expr}{t t':TT}(h:PT X e t)(i:∀σ H Q,t' σ H Q->t σ H Q):PT X e t':=fun pins s σ H Q I q=>h pins s σ H Q I (i σ H Q q)
theorem PW.mono{e:Expr}{t t':TT}(h:PW X e t)(i:∀σ H Q,t' σ H Q->t σ H Q):PW X e t':=fun wh pins s σ H Q I q=>h wh pins s σ H Q I (i σ H Q q)
theorem PA.mono{t t':TA}(h:PA X es t)(i:∀σ H Q,t' σ H Q->t σ H Q):PA X es t':=fun p pins s σ H Q I q=>h p pins s σ H Q I (i σ H Q q)
theorem PS.mono{t t':TS}(h:PS X st t)(i:∀D σ H,t' D σ H->t D σ H):PS X st t':=fun pins s σ H D I q=>h pins s σ H D I (i D σ H q)
theorem PSs.mono{st:List Stmt}{t t':TS}(h:PSs X st t)(i:∀D σ H,t' D σ H->t D σ H):PSs X st t':=fun pins s σ H D I q=>h pins s σ H D I (i D σ H q)
section
variable(K:Fg)
def Op2(r:R2)(f:W->W->Option W):Prop:=∀(G H:Hp)(x y:V)(wx wy w:W)(Q:VK),Same G H->Rep K G wx x->Rep K G wy y->f wx wy=some w->(∀G' v H',Grow G H G' H'->Rep K G' w v->Q v H')->r x y H Q
def Op1(r:V->Hp->VK->Prop)(f:W->Option W):Prop:=∀(G H:Hp)(x:V)(wx w:W)(Q:VK),Same G H->Rep K G wx x->f wx=some w->(∀G' v H',Grow G H G' H'->Rep K G' w v->Q v H')->r x H Q
def OpN(r:List V->Hp->VK->Prop)(f:List W->Option W):Prop:=∀(G H:Hp)(xs:List V)(ws:List W)(w:W)(Q:VK),Same G H->Reps K G ws xs->f ws=some w->(∀G' v H',Grow G H G' H'->Rep K G' w v->Q v H')->r xs H Q
end
def dC(w:W):Den W:=fun e=>.ok w e
def dVar(i:Nat):Den W:=fun e=>match e[i]? with
 |some (.fr w)=>.ok w e
 |some (.own none ws)=>.ok (.lst ws) (e.set i (.fr (.lst ws)))
 |some (.x k)=>match k.plain with
  |some w=>.ok w e
  |none=>.no
 |_=>.no
def dOp(f:W->W->Option W)(da db:Den W):Den W:=fun e=>(da e).bind fun x e1=>(db e1).bind fun y e2=>ofOpt (f x y) e2
def dUn(f:W->Option W)(da:Den W):Den W:=fun e=>(da e).bind fun x e1=>ofOpt (f x) e1
def dTest(da:Den W):Den Bool:=fun e=>(da e).bind fun x e1=>match x with
 |.bl k=>.ok k e1
 |_=>.no
def truW:W->Option Bool
 |.non=>some false
 |.bl b=>some b
 |.int i=>some (i != 0)
 |.str x=>if x.length<=16777216 then some ((x.length:Int) != 0)else none
 |.tup xs=>some (!xs.isEmpty)
 |.lst xs=>some (!xs.isEmpty)
 |.exc _=>none
 |.dic _=>none
 |.dw _ _ _ _=>none
 |.fn _ _ _=>none
def dTru(da:Den W):Den Bool:=fun e=>(da e).bind fun x e1=>ofOpt (truW x) e1
def dAnd(a b:Den Bool):Den Bool:=fun e=>(a e).bind fun x e1=>if x=true then b e1 else .ok false e1
def dOr(a b:Den Bool):Den Bool:=fun e=>(a e).bind fun x e1=>if x=true then .ok true e1 else b e1
def dNot(a:Den Bool):Den Bool:=fun e=>(a e).bind fun x e1=>.ok (!x) e1
def dAndV(a b:Den W):Den W:=fun e=>(a e).bind fun x e1=>match x with
 |.bl true=>b e1
 |.bl false=>.ok (.bl false) e1
 |_=>.no
def dOrV(a b:Den W):Den W:=fun e=>(a e).bind fun x e1=>match x with
 |.bl true=>.ok (.bl true) e1
 |.bl false=>b e1
 |_=>.no
def dNotV(a:Den W):Den W:=fun e=>(a e).bind fun x e1=>match x with
 |.bl k=>.ok (.bl (!k)) e1
 |_=>.no
def dNil:Den (List W):=fun e=>.ok [] e
def dCons(a:Den W)(r:Den (List W)):Den (List W):=fun e=>(a e).bind fun x e1=>(r e1).bind fun xs e2=>.ok (x::xs) e2
def dTup(a:Den (List W)):Den W:=fun e=>(a e).bind fun xs e1=>if xs.length<=16777216 then .ok (.tup xs) e1 else .no
def dLst(a:Den (List W)):Den (List W):=fun e=>(a e).bind fun xs e1=>if xs.length<=16777216 then .ok xs e1 else .no
def dFz(a:Den (List W)):Den W:=fun e=>(a e).bind fun xs e1=>.ok (.lst xs) e1
def dFn(f:List W->Option W)(a:Den (List W)):Den W:=fun e=>(a e).bind fun xs e1=>ofOpt (f xs) e1
section
variable{a b c e:Expr}{da db:Den W}{dc ta tb:Den Bool}
theorem XH.trans(s:Same G G1){c:Value}{e:List S}(h:XH K Z EE σ G c e):XH K Z EE σ G1 c e:=fun G' H' r q=>h G' H' r (s.trans q)
theorem q0d{i:Int}{j pos}:DE Z X EE (.Constant (.int i) j pos) (dC (.int i)):=PE.mono x9m fun σ H Q ⟨G,e,r,h⟩=>h G (.int i) H r (.refl _) rfl
theorem q0n{i:Bool}{j pos}:DE Z X EE (.Constant (.bool i) j pos) (dC (.bl i)):=PE.mono y5z fun σ H Q ⟨G,e,r,h⟩=>h G (.bl i) H r (.refl _) rfl
theorem q3a{j pos}:DE Z X EE (.Constant .none j pos) (dC .non):=PE.mono y90 fun σ H Q ⟨G,e,r,h⟩=>h G .non H r (.refl _) rfl
theorem q4g{i:Str}{j pos}:DE Z X EE (.Constant (.str i) j pos) (dC (.str i)):=PE.mono y91 fun σ H Q ⟨G,e,r,h⟩=>h G (.str i) H r (.refl _) rfl
theorem y3a:∀σ H Q,liftE K Z EE (dVar i) σ H Q->tVar i σ H Q:=by
 rintro σ H Q ⟨G,e,r,h⟩;unfold dVar at h;split at h
 ·rename_i w hw;obtain⟨v,h1,h2⟩:=r.fr hw;exact⟨v,h1,h G v H r (.refl _) h2⟩
 ·rename_i ws hw;obtain⟨v,G',h1,h2,h3,h4⟩:=r.freeze hw;exact⟨v,h1,h G' v H h4 h2 h3⟩
 ·rename_i k hw;cases q:k.plain with
  |some w=>
   rw[q]at h;obtain⟨v,h1,h2⟩:=r.plain hw q;exact⟨v,h1,h G v H r (.refl _) h2⟩
  |none=>rw[q]at h;exact h.elim
 ·exact h.elim
theorem dv(i:Nat)(hN:X.N[i]?=some x:=by rfl)(hv:Vis X.env.scope x:=by walk_at "1")(hd:(x==("__debug__":Str))=false:=by decide)
  (hcd:(x==("__classdict__":Str))=false:=by decide):DE Z X EE (.Name x pos) (dVar i):=PE.mono (pv i hN hv hd hcd) y3a
theorem q84{r:R2}(hf:Op2 K r f):∀σ H Q,liftE K Z EE (dOp f da db) σ H Q->tOp r (liftE K Z EE da) (liftE K Z EE db) σ H Q:=by
 rintro σ H Q ⟨G,e,rel,h⟩;simp only[dOp,R.holds_bind,ofOpt_holds]at h;refine⟨G,e,rel,h.imp (fun x e1 h G1 v1 H1 r1 s1 p1=>?_) fun _ _ h=>h⟩
 refine⟨G1,e1,r1,h.imp (fun y e2 h G2 v2 H2 r2 s2 p2=>?_) fun _ _ h=>XH.trans s1 h⟩
 obtain⟨w,hw,h⟩:=h;exact hf G2 H2 v1 v2 x y w Q r2.sub (Rep.mono s2 x p1) p2 hw fun G' v H' g p=>h G' v H' (r2.grow g) ((s1.trans s2).trans g.gg) p
theorem q85{op:Operator}{r:R2}(ho:OpR X (binaryOp op) r)(hf:Op2 X.K r f)(ha:DE Z X EE a da)(hb:DE Z X EE b db):DE Z X EE (.BinOp a op b pos) (dOp f da db):=PE.mono (z3i ho ha hb) (q84 hf)
theorem x0v{op:CmpOp}{r:R2}(ho:OpR X (compareOp op) r)(hf:Op2 X.K r f)(ha:DE Z X EE a da)(hb:DE Z X EE b db)(hm:behindInMarks op b=false):DE Z X EE (.Compare a [op] [b] pos) (dOp f da db):=PE.mono (y6e ho ha hb hm) (q84 hf)
theorem x94{Q:Bool->Hp->Prop}(h:liftT K Z EE (dTest da) σ H Q):liftE K Z EE da σ H (fun x H'=>∃k,x=.bl k/\Q k H'):=by
 obtain⟨G,e,rel,h⟩:=h;simp only[dTest,R.holds_bind]at h;refine⟨G,e,rel,h.imp (fun x e1 h G1 v1 H1 r1 s1 p1=>?_) fun _ _ h=>h⟩
 cases x with
 |bl k=>
  cases(show v1=V.bl k from p1);exact⟨k,rfl,h G1 H1 r1 s1⟩
 |_=>exact h.elim
theorem q4w{op:CmpOp}{r:R2}(ho:OpR X (compareOp op) r)(hf:Op2 X.K r f)(ha:DE Z X EE a da)(hb:DE Z X EE b db)(hm:behindInMarks op b=false):DT Z X EE (.Compare a [op] [b] pos) (dTest (dOp f da db)):=
 PT.mono (y6f ho ha hb hm) fun σ H Q h=>q84 hf σ H _ (x94 h)
theorem y6t{r:V->Hp->VK->Prop}{f:W->Option W}(hf:Op1 K r f):∀σ H Q,liftE K Z EE (dUn f da) σ H Q->tUn r (liftE K Z EE da) σ H Q:=by
 rintro σ H Q ⟨G,e,rel,h⟩;simp only[dUn,R.holds_bind,ofOpt_holds]at h;refine⟨G,e,rel,h.imp (fun x e1 h G1 v1 H1 r1 s1 p1=>?_) fun _ _ h=>h⟩
 obtain⟨w,hw,h⟩:=h;exact hf G1 H1 v1 x w Q r1.sub p1 hw fun G' v H' g p=>h G' v H' (r1.grow g) (s1.trans g.gg) p
theorem z0m(s:Same G H){k:Bool}(h:Rep K G w v)(e:truW w=some k):TruV K v H k:=by
 cases w with
 |non=>cases(show v=.non from h);cases e;rfl
 |bl b=>cases(show v=.bl b from h);cases e;rfl
 |int i=>cases(show v=.int i from h);cases e;rfl
 |str x=>
  cases(show v=.str x from h);simp only[truW]at e;split at e
  ·cases e;exact⟨by rw[sizeLine_eq];assumption,rfl⟩
  ·cases e
 |tup ws=>
  obtain⟨p,xs,rfl,q,r⟩:=h;cases e;refine .inr (.inl ⟨xs,s.tup q,?_⟩);have:=r.length;cases ws<;>cases xs<;>simp_all
 |lst ws=>
  obtain⟨p,xs,rfl,q,r⟩:=h;cases e;refine .inl ⟨xs,s.seq q,?_⟩;have:=r.length;cases ws<;>cases xs<;>simp_all
 |exc _=>cases e
 |dic _=>cases e
 |dw _ _ _ _=>cases e
 |fn _ _ _=>cases e
theorem q4h(ha:DE Z X EE a da)(he:∀whole,isTrue a X.env whole=(do let v <- whole;standAt a.pos;holding [v] (truthy v)):=by intro _;rfl):DT Z X EE a (dTru da):=by
 refine PT.mono (y2y ha he) ?_;rintro σ H Q ⟨G,e,rel,h⟩;simp only[dTru,R.holds_bind,ofOpt_holds]at h;refine⟨G,e,rel,h.imp (fun x e1 h G1 v1 H1 r1 s1 p1=>?_) fun _ _ h=>h⟩
 obtain⟨k,hk,h⟩:=h;exact⟨k,z0m r1.sub p1 hk,h G1 H1 r1 s1⟩
theorem y3b:∀σ H Q,liftT K Z EE (dAnd ta tb) σ H Q->tAnd (liftT K Z EE ta) (liftT K Z EE tb) σ H Q:=by
 rintro σ H Q ⟨G,e,rel,h⟩;simp only[dAnd,R.holds_bind]at h;refine⟨G,e,rel,h.imp (fun x e1 h G1 H1 r1 s1=>?_) fun _ _ h=>h⟩
 cases x with
 |true=>exact⟨G1,e1,r1,R.holds.imp (show(tb e1).holds _ _ from h) (fun y e2 h G2 H2 r2 s2=>h G2 H2 r2 (s1.trans s2)) fun _ _ h=>XH.trans s1 h⟩
 |false=>exact(show ∀G' H',_->_->Q false H' from h) G1 H1 r1 s1
theorem y6u:∀σ H Q,liftT K Z EE (dOr ta tb) σ H Q->tOr (liftT K Z EE ta) (liftT K Z EE tb) σ H Q:=by
 rintro σ H Q ⟨G,e,rel,h⟩;simp only[dOr,R.holds_bind]at h;refine⟨G,e,rel,h.imp (fun x e1 h G1 H1 r1 s1=>?_) fun _ _ h=>h⟩
 cases x with
 |false=>exact⟨G1,e1,r1,R.holds.imp (show(tb e1).holds _ _ from h) (fun y e2 h G2 H2 r2 s2=>h G2 H2 r2 (s1.trans s2)) fun _ _ h=>XH.trans s1 h⟩
 |true=>exact(show ∀G' H',_->_->Q true H' from h) G1 H1 r1 s1
theorem y6v(ha:DT Z X EE a ta):DW Z X EE (.BoolOp .And [a] pos) ta:=y58 ha
theorem x95(ha:DT Z X EE a ta):DW Z X EE (.BoolOp .Or [a] pos) ta:=y92 ha
theorem z0n{rest:List Expr}(ha:DT Z X EE a ta)(hb:DW Z X EE (.BoolOp .And (b::rest) pos) tb):DW Z X EE (.BoolOp .And (a::b::rest) pos) (dAnd ta tb):=PW.mono (y93 ha hb) y3b
theorem x4b{rest:List Expr}(ha:DT Z X EE a ta)(hb:DW Z X EE (.BoolOp .Or (b::rest) pos) tb):DW Z X EE (.BoolOp .Or (a::b::rest) pos) (dOr ta tb):=PW.mono (z3f ha hb) y6u
theorem dt_w(h:DW Z X EE a ta):DT Z X EE a ta:=PW.pt h
theorem q8i(ha:DT Z X EE a ta):DT Z X EE (.UnaryOp .Not a pos) (dNot ta):=by
 refine PT.mono (y94 ha) ?_;rintro σ H Q ⟨G,e,rel,h⟩;simp only[dNot,R.holds_bind]at h;exact⟨G,e,rel,h.imp (fun x e1 h G1 H1 r1 s1=>h G1 H1 r1 s1) fun _ _ h=>h⟩
theorem z0o{op}(h:DE Z X EE a da):DE Z X EE (.BoolOp op [a] pos) da:=y95 h
theorem z3l{rest:List Expr}(ha:DE Z X EE a da)(hb:DE Z X EE (.BoolOp .Or (b::rest) pos) db):DE Z X EE (.BoolOp .Or (a::b::rest) pos) (dOrV da db):=by
 refine PE.mono (z3g ha hb) ?_;rintro σ H Q ⟨G,e,rel,h⟩;simp only[dOrV,R.holds_bind]at h;refine⟨G,e,rel,h.imp (fun x e1 h G1 v1 H1 r1 s1 p1=>?_) fun _ _ h=>h⟩
 cases x with
 |bl k=>
  cases(show v1=V.bl k from p1);cases k with
  |false=>exact⟨false,rfl,⟨G1,e1,r1,R.holds.imp (show(db e1).holds _ _ from h) (fun y e2 h G2 v2 H2 r2 s2 p2=>h G2 v2 H2 r2 (s1.trans s2) p2) fun _ _ h=>XH.trans s1 h⟩⟩
  |true=>exact⟨true,rfl,(show ∀G' v H',_->_->v=V.bl true->Q v H' from h) G1 _ H1 r1 s1 rfl⟩
 |_=>exact h.elim
theorem z0p(ha:DE Z X EE a da):DE Z X EE (.UnaryOp .Not a pos) (dNotV da):=by
 refine PE.mono (y96 ha) ?_;rintro σ H Q ⟨G,e,rel,h⟩;simp only[dNotV,R.holds_bind]at h;refine⟨G,e,rel,h.imp (fun x e1 h G1 v1 H1 r1 s1 p1=>?_) fun _ _ h=>h⟩
 cases x with
 |bl k=>
  cases(show v1=V.bl k from p1);exact⟨k,rfl,(show ∀G' v H',_->_->v=V.bl (!k)->Q v H' from h) G1 _ H1 r1 s1 rfl⟩
 |_=>exact h.elim
theorem q0b:DA Z X EE [] dNil:=PA.mono q8c fun σ H Q ⟨G,e,r,h⟩=>h G [] H r (.refl _) rfl
theorem q0a(ha:DE Z X EE e da)(hr:DA Z X EE es dA)(hs:starEach (e::es) X.env=(false,eval e X.env)::starEach es X.env:=by rfl):DA Z X EE (e::es) (dCons da dA):=by
 refine PA.mono (q47 ha hr hs) ?_;rintro σ H Q ⟨G,e,rel,h⟩;simp only[dCons,R.holds_bind]at h;refine⟨G,e,rel,h.imp (fun x e1 h G1 v1 H1 r1 s1 p1=>?_) fun _ _ h=>h⟩
 refine⟨G1,e1,r1,h.imp (fun xs e2 h G2 vs H2 r2 s2 p2=>?_) fun _ _ h=>XH.trans s1 h⟩
 exact h G2 (v1::vs) H2 r2 (s1.trans s2) ⟨v1,vs,rfl,Rep.mono s2 x p1,p2⟩
theorem q2n{x1}(h:DA Z X EE es dA):DE Z X EE (.Tuple es x1 pos) (dTup dA):=by
 refine PE.mono (x4k h) ?_;rintro σ H Q ⟨G,e,rel,h⟩;simp only[dTup,R.holds_bind]at h;refine⟨G,e,rel,h.imp (fun ws e1 h G1 vs H1 r1 s1 p1=>?_) fun _ _ h=>h⟩
 split at h
 ·rename_i hl;refine⟨by rw[p1.length,sizeLine_eq];exact hl,fun p hp=>?_⟩
  have g:=Grow.laid r1.sub hp (.tup vs);exact(show ∀G' v H',_->_->Rep X.K G' (.tup ws) v->Q v H' from h) _ (.ref p) _ (r1.grow g) (s1.trans g.gg) ⟨p,vs,rfl,SqT.of q0h,Reps.mono g.gg ws p1⟩
 ·exact h.elim
theorem q48{e:List S}(r:Rel K Z G σ H e){p:Addr}(hp:H p=none):Free σ e p:=fun j b ws h q=>by
 obtain⟨a,xs,h1,h2,_⟩:=r.own h;rw[q]at h1;cases h1;rw[hp]at h2;cases h2
theorem q4x{e:List S}(r:Rel K Z G σ H e){p:Addr}(hp:H p=none):Z.H p=none:=by
 cases q:Z.H p with
 |none=>rfl
 |some o=>
  by_cases hi:p∈Z.io
  ·exact absurd hp (r.ion p hi)
  ·rw[r.ent p o q hi]at hp;cases hp
theorem q96{e:List S}{Q:VK}{G0:Hp}(r:Rel K Z G σ H e)(s:Same G0 G)(p1:Reps K G ws vs)
  (h:∀G' a xs H',Rel K Z G' σ H' e->Same G0 G'->H' a=some (.lst xs)->G' a=none->Z.H a=none->Free σ e a->Reps K G' ws xs->Q (.ref a) H'):∀p,H p=none->Q (.ref p) (upd H p (.lst vs)):=fun p hp=>by
 have g:=Grow.hid r.sub hp (.lst vs);exact h G p vs _ (r.grow g) s q0h (r.sub.free hp) (q4x r hp) (q48 r hp) p1
theorem q0r(h:DA Z X EE es dA):DF Z X EE (.List es pos) (dLst dA):=by
 refine PE.mono (z0c h) ?_;rintro σ H Q ⟨G,e,rel,h⟩;simp only[dLst,R.holds_bind]at h;refine⟨G,e,rel,h.imp (fun ws e1 h G1 vs H1 r1 s1 p1=>?_) fun _ _ h=>h⟩
 split at h
 ·rename_i hl;exact⟨by rw[p1.length,sizeLine_eq];exact hl,q96 r1 s1 p1 h⟩
 ·exact h.elim
theorem Rel.seen{e:List S}(r:Rel K Z G σ H e){a:Addr}(h:H a=some (.lst xs))(hg:G a=none)(hz:Z.H a=none)(hf:Free σ e a):Same G (upd G a (.lst xs))/\Rel K Z (upd G a (.lst xs)) σ H e:=by
 have sg:Same G (upd G a (.lst xs)):=q4q hg _;refine⟨sg,⟨fun c o z=>?_,fun j s z=>?_,r.len,r.dis,r.ent,r.ion,fun c z=>?_⟩⟩
 ·by_cases hc:c=a
  ·subst hc;rw[q0h]at z;cases z;exact h
  ·rw[q0c hc]at z;exact r.sub c o z
 ·have y:=r.slot j s z;cases s with
  |no=>trivial
  |fr w=>
   obtain⟨u,y1,y2⟩:=y;exact⟨u,y1,Rep.mono sg w y2⟩
  |own b2 w2=>
   obtain⟨c,ys,y1,y2,y3,y4,y5⟩:=y;refine⟨c,ys,y1,y2,?_,y4,Reps.mono sg w2 y5⟩;rw[q0c];exact y3;rintro rfl;obtain⟨c',_,z1,_⟩:=r.own z;rw[z1]at y1;cases y1;exact hf j b2 w2 z z1
  |dic kvs=>
   obtain⟨c,y1,y2,y3,y4⟩:=y;refine⟨c,y1,y2,?_,y4⟩;rw[q0c (q03 y2 h (q5g rfl))];exact y3
  |thr us w2 vs=>
   obtain⟨t,l,o,xs2,ys,zs,y1,y2,y3,y4,y5,y6,y7,y8⟩:=y;refine⟨t,l,o,xs2,ys,zs,y1,sg _ _ y2,y3,?_,y5,Reps.mono sg us y6,Reps.mono sg w2 y7,Reps.mono sg vs y8⟩;rw[q0c (q03 y3 h (fun z=>nomatch z))];exact y4
  |nest wss=>exact NestOk.move y sg fun l o ys k1 k2 k3=>⟨k1,by rw[q0c (q03 k1 h (fun z=>nomatch z))];exact k2,k3⟩
  |x k=>exact XOk.move y sg fun l o ys k1 k2 k3=>⟨k1,by rw[q0c (q03 k1 h (fun z=>nomatch z))];exact k2,k3⟩
  |dw sh ks ws=>exact DwOk.move y sg fun l o ys k1 k2 k3=>⟨k1,by rw[q0c (q03 k1 h (q53 rfl))];exact k2,k3⟩
 ·by_cases hc:c=a
  ·subst hc;exact absurd hz z
  ·rw[q0c hc];exact r.gen c z
theorem q0s(h:DF Z X EE e dA):DE Z X EE e (dFz dA):=by
 refine PE.mono h ?_;rintro σ H Q ⟨G,e,rel,h⟩;simp only[dFz,R.holds_bind]at h;refine⟨G,e,rel,h.imp (fun ws e1 h G1 a xs H1 r1 s1 q1 q2 q3 q4 p1=>?_) fun _ _ h=>h⟩
 obtain⟨sg,rg⟩:=r1.seen q1 q2 q3 q4;exact(show ∀G' v H',_->_->Rep X.K G' (.lst ws) v->Q v H' from h) _ (.ref a) _ rg (s1.trans sg) ⟨a,xs,rfl,SqL.of q0h,Reps.mono sg ws p1⟩
theorem x7g{f:List W->Option W}(hf:OpN K r f):∀σ H Q,liftE K Z EE (dFn f dA) σ H Q->tCB r (liftA K Z EE dA) σ H Q:=by
 rintro σ H Q ⟨G,e,rel,h⟩;simp only[dFn,R.holds_bind,ofOpt_holds]at h;refine⟨G,e,rel,h.imp (fun ws e1 h G1 vs H1 r1 s1 p1=>?_) fun _ _ h=>h⟩
 obtain⟨w,hw,h⟩:=h;exact hf G1 H1 vs ws w Q r1.sub p1 hw fun G' v H' g p=>h G' v H' (r1.grow g) (s1.trans g.gg) p
theorem x0w{id:String}{f:List W->Option W}(hc:CallR X (.builtin id) r)(hf:OpN X.K r f)(hv:bootBuiltins x=some (.builtin id))(hm:X.mg x=none)(ha:DA Z X EE (e::es) dA)(hg:Gl X x:=by rfl)(hn:x≠"__name__":=by decide)(hdb:(x==("__debug__":Str))=false:=by decide)
  (he:starEach (e::es) X.env=(false,eval e X.env)::starEach es X.env:=by rfl)(hpl:(backTo pos (starEach es X.env)).any (·.1)=false:=by rfl):DE Z X EE (.Call (.Name x p) (e::es) [] pos) (dFn f dA):=
 PE.mono (x4m hc hg hm hv ha hn hdb he hpl) (x7g hf)
theorem x96{T:String}{f:List W->Option W}(hc:CallR X (.type T) r)(hf:OpN X.K r f)(hv:bootBuiltins x=some (.type T))(hm:X.mg x=none)(ha:DA Z X EE (e::es) dA)(hg:Gl X x:=by rfl)(hn:x≠"__name__":=by decide)(hdb:(x==("__debug__":Str))=false:=by decide)
  (he:starEach (e::es) X.env=(false,eval e X.env)::starEach es X.env:=by rfl)(hpl:(backTo pos (starEach es X.env)).any (·.1)=false:=by rfl):DE Z X EE (.Call (.Name x p) (e::es) [] pos) (dFn f dA):=
 PE.mono (x2t hc hg hm hv ha hn hdb he hpl) (x7g hf)
end
def dNx:List S->SR:=fun e=>.nx e
def dSeq(a b:List S->SR):List S->SR:=fun e=>match a e with
 |.nx e'=>b e'
 |r=>r
def R.stm(r:R α)(k:α->List S->SR):SR:=match r with
 |.ok a e=>k a e
 |.ex c e=>.ex c e
 |.no=>.no
def dDrop(d:Den W):List S->SR:=fun e=>(d e).stm fun _ e'=>.nx e'
def dRet(d:Den W):List S->SR:=fun e=>(d e).stm fun w e'=>.rt (.fr w) e'
def dRetF(d:Den (List W)):List S->SR:=fun e=>(d e).stm fun ws e'=>.rt (.own none ws) e'
def dIfS(c:Den Bool)(a b:List S->SR):List S->SR:=fun e=>(c e).stm fun x e1=>if x=true then a e1 else b e1
def dSet(i:Nat)(d:Den W):List S->SR:=fun e=>(d e).stm fun w e'=>.nx (e'.set i (.fr w))
def dSetO(i:Nat)(d:Den (List W)):List S->SR:=fun e=>(d e).stm fun ws e'=>.nx (e'.set i (.own none ws))
def forD(i:Nat)(b:List S->SR):List W->List S->SR
 |[],e=>.nx e
 |w::ws,e=>match b (e.set i (.fr w))with
  |.nx e'=>forD i b ws e'
  |.ct e'=>forD i b ws e'
  |.bk e'=>.nx e'
  |.rt s e'=>.rt s e'
  |.ex c e'=>.ex c e'
  |.no=>.no
def whileD(c:Den Bool)(b:List S->SR):Nat->List S->SR
 |0,_=>.no
 |n+1,e=>(c e).stm fun x e1=>if x=true then(match b e1 with
  |.nx e'=>whileD c b n e'
  |.ct e'=>whileD c b n e'
  |.bk e'=>.nx e'
  |.rt s e'=>.rt s e'
  |.ex c e'=>.ex c e'
  |.no=>.no)else .nx e1
def seqW:W->Option (List W)
 |.tup ws=>some ws
 |.lst ws=>some ws
 |_=>none
def dFor(i:Nat)(d:Den W)(b:List S->SR):List S->SR:=fun e=>(d e).stm fun w e1=>match seqW w with
 |some ws=>forD i b ws e1
 |none=>.no
def rangeW(lo hi:Int):List W:=(List.range (hi-lo).toNat).map fun k=>.int (lo+(k:Nat))
def okI(j:Int):Bool:=Nat.ble j.natAbs 4611686018427387903
theorem x0x{j:Int}(h:okI j=true):-(2^62)<=j/\j<2^62:=by
 have z:j.natAbs<=4611686018427387903:=w3h h;have e:(2:Int)^62=4611686018427387904:=by decide
 rw[e];omega
theorem q2z{j:Int}(h1:-1000000000<=j)(h2:j<=1000000000):okI j=true:=Nat.ble_eq_true_of_le (by omega)
def rng1:List W->Option (List W)
 |[.int j]=>if okI j=true then some (rangeW 0 j)else none
 |_=>none
def rng2:List W->Option (List W)
 |[.int i,.int j]=>if okI i=true/\okI j=true then some (rangeW i j)else none
 |_=>none
def dForR(i:Nat)(g:List W->Option (List W))(d:Den (List W))(b:List S->SR):List S->SR:=fun e=>(d e).stm fun w e1=>match g w with
 |some ws=>forD i b ws e1
 |none=>.no
section
variable{a c e tg:Expr}{rest body:List Stmt}{d:Den W}{dc:Den Bool}{s1 s2:List S->SR}
theorem PostS.trans{D:Ends}(s:Same G G1):∀{r:SR},PostS K Z EE D G r->PostS K Z EE D G1 r
 |.nx e',h=>fun G' σ' H' r q=>h G' σ' H' r (s.trans q)
 |.bk e',h=>fun G' σ' H' r q=>h G' σ' H' r (s.trans q)
 |.ct e',h=>fun G' σ' H' r q=>h G' σ' H' r (s.trans q)
 |.rt w e',h=>fun G' σ' v H' r q=>h G' σ' v H' r (s.trans q)
 |.ex c e',h=>fun G' σ' H' r q=>h G' σ' H' r (s.trans q)
 |.no,h=>h
theorem q12{D:Ends}{r:R α}{k:α->List S->SR}(h:PostS K Z EE D G (r.stm k)):r.holds (fun a e'=>PostS K Z EE D G (k a e')) (XH K Z EE σ G):=by
 cases r with
 |ok a e=>exact h
 |ex c e=>exact fun G' H' r q=>h G' σ H' r q
 |no=>exact h
theorem q05:DSs Z X EE [] dNx:=PSs.mono y59 fun D σ H ⟨G,e,r,h⟩=>h G σ H r (.refl _)
theorem y3c:∀D σ H,liftS K Z EE (dSeq s1 s2) D σ H->tSeq (liftS K Z EE s1) (liftS K Z EE s2) D σ H:=by
 rintro D σ H ⟨G,e,rel,h⟩;refine⟨G,e,rel,?_⟩;unfold dSeq at h;cases q:s1 e with
 |nx e'=>rw[q]at h;exact fun G' σ' H' r s=>⟨G',e',r,PostS.trans s h⟩
 |bk e'=>rw[q]at h;exact h
 |ct e'=>rw[q]at h;exact h
 |rt w e'=>rw[q]at h;exact h
 |ex c e'=>rw[q]at h;exact h
 |no=>rw[q]at h;exact h
theorem q0e(h1:DS Z X EE st s1)(h2:DSs Z X EE rest s2):DSs Z X EE (st::rest) (dSeq s1 s2):=PSs.mono (y2u h1 h2) y3c
theorem q0f(h1:DS Z X EE st s1):DSs Z X EE [st] s1:=y6a h1
theorem x7h(he:DE Z X EE e d)(hs:swapsWith e none pos.line X.env=pure false:=by rfl):DS Z X EE (.Expr e pos) (dDrop d):=by
 refine PS.mono (q61 he hs) ?_;rintro D σ H ⟨G,e,rel,h⟩;exact⟨G,e,rel,(q12 h).imp (fun w e1 h G1 v1 H1 r1 s1 p1=>h G1 σ H1 r1 s1) fun _ _ h=>h⟩
theorem q0o(he:DE Z X EE e d):DS Z X EE (.Return (some e) pos) (dRet d):=by
 refine PS.mono (x4i he) ?_;rintro D σ H ⟨G,e,rel,h⟩;exact⟨G,e,rel,(q12 h).imp (fun w e1 h G1 v1 H1 r1 s1 p1=>h G1 σ v1 H1 r1 s1 ⟨v1,rfl,p1⟩) fun _ _ h=>h⟩
theorem q3t(he:DF Z X EE e dA):DS Z X EE (.Return (some e) pos) (dRetF dA):=by
 refine PS.mono (x4i he) ?_;rintro D σ H ⟨G,e,rel,h⟩;exact⟨G,e,rel,(q12 h).imp (fun w e1 h G1 a xs H1 r1 s1 q1 q2 q3 q4 p1=>h G1 σ (.ref a) H1 r1 s1 ⟨a,xs,rfl,q1,q2,q3,p1⟩) fun _ _ h=>h⟩
theorem y3d:∀D σ H,liftS K Z EE (dIfS dc s1 s2) D σ H->tIfS (liftT K Z EE dc) (liftS K Z EE s1) (liftS K Z EE s2) D σ H:=by
 rintro D σ H ⟨G,e,rel,h⟩;refine⟨G,e,rel,(q12 h).imp (fun x e1 h G1 H1 r1 q1=>?_) fun _ _ h=>h⟩
 cases x with
 |true=>exact⟨G1,e1,r1,PostS.trans q1 h⟩
 |false=>exact⟨G1,e1,r1,PostS.trans q1 h⟩
theorem q1v{p q:List Stmt}(hc:DT Z X EE c dc)(ha:DSs Z X EE p s1)(hb:DSs Z X EE q s2):DS Z X EE (.If c p q pos) (dIfS dc s1 s2):=PS.mono (z3h hc ha hb) y3d
theorem q0p(i:Nat)(hN:X.N.Nodup)(he:DE Z X EE e d)(hi:X.N[i]?=some x:=by rfl)(hx:Loc X.env.scope x:=by walk_at "3")(hs:swapsWith e (some (.Name x pos')) pos.line X.env=pure false:=by rfl)(hf:X.fn x=true\/X.env.scope.names.lookup x=some .local:=by walk_at "2"):
  DS Z X EE (.Assign [.Name x pos'] e pos) (dSet i d):=by
 refine PS.mono (x8p i hN he hi hx hs hf) ?_;rintro D σ H ⟨G,e,rel,h⟩;exact⟨G,e,rel,(q12 h).imp (fun w e1 h G1 v1 H1 r1 q1 p1=>h G1 _ H1 (r1.set p1) q1) fun _ _ h=>h⟩
theorem q8j(i:Nat)(hN:X.N.Nodup)(he:DF Z X EE e dA)(hi:X.N[i]?=some x:=by rfl)(hx:Loc X.env.scope x:=by walk_at "3")(hs:swapsWith e (some (.Name x pos')) pos.line X.env=pure false:=by rfl)(hf:X.fn x=true\/X.env.scope.names.lookup x=some .local:=by walk_at "2"):
  DS Z X EE (.Assign [.Name x pos'] e pos) (dSetO i dA):=by
 refine PS.mono (x8p i hN he hi hx hs hf) ?_;rintro D σ H ⟨G,e,rel,h⟩;exact⟨G,e,rel,(q12 h).imp (fun w e1 h G1 a xs H1 r1 s1 q1 q2 q3 q4 p1=>h G1 _ H1 (r1.setOwn q1 q2 q3 q4 p1) s1) fun _ _ h=>h⟩
theorem y3e(n:Nat)(hp:PassesOwn (model X.prog X.w) X.A X.env X.xe)(hc:DT Z X EE c dc)(hb:DSs Z X EE body s1):DS Z X EE (.While c body [] pos) (whileD dc s1 n):=by
 refine PS.mono (y2v hp hc hb) ?_;rintro D σ H ⟨G,e,rel,h⟩;refine⟨fun m σ' H'=>∃G' e',Rel X.K Z G' σ' H' e'/\Same G G'/\PostS X.K Z EE D G (whileD dc s1 m e'),⟨n,G,e,rel,.refl _,h⟩,?_⟩
 rintro m σ1 H1 ⟨G1,e1,r1,q1,h⟩;cases m with
 |zero=>exact h.elim
 |succ m=>
  refine⟨G1,e1,r1,(q12 (σ:=σ1) h).imp (fun x e2 h G2 H2 r2 q2=>?_) fun _ _ h=>XH.trans q1 h⟩
  cases x with
  |false=>exact h G2 σ1 H2 r2 (q1.trans q2)
  |true=>
   refine⟨fun σ' H'=>∃G' e',Rel X.K Z G' σ' H' e'/\Same G G'/\PostS X.K Z EE D G (whileD dc s1 m e'),fun σ' H' q=>⟨m,Nat.lt_succ_self _,q⟩,⟨G2,e2,r2,?_⟩⟩
   have sg:=q1.trans q2;have h:PostS X.K Z EE D G (match s1 e2 with|.nx e'=>whileD dc s1 m e'|.ct e'=>whileD dc s1 m e'|.bk e'=>.nx e'|.rt s e'=>.rt s e'|.ex c e'=>.ex c e'|.no=>.no):=h;cases q:s1 e2 with
   |nx e'=>rw[q]at h;exact fun G' σ' H' r s=>⟨G',e',r,sg.trans s,h⟩
   |ct e'=>rw[q]at h;exact fun G' σ' H' r s=>⟨G',e',r,sg.trans s,h⟩
   |bk e'=>rw[q]at h;exact fun G' σ' H' r s=>h G' σ' H' r (sg.trans s)
   |rt w e'=>rw[q]at h;exact fun G' σ' v H' r s=>h G' σ' v H' r (sg.trans s)
   |ex c e'=>rw[q]at h;exact fun G' σ' H' r s=>h G' σ' H' r (sg.trans s)
   |no=>rw[q]at h;exact h
theorem y3f{D:Ends}{x:V}{N:St->Hp->Prop}(r1:Rel K Z G1 σ H e1)(q1:Same G G1)(p:Rep K G1 w x)(h:PostS K Z EE D G (forD i s1 (w::ws) e1))
  (hN:∀G' σ' H' e',Rel K Z G' σ' H' e'->Same G G'->PostS K Z EE D G (forD i s1 ws e')->N σ' H'):gName i x σ H fun σ2 H2=>liftS K Z EE s1 {D with nx:=N,ct:=N,bk:=D.nx} σ2 H2:=by
 refine⟨G1,e1.set i (.fr w),r1.set p,?_⟩;unfold forD at h;cases q:s1 (e1.set i (.fr w))with
 |nx e'=>rw[q]at h;exact fun G' σ' H' r s=>hN G' σ' H' e' r (q1.trans s) h
 |ct e'=>rw[q]at h;exact fun G' σ' H' r s=>hN G' σ' H' e' r (q1.trans s) h
 |bk e'=>rw[q]at h;exact fun G' σ' H' r s=>h G' σ' H' r (q1.trans s)
 |rt w e'=>rw[q]at h;exact fun G' σ' v H' r s=>h G' σ' v H' r (q1.trans s)
 |ex c e'=>rw[q]at h;exact fun G' σ' H' r s=>h G' σ' H' r (q1.trans s)
 |no=>rw[q]at h;exact h
def iSeq(K:Fg)(tl:TE):TI:=fun σ H R=>tl σ H fun x H1=>∃a,x=.ref a/\(((∃xs,SqL K H1 a xs)/\R (Itl K a) H1)\/((∃xs,SqT K H1 a xs)/\R (Itt K a) H1))
theorem x0y{l:Expr}{tl:TE}(hl:PE X l tl):PI X tg l (iSeq X.K tl):=by
 intro pins s σ H R I h;refine thn (hl pins s σ H _ I h) fun v s1 ⟨x,H1,I1,r1,q1⟩=>?_
 obtain⟨a,e,q⟩:=q1;subst e;cases r1;rcases q with⟨⟨xs,hq⟩,q⟩|⟨⟨xs,hq⟩,q⟩
 ·obtain⟨its,rv,p,hz⟩:=I1.list hq;refine wpAny_pyIter_list p.isList ?_;refine⟨s1.heap.objs.size,[s1.heap.objs.size],_,_,H1,rfl,I1.kept (t':=s1.toks) fun b o e=>Heap.get?_push_of_some _ e,x9o a _,⟨_,Heap.get?_push_size _ rfl,rfl,rfl⟩,fun b hb=>?_,q⟩
  have e:b=s1.heap.objs.size:=by simpa using hb
  subst e;exact I1.fpOk (w0g _) (I1.hok.fresh (w0g _))
 ·obtain⟨its,rv,p,hz⟩:=I1.tuple hq;refine wpAny_pyIter_tuple (show s1.heap.IsTuple a its.toArray from p) ?_;refine⟨s1.heap.objs.size,[s1.heap.objs.size],_,_,H1,rfl,I1.kept (t':=s1.toks) fun b o e=>Heap.get?_push_of_some _ e,x8h a _,⟨_,Heap.get?_push_size _ rfl,rfl,rfl⟩,fun b hb=>?_,q⟩
  have e:b=s1.heap.objs.size:=by simpa using hb
  subst e;exact I1.fpOk (w0g _) (I1.hok.fresh (w0g _))
theorem x2y{ws:List α}{w:α}(h:ws[k]?=some w):ws.drop k=w::ws.drop (k+1):=by
 obtain⟨hk,rfl⟩:=w0c.mp h;exact w3u hk
theorem x7i{i:Nat}{D:Ends}(r1:Rel K Z G1 σ H1 e1)(rp:Reps K G1 ws xs)(h:PostS K Z EE D G1 (forD i s1 ws e1))(SQ:Hp->Prop)(hSQ:∀G' H',Same G1 G'->Same G' H'->SQ H'):
  ∃Pv:Nat->St->Hp->Prop,Pv 0 σ H1/\(∀j σ H,j<=xs.length->Pv j σ H->SQ H)/\(∀(j:Nat) x σ H,xs[j]?=some x->Pv j σ H->gName i x σ H fun σ2 H2=>liftS K Z EE s1 {D with nx:=Pv (j+1),ct:=Pv (j+1),bk:=D.nx} σ2 H2)/\∀σ H,Pv xs.length σ H->D.nx σ H:=by
 refine⟨fun j σ' H'=>∃G' e',Rel K Z G' σ' H' e'/\Same G1 G'/\PostS K Z EE D G1 (forD i s1 (ws.drop j) e'),⟨G1,e1,r1,.refl _,h⟩,?_,?_,?_⟩
 ·rintro j σ' H' _ ⟨G',e',r',s',_⟩;exact hSQ G' H' s' r'.sub
 ·rintro j x σ' H' hx ⟨G',e',r',s',h⟩;obtain⟨w,hw,pw⟩:=rp.getV hx;rw[x2y hw]at h;exact y3f r' s' (Rep.mono s' w pw) h fun G'' σ'' H'' e'' r'' s'' h''=>⟨G'',e'',r'',s'',h''⟩
 ·rintro σ' H' ⟨G',e',r',s',h⟩;rw[rp.length,w3k]at h;exact h G' σ' H' r' s'
theorem q63(i:Nat)(hN:X.N.Nodup)(hp:PassesOwn (model X.prog X.w) X.A X.env X.xe)(hc:X.calm=true)(hl:DE Z X EE e d)(hb:DSs Z X EE body s1)
  (hi:X.N[i]?=some x:=by rfl)(hx:Loc X.env.scope x:=by walk_at "3")(hf:X.fn x=true\/X.env.scope.names.lookup x=some .local:=by walk_at "2")(hs:∀x,foldedSetIterable e X.env x=pure x:=by intro _;rfl):
  DS Z X EE (.For (.Name x pos') e body [] pos) (dFor i d s1):=by
 refine PS.mono (x4j hp hc (x0y hl) (q1e i hN hi hx hf) hb hs) ?_;rintro D σ H ⟨G,e,rel,h⟩;refine⟨G,e,rel,(q12 h).imp (fun w e1 h G1 v1 H1 r1 q1 p1=>?_) fun _ _ h=>h⟩
 have key:=fun ws xs (rp:Reps X.K G1 ws xs) (h:PostS X.K Z EE D G (forD i s1 ws e1))=>x7i (i:=i) (D:=D) r1 rp (PostS.trans q1 h)
 cases w with
 |tup ws=>
  obtain⟨a,xs,rfl,hq,rp⟩:=p1;refine⟨a,rfl,.inr ⟨⟨xs,r1.sub.tup hq⟩,?_⟩⟩;obtain⟨Pv,h0,h1,h2,h3⟩:=key ws xs rp h (fun H'=>SqT X.K H' a xs) (fun G' H' s s'=>Same.tup s' (Same.tup s hq))
  exact y6c Pv h0 h1 h2 h3
 |lst ws=>
  obtain⟨a,xs,rfl,hq,rp⟩:=p1;refine⟨a,rfl,.inl ⟨⟨xs,r1.sub.seq hq⟩,?_⟩⟩;obtain⟨Pv,h0,h1,h2,h3⟩:=key ws xs rp h (fun H'=>SqL X.K H' a xs) (fun G' H' s s'=>Same.seq s' (Same.seq s hq))
  exact y2x Pv h0 h1 h2 h3
 |_=>exact h.elim
theorem x0z{lo hi:Int}:Reps K G (rangeW lo hi) ((List.range (hi-lo).toNat).map fun k=>V.int (lo+(k:Nat))):=by
 unfold rangeW;generalize List.range (hi-lo).toNat=l
 induction l with
 |nil=>rfl
 |cons k l ih=>exact⟨_,_,rfl,rfl,ih⟩
theorem y6w{i:Nat}{D:Ends}{lo hi:Int}(r1:Rel K Z G1 σ H1 e1)(h:PostS K Z EE D G1 (forD i s1 (rangeW lo hi) e1)):
  ∃W:Nat->Nat->St->Hp->Prop,(∃m,W 0 m σ H1)/\∀j m σ H,W j m σ H ->
   ((Itr lo (hi-lo).toNat).stop j H/\D.nx σ H)\/((Itr lo (hi-lo).toNat).go j H/\∃N:St->Hp->Prop,(∀σ' H',N σ' H'->∃m',m'<m/\W (j+1) m' σ' H')/\∀x H',(Itr lo (hi-lo).toNat).yld j H x H'->gName i x σ H' fun σ2 H2=>liftS K Z EE s1 {D with nx:=N,ct:=N,bk:=D.nx} σ2 H2):=by
 obtain⟨Pv,h0,h1,h2,h3⟩:=x7i (i:=i) (D:=D) r1 (x0z (lo:=lo) (hi:=hi)) h (fun _=>True) (fun _ _ _ _=>trivial)
 refine x9q Pv h0 (fun j σ' H' hj p=>h2 j _ σ' H' ?_ p) (fun σ' H' p=>h3 σ' H' (by simpa using p))
 simp[hj]
theorem q5v(i:Nat){p1 p2:Pos}(hN:X.N.Nodup)(hp:PassesOwn (model X.prog X.w) X.A X.env X.xe)(hc:X.calm=true)(hm:X.mg "range"=none)(ha:DA Z X EE [a] dA)(hb:DSs Z X EE body s1)
  (hi:X.N[i]?=some x:=by rfl)(hx:Loc X.env.scope x:=by walk_at "3")(hf:X.fn x=true\/X.env.scope.names.lookup x=some .local:=by walk_at "2")(hg:Gl X "range":=by rfl)(hs1:starEach [a] X.env=[(false,eval a X.env)]:=by rfl)(hs:∀x,foldedSetIterable (.Call (.Name "range" p1) [a] [] p2) X.env x=pure x:=by intro _;rfl):
  DS Z X EE (.For (.Name x p) (.Call (.Name "range" p1) [a] [] p2) body [] pos) (dForR i rng1 dA s1):=by
 refine PS.mono (x4j hp hc (q8b hg hm ha hs1) (q1e i hN hi hx hf) hb hs) ?_;rintro D σ H ⟨G,e,rel,h⟩;refine⟨G,e,rel,(q12 h).imp (fun ws e1 h G1 vs H1 r1 q1 p1=>?_) fun _ _ h=>h⟩
 unfold rng1 at h;split at h
 ·rename_i hh;split at hh
  ·rename_i j;split at hh
   ·rename_i hj;cases hh;obtain⟨y,r,rfl,e1,e2⟩:=p1;cases(show y=V.int j from e1);cases(show r=[]from e2);refine⟨j,rfl,(x0x hj).1,(x0x hj).2,?_⟩;have z:=y6w (i:=i) (D:=D) r1 (PostS.trans q1 h)
    rwa [w5g]at z
   ·cases hh
  ·cases hh
 ·exact h.elim
end
open PyProof.Rows (envOfC)
inductive FR where
 |ok (s:S)|ex (c:Value)|no
def spF(K:Fg)(F:List W->FR):Sp:=fun vs H Q E=>∃G ws,Same G H/\Reps K G ws vs/\match F ws with
 |.ok s=>∀G' H' v,Grow G H G' H'->SlotOk K ⟨H,G,[]⟩ G' H' s (some v)->Q v H'
 |.ex c=>∀H',Same H H'->E c none H'
 |.no=>False
def SR.fn:SR->FR
 |.nx _=>.ok (.fr .non)
 |.rt s _=>.ok s
 |.ex c _=>.ex c
 |_=>.no
def init(n:Nat)(ws:List W):List S:=ws.map .fr++List.replicate (n-ws.length) .no
theorem q54{N:List Str}(s:Same G H)(r:Reps K G ws vs):Rel K ⟨H,G,[]⟩ G (L2.start N vs) H (init N.length ws):=by
 have hl:=r.length
 have hfr:∀(i:Nat)(s:S),(init N.length ws)[i]?=some s->(s=.no)\/∃w,s=.fr w/\ws[i]?=some w:=fun i s h=>by
  unfold init at h;rw[List.getElem?_append]at h;split at h
  ·rw[w0v]at h;obtain⟨w,h1,rfl⟩:=w0l.mp h;exact .inr ⟨w,rfl,h1⟩
  ·rw[w1z]at h;split at h
   ·cases h;exact .inl rfl
   ·cases h
 refine⟨s,fun i t h=>?_,?_,fun i j b b' w1 w2 a h1 h2 _ _=>?_,fun a o h _=>h,(fun a h=>nomatch h),fun a _=>rfl⟩
 ·rcases hfr i t h with rfl|⟨w,rfl,h1⟩
  ·trivial
  ·obtain⟨v,h2,h3⟩:=r.get h1;refine⟨v,?_,h3⟩;have hi:i<vs.length:=(w0c.mp h2).1;unfold L2.start;rw[w1q (by simpa using hi),w0v,h2];rfl
 ·unfold init L2.start;simp[hl]
 ·rcases hfr i _ h1 with z|⟨w,z,_⟩<;>cases z
theorem Rel.toGrow(r:Rel K ⟨H,G,[]⟩ G' σ H' e)(s:Same G G'):Grow G H G' H':=
 ⟨fun a o h=>r.ent a o h (by simp),s,r.sub,fun a h=>r.gen a h⟩
section
variable{P:Program}{w:World}{mg:Str->Option Value}{base:Heap}
theorem q8k{F:List W->FR}{Q:VK}{E:XK}(h:spF K F vs H Q E):∃G ws,F ws≠.no/\Reps K G ws vs:=by
 obtain⟨G,ws,_,r,h⟩:=h;refine⟨G,ws,fun z=>?_,r⟩
 rw[z]at h;exact h
theorem q86{F:List W->FR}{Q:VK}{E:XK}{r:SR}(he:r.fn=F ws)(h:match F ws with
  |.ok s=>∀G' H' v,Grow G H G' H'->SlotOk K ⟨H,G,[]⟩ G' H' s (some v)->Q v H'
  |.ex c=>∀H',Same H H'->E c none H'
  |.no=>False):PostS K ⟨H,G,[]⟩ (fun _=>E) {nx:=fun _ H'=>Q .non H',rt:=Q} G r:=by
 rw[<- he]at h;cases r with
 |nx e=>exact fun G' σ' H' r s=>h G' H' .non (r.toGrow s) ⟨.non,rfl,rfl⟩
 |rt s e=>exact fun G' σ' v H' r q p=>h G' H' v (r.toGrow q) p
 |ex c e=>exact fun G' σ' H' r s=>h H' (r.toGrow s).hh
 |bk e=>exact h.elim
 |ct e=>exact h.elim
 |no=>exact h.elim
theorem con{N ps:List Str}{F:List W->FR}(A:At K mg x st ps)(sc:FnScope N ps (defScope st))(len:∀ws,F ws≠.no->ws.length=ps.length)
  (hb:∀ws,F ws≠.no->∀(f:Addr)(cdv:Value)(A:Around)(outer:List Env)(s:Shared)(H:Hp)(E:XK)(Z:Zt),Room k (A.deeper (envOfC x (defScope st) s.heap.objs.size f cdv)) ->
   ∃d,DSs Z (cxOf (CX1 P w) P w K mg base N x (defScope st) f cdv A outer s H E) (fun _=>E) (defBody st) d/\(d (init N.length ws)).fn=F ws):Cal P w K mg base (k+1) x ps (spF K F):=by
 refine A.cal sc (fun vs H Q E h=>?_) (fun f cdv A outer s H vs Q E hr h=>?_)
 ·obtain⟨G,ws,hn,r⟩:=q8k h;rw[r.length];exact len ws hn
 ·have hn0:=h;obtain⟨G,ws,sg,rp,h⟩:=h;have hn:F ws≠.no:=fun z=>by rw[z]at h;exact h
  obtain⟨d,hd,he⟩:=hb ws hn f cdv A outer s H E ⟨H,G,[]⟩ hr;exact⟨_,hd,G,init N.length ws,q54 sg rp,q86 he h⟩
end
def dCall(F:List W->FR)(dA:Den (List W)):Den W:=fun e=>(dA e).bind fun ws e1=>match F ws with
 |.ok (.fr w)=>.ok w e1
 |.ok (.own none ws')=>.ok (.lst ws') e1
 |.ok (.dic kvs)=>.ok (.dic kvs) e1
 |.ok (.thr us ws vs)=>.ok (.tup (us++.lst ws::vs)) e1
 |.ok (.x (.new w))=>.ok w e1
 |.ok (.x (.tn us wss))=>.ok (.tup (us++[.lst (wss.map .lst)])) e1
 |.ex c=>.ex c e1
 |_=>.no
section
variable{e:Expr}{ps:List Str}{F:List W->FR}
theorem x4q{s:S}(r1:Rel K Z G1 σ H1 e1)(g:Grow G1 H1 G' H')(q:SlotOk K ⟨H1,G1,[]⟩ G' H' s (some v))(hs:s=.fr w\/∃ws,s=.own none ws/\w=.lst ws):
  ∃G'',Rel K Z G'' σ H' e1/\Same G1 G''/\Rep K G'' w v:=by
 rcases hs with rfl|⟨ws,rfl,rfl⟩
 ·obtain⟨u,h1,h2⟩:=q;cases h1;exact⟨G',r1.grow g,g.gg,h2⟩
 ·obtain⟨a,xs,h1,h2,h3,h4,h5⟩:=q;cases h1;have hn:H1 a=none:=h4;obtain⟨sg,rg⟩:=(r1.grow g).seen h2 h3 (q4x r1 hn) (q48 r1 hn);exact⟨_,rg,g.gg.trans sg,⟨a,xs,rfl,SqL.of q0h,Reps.mono sg ws h5⟩⟩
theorem x97{kvs:Dd}(r1:Rel K Z G1 σ H1 e1)(g:Grow G1 H1 G' H')(q:SlotOk K ⟨H1,G1,[]⟩ G' H' (.dic kvs) (some v)):
  ∃G'',Rel K Z G'' σ H' e1/\Same G1 G''/\Rep K G'' (.dic kvs) v:=by
 obtain⟨a,h1,h2,h3,h4⟩:=q;cases h1;have hn:H1 a=none:=h4;have r:=r1.grow g;have sg:Same G' (upd G' a (dO kvs)):=q4q h3 _;refine⟨upd G' a (dO kvs),⟨fun c o z=>?_,fun j s z=>?_,r.len,r.dis,r.ent,r.ion,fun c z=>?_⟩,g.gg.trans sg,⟨a,rfl,q0h⟩⟩
 ·by_cases hc:c=a
  ·subst hc;rw[q0h]at z;cases z;exact h2
  ·rw[q0c hc]at z;exact r.sub c o z
 ·have y:=r.slot j s z;have y1:=r1.slot j s z;cases s with
  |no=>trivial
  |fr w=>
   obtain⟨u,y1,y2⟩:=y;exact⟨u,y1,Rep.mono sg w y2⟩
  |own b2 w2=>
   obtain⟨c,ys,x1,x2,x3,x4,x5⟩:=y;refine⟨c,ys,x1,x2,?_,x4,Reps.mono sg w2 x5⟩;rw[q0c (q03 x2 h2 (fun z=>q5g rfl z.symm))];exact x3
  |dic kv=>
   obtain⟨c,x1,x2,x3,x4⟩:=y;obtain⟨c',w1,w2,_⟩:=y1;rw[x1]at w1;cases w1;refine⟨c,x1,x2,?_,x4⟩;rw[q0c (q0m w2 hn)];exact x3
  |thr us w2 vs=>
   obtain⟨t,l,o,xs2,ys,zs,x1,x2,x3,x4,x5,x6,x7,x8⟩:=y;refine⟨t,l,o,xs2,ys,zs,x1,sg _ _ x2,x3,?_,x5,Reps.mono sg us x6,Reps.mono sg w2 x7,Reps.mono sg vs x8⟩;rw[q0c (q03 x3 h2 (fun z=>q5g rfl z.symm))];exact x4
  |nest wss=>exact NestOk.move y sg fun l o ys k1 k2 k3=>⟨k1,by rw[q0c (q03 k1 h2 (fun z=>q5g rfl z.symm))];exact k2,k3⟩
  |x k=>exact XOk.move y sg fun l o ys k1 k2 k3=>⟨k1,by rw[q0c (q03 k1 h2 (fun z=>q5g rfl z.symm))];exact k2,k3⟩
  |dw sh ks ws=>
   obtain⟨c,kv,ka,x1,x2,x3,x4,x5,x6,x7⟩:=y;obtain⟨c',kv',ka',w1,w2,_⟩:=y1;rw[x1]at w1;cases w1;refine⟨c,kv,ka,x1,x2,?_,x4,x5,x6.mono sg,Reps.mono sg ws x7⟩;rw[q0c (q0m w2 hn)];exact x3
 ·by_cases hc:c=a
  ·subst hc;exact absurd (q4x r1 hn) z
  ·rw[q0c hc];exact r.gen c z
theorem x98{us vs:List W}(r1:Rel K Z G1 σ H1 e1)(g:Grow G1 H1 G' H')(q:SlotOk K ⟨H1,G1,[]⟩ G' H' (.thr us ws vs) (some v)):
  ∃G'',Rel K Z G'' σ H' e1/\Same G1 G''/\Rep K G'' (.tup (us++.lst ws::vs)) v:=by
 obtain⟨t,l,o,xs,ys,zs,h1,h2,h3,h4,h5,h6,h7,h8⟩:=q;cases h1;have hn:H1 l=none:=h5;have r:=r1.grow g;have sg:Same G' (upd G' l (.frz o (.lst ys))):=q4q h4 _;refine⟨upd G' l (.frz o (.lst ys)),⟨fun c u z=>?_,fun j s z=>?_,r.len,r.dis,r.ent,r.ion,fun c z=>?_⟩,g.gg.trans sg,⟨t,_,rfl,SqT.of (sg _ _ h2),(Reps.mono sg us h6).append ⟨.ref l,zs,rfl,⟨l,ys,rfl,.inl (.inr ⟨o,q0h⟩),Reps.mono sg ws h7⟩,Reps.mono sg vs h8⟩⟩⟩
 ·by_cases hc:c=l
  ·subst hc;rw[q0h]at z;cases z;exact h3
  ·rw[q0c hc]at z;exact r.sub c u z
 ·have y:=r.slot j s z;have y1:=r1.slot j s z;cases s with
  |no=>trivial
  |fr w=>
   obtain⟨u,y1,y2⟩:=y;exact⟨u,y1,Rep.mono sg w y2⟩
  |own b2 w2=>
   obtain⟨c,ys,x1,x2,x3,x4,x5⟩:=y;refine⟨c,ys,x1,x2,?_,x4,Reps.mono sg w2 x5⟩;rw[q0c (q03 x2 h3 (fun z=>nomatch z))];exact x3
  |dic kv=>
   obtain⟨c,x1,x2,x3,x4⟩:=y;refine⟨c,x1,x2,?_,x4⟩;rw[q0c (q03 x2 h3 (q5g rfl))];exact x3
  |thr us w2 vs=>
   obtain⟨t1,l1,o1,xs1,ys1,zs1,w1,w2',w3,w4,w5,w6,w7,w8⟩:=y1;have sg2:=g.gg.trans sg;refine⟨t1,l1,o1,xs1,ys1,zs1,w1,sg2 _ _ w2',g.hh _ _ w3,?_,w5,Reps.mono sg2 us w6,Reps.mono sg2 w2 w7,Reps.mono sg2 vs w8⟩;rw[q0c (q0m w3 hn),g.new l1 (by rw[w3];simp)];exact w4
  |nest wss=>exact NestOk.move y1 (g.gg.trans sg) fun l1 o ys k1 k2 k3=>⟨g.hh _ _ k1,by rw[q0c (q0m k1 hn),g.new l1 (by rw[k1];simp)];exact k2,k3⟩
  |x k=>exact XOk.move y1 (g.gg.trans sg) fun l1 o ys k1 k2 k3=>⟨g.hh _ _ k1,by rw[q0c (q0m k1 hn),g.new l1 (by rw[k1];simp)];exact k2,k3⟩
  |dw sh ks ws=>exact DwOk.move y1 (g.gg.trans sg) fun l1 o ys k1 k2 k3=>⟨g.hh _ _ k1,by rw[q0c (q0m k1 hn),g.new l1 (by rw[k1];simp)];exact k2,k3⟩
 ·by_cases hc:c=l
  ·subst hc;exact absurd (q4x r1 hn) z
  ·rw[q0c hc];exact r.gen c z
theorem NestIn.mem0:∀{ls:List Addr}{wss:List (List W)},NestIn K Z G H ls wss->∀l∈ls,∃o ys,FzAt Z G H l o ys
 |[],_,_,_,hl=>nomatch hl
 |l::ls,ws::wss,⟨⟨o,ys,h1,_⟩,h⟩,c,hc=>by
  rcases w0j.mp hc with rfl|hc
  ·exact⟨o,ys,h1⟩
  ·exact h.mem0 c hc
 |_::_,[],h,_,_=>h.elim
theorem NestIn.reps0(sg:Same G G'):∀{ls:List Addr}{wss:List (List W)},(∀l∈ls,G' l=H l)->NestIn K Z G H ls wss->Reps K G' (wss.map W.lst) (ls.map V.ref)
 |[],[],_,_=>rfl
 |l::ls,ws::wss,hf,⟨⟨o,ys,h1,h4⟩,h⟩=>⟨.ref l,ls.map V.ref,rfl,⟨l,ys,rfl,.inl (.inr ⟨o,by rw[hf l (by simp)];exact h1.1⟩),Reps.mono sg ws h4⟩,h.reps0 sg fun c hc=>hf c (by simp[hc])⟩
 |[],_::_,_,h=>h.elim
 |_::_,[],_,h=>h.elim
theorem Rel.addNew(r1:Rel K Z G1 σ H1 e1)(g:Grow G1 H1 G' H')(As:List Addr) [DecidablePred (·∈As)](hA:∀c∈As,(∃o ys,H' c=some (.frz o (.lst ys)))/\G' c=none/\H1 c=none):
  Same G' (fun c=>if c∈As then H' c else G' c)/\Rel K Z (fun c=>if c∈As then H' c else G' c) σ H' e1:=by
 have sg:Same G' (fun c=>if c∈As then H' c else G' c):=fun c o z=>by
  show(if c∈As then H' c else G' c)=some o;rw[if_neg (fun m=>by rw[(hA c m).2.1]at z;cases z)];exact z
 refine⟨sg,r1.grow ⟨g.hh,g.gg.trans sg,fun c o z=>?_,fun c hc=>?_⟩⟩
 ·have z:(if c∈As then H' c else G' c)=some o:=z;split at z
  ·exact z
  ·exact g.sub c o z
 ·show(if c∈As then H' c else G' c)=G1 c;rw[if_neg (fun m=>hc (hA c m).2.2)];exact g.new c hc
theorem y3g{us:List W}{wss:List (List W)}(r1:Rel K Z G1 σ H1 e1)(g:Grow G1 H1 G' H')(q:SlotOk K ⟨H1,G1,[]⟩ G' H' (.x (.tn us wss)) (some v)):
  ∃G'',Rel K Z G'' σ H' e1/\Same G1 G''/\Rep K G'' (.tup (us++[.lst (wss.map .lst)])) v:=by
 classical
 obtain⟨t,l,o,ls,xs,h1,h2,⟨h3,h4,h5⟩,⟨h6,h7⟩,h8,h9⟩:=q;cases h1
 obtain⟨sg,r2⟩:=r1.addNew g (l::ls) fun c hc=>by
  rcases w0j.mp hc with rfl|hc
  ·exact⟨⟨o,_,h3⟩,h4,h5⟩
  ·obtain⟨o',ys,k1,k2,k3⟩:=h9.mem0 c hc;exact⟨⟨o',ys,k1⟩,k2,k3⟩
 refine⟨_,r2,g.gg.trans sg,t,_,rfl,SqT.of (sg _ _ h2),(Reps.mono sg us h8).append ⟨.ref l,[],rfl,⟨l,_,rfl,.inl (.inr ⟨o,?_⟩),h9.reps0 sg fun c hc=>if_pos (w0f _ hc)⟩,rfl⟩⟩
 show(if l∈l::ls then H' l else G' l)=_;rw[if_pos (w0h ..)];exact h3
theorem z3m{c:Value}(r1:Rel K Z G1 σ H1 e1)(s1:Same G G1)(h:XH K Z EE σ G c e1):∀H',Same H1 H'->EE σ c none H':=fun H' sh=>
 h G1 H' (r1.grow ⟨sh,.refl _,r1.sub.trans sh,fun _ _=>rfl⟩) s1
theorem q0l(C:Cal X.prog X.w X.K X.mg X.base k x ps (spF X.K F))(hr:Room k X.A)(hx:PassX (CX1 X.prog X.w) X EE)(ha:DA Z X EE (e::es) dA)(hg:Gl X x:=by rfl)
  (hdb:(x==("__debug__":Str))=false:=by decide)(he:starEach (e::es) X.env=(false,eval e X.env)::starEach es X.env:=by rfl)(hpl:(backTo pos (starEach es X.env)).any (·.1)=false:=by rfl):
  DE Z X EE (.Call (.Name x p) (e::es) [] pos) (dCall F dA):=by
 refine PE.mono (x91 C hr hx ha hg hdb he hpl) ?_;rintro σ H Q ⟨G,e,rel,h⟩;simp only[dCall,R.holds_bind]at h;refine⟨G,e,rel,h.imp (fun ws e1 h G1 vs H1 r1 s1 p1=>?_) fun _ _ h=>h⟩
 refine⟨G1,ws,r1.sub,by rw[w1l];exact p1,?_⟩;cases q:F ws with
 |ok s=>
  rw[q]at h;intro G' H' v g sl;cases s with
  |no=>exact h.elim
  |fr w=>
   obtain⟨G'',r2,s2,p2⟩:=x4q r1 g sl (.inl rfl);exact(show ∀G' v H',_->_->Rep X.K G' w v->Q v H' from h) G'' v H' r2 (s1.trans s2) p2
  |own b ws'=>
   cases b with
   |some _=>exact h.elim
   |none=>
    obtain⟨G'',r2,s2,p2⟩:=x4q r1 g sl (.inr ⟨ws',rfl,rfl⟩);exact(show ∀G' v H',_->_->Rep X.K G' (.lst ws') v->Q v H' from h) G'' v H' r2 (s1.trans s2) p2
  |dic kvs=>
   obtain⟨G'',r2,s2,p2⟩:=x97 r1 g sl;exact(show ∀G' v H',_->_->Rep X.K G' (.dic kvs) v->Q v H' from h) G'' v H' r2 (s1.trans s2) p2
  |thr us ws' vs'=>
   obtain⟨G'',r2,s2,p2⟩:=x98 r1 g sl;exact(show ∀G' v H',_->_->Rep X.K G' (.tup (us++.lst ws'::vs')) v->Q v H' from h) G'' v H' r2 (s1.trans s2) p2
  |nest _=>exact h.elim
  |x k=>
   cases k with
   |new w=>
    obtain⟨u,h1,h2⟩:=sl;cases h1;exact(show ∀G' v H',_->_->Rep X.K G' w v->Q v H' from h) G' _ H' (r1.grow g) (s1.trans g.gg) (RepN.rep _ h2)
   |tn us wss=>
    obtain⟨G'',r2,s2,p2⟩:=y3g r1 g sl;exact(show ∀G' v H',_->_->Rep X.K G' (.tup (us++[.lst (wss.map .lst)])) v->Q v H' from h) G'' v H' r2 (s1.trans s2) p2
   |_=>exact h.elim
  |dw _ _ _=>exact h.elim
 |ex c=>
  rw[q]at h;exact z3m r1 s1 h
 |no=>rw[q]at h;exact h.elim
def dRaise(C:Addr)(d:Den (List W)):List S->SR:=fun e=>(d e).stm fun ws e1=>if ws.length<=16777216 then .ex (.ref C) e1 else .no
theorem q97{C Ac:Addr}{np cpos:Pos}(hx:RaisX X EE)(hC:excIn X.K C Ac=true)(hm:X.mg x=some (.ref C))(hc:X.calm=true)(ha:DA Z X EE (e::es) dA)(hg:Gl X x:=by rfl)
  (hdb:(x==("__debug__":Str))=false:=by decide)(he:starEach (e::es) X.env=(false,eval e X.env)::starEach es X.env:=by rfl)(hpl:(backTo cpos (starEach es X.env)).any (·.1)=false:=by rfl):
  DS Z X EE (.Raise (some (.Call (.Name x np) (e::es) [] cpos)) none pos) (dRaise C dA):=by
 refine PS.mono (y25 hx hc hg hm hC ha hdb he hpl) ?_;rintro D σ H ⟨G,e,rel,h⟩;refine⟨G,e,rel,(q12 h).imp (fun ws e1 h G1 vs H1 r1 s1 p1=>?_) fun _ _ h=>h⟩
 split at h
 ·rename_i hl;exact⟨by rw[p1.length,sizeLine_eq];exact hl,h G1 σ H1 r1 s1⟩
 ·exact h.elim
def dTry(K:Fg)(c:Addr)(i n:Nat)(b h:List S->SR):List S->SR:=fun e=>match b e with
 |.ex cls e'=>if exmOne K cls (.ref c)=some true then(match h (e'.set i (.fr (.exc cls)))with
  |.nx _=>.nx (List.replicate n .no)
  |.bk _=>.bk (List.replicate n .no)
  |.ct _=>.ct (List.replicate n .no)
  |.rt s e''=>.rt s e''
  |_=>.no)else .no
 |r=>r
theorem Rel.blank{e:List S}(r:Rel K Z G σ H e)(n:Nat):Rel K Z G (List.replicate n none) H (List.replicate n .no):=by
 have hno:∀(i:Nat)(s:S),(List.replicate n S.no)[i]?=some s->s=.no:=fun i s h=>by
  rw[w1z]at h;split at h
  ·cases h;rfl
  ·cases h
 refine⟨r.sub,fun i s h=>?_,by simp,fun i j b b' w1 w2 a h1 h2 _ _=>?_,r.ent,r.ion,r.gen⟩
 ·rw[hno i s h];trivial
 ·cases hno _ _ h1
theorem z0q{body suite:List Stmt}{b₀:Stmt}{c n:Str}{Cc:Addr}{np hpos:Pos}{dB dH:List S->SR}
  (hm:X.mg c=some (.ref Cc))(hN:X.N.Nodup)(hi:X.N[i]?=some n)(hx:X.env.scope.names.lookup n=some .local)
  (hb:∀(EE:L2.St->XK)(pn:List (Addr×Obj))(xe:Value->Shared->Prop),PassX (CX1 X.prog X.w) (X.tr pn xe) EE->DSs Z (X.tr pn xe) EE body dB)
  (hh:∀e:Addr,DSs Z (X.hn e) (fun _=>E0) (b₀::suite) dH)(hg:Gl X c:=by rfl)
  (hs:X.stack=X.env::X.outer:=by rfl)(hf:X.env.frame=some X.env.locals:=by rfl)(hdb:(c==("__debug__":Str))=false:=by decide):
  DS Z X EE (.Try body [.ExceptHandler (some (.Name c np)) (some n) (b₀::suite) hpos] [] [] pos) (dTry X.K Cc i X.N.length dB dH):=by
 refine PS.mono (z0j (tb:=fun EE=>liftS X.K Z EE dB) (th:=liftS X.K Z (fun _=>E0) dH) hg hm hN hi hx hb hh hs hf hdb) ?_
 rintro D σ H ⟨G,e,rel,h⟩;refine⟨G,e,rel,?_⟩;unfold dTry at h;cases q:dB e with
 |nx e'=>rw[q]at h;exact h
 |bk e'=>rw[q]at h;exact h
 |ct e'=>rw[q]at h;exact h
 |rt w e'=>rw[q]at h;exact h
 |no=>rw[q]at h;exact h
 |ex cls e'=>
  rw[q]at h;intro G1 σ1 H1 r1 s1;dsimp only at h;split at h
  ·rename_i hq;refine⟨hq,fun ex hex=>?_⟩
   have g:=Grow.laid r1.sub hex (excO ex cls);refine⟨_,e'.set i (.fr (.exc cls)),(r1.grow g).set (v:=.ref ex) ⟨ex,rfl,q0h⟩,?_⟩;have sg:=s1.trans g.gg;cases q2:dH (e'.set i (.fr (.exc cls)))with
   |nx e2=>rw[q2]at h;exact fun G2 σ2 H2 r2 s2=>h G2 _ H2 (r2.blank _) (sg.trans s2)
   |bk e2=>rw[q2]at h;exact fun G2 σ2 H2 r2 s2=>h G2 _ H2 (r2.blank _) (sg.trans s2)
   |ct e2=>rw[q2]at h;exact fun G2 σ2 H2 r2 s2=>h G2 _ H2 (r2.blank _) (sg.trans s2)
   |rt w e2=>rw[q2]at h;exact fun G2 σ2 v H2 r2 s2 p2=>h G2 σ2 v H2 r2 (sg.trans s2) p2
   |ex c2 e2=>rw[q2]at h;exact h.elim
   |no=>rw[q2]at h;exact h.elim
  ·exact h.elim
end
end D
namespace L2
open PySem PySem.Spec PyProof.Rows
section
variable{X:Cx}{elt target iter:Expr}{ifs:List Expr}{scope:Scope}{pos:Pos}{wi:TI}{g:TG}{tc:TT}{te:TE}
theorem y3h{Nl Nf:List Str}{js:List Nat}{y:Str}{py spos:Pos}{gy:TG}(hc:X.calm=true)(hi:PI X target iter wi)
  (hk:scope.kind=.function)(hcell:∀y∈scope.names,y.2≠.cell)(hnames:∀x∈scope.names,x.2=.local->scope.names.lookup x.1=some .local)
  (hfree:∀x∈scope.names,x.2=.free->X.env.kindOf x.1=some .cell\/X.env.kindOf x.1=some .free)
  (hj:∀(i j:Nat) y,Nf[i]?=some y->js[i]?=some j->X.N[j]?=some y)(hlen:js.length=Nf.length)
  (hNf:∀y∈Nf,(y,NameKind.free)∈scope.names/\Vis X.env.scope y/\X.env.kindOf y≠some .local)
  (hvis:∀y∈Nf,(relabel scope X.env).names.lookup y=some .cell\/(relabel scope X.env).names.lookup y=some .free)
  (hg:∀cl C s₀ H₀ ex,PG (X.cp (Nl++Nf) scope cl C s₀ H₀ ex) target g)(ht:∀cl C s₀ H₀ ex,PTs (X.cp (Nl++Nf) scope cl C s₀ H₀ ex) ifs tc)(he:∀cl C s₀ H₀ ex,PE (X.cp (Nl++Nf) scope cl C s₀ H₀ ex) elt te)
  (hgy:PG X (.Name y py) gy)(hsw:swapsWith (.ListComp elt [⟨target,iter,ifs,0⟩] scope pos) (some (.Name y py)) spos.line X.env=pure true)
  (hs:∀x,foldedSetIterable iter X.env x=pure x:=by intro _;rfl):
  PS X (.Assign [.Name y py] (.ListComp elt [⟨target,iter,ifs,0⟩] scope pos) spos) (tAsg (tComp wi Nl.length js g tc te) gy):=by
 intro pins s σ H D I h;obtain⟨cl,hclos,hcl,hcf⟩:=q5r (scope:=scope) (env:=X.env) fun x hx hf=>I.ok.has x.1 (hfree x hx hf)
 rw[exec_Assign_Name_used _ _ _ _ hsw];refine wpAny_bind (wpAny_standAt (wpAny_bind ?_));show wpAny _ _ (do let _ <- comprehension _ _ _ _ _ _ _ _) _ _ _;refine wpAny_bind (wpAny_comprehension_free (Q:=fun _ s''=>wpAny (model X.prog X.w) X.A (pure ()) (fun _ s3=>wpAny (model X.prog X.w) X.A (pure Flow.next) (SP X pins D) X.xe s3) X.xe s'') (use:=some (assign (.Name y py) X.env)) rfl hs hclos hk hnames (thn (hi pins s σ H _ I h) fun v s1 h1=>thn h1 fun itv s2 h2=>?_))
 obtain⟨it,fp,tn,J,H2,e,I2,T,st2,f2,rd⟩:=h2;subst e;refine wpAny_newObj_type (wpAny_newFunctionEnv hcell (by intro y hy;simp at hy) (fun h₁ hns₁ hsb₁=>?_) hk)
 dsimp only at hns₁ hsb₁ |-
 have szp:(s2.heap.push {cls:=.type "list", dict:=none,data:=.seq ([]:List Value).toArray}).objs.size=s2.heap.objs.size+1:=Heap.size_push ..;rw[szp]at hns₁ hsb₁ |-
 have fD:H2 s2.heap.objs.size=none:=I2.hok.fresh (w0g _);obtain⟨W,⟨m0,w0⟩,turn⟩:=rd s2.heap.objs.size fD;have obj2:=T.obj 0 s2.heap st2;have IS:=x4p (Nl:=Nl) (Nf:=Nf) (js:=js) (cl:=cl) (tk:=s2.toks+([]:List (Str×Value)).length) I2 f2 obj2 hk hcell hcl hcf hj hlen hNf hvis hns₁ hsb₁
 have upS:∀b u,s2.heap.get? b=some u->h₁.get? b=some u:=fun b u q=>by
  have hlt:=Heap.lt_size q;exact(hsb₁.2 b (w0r (w2u hlt))).trans (Heap.get?_push_of_some _ (Heap.get?_push_of_some _ q))
 have stS:tn 0 h₁:=T.keep 0 s2.heap h₁ st2 fun b hb o q=>upS b o q
 have noD:∀b∈fp,upd H2 s2.heap.objs.size (.lst []) b=none:=fun b hb=>by
  obtain⟨o,q,_⟩:=obj2 b hb;rw[q0c (w0r (Heap.lt_size q))];exact(f2 b hb).1
 have stat:∀{H':Hp},(∀b∈fp,H' b=none)->∀b∈fp,FpOk (X.cp (Nl++Nf) scope cl (s2.heap.objs.size+1) {s2 with heap:=s2.heap.push {cls:=.type "list", dict:=none,data:=.seq ([]:List Value).toArray}} (upd H2 s2.heap.objs.size (.lst [])) fp) [] H' b:=fun hn b hb=>by
  refine⟨hn b hb,(IS.ok.exf b hb).1,IS.ok.exfs b hb,.inl hb,(IS.ok.exf b hb).2,fun p hp=>(by cases hp)⟩
 have loop:∀s4:Shared,s4={s2 with heap:=h₁,toks:=s2.toks+([]:List (Str×Value)).length} ->
   codeAny (model X.prog X.w) X.A (.compLoop (.ListComp elt [⟨target,iter,ifs,0⟩] scope pos) 0 (.ref it) (.ref s2.heap.objs.size) (compEnvC scope cl (s2.heap.objs.size+1) X.env))
    (compPost (model X.prog X.w) X.A X.xe (some (assign (.Name y py) X.env)) (fun _ s''=>wpAny (model X.prog X.w) X.A (pure ()) (fun _ s3=>wpAny (model X.prog X.w) X.A (pure Flow.next) (SP X pins D) X.xe s3) X.xe s'') (.ref s2.heap.objs.size) (s2.heap.objs.size+1)) s4:=by
  rintro s4 rfl;refine x2x (fun n s'=>∃i H',Inv (X.cp (Nl++Nf) scope cl (s2.heap.objs.size+1) {s2 with heap:=s2.heap.push {cls:=.type "list", dict:=none,data:=.seq ([]:List Value).toArray}} (upd H2 s2.heap.objs.size (.lst [])) fp) [] (List.replicate Nl.length none++pj js σ) H' s'/\tn i s'.heap/\(∀b∈fp,H' b=none)/\W i n H') ?_ m0 ⟨0,_,IS,stS,noD,w0⟩
  rintro n s3 ⟨i,H3,I3,st3,fr3,w3⟩;rcases turn i n H3 w3 with⟨stop,qn⟩|⟨go,step⟩
  ·refine thn (T.done (X.cp (Nl++Nf) scope cl (s2.heap.objs.size+1) {s2 with heap:=s2.heap.push {cls:=.type "list", dict:=none,data:=.seq ([]:List Value).toArray}} (upd H2 s2.heap.objs.size (.lst [])) fp) rfl rfl rfl hc i [] s3 _ H3 _ I3 (stat fr3) st3 stop) fun r s5 ⟨hr,I5⟩=>?_
   subst hr;obtain⟨m5,hn5,_⟩:=I5.loc;obtain⟨o5,es5,ep5,ho5,hd5,hk5,hf5⟩:=id hn5;have J5:Inv X pins σ H3 s5:=x9x I2 f2 I5 (h':=s5.heap) ⟨rfl,fun _ _=>rfl⟩
   have fC:FpOk X pins H3 (s2.heap.objs.size+1):=I2.fpOk (w3o _) I5.free;have f1:∀b∈[s2.heap.objs.size+1],FpOk X pins H3 b:=fun b hb=>by rw[w1g.mp hb];exact fC
   have J6:=J5.pinned f1 (fun b hb=>by rw[w1g.mp hb];exact⟨o5,ho5,fun v z=>by rw[hd5]at z;cases z⟩)
   refine thn (hgy _ s5 σ H3 (.ref s2.heap.objs.size) _ _ J6 rfl qn) fun _ s6 ⟨σ6,H6,I6,q6⟩=>?_
   have pC:=I6.pin (s2.heap.objs.size+1,o5) (w0i _ (w0i _ (q3k (w1g.mpr rfl) ho5)));refine⟨m5,⟨o5,es5,ep5,pC.1,hd5,hk5,hf5⟩,fun h' hs'=>wpAny_pure (wpAny_pure ⟨σ6,H6,?_,q6⟩)⟩
   obtain⟨g0,g1,g2,g3,g4,g5⟩:=fC;exact I6.unpinned.turned (t':=s6.toks) (fun b o hb e=>(hs'.2 b hb).trans e) pC.2.1 g1 g3 g4 g5
  ·refine thn (T.item (X.cp (Nl++Nf) scope cl (s2.heap.objs.size+1) {s2 with heap:=s2.heap.push {cls:=.type "list", dict:=none,data:=.seq ([]:List Value).toArray}} (upd H2 s2.heap.objs.size (.lst [])) fp) rfl rfl rfl hc i [] s3 _ H3 _ I3 (stat fr3) st3 go) fun r s5 ⟨u,hr,h5⟩=>?_
   subst hr;refine thn h5 fun _ s6 ⟨x,H6,I6,r6,y6,st6,fr6⟩=>?_
   have I6':=I6.pinned (stat fr6) (T.obj _ _ st6);refine thn (hg _ _ _ _ _ _ s6 _ H6 x u _ I6' r6 (step x H6 y6)) fun _ s7 ⟨σ7,H7,I7,kp,q7⟩=>?_
   refine thn (ht _ _ _ _ _ _ s7 σ7 H7 _ I7 q7) fun ok s8 ⟨H8,I8,q8⟩=>?_
   have again:∀{σ9:St}{H9:Hp}{s9:Shared},Inv (X.cp (Nl++Nf) scope cl (s2.heap.objs.size+1) {s2 with heap:=s2.heap.push {cls:=.type "list", dict:=none,data:=.seq ([]:List Value).toArray}} (upd H2 s2.heap.objs.size (.lst [])) fp) ([]++pinsAt fp s6.heap) σ9 H9 s9 ->
     Kp (List.replicate Nl.length none++pj js σ) σ9->(∃m',m'<n/\W (i+1) m' H9)->∃m,m<n/\∃i H',Inv (X.cp (Nl++Nf) scope cl (s2.heap.objs.size+1) {s2 with heap:=s2.heap.push {cls:=.type "list", dict:=none,data:=.seq ([]:List Value).toArray}} (upd H2 s2.heap.objs.size (.lst [])) fp) [] (List.replicate Nl.length none++pj js σ) H' s9/\tn i s9.heap/\(∀b∈fp,H' b=none)/\W i m H':=fun {σ9 H9 s9} I9 hw ⟨m',hm,w9⟩=>by
    refine⟨m',hm,i+1,H9,I9.unpinned.weak (by rw[I9.len,<- IS.len]) hw,T.keep _ _ _ st6 fun b hb o q=>(I9.pin (b,o) (w0i _ (w0i _ (q3k hb q)))).1,fun b hb=>?_,w9⟩
    obtain⟨o,q,d⟩:=T.obj _ _ st6 b hb;exact(I9.pin (b,o) (w0i _ (w0i _ (q3k hb q)))).2.1
   cases ok with
   |false=>exact again I8 kp (by simpa using q8)
   |true=>
    have q8':=by simpa only[if_true]using q8
    refine thn (he _ _ _ _ _ _ s8 σ7 H8 _ I8 q8') fun y s9 ⟨yv,H9,I9,r9,ys,hD,hz,q9⟩=>?_
    refine thn (q8e _ s9 σ7 H9 (.ref s2.heap.objs.size) [yv] (.ref s2.heap.objs.size) [y] (fun v H'=>v=.non/\H'=upd H9 s2.heap.objs.size (.lst (ys++[yv]))) I9 rfl (.cons r9 .nil) ⟨_,ys,yv,rfl,rfl,hD,hz,rfl,rfl⟩) fun _ s10 ⟨_,H10,I10,_,_,e10⟩=>?_
    subst e10;exact again I10 kp q9
 exact codeAny_compStart_list (loop _ rfl) (T.self X.A 0 _ _ _ stS (loop _ rfl))
end
variable{X:Cx}
theorem x2z{y:Str}{py spos:Pos}{gy:TG}{elt target iter:Expr}{ifs:List Expr}{scope sc:Scope}{pos:Pos}{wi:TI}{g:TG}{tc:TT}{te:TE}{Nl Nf N:List Str}{js:List Nat}(hc:X.calm=true)(hi:PI X target iter wi)
  (ok:compOk sc scope N Nf js=true)
  (hg:∀cl C s₀ H₀ ex,PG (X.cp (Nl++Nf) scope cl C s₀ H₀ ex) target g)(ht:∀cl C s₀ H₀ ex,PTs (X.cp (Nl++Nf) scope cl C s₀ H₀ ex) ifs tc)(he:∀cl C s₀ H₀ ex,PE (X.cp (Nl++Nf) scope cl C s₀ H₀ ex) elt te)
  (hgy:PG X (.Name y py) gy)(hsw:swapsWith (.ListComp elt [⟨target,iter,ifs,0⟩] scope pos) (some (.Name y py)) spos.line X.env=pure true)
  (hsc:X.env.scope=sc:=by rfl)(hN:X.N=N:=by rfl)(hs:∀x,foldedSetIterable iter X.env x=pure x:=by intro _;rfl):
  PS X (.Assign [.Name y py] (.ListComp elt [⟨target,iter,ifs,0⟩] scope pos) spos) (tAsg (tComp wi Nl.length js g tc te) gy):=by
 unfold compOk at ok;simp only[w0o,w0z,beq_iff_eq,bne_iff_ne,w4h,w0x]at ok;obtain⟨⟨⟨⟨⟨⟨k1,k2⟩,k3⟩,k4⟩,k5⟩,k6⟩,k7⟩:=ok;have kind:∀x,X.env.kindOf x=sc.names.lookup x:=fun x=>by rw[<- hsc];rfl
 refine y3h hc hi k1 k2 (fun x hx hl=>(k3 x hx).resolve_left fun z=>z hl) (fun x hx hf=>?_) (fun i j y e1 e2=>?_) k5 (fun y hy=>?_) (fun y hy=>?_) hg ht he hgy hsw hs
 ·rw[kind];rcases k4 x hx with(z|z)|z
  ·exact absurd hf z
  ·exact .inl z
  ·exact .inr z
 ·have hlt:i<js.length:=(w0c.mp e2).1;have z:=k6 i hlt;rw[e1,e2]at z;rw[hN]
  simpa using z
 ·obtain⟨z1,z2⟩:=k7 y hy;refine⟨PySem.mem_of_lookup z1,?_,?_⟩
  ·rw[hsc];rcases z2 with z|z
   ·exact .inr (.inl z)
   ·exact .inr (.inr z)
  ·rw[kind];rcases z2 with z|z<;>(rw[z];decide)
 ·exact q50 (k7 y hy).1
def rCatS(K:Fg):R2:=fun x y H Q=>∃l b xs zs,x=.ref l/\y=.ref b/\SqL K H l xs/\SqL K H b zs/\xs.length+zs.length<=sizeLine/\∀p,H p=none->Q (.ref p) (upd H p (.lst (xs++zs)))
theorem y6x:OpR X (binaryOp .Add) (rCatS X.K):=by
 intro pins s σ H x y v u Q I rx ry h;obtain⟨l,b,xs,zs,rfl,rfl,h1,h2,hz,q⟩:=h;cases rx;cases ry;obtain⟨its,r1,p1,_⟩:=I.list h1;obtain⟨its2,r2,p2,_⟩:=I.list h2;obtain⟨⟨cls,dd,data,sl⟩,ho,hc,n,hd⟩:=id p1.isList;obtain⟨⟨cls2,dd2,data2,sl2⟩,ho2,hc2,n2,hd2⟩:=id p2.isList;simp only at hc hd hc2 hd2;subst hc hd hc2 hd2;have l1:=r1.length;have l2:=r2.length;refine concat_meets ⟨_,ho,rfl⟩ ⟨_,ho2,rfl⟩ noFill_list_add seq_list_add PySem.F.slot_list_add PySem.F.entry_list_add (PySem.F.args_list_add_2 _ _) (list_addW l b its.toArray its2.toArray n n2 dd dd2 sl sl2 (by simp only[w0d];omega)) ⟨ho,ho2,?_⟩;have ea:its.toArray++its2.toArray=(its++its2).toArray:=by simp
 rw[ea];exact⟨.ref _,_,I.lnew (t':=s.toks) (r1.append r2) (by rw[w0p];omega),rfl,q _ I.fresh⟩
end L2
namespace D
open PySem L2
variable{a j:Addr}{A:Around}{vs ys:Array Value}{t:Bool}{X:Cx}{dA p:Den (List W)}{c cc:Den Bool}{d da db dk:Den W}{h':Heap}{G G1 H:Hp}{lo:Int}{EE:L2.St->XK}{pins:List (Addr×Obj)}{ps:List (W×W)}{elts es:List Expr}{js:List Nat}{e pe:List S}{h q s1:List S->SR}{xs:List V}{us ws:List W}{i k kt n:Nat}{b:Option Nat}{apos cpos p1 p2 pos:Pos}{P:Program}{K:Fg}{s:Shared}{σ:St}{x y:Str}{T:String}{α:Type}{v v':V}{cv u u':Value}{w w':W}{Z:Zt}
def addW:W->W->Option W
 |.int i,.int j=>some (.int (i+j))
 |.str x,.str y=>if x.length+y.length<=16777216 then some (.str (x++y))else none
 |.tup xs,.tup ys=>if xs≠[]/\xs.length+ys.length<=16777216 then some (.tup (xs++ys))else none
 |.lst xs,.lst ys=>if xs.length+ys.length<=16777216 then some (.lst (xs++ys))else none
 |_,_=>none
def subW:W->W->Option W
 |.int i,.int j=>some (.int (i-j))
 |_,_=>none
def mulW:W->W->Option W
 |.int i,.int j=>if(-(2^64)<i/\i<2^64)\/(-(2^64)<j/\j<2^64)then some (.int (i*j))else none
 |_,_=>none
def fdivW:W->W->Option W
 |.int i,.int j=>if 0<j/\j<1073741824 then some (.int (i / j))else none
 |_,_=>none
def modW:W->W->Option W
 |.int i,.int j=>if 0<j then some (.int (i%j))else none
 |_,_=>none
def ltW:W->W->Option W
 |.int i,.int j=>some (.bl (decide (i<j)))
 |_,_=>none
def gtW:W->W->Option W
 |.int i,.int j=>some (.bl (decide (j<i)))
 |_,_=>none
theorem x99:Op2 K (fun x y H Q=>rI0 (fun i j=>.int (i+j)) x y H Q\/((∃i j,x=.str i/\y=.str j/\i.length+j.length<=sizeLine/\Q (.str (i++j)) H)\/(rCatT K x y H Q\/rCatS K x y H Q))) addW:=by
 intro G H x y wx wy w Q s px py hf h;unfold addW at hf;split at hf
 ·cases hf;cases px;cases py;exact .inl ⟨_,_,rfl,rfl,h G _ H (.refl s) rfl⟩
 ·split at hf
  ·rename_i hl;cases hf;cases px;cases py;exact .inr (.inl ⟨_,_,rfl,rfl,by rw[sizeLine_eq];exact hl,h G _ H (.refl s) rfl⟩)
  ·cases hf
 ·rename_i us ws;split at hf
  ·rename_i hl;cases hf;obtain⟨a,xs,rfl,ha,ra⟩:=px;obtain⟨b,ys,rfl,hb,rb⟩:=py;have l1:=ra.length;have l2:=rb.length;refine .inr (.inr (.inl ⟨a,b,xs,ys,rfl,rfl,s.tup ha,s.tup hb,fun z=>hl.1 ?_,by rw[l1,l2,sizeLine_eq];exact hl.2,fun z=>?_,fun z p hp=>?_⟩))
   ·subst z;cases us with
    |nil=>rfl
    |cons _ _=>simp at l1
   ·subst z
    have:ws=[]:=by cases ws with
     |nil=>rfl
     |cons _ _=>simp at l2
    subst this;exact h G _ H (.refl s) ⟨a,xs,rfl,ha,by simpa using ra⟩
   ·have g:=Grow.laid s hp (.tup (xs++ys));exact h _ _ _ g ⟨p,_,rfl,SqT.of q0h,Reps.append (Reps.mono g.gg _ ra) (Reps.mono g.gg _ rb)⟩
  ·cases hf
 ·split at hf
  ·rename_i hl;cases hf;obtain⟨a,xs,rfl,ha,ra⟩:=px;obtain⟨b,ys,rfl,hb,rb⟩:=py;have l1:=ra.length;have l2:=rb.length;refine .inr (.inr (.inr ⟨a,b,xs,ys,rfl,rfl,s.seq ha,s.seq hb,by rw[l1,l2,sizeLine_eq];exact hl,fun p hp=>?_⟩))
   have g:=Grow.laid s hp (.lst (xs++ys));exact h _ _ _ g ⟨p,_,rfl,SqL.of q0h,Reps.append (Reps.mono g.gg _ ra) (Reps.mono g.gg _ rb)⟩
  ·cases hf
 ·cases hf
theorem z0r:Op2 K (rI0 fun i j=>.int (i-j)) subW:=by
 intro G H x y wx wy w Q s px py hf h;unfold subW at hf;split at hf
 ·cases hf;cases px;cases py;exact⟨_,_,rfl,rfl,h G _ H (.refl s) rfl⟩
 ·cases hf
theorem z0s:Op2 K (rI CMul fun i j=>.int (i*j)) mulW:=by
 intro G H x y wx wy w Q s px py hf h;unfold mulW at hf;split at hf
 ·split at hf
  ·rename_i hc;cases hf;cases px;cases py;exact⟨_,_,rfl,rfl,hc,h G _ H (.refl s) rfl⟩
  ·cases hf
 ·cases hf
theorem y6y:Op2 K (rI CDiv fun i j=>.int (i / j)) fdivW:=by
 intro G H x y wx wy w Q s px py hf h;unfold fdivW at hf;split at hf
 ·split at hf
  ·rename_i hc;cases hf;cases px;cases py;exact⟨_,_,rfl,rfl,hc,h G _ H (.refl s) rfl⟩
  ·cases hf
 ·cases hf
theorem z0t:Op2 K (rI (fun _ j=>0<j) fun i j=>.int (i%j)) modW:=by
 intro G H x y wx wy w Q s px py hf h;unfold modW at hf;split at hf
 ·split at hf
  ·rename_i hc;cases hf;cases px;cases py;exact⟨_,_,rfl,rfl,hc,h G _ H (.refl s) rfl⟩
  ·cases hf
 ·cases hf
theorem z3n:Op2 K (rI0 fun i j=>.bl (decide (i<j))) ltW:=by
 intro G H x y wx wy w Q s px py hf h;unfold ltW at hf;split at hf
 ·cases hf;cases px;cases py;exact⟨_,_,rfl,rfl,h G _ H (.refl s) rfl⟩
 ·cases hf
theorem z3o:Op2 K (rI0 fun i j=>.bl (decide (j<i))) gtW:=by
 intro G H x y wx wy w Q s px py hf h;unfold gtW at hf;split at hf
 ·cases hf;cases px;cases py;exact⟨_,_,rfl,rfl,h G _ H (.refl s) rfl⟩
 ·cases hf
mutual
def eqW:W->W->Option Bool
 |.non,.non=>some true
 |.non,.bl _=>some false|.non,.int _=>some false|.non,.str _=>some false|.non,.tup _=>some false|.non,.lst _=>some false
 |.bl a,.bl b=>some (a==b)
 |.bl a,.int b=>some ((if a then 1 else 0)==b)
 |.bl _,.non=>some false|.bl _,.str _=>some false|.bl _,.tup _=>some false|.bl _,.lst _=>some false
 |.int a,.int b=>some (a==b)
 |.int a,.bl b=>some (a==(if b then 1 else 0))
 |.int _,.non=>some false|.int _,.str _=>some false|.int _,.tup _=>some false|.int _,.lst _=>some false
 |.str a,.str b=>some (a==b)
 |.str _,.non=>some false|.str _,.bl _=>some false|.str _,.int _=>some false|.str _,.tup _=>some false|.str _,.lst _=>some false
 |.tup _,.non=>some false|.tup _,.bl _=>some false|.tup _,.int _=>some false|.tup _,.str _=>some false|.tup _,.lst _=>some false
 |.lst _,.non=>some false|.lst _,.bl _=>some false|.lst _,.int _=>some false|.lst _,.str _=>some false|.lst _,.tup _=>some false
 |.tup xs,.tup ys=>eqWs xs ys
 |.lst xs,.lst ys=>eqWs xs ys
 |.exc _,_=>none
 |_,.exc _=>none
 |.dic _,_=>none
 |_,.dic _=>none
 |.dw _ _ _ _,_=>none
 |.fn _ _ _,_=>none
 |_,.dw _ _ _ _=>none
 |_,.fn _ _ _=>none
def eqWs:List W->List W->Option Bool
 |[],[]=>some true
 |[],_::_=>some false
 |_::_,[]=>some false
 |x::xs,y::ys=>match eqW x y,eqWs xs ys with
  |some a,some b=>some (a&&b)
  |_,_=>none
end
def ixW:W->W->Option W
 |.tup ws,.int i=>atI ws i
 |.lst ws,.int i=>atI ws i
 |.str z,.int i=>if z.length<=16777216 then(atI z.cps.toList i).map fun c=>.str ⟨#[c]⟩else none
 |_,_=>none
theorem Reps.atI{i:Int}(r:Reps K G ws xs)(h:L2.atI ws i=some w):∃x,L2.atI xs i=some x/\Rep K G w x:=by
 unfold L2.atI at h |-
 rw[r.length];cases q:ixN ws.length i with
 |none=>rw[q]at h;cases h
 |some j=>
  rw[q]at h;exact r.get h
theorem z3p:Op2 K (rIx K) ixW:=by
 intro G H x y wx wy w Q s px py hf h;unfold ixW at hf;split at hf
 ·obtain⟨a,xs,rfl,ha,ra⟩:=px;cases py;obtain⟨v,hv,rv⟩:=ra.atI hf;exact .inr (.inl ⟨a,xs,_,v,rfl,rfl,s.tup ha,hv,h G v H (.refl s) rv⟩)
 ·obtain⟨a,xs,rfl,ha,ra⟩:=px;cases py;obtain⟨v,hv,rv⟩:=ra.atI hf;exact .inl ⟨a,xs,_,v,rfl,rfl,s.seq ha,hv,h G v H (.refl s) rv⟩
 ·cases px;cases py;split at hf
  ·rename_i hl;obtain⟨c,hc,rfl⟩:=w0l.mp hf;exact .inr (.inr ⟨_,_,c,rfl,rfl,by rw[sizeLine_eq];exact hl,hc,h G _ H (.refl s) rfl⟩)
  ·cases hf
 ·cases hf
def S.look:S->Option W
 |.fr w=>some w
 |.own _ ws=>some (.lst ws)
 |.no=>none
 |.dic _=>none
 |.thr _ _ _=>none
 |.nest _=>none
 |.x k=>k.look
 |.dw _ _ _=>none
def lenW:W->Option W
 |.str z=>if z.length<=16777216 then some (.int z.length)else none
 |.tup ws=>some (.int ws.length)
 |.lst ws=>some (.int ws.length)
 |_=>none
def len1:List W->Option W
 |[w]=>lenW w
 |_=>none
theorem z0u:OpN K (fun xs H Q=>∃x n,xs=[x]/\LenV K x H n/\Q (.int n) H) len1:=by
 intro G H xs ws w Q s pr hf h;unfold len1 at hf;split at hf
 ·obtain⟨x,r,rfl,px,pr⟩:=pr;cases(show r=[]from pr);unfold lenW at hf;split at hf
  ·split at hf
   ·rename_i hl;cases hf;cases px;exact⟨_,_,rfl,⟨by rw[sizeLine_eq];exact hl,rfl⟩,h G _ H (.refl s) rfl⟩
   ·cases hf
  ·cases hf;obtain⟨a,xs,rfl,ha,ra⟩:=px;exact⟨_,_,rfl,.inr ⟨xs,s.tup ha,rfl⟩,h G _ H (.refl s) (by rw[ra.length];rfl)⟩
  ·cases hf;obtain⟨a,xs,rfl,ha,ra⟩:=px;exact⟨_,_,rfl,.inl ⟨xs,s.seq ha,rfl⟩,h G _ H (.refl s) (by rw[ra.length];rfl)⟩
  ·cases hf
 ·cases hf
def scalW:W->Bool
 |.non=>true|.bl _=>true|.int _=>true|.str _=>true|_=>false
section
variable{a b e:Expr}{p:Pos}
theorem q1p(ha:DE Z X EE a d)(hb:DE Z X EE b db)(hs:PlainIx b:=by intro _ _;rfl):DE Z X EE (.Subscript a b pos) (dOp ixW d db):=PE.mono (x8m z0g ha hb hs) (q84 z3p)
def dApp(i:Nat)(d:Den (List W)):List S->SR:=fun e=>match e[i]? with
 |some (.own _ _)=>(d e).stm fun ws e1=>match ws,e1[i]? with
  |[w],some (.own b xs)=>if xs.length<16777216 then .nx (e1.set i (.own b (xs++[w])))else .no
  |_,_=>.no
 |_=>.no
theorem x4r(i:Nat)(ha:DA Z X EE (e::es) dA)(hN:X.N[i]?=some x:=by rfl)(hv:Vis X.env.scope x:=by walk_at "1")(hd:(x==("__debug__":Str))=false:=by decide)(hcd:(x==("__classdict__":Str))=false:=by decide)
  (hbase:attributeBase (.Name x p) "append" X.env (eval (.Name x p) X.env)=eval (.Name x p) X.env:=by rfl)
  (hfew:((backTo cpos (starEach (e::es) X.env)).all (fun x=>!x.1)&&(backToKw cpos (keywordEach [] X.env)).all (fun x=>x.1.isSome)&&decide ((e::es).length+([]:List Keyword).length+(if([]:List Keyword).isEmpty then 0 else 1)<30))=true:=by rfl)
  (hline:(apos.endLine==cpos.line)=true:=by rfl)(hs:starEach (e::es) X.env=(false,eval e X.env)::starEach es X.env:=by rfl)(hplain:(backTo cpos (starEach es X.env)).any (·.1)=false:=by rfl)
  (hsw:swapsWith (.Call (.Attribute (.Name x p) "append" apos) (e::es) [] cpos) none pos.line X.env=pure false:=by rfl):
  DS Z X EE (.Expr (.Call (.Attribute (.Name x p) "append" apos) (e::es) [] cpos) pos) (dApp i dA):=by
 refine PS.mono (q61 (x92 (pv i hN hv hd hcd) ha hbase hfew hline hs hplain) hsw) ?_;rintro D σ H ⟨G,e,rel,h⟩;unfold dApp at h;split at h
 ·rename_i b0 ws0 he0;obtain⟨a,xs,h1,h2,h3,h4,h5⟩:=rel.own he0;refine⟨.ref a,h1,.inl ⟨rfl,xs,SqL.of h2⟩,G,e,rel,(q12 h).imp (fun ws e1 h G1 vs H1 r1 s1 p1=>?_) fun _ _ h=>h⟩
  split at h
  ·rename_i w b ys he1;obtain⟨a',zs,g1,g2,g3,g4,g5⟩:=r1.own he1;rw[h1]at g1;cases g1;obtain⟨y,r,rfl,py,pr⟩:=p1;cases(show r=[]from pr);split at h
   ·rename_i hl;refine⟨a,zs,y,rfl,rfl,g2,by rw[g5.length,sizeLine_eq];exact hl,?_⟩;exact h G1 σ _ (r1.mut he1 h1 (g5.append (.one py))) s1
   ·exact h.elim
  ·exact h.elim
 ·exact h.elim
end
def compD(c:Den Bool)(d:Den W)(pe:List S):List W->Option (List W)
 |[]=>some []
 |w::ws=>match c (.fr w::pe)with
  |.ok true e1=>match d e1 with
   |.ok y _=>(compD c d pe ws).map (y::·)
   |_=>none
  |.ok false _=>compD c d pe ws
  |_=>none
def frz1(e:List S)(j:Nat):List S:=match e[j]? with
 |some (.own none ws)=>e.set j (.fr (.lst ws))
 |_=>e
def frzs(js:List Nat)(e:List S):List S:=js.foldl frz1 e
def pj1(e:List S)(j:Nat):S:=match e[j]? with
 |some (.fr w)=>.fr w
 |_=>.no
def pjS(js:List Nat)(e:List S):List S:=js.map (pj1 e)
def compK(js:List Nat)(c:Den Bool)(d:Den W)(ws:List W)(e1:List S):R (List W):=
 if ws.length<=16777216 then(match compD c d (pjS js (frzs js e1)) ws with
  |some out=>.ok out (frzs js e1)
  |none=>.no)else .no
def dComp(js:List Nat)(di:Den W)(c:Den Bool)(d:Den W):Den (List W):=fun e=>(di e).bind fun w e1=>match seqW w with
 |some ws=>compK js c d ws e1
 |none=>.no
def dCompR(g:List W->Option (List W))(js:List Nat)(di:Den (List W))(c:Den Bool)(d:Den W):Den (List W):=fun e=>(di e).bind fun w e1=>match g w with
 |some ws=>compK js c d ws e1
 |none=>.no
def dYes:Den Bool:=fun e=>.ok true e
section
variable{H1:Hp}{e1:List S}
theorem Rel.frzs(r:Rel K Z G σ H e):∀(js:List Nat),∃G',Same G G'/\Rel K Z G' σ H (frzs js e):=by
 intro js
 induction js generalizing G e with
 |nil=>exact⟨G,.refl _,r⟩
 |cons j js ih=>
  have one:∃G',Same G G'/\Rel K Z G' σ H (frz1 e j):=by
   unfold frz1;split
   ·rename_i ws hw;obtain⟨v,G',_,s,_,r'⟩:=r.freeze hw;exact⟨G',s,r'⟩
   ·exact⟨G,.refl _,r⟩
  obtain⟨G1,s1,r1⟩:=one;obtain⟨G2,s2,r2⟩:=ih r1;exact⟨G2,s1.trans s2,r2⟩
theorem Rel.block(r:Rel K Z G σ H e)(js:List Nat){x:V}(p:Rep K G w x):Rel K ⟨H,G,[]⟩ G (some x::pj js σ) H (.fr w::pjS js e):=by
 have hfr:∀(i:Nat)(s:S),(S.fr w::pjS js e)[i]?=some s->s=.no\/∃u,s=.fr u/\((i=0/\u=w)\/∃k j,i=k+1/\js[k]?=some j/\e[j]?=some (.fr u)):=fun i s h=>by
  cases i with
  |zero=>cases h;exact .inr ⟨w,rfl,.inl ⟨rfl,rfl⟩⟩
  |succ k=>
   rw[w0e]at h;unfold pjS at h;rw[w0v]at h;obtain⟨j,h1,h2⟩:=w0l.mp h;unfold pj1 at h2;split at h2
   ·rename_i u hu;subst h2;exact .inr ⟨u,rfl,.inr ⟨k,j,rfl,h1,hu⟩⟩
   ·subst h2;exact .inl rfl
 refine⟨r.sub,fun i s h=>?_,?_,fun i j b b' w1 w2 a h1 h2 _ _=>?_,fun a o h _=>h,(fun a h=>nomatch h),fun a _=>rfl⟩
 ·rcases hfr i s h with rfl|⟨u,rfl,⟨rfl,rfl⟩|⟨k,j,rfl,h1,h2⟩⟩
  ·trivial
  ·exact⟨x,rfl,p⟩
  ·obtain⟨v,h3,h4⟩:=r.fr h2;refine⟨v,?_,h4⟩;rw[w0e];unfold pj;rw[w0v,h1];simp[h3]
 ·simp[pjS,pj]
 ·rcases hfr i _ h1 with z|⟨u,z,_⟩<;>cases z
theorem Rel.mutFree(r:Rel K Z G σ H e){o:HO}(hg:G a=none)(hz:Z.H a=none)(hi:a∉Z.io)(hf:Free σ e a){ls:List V}(hls:H a=some (.lst ls)):Rel K Z G σ (upd H a o) e:=by
 refine⟨fun c u z=>?_,fun j s z=>?_,r.len,r.dis,fun c u z n=>?_,fun c z=>?_,r.gen⟩
 ·rw[q0c (q0m z hg)];exact r.sub c u z
 ·have y:=r.slot j s z;cases s with
  |no=>trivial
  |fr w=>exact y
  |own b2 w2=>
   obtain⟨c,ys,y1,y2,y3,y4,y5⟩:=y;refine⟨c,ys,y1,?_,y3,y4,y5⟩;rw[q0c];exact y2;rintro rfl;obtain⟨c',_,z1,_⟩:=r.own z;rw[z1]at y1;cases y1;exact hf j b2 w2 z z1
  |dic kvs=>
   obtain⟨c,y1,y2,y3,y4⟩:=y;refine⟨c,y1,?_,y3,y4⟩;rw[q0c (q03 y2 hls (q5g rfl))];exact y2
  |thr us w2 vs=>
   obtain⟨t,l,o,xs2,ys,zs,y1,y2,y3,y4,y5,y6⟩:=y;refine⟨t,l,o,xs2,ys,zs,y1,y2,?_,y4,y5,y6⟩;rw[q0c (q03 y3 hls (fun z=>nomatch z))];exact y3
  |nest wss=>exact NestOk.move y (.refl _) fun l o ys k1 k2 k3=>⟨by rw[q0c (q03 k1 hls (fun z=>nomatch z))];exact k1,k2,k3⟩
  |x k=>exact XOk.move y (.refl _) fun l o ys k1 k2 k3=>⟨by rw[q0c (q03 k1 hls (fun z=>nomatch z))];exact k1,k2,k3⟩
  |dw sh ks ws=>exact DwOk.move y (.refl _) fun l o ys k1 k2 k3=>⟨by rw[q0c (q03 k1 hls (q53 rfl))];exact k1,k2,k3⟩
 ·rw[q0c (q0m z hz)];exact r.ent c u z n
 ·by_cases hc:c=a
  ·subst hc;exact absurd z hi
  ·rw[q0c hc];exact r.ion c z
structure Walk(J:It)(xs:List V)(SQ:Hp->Prop):Prop where
 go:∀i H,SQ H->i<xs.length->J.go i H
 yld:∀i H x H',SQ H->J.yld i H x H'->i<xs.length->H'=H/\xs[i]?=some x
 stop:∀i H,SQ H->xs.length<=i->J.stop i H
theorem y0a:Walk (Itl K a) xs (fun H=>SqL K H a xs):=
 ⟨fun i H q h=>⟨xs,xs[i],q,by simp[h]⟩,fun i H x H' q ⟨e,y⟩ h=>⟨e,y xs q⟩,fun i H q h=>⟨xs,q,h⟩⟩
theorem y0b:Walk (Itt K a) xs (fun H=>SqT K H a xs):=
 ⟨fun i H q h=>⟨xs,xs[i],q,by simp[h]⟩,fun i H x H' q ⟨e,y⟩ h=>⟨e,y xs q⟩,fun i H q h=>⟨xs,q,h⟩⟩
theorem z0v:Walk (Itr lo n) ((List.range n).map fun k=>V.int (lo+(k:Nat))) (fun _=>True):=
 ⟨fun i H q h=>show i<n by simpa using h,fun i H x H' q ⟨e,y⟩ h=>⟨e,by simp at h;simp[h,y]⟩,fun i H q h=>show n<=i by simpa using h⟩
theorem x11{J:It}{SQ:Hp->Prop}{out:List W}{Q:VK}{G0:Hp}(W0:Walk J xs SQ)(r1:Rel K Z G1 σ H1 e1)(s1:Same G0 G1)(rp:Reps K G1 ws xs)(hSQ:∀G' H',Same G1 G'->Same G' H'->SQ H')(hl:ws.length<=16777216)
  (hz:∀p,H1 p=none->p∉Z.io)(hc:compD c d (pjS js e1) ws=some out)
  (h:∀G' a xs H',Rel K Z G' σ H' e1->Same G0 G'->H' a=some (.lst xs)->G' a=none->Z.H a=none->Free σ e1 a->Reps K G' out xs->Q (.ref a) H'):
  ∀D,H1 D=none->∃W:Nat->Nat->Hp->Prop,(∃m,W 0 m (upd H1 D (.lst [])))/\∀i m H2,W i m H2 ->
   (J.stop i H2/\Q (.ref D) H2)\/(J.go i H2/\∀x H3,J.yld i H2 x H3->gName 0 x (List.replicate 1 none++pj js σ) H3 fun σ4 H4=>Kp (List.replicate 1 none++pj js σ) σ4/\(fun σ H Q=>∃Z',liftT K Z' (fun _=>E0) c σ H Q) σ4 H4 fun b H5=>
    if b=true then(fun σ H Q=>∃Z',AtG K Z' σ H fun G e=>(d e).holds (fun w e'=>∀G' v H',Rel K Z' G' σ H' e'->Same G G'->Rep K G' w v->Q v H') (XH K Z' (fun _=>E0) σ G)) σ4 H5 fun y H6=>∃ys,H6 D=some (.lst ys)/\ys.length<sizeLine/\∃m',m'<m/\W (i+1) m' (upd H6 D (.lst (ys++[y])))else ∃m',m'<m/\W (i+1) m' H5):=by
 intro D hD;have hlen:=rp.length
 refine⟨fun i m H2=>m=ws.length-i/\i<=ws.length/\∃G2 ys done rest,Rel K Z G2 σ H2 e1/\Same G1 G2/\H2 D=some (.lst ys)/\G2 D=none/\Reps K G2 done ys/\done.length<=i/\compD c d (pjS js e1) (ws.drop i)=some rest/\done++rest=out,
  ⟨ws.length,by omega,w1c _,G1,[],[],out,r1.grow (Grow.hid r1.sub hD _),.refl _,q0h,r1.sub.free hD,rfl,w0g _,hc,rfl⟩,?_⟩
 rintro i m H2 ⟨rfl,hi,G2,ys,done,rest,r2,s2,hd2,hg2,rp2,hdl,hc2,ho⟩;have hfree:Free σ e1 D:=q48 r1 hD;have hzh:Z.H D=none:=q4x r1 hD
 by_cases hlt:i<ws.length
 ·refine .inr ⟨W0.go i H2 (hSQ G2 H2 s2 r2.sub) (by omega),fun x H3 hy=>?_⟩
  obtain⟨rfl,hx⟩:=W0.yld i H2 x H3 (hSQ G2 H2 s2 r2.sub) hy (by omega);obtain⟨w,hw,pw⟩:=rp.getV hx;rw[x2y hw]at hc2;refine⟨Kp.one,⟨H3,G2,[]⟩,G2,.fr w::pjS js e1,r2.block js (Rep.mono s2 w pw),?_⟩;unfold compD at hc2;cases qc:c (.fr w::pjS js e1)with
  |no=>rw[qc]at hc2;cases hc2
  |ex _ _=>rw[qc]at hc2;cases hc2
  |ok k e2=>
   rw[qc]at hc2;intro G3 H5 r3 s3;have g3:=r3.toGrow s3;cases k with
   |false=>
    exact⟨ws.length-(i+1),by omega,rfl,hlt,G3,ys,done,rest,r2.grow g3,s2.trans s3,g3.hh _ _ hd2,by rw[g3.new D (by rw[hd2];simp)];exact hg2,Reps.mono s3 _ rp2,by omega,hc2,ho⟩
   |true=>
    refine⟨⟨H3,G2,[]⟩,G3,e2,r3,?_⟩;dsimp only at hc2;cases qd:d e2 with
    |no=>rw[qd]at hc2;cases hc2
    |ex _ _=>rw[qd]at hc2;cases hc2
    |ok y e3=>
     rw[qd]at hc2;intro G4 v H6 r4 s4 p4;have g4:=r4.toGrow (s3.trans s4);obtain⟨rest',hr,rfl⟩:=w0l.mp hc2;have hd6:H6 D=some (.lst ys):=g4.hh _ _ hd2;have hg6:G4 D=none:=by rw[g4.new D (by rw[hd2];simp)];exact hg2
     refine⟨ys,hd6,?_,ws.length-(i+1),by omega,rfl,hlt,G4,ys++[v],done++[y],rest',(r2.grow g4).mutFree hg6 hzh (hz D hD) hfree hd6,s2.trans (s3.trans s4),q0h,hg6,(Reps.mono (s3.trans s4) _ rp2).append (.one p4),by simp;omega,hr,by rw[w2v];exact ho⟩;rw[rp2.length,sizeLine_eq];omega
 ·have:i=ws.length:=by omega
  subst this;rw[w3k]at hc2;cases hc2;rw[w1l]at ho;subst ho;exact .inl ⟨W0.stop _ H2 (hSQ G2 H2 s2 r2.sub) (by omega),h G2 D ys H2 r2 (s1.trans s2) hd2 hg2 hzh hfree rp2⟩
end
section
variable{elt iter a b:Expr}{ifs:List Expr}{scope sc:Scope}{pt:Pos}{Nf N:List Str}{di:Den W}
def DTs(Z:Zt)(X:Cx)(EE:L2.St->XK)(ifs:List Expr)(c:Den Bool):Prop:=PTs X ifs (liftT X.K Z EE c)
theorem q2h:DTs Z X EE [] dYes:=fun pins s σ H Q I ⟨G,e,r,h⟩=>y6m pins s σ H Q I (h G H r (.refl _))
theorem q3u(h:DT Z X EE a c):DTs Z X EE [a] c:=y6n h
def cT(K:Fg)(c:Den Bool):TT:=fun σ H Q=>∃Z',liftT K Z' (fun _=>E0) c σ H Q
def cE(K:Fg)(d:Den W):TE:=fun σ H Q=>∃Z',AtG K Z' σ H fun G e=>(d e).holds (fun w e'=>∀G' v H',Rel K Z' G' σ H' e'->Same G G'->Rep K G' w v->Q v H') (XH K Z' (fun _=>E0) σ G)
theorem x20{D:Ends}{r:R (List W)}{k:W->List S->SR}(h:PostS K Z EE D G ((r.bind fun ws e'=>.ok (.lst ws) e').stm k)):r.holds (fun ws e'=>PostS K Z EE D G (k (.lst ws) e')) (XH K Z EE σ G):=by
 cases r with
 |ok a e=>exact h
 |ex c e=>exact fun G' H' r q=>h G' σ H' r q
 |no=>exact h
theorem x00{Y:List Str}(ht:∀Z' cl C s₀ H₀ ex,DTs Z' (X.cp Y scope cl C s₀ H₀ ex) (fun _=>E0) ifs c):∀cl C s₀ H₀ ex,PTs (X.cp Y scope cl C s₀ H₀ ex) ifs (cT X.K c):=fun cl C s₀ H₀ ex pins s σ H Q I ⟨Z',h⟩=>ht Z' cl C s₀ H₀ ex pins s σ H Q I h
theorem x01{Y:List Str}(he:∀Z' cl C s₀ H₀ ex,DE Z' (X.cp Y scope cl C s₀ H₀ ex) (fun _=>E0) elt d):∀cl C s₀ H₀ ex,PE (X.cp Y scope cl C s₀ H₀ ex) elt (cE X.K d):=fun cl C s₀ H₀ ex pins s σ H Q I ⟨Z',h⟩=>he Z' cl C s₀ H₀ ex pins s σ H Q I h
theorem ionone(r:Rel K Z G σ H e):∀p,H p=none->p∉Z.io:=fun p hp hi=>r.ion p hi hp
theorem x21:∀σ H Q,liftF K Z EE (dComp js di c d) σ H Q->tComp (iSeq K (liftE K Z EE di)) 1 js (gName 0) (cT K c) (cE K d) σ H Q:=by
 rintro σ H Q ⟨G,e,rel,h⟩;simp only[dComp,R.holds_bind]at h;refine⟨G,e,rel,h.imp (fun w e1 h G1 v1 H1 r1 s1 p1=>?_) fun _ _ h=>h⟩
 split at h
 ·rename_i ws hw;unfold compK at h;split at h
  ·rename_i hl;split at h
   ·rename_i out ho;obtain⟨G2,s2,r2⟩:=r1.frzs js;have p2:=Rep.mono s2 w p1;have io:=ionone r2;cases w with
    |tup us=>
     cases hw;obtain⟨a,xs,rfl,hq,rp⟩:=p2;exact⟨a,rfl,.inr ⟨⟨xs,r2.sub.tup hq⟩,x11 y0b r2 (s1.trans s2) rp (fun G' H' s s'=>Same.tup s' (Same.tup s hq)) hl io ho h⟩⟩
    |lst us=>
     cases hw;obtain⟨a,xs,rfl,hq,rp⟩:=p2;exact⟨a,rfl,.inl ⟨⟨xs,r2.sub.seq hq⟩,x11 y0a r2 (s1.trans s2) rp (fun G' H' s s'=>Same.seq s' (Same.seq s hq)) hl io ho h⟩⟩
    |_=>cases hw
   ·exact h.elim
  ·exact h.elim
 ·exact h.elim
theorem q2v(hc:X.calm=true)(hi:DE Z X EE iter di)(ok:compOk sc scope N Nf js=true)
  (ht:∀Z' cl C s₀ H₀ ex,DTs Z' (X.cp ([x]++Nf) scope cl C s₀ H₀ ex) (fun _=>E0) ifs c)(he:∀Z' cl C s₀ H₀ ex,DE Z' (X.cp ([x]++Nf) scope cl C s₀ H₀ ex) (fun _=>E0) elt d)
  (hg:∀cl C s₀ H₀ ex,PG (X.cp ([x]++Nf) scope cl C s₀ H₀ ex) (.Name x pt) (gName 0))
  (hsc:X.env.scope=sc:=by rfl)(hN:X.N=N:=by rfl)(hs:∀x,foldedSetIterable iter X.env x=pure x:=by intro _;rfl):
  DF Z X EE (.ListComp elt [⟨.Name x pt,iter,ifs,0⟩] scope pos) (dComp js di c d):=by
 exact PE.mono (q95 (Nl:=[x]) (tc:=cT X.K c) (te:=cE X.K d) hc (x0y hi) ok hg (x00 ht) (x01 he) hsc hN hs) x21
theorem x8r(i:Nat){py spos:Pos}(hNd:X.N.Nodup)(hc:X.calm=true)(hi:DE Z X EE iter di)(ok:compOk sc scope N Nf js=true)
  (ht:∀Z' cl C s₀ H₀ ex,DTs Z' (X.cp ([x]++Nf) scope cl C s₀ H₀ ex) (fun _=>E0) ifs c)(he:∀Z' cl C s₀ H₀ ex,DE Z' (X.cp ([x]++Nf) scope cl C s₀ H₀ ex) (fun _=>E0) elt d)
  (hg:∀cl C s₀ H₀ ex,PG (X.cp ([x]++Nf) scope cl C s₀ H₀ ex) (.Name x pt) (gName 0))
  (hsc:X.env.scope=sc:=by rfl)(hN:X.N=N:=by rfl)(hs:∀x,foldedSetIterable iter X.env x=pure x:=by intro _;rfl)(hiy:X.N[i]?=some y:=by rfl)(hxy:Loc X.env.scope y:=by walk_at "3")(hfy:X.fn y=true\/X.env.scope.names.lookup y=some .local:=by walk_at "2")(hsw:swapsWith (.ListComp elt [⟨.Name x pt,iter,ifs,0⟩] scope pos) (some (.Name y py)) spos.line X.env=pure true:=by rfl):
  DS Z X EE (.Assign [.Name y py] (.ListComp elt [⟨.Name x pt,iter,ifs,0⟩] scope pos) spos) (dSet i (dFz (dComp js di c d))):=by
 refine PS.mono (x2z (Nl:=[x]) (tc:=cT X.K c) (te:=cE X.K d) hc (x0y hi) ok hg (x00 ht) (x01 he) (q1e i hNd hiy hxy hfy) hsw hsc hN hs) ?_;rintro D σ H ⟨G,e,rel,h⟩;refine x21 σ H _ ⟨G,e,rel,?_⟩;refine(x20 h).imp (fun w e1 h G1 a xs H1 r1 s1 q1 q2 q3 q4 p1=>?_) fun _ _ h=>h
 obtain⟨sg,rg⟩:=r1.seen q1 q2 q3 q4;exact h _ _ H1 (rg.set (v:=.ref a) ⟨a,xs,rfl,SqL.of q0h,Reps.mono sg w p1⟩) (s1.trans sg)
theorem x02:∀σ H Q,liftF K Z EE (dCompR rng1 js dA c d) σ H Q->tComp (iRng1 (liftA K Z EE dA)) 1 js (gName 0) (cT K c) (cE K d) σ H Q:=by
 rintro σ H Q ⟨G,e,rel,h⟩;simp only[dCompR,R.holds_bind]at h;refine⟨G,e,rel,h.imp (fun ws e1 h G1 vs H1 r1 s1 p1=>?_) fun _ _ h=>h⟩
 unfold rng1 at h;split at h
 ·rename_i us hh;split at hh
  ·rename_i j;split at hh
   ·rename_i hj;cases hh;obtain⟨y,r,rfl,e1,e2⟩:=p1;cases(show y=V.int j from e1);cases(show r=[]from e2);refine⟨j,rfl,(x0x hj).1,(x0x hj).2,?_⟩;unfold compK at h;split at h
    ·rename_i hl;split at h
     ·rename_i out ho;obtain⟨G2,s2,r2⟩:=r1.frzs js;have z:=x11 (J:=Itr 0 (j-0).toNat) z0v r2 (s1.trans s2) (x0z (lo:=0) (hi:=j)) (fun _ _ _ _=>trivial) hl (ionone r2) ho h
      rwa [w5g]at z
     ·exact h.elim
    ·exact h.elim
   ·cases hh
  ·cases hh
 ·exact h.elim
theorem q55(hc:X.calm=true)(hm:X.mg "range"=none)(ha:DA Z X EE [a] dA)(ok:compOk sc scope N Nf js=true)
  (ht:∀Z' cl C s₀ H₀ ex,DTs Z' (X.cp ([x]++Nf) scope cl C s₀ H₀ ex) (fun _=>E0) ifs c)(he:∀Z' cl C s₀ H₀ ex,DE Z' (X.cp ([x]++Nf) scope cl C s₀ H₀ ex) (fun _=>E0) elt d)
  (hg:∀cl C s₀ H₀ ex,PG (X.cp ([x]++Nf) scope cl C s₀ H₀ ex) (.Name x pt) (gName 0))
  (hgr:Gl X "range":=by rfl)(hs1:starEach [a] X.env=[(false,eval a X.env)]:=by rfl)(hsc:X.env.scope=sc:=by rfl)(hN:X.N=N:=by rfl)(hs:∀x,foldedSetIterable (.Call (.Name "range" p1) [a] [] p2) X.env x=pure x:=by intro _;rfl):
  DF Z X EE (.ListComp elt [⟨.Name x pt,.Call (.Name "range" p1) [a] [] p2,ifs,0⟩] scope pos) (dCompR rng1 js dA c d):=by
 exact PE.mono (q95 (Nl:=[x]) (tc:=cT X.K c) (te:=cE X.K d) hc (q8b hgr hm ha hs1) ok hg (x00 ht) (x01 he) hsc hN hs) x02
theorem q6v(i:Nat){py spos:Pos}(hNd:X.N.Nodup)(hc:X.calm=true)(hm:X.mg "range"=none)(ha:DA Z X EE [a] dA)(ok:compOk sc scope N Nf js=true)
  (ht:∀Z' cl C s₀ H₀ ex,DTs Z' (X.cp ([x]++Nf) scope cl C s₀ H₀ ex) (fun _=>E0) ifs c)(he:∀Z' cl C s₀ H₀ ex,DE Z' (X.cp ([x]++Nf) scope cl C s₀ H₀ ex) (fun _=>E0) elt d)
  (hg:∀cl C s₀ H₀ ex,PG (X.cp ([x]++Nf) scope cl C s₀ H₀ ex) (.Name x pt) (gName 0))
  (hgr:Gl X "range":=by rfl)(hs1:starEach [a] X.env=[(false,eval a X.env)]:=by rfl)(hsc:X.env.scope=sc:=by rfl)(hN:X.N=N:=by rfl)(hs:∀x,foldedSetIterable (.Call (.Name "range" p1) [a] [] p2) X.env x=pure x:=by intro _;rfl)(hiy:X.N[i]?=some y:=by rfl)(hxy:Loc X.env.scope y:=by walk_at "3")(hfy:X.fn y=true\/X.env.scope.names.lookup y=some .local:=by walk_at "2")(hsw:swapsWith (.ListComp elt [⟨.Name x pt,.Call (.Name "range" p1) [a] [] p2,ifs,0⟩] scope pos) (some (.Name y py)) spos.line X.env=pure true:=by rfl):
  DS Z X EE (.Assign [.Name y py] (.ListComp elt [⟨.Name x pt,.Call (.Name "range" p1) [a] [] p2,ifs,0⟩] scope pos) spos) (dSet i (dFz (dCompR rng1 js dA c d))):=by
 refine PS.mono (x2z (Nl:=[x]) (tc:=cT X.K c) (te:=cE X.K d) hc (q8b hgr hm ha hs1) ok hg (x00 ht) (x01 he) (q1e i hNd hiy hxy hfy) hsw hsc hN hs) ?_;rintro D σ H ⟨G,e,rel,h⟩;refine x02 σ H _ ⟨G,e,rel,?_⟩;refine(x20 h).imp (fun w e1 h G1 a xs H1 r1 s1 q1 q2 q3 q4 p1=>?_) fun _ _ h=>h
 obtain⟨sg,rg⟩:=r1.seen q1 q2 q3 q4;exact h _ _ H1 (rg.set (v:=.ref a) ⟨a,xs,rfl,SqL.of q0h,Reps.mono sg w p1⟩) (s1.trans sg)
end
mutual
def depW:W->Nat
 |.tup ws=>depWs ws+1
 |.lst ws=>depWs ws+1
 |_=>0
def depWs:List W->Nat
 |[]=>0
 |w::ws=>max (depW w) (depWs ws)
end
mutual
theorem q87(I:Inv X pins σ H s)(sg:Same G H):∀(w:W){w':W}{v:V}{k:Bool},Rep X.K G w v->Rep X.K G w' v->eqW w w'=some k->k=true
 |.non,w',v,k,h,h',e=>by
  cases(show v=.non from h);cases w'<;>first|(cases e;done)|(cases h';cases e;rfl)|(exfalso;obtain⟨_,_,z,_⟩:=h';first|done|cases z)|(exfalso;obtain⟨_,z,_⟩:=h';first|done|cases z)
 |.bl b,w',v,k,h,h',e=>by
  cases(show v=.bl b from h);cases w'<;>first|(cases e;done)|(cases h';cases e;exact beq_self_eq_true _)|(exfalso;obtain⟨_,_,z,_⟩:=h';first|done|cases z)|(exfalso;obtain⟨_,z,_⟩:=h';first|done|cases z)
 |.int b,w',v,k,h,h',e=>by
  cases(show v=.int b from h);cases w'<;>first|(cases e;done)|(cases h';cases e;exact beq_self_eq_true _)|(exfalso;obtain⟨_,_,z,_⟩:=h';first|done|cases z)|(exfalso;obtain⟨_,z,_⟩:=h';first|done|cases z)
 |.str b,w',v,k,h,h',e=>by
  cases(show v=.str b from h);cases w'<;>first|(cases e;done)|(cases h';cases e;exact beq_self_eq_true _)|(exfalso;obtain⟨_,_,z,_⟩:=h';first|done|cases z)|(exfalso;obtain⟨_,z,_⟩:=h';first|done|cases z)
 |.tup ws,w',v,k,h,h',e=>by
  obtain⟨a,xs,rfl,q,r⟩:=h;cases w' with
  |tup ws'=>
   obtain⟨a',xs',z,q',r'⟩:=h';cases z;have:=I.tuple_inj (sg.tup q) (sg.tup q');subst this;exact q98 I sg ws r r' (e)
  |lst ws'=>
   obtain⟨a',xs',z,q',r'⟩:=h';cases z;obtain⟨its,_,p1,_⟩:=I.tuple (sg.tup q);obtain⟨its2,_,p2,_⟩:=I.list (sg.seq q');exact absurd rfl (SeqAt.ne_of_list_tuple p2.isList (show s.heap.IsTuple a _ from p1))
  |non=>cases h'
  |bl _=>cases h'
  |int _=>cases h'
  |str _=>cases h'
  |exc _=>cases e
  |dic _=>cases e
  |dw _ _ _ _=>cases e
  |fn _ _ _=>cases e
 |.lst ws,w',v,k,h,h',e=>by
  obtain⟨a,xs,rfl,q,r⟩:=h;cases w' with
  |lst ws'=>
   obtain⟨a',xs',z,q',r'⟩:=h';cases z;have:=I.list_inj (sg.seq q) (sg.seq q');subst this;exact q98 I sg ws r r' (e)
  |tup ws'=>
   obtain⟨a',xs',z,q',r'⟩:=h';cases z;obtain⟨its,_,p1,_⟩:=I.tuple (sg.tup q');obtain⟨its2,_,p2,_⟩:=I.list (sg.seq q);exact absurd rfl (SeqAt.ne_of_list_tuple p2.isList (show s.heap.IsTuple a _ from p1))
  |non=>cases h'
  |bl _=>cases h'
  |int _=>cases h'
  |str _=>cases h'
  |exc _=>cases e
  |dic _=>cases e
  |dw _ _ _ _=>cases e
  |fn _ _ _=>cases e
 |.exc c,w',v,k,h,h',e=>by cases w'<;>cases e
 |.dic c,w',v,k,h,h',e=>by cases w'<;>cases e
 |.dw _ _ _ _,w',v,k,h,h',e=>by cases w'<;>cases e
 |.fn _ _ _,w',v,k,h,h',e=>by cases w'<;>cases e
theorem q98(I:Inv X pins σ H s)(sg:Same G H):∀(ws:List W){ws':List W}{vs:List V}{k:Bool},Reps X.K G ws vs->Reps X.K G ws' vs->eqWs ws ws'=some k->k=true
 |[],ws',vs,k,h,h',e=>by
  cases h;cases ws' with
  |nil=>cases e;rfl
  |cons _ _=>obtain⟨_,_,z,_⟩:=h';cases z
 |w::ws,ws',vs,k,h,h',e=>by
  obtain⟨x,r,rfl,h1,h2⟩:=h;cases ws' with
  |nil=>cases h'
  |cons w' ws'=>
   obtain⟨x',r',z,h1',h2'⟩:=h';cases z;have e:(match eqW w w',eqWs ws ws' with|some a,some b=>some (a&&b)|_,_=>none)=some k:=e;cases q1:eqW w w' with
   |none=>rw[q1]at e;cases e
   |some b1=>
    cases q2:eqWs ws ws' with
    |none=>rw[q1,q2]at e;cases e
    |some b2=>
     rw[q1,q2]at e;rw[q87 I sg w h1 h1' q1,q98 I sg ws h2 h2' q2]at e;cases e;rfl
end
theorem q49:∀{xs ys:List W}{b:Bool},eqWs xs ys=some b->(∀(j:Nat) x y,xs[j]?=some x->ys[j]?=some y->∃k,eqW x y=some k)/\b=((List.range (min xs.length ys.length)).all (fun j=>((eqW (xs.getD j .non) (ys.getD j .non)).getD false))&&xs.length==ys.length):=by
 intro xs
 induction xs with
 |nil=>
  intro ys b h;refine⟨fun j x y hx=>by simp at hx,?_⟩
  cases ys<;>(cases h;simp)
 |cons x xs ih=>
  intro ys b h;cases ys with
  |nil=>refine⟨fun j x y hx hy=>by simp at hy,?_⟩;cases h;simp
  |cons y ys=>
   have h:(match eqW x y,eqWs xs ys with|some a,some b=>some (a&&b)|_,_=>none)=some b:=h;cases q1:eqW x y with
   |none=>rw[q1]at h;cases h
   |some b1=>
    cases q2:eqWs xs ys with
    |none=>rw[q1,q2]at h;cases h
    |some b2=>
     rw[q1,q2]at h;cases h;obtain⟨h1,h2⟩:=ih q2;refine⟨fun j x' y' hx hy=>?_,?_⟩
     ·cases j with
      |zero=>simp at hx hy;subst hx hy;exact⟨_,q1⟩
      |succ j=>exact h1 j x' y' (by simpa using hx) (by simpa using hy)
     ·rw[h2];simp only[w0q,Nat.succ_min_succ,List.range_succ_eq_map,w2j,w5h]
      have e0:(eqW ((x::xs).getD 0 .non) ((y::ys).getD 0 .non)).getD false=b1:=by
       show(eqW x y).getD false=b1;rw[q1];rfl
      rw[e0,Bool.and_assoc];congr 1;congr 1;simp
theorem q6i:∀{xs:List W}{j:Nat}{x:W},xs[j]?=some x->depW x<=depWs xs
 |[],_,_,h=>by simp at h
 |y::ys,0,x,h=>by simp at h;subst h;simp only[depWs];omega
 |y::ys,j+1,x,h=>by
  have:=q6i (xs:=ys) (j:=j) (by simpa using h);simp only[depWs];omega
theorem q88{xs:List α}{j:Nat}{x d:α}(h:xs[j]?=some x):xs.getD j d=x:=by
 simp[List.getD,h]
theorem x4s(I:Inv X pins σ H s)(sg:Same G H){b:Bool}(hu:A.units<cLine)(n1:∀ws,w=.tup ws->∀ws',w'≠.tup ws')(n2:∀ws,w=.lst ws->∀ws',w'≠.lst ws')(h:Rep X.K G w v)(h':Rep X.K G w' v')(r:RelV v u)(r':RelV v' u')(e:eqW w w'=some b):SeqAt.RcAt A s u u' b:=by
 have tl:∀{ws:List W}{v:V}{u:Value},Rep X.K G (.lst ws) v->RelV v u->∃l items,u=.ref l/\s.heap.IsList l items:=fun h r=>by
  obtain⟨a,xs,rfl,q,_⟩:=h;cases r;obtain⟨its,_,p,_⟩:=I.list (sg.seq q);exact⟨a,_,rfl,p.isList⟩
 have tt:∀{ws:List W}{v:V}{u:Value},Rep X.K G (.tup ws) v->RelV v u->∃l items,u=.ref l/\s.heap.IsTuple l items:=fun h r=>by
  obtain⟨a,xs,rfl,q,_⟩:=h;cases r;obtain⟨its,_,p,_⟩:=I.tuple (sg.tup q);exact⟨a,_,rfl,p⟩
 have tn:∀{v:V}{u:Value},Rep X.K G .non v->RelV v u->u=.none:=fun h r=>by cases h;exact r
 have tb:∀{k:Bool}{v:V}{u:Value},Rep X.K G (.bl k) v->RelV v u->u=.bool k:=fun h r=>by cases h;exact r
 have ti:∀{k:Int}{v:V}{u:Value},Rep X.K G (.int k) v->RelV v u->∃t,u=.int k t:=fun h r=>by cases h;exact r
 have ts:∀{k:Str}{v:V}{u:Value},Rep X.K G (.str k) v->RelV v u->∃t,u=.str k t:=fun h r=>by cases h;exact r
 cases w with
 |non=>
  obtain rfl:=tn h r;cases w' with
  |non=>obtain rfl:=tn h' r';cases e;exact .none_none
  |bl k=>obtain rfl:=tb h' r';cases e;exact .none_bool k
  |int k=>obtain⟨t,rfl⟩:=ti h' r';cases e;exact .none_int k t
  |str k=>obtain⟨t,rfl⟩:=ts h' r';cases e;exact .none_str k t
  |tup k=>obtain⟨l,it,rfl,p⟩:=tt h' r';cases e;exact .none_tuple p hu
  |lst k=>obtain⟨l,it,rfl,p⟩:=tl h' r';cases e;exact .none_list p hu
  |exc k=>cases e
  |dic k=>cases e
  |dw _ _ _ _=>cases e
  |fn _ _ _=>cases e
 |bl j=>
  obtain rfl:=tb h r;cases w' with
  |non=>obtain rfl:=tn h' r';cases e;exact .bool_none j
  |bl k=>obtain rfl:=tb h' r';cases e;exact .bool_bool j k
  |int k=>obtain⟨t,rfl⟩:=ti h' r';cases e;exact .bool_int j k t
  |str k=>obtain⟨t,rfl⟩:=ts h' r';cases e;exact .bool_str j k t
  |tup k=>obtain⟨l,it,rfl,p⟩:=tt h' r';cases e;exact .bool_tuple j p hu
  |lst k=>obtain⟨l,it,rfl,p⟩:=tl h' r';cases e;exact .bool_list j p hu
  |exc k=>cases e
  |dic k=>cases e
  |dw _ _ _ _=>cases e
  |fn _ _ _=>cases e
 |int j=>
  obtain⟨t1,rfl⟩:=ti h r;cases w' with
  |non=>obtain rfl:=tn h' r';cases e;exact .int_none j t1
  |bl k=>obtain rfl:=tb h' r';cases e;exact .int_bool j t1 k
  |int k=>obtain⟨t,rfl⟩:=ti h' r';cases e;exact .int_int j t1 k t
  |str k=>obtain⟨t,rfl⟩:=ts h' r';cases e;exact .int_str j t1 k t
  |tup k=>obtain⟨l,it,rfl,p⟩:=tt h' r';cases e;exact .int_tuple j t1 p hu
  |lst k=>obtain⟨l,it,rfl,p⟩:=tl h' r';cases e;exact .int_list j t1 p hu
  |exc k=>cases e
  |dic k=>cases e
  |dw _ _ _ _=>cases e
  |fn _ _ _=>cases e
 |str j=>
  obtain⟨t1,rfl⟩:=ts h r;cases w' with
  |non=>obtain rfl:=tn h' r';cases e;exact .str_none j t1
  |bl k=>obtain rfl:=tb h' r';cases e;exact .str_bool j t1 k
  |int k=>obtain⟨t,rfl⟩:=ti h' r';cases e;exact .str_int j t1 k t
  |str k=>obtain⟨t,rfl⟩:=ts h' r';cases e;exact .str_str j t1 k t
  |tup k=>obtain⟨l,it,rfl,p⟩:=tt h' r';cases e;exact .str_tuple j t1 p hu
  |lst k=>obtain⟨l,it,rfl,p⟩:=tl h' r';cases e;exact .str_list j t1 p hu
  |exc k=>cases e
  |dic k=>cases e
  |dw _ _ _ _=>cases e
  |fn _ _ _=>cases e
 |tup j=>
  obtain⟨l1,it1,rfl,p1⟩:=tt h r;cases w' with
  |non=>obtain rfl:=tn h' r';cases e;exact .tuple_none p1 hu
  |bl k=>obtain rfl:=tb h' r';cases e;exact .tuple_bool k p1 hu
  |int k=>obtain⟨t,rfl⟩:=ti h' r';cases e;exact .tuple_int k t p1 hu
  |str k=>obtain⟨t,rfl⟩:=ts h' r';cases e;exact .tuple_str k t p1 hu
  |tup k=>exact absurd rfl (n1 j rfl k)
  |lst k=>obtain⟨l,it,rfl,p⟩:=tl h' r';cases e;exact .tuple_list p1 p hu
  |exc k=>cases e
  |dic k=>cases e
  |dw _ _ _ _=>cases e
  |fn _ _ _=>cases e
 |lst j=>
  obtain⟨l1,it1,rfl,p1⟩:=tl h r;cases w' with
  |non=>obtain rfl:=tn h' r';cases e;exact .list_none p1 hu
  |bl k=>obtain rfl:=tb h' r';cases e;exact .list_bool k p1 hu
  |int k=>obtain⟨t,rfl⟩:=ti h' r';cases e;exact .list_int k t p1 hu
  |str k=>obtain⟨t,rfl⟩:=ts h' r';cases e;exact .list_str k t p1 hu
  |lst k=>exact absurd rfl (n2 j rfl k)
  |tup k=>obtain⟨l,it,rfl,p⟩:=tt h' r';cases e;exact .list_tuple p1 p hu
  |exc k=>cases e
  |dic k=>cases e
  |dw _ _ _ _=>cases e
  |fn _ _ _=>cases e
 |exc j=>cases w'<;>cases e
 |dic j=>cases w'<;>cases e
 |dw _ _ _ _=>cases w'<;>cases e
 |fn _ _ _=>cases w'<;>cases e
theorem x7j(I:Inv X pins σ H s)(sg:Same G H){b:Bool}(hd:depW w<=0)(hu:A.units<cLine)(h:Rep X.K G w v)(h':Rep X.K G w' v')(r:RelV v u)(r':RelV v' u')(e:eqW w w'=some b):SeqAt.RcAt A s u u' b:=
 x4s I sg hu (fun ws z=>by subst z;simp[depW]at hd) (fun ws z=>by subst z;simp[depW]at hd) h h' r r' e
theorem q99(h:Rep K G w v):∀x,v≠.flt x:=fun x z=>by
 subst z;cases w with
 |tup ws=>obtain⟨_,_,z,_⟩:=h;cases z
 |lst ws=>obtain⟨_,_,z,_⟩:=h;cases z
 |exc c=>obtain⟨_,z,_⟩:=h;cases z
 |dic c=>obtain⟨_,z,_⟩:=h;cases z
 |dw _ _ _ _=>obtain⟨_,_,_,z,_⟩:=h;cases z
 |fn _ _ _=>obtain⟨_,_,_,_,z,_⟩:=h;cases z
 |_=>cases h
theorem x0a{b:Bool}(rv:RelV v u)(hf:∀x,v≠.flt x)(h:SeqAt.RcAt A s u u' b)(hs:u=u'->b=true):SeqAt.EqAt A s u u' b:=fun prog w E Q hq=>by
 unfold eqBool;refine wpAny_holding ?_;refine wpAny_ite_split (fun hab=>?_) (fun _=>?_)
 ·have hb:=hs (eq_of_beq hab);subst hb;exact wpAny_bind (wpAny_rule (wpAny_pure hq))
 ·have z:=wpAny_bind (h prog w E (fun a s'=>wpAny (model prog w) A (truthOfDropped a) Q E s') (wpAny_truthy_bool hq))
  cases v with
  |flt x=>exact absurd rfl (hf x)
  |non=>cases rv;exact z
  |bl _=>cases rv;exact z
  |int _=>obtain⟨t,rfl⟩:=rv;exact z
  |str _=>obtain⟨t,rfl⟩:=rv;exact z
  |byt _=>obtain⟨t,rfl⟩:=rv;exact z
  |ref _=>cases rv;exact z
  |ty _=>cases rv;exact z
theorem x8s(I:Inv X pins σ H s)(sg:Same G H):∀(n:Nat){w w':W}{v v':V}{u u':Value}{b:Bool}{A:Around},depW w<=n->A.units+n<cLine->Rep X.K G w v->Rep X.K G w' v'->RelV v u->RelV v' u'->eqW w w'=some b->SeqAt.RcAt A s u u' b:=by
 intro n
 induction n with
 |zero=>
  intro w w' v v' u u' b A hd hu h h' r r' e;exact x7j I sg hd (by omega) h h' r r' e
 |succ n ih=>
  intro w w' v v' u u' b A hd hu h h' r r' e
  have items:∀{ws ws':List W}{xs xs':List V}{its its':List Value}{k:Bool},depWs ws<=n->Reps X.K G ws xs->Reps X.K G ws' xs'->Vals xs its->Vals xs' its'->eqWs ws ws'=some k ->
    ∀j (h1:j<its.toArray.size) (h2:j<its'.toArray.size),SeqAt.EqAt A.in1 s its.toArray[j] its'.toArray[j] ((eqW (ws.getD j .non) (ws'.getD j .non)).getD false):=by
   intro ws ws' xs xs' its its' k hd r1 r2 v1 v2 he j h1 h2;have l1:=r1.length;have l2:=r2.length;have m1:=v1.length;have m2:=v2.length;have i1:j<xs.length:=by rw[m1];simpa using h1
   have i2:j<xs'.length:=by rw[m2];simpa using h2
   obtain⟨u1,e1,ru1⟩:=v1.get (w0b i1);obtain⟨u2,e2,ru2⟩:=v2.get (w0b i2);obtain⟨w1,f1,p1⟩:=r1.getV (w0b i1);obtain⟨w2,f2,p2⟩:=r2.getV (w0b i2);obtain⟨b',hb'⟩:=(q49 he).1 j w1 w2 f1 f2;rw[q88 f1,q88 f2,hb']
   have g1:its.toArray[j]=u1:=by
    obtain⟨_,z⟩:=w0c.mp e1
    simpa using z
   have g2:its'.toArray[j]=u2:=by
    obtain⟨_,z⟩:=w0c.mp e2
    simpa using z
   rw[g1,g2];have hdw:depW w1<=n:=w0m (q6i f1) hd
   have hun:A.in1.units+n<cLine:=by
    have:A.in1.units=A.units+1:=rfl;omega
   refine x0a ru1 (q99 p1) (ih hdw hun p1 p2 ru1 ru2 hb') fun z=>?_
   subst z;have:=ru1.inj ru2;rw[this]at p1;exact q87 I sg w1 p1 p2 hb'
  cases w with
  |tup ws=>
   cases w' with
   |tup ws'=>
    obtain⟨a,xs,rfl,q1,r1⟩:=h;obtain⟨a',xs',rfl,q2,r2⟩:=h';cases r;cases r';obtain⟨its,v1,p1,_⟩:=I.tuple (sg.tup q1);obtain⟨its',v2,p2,_⟩:=I.tuple (sg.tup q2);have e:eqWs ws ws'=some b:=e;have z:=SeqAt.RcAt.tuples (show s.heap.IsTuple a _ from p1) (show s.heap.IsTuple a' _ from p2) (show A.units<cLine by omega) (items (by simp only[depW]at hd;omega) r1 r2 v1 v2 e);have l1:=r1.length;have l2:=r2.length;have m1:=v1.length;have m2:=v2.length;have eb:=(q49 e).2;have n1:its.length=ws.length:=by omega
    have n2:its'.length=ws'.length:=by omega
    rw[eb];simp only[w0d,n1,n2]at z;exact z
   |_=>exact x4s I sg (by omega) (by intro ws';simp) (by intro ws';simp) h h' r r' e
  |lst ws=>
   cases w' with
   |lst ws'=>
    obtain⟨a,xs,rfl,q1,r1⟩:=h;obtain⟨a',xs',rfl,q2,r2⟩:=h';cases r;cases r';obtain⟨its,v1,p1,_⟩:=I.list (sg.seq q1);obtain⟨its',v2,p2,_⟩:=I.list (sg.seq q2);have e:eqWs ws ws'=some b:=e;have l1:=r1.length;have l2:=r2.length;have m1:=v1.length;have m2:=v2.length;have eb:=(q49 e).2;have n1:its.length=ws.length:=by omega
    have n2:its'.length=ws'.length:=by omega
    by_cases hl:ws.length=ws'.length
    ·have z:=SeqAt.RcAt.lists p1.isList p2.isList (by simp only[w0d];omega) (show A.units<cLine by omega) (items (by simp only[depW]at hd;omega) r1 r2 v1 v2 e);rw[eb,hl];simp only[w0d,n1,hl,Nat.min_self,beq_self_eq_true,w5b]at z |-
     exact z
    ·have z:=SeqAt.RcAt.lists_lengths (A:=A) p1.isList p2.isList (by simp only[w0d,bne_iff_ne];omega) (show A.units<cLine by omega)
     have:b=false:=by
      rw[eb];have:(ws.length==ws'.length)=false:=by simp[hl]
      rw[this,w4p]
     rw[this];exact z
   |_=>exact x4s I sg (by omega) (by intro ws';simp) (by intro ws';simp) h h' r r' e
  |_=>exact x7j I sg (by simp[depW]) (by omega) h h' r r' e
theorem x0b(I:Inv X pins σ H s)(sg:Same G H){b:Bool}(hu:A.units<cLine)(n1:∀ws,w=.tup ws->∀ws',w'≠.tup ws')(n2:∀ws,w=.lst ws->∀ws',w'≠.lst ws')(h:Rep X.K G w v)(h':Rep X.K G w' v')(r:RelV v u)(r':RelV v' u')(e:eqW w w'=some b):SeqAt.RcNeAt A s u u' (!b):=by
 have tl:∀{ws:List W}{v:V}{u:Value},Rep X.K G (.lst ws) v->RelV v u->∃l items,u=.ref l/\s.heap.IsList l items:=fun h r=>by
  obtain⟨a,xs,rfl,q,_⟩:=h;cases r;obtain⟨its,_,p,_⟩:=I.list (sg.seq q);exact⟨a,_,rfl,p.isList⟩
 have tt:∀{ws:List W}{v:V}{u:Value},Rep X.K G (.tup ws) v->RelV v u->∃l items,u=.ref l/\s.heap.IsTuple l items:=fun h r=>by
  obtain⟨a,xs,rfl,q,_⟩:=h;cases r;obtain⟨its,_,p,_⟩:=I.tuple (sg.tup q);exact⟨a,_,rfl,p⟩
 have tn:∀{v:V}{u:Value},Rep X.K G .non v->RelV v u->u=.none:=fun h r=>by cases h;exact r
 have tb:∀{k:Bool}{v:V}{u:Value},Rep X.K G (.bl k) v->RelV v u->u=.bool k:=fun h r=>by cases h;exact r
 have ti:∀{k:Int}{v:V}{u:Value},Rep X.K G (.int k) v->RelV v u->∃t,u=.int k t:=fun h r=>by cases h;exact r
 have ts:∀{k:Str}{v:V}{u:Value},Rep X.K G (.str k) v->RelV v u->∃t,u=.str k t:=fun h r=>by cases h;exact r
 cases w with
 |non=>
  obtain rfl:=tn h r;cases w' with
  |non=>obtain rfl:=tn h' r';cases e;exact .none_none
  |bl k=>obtain rfl:=tb h' r';cases e;exact .none_bool k
  |int k=>obtain⟨t,rfl⟩:=ti h' r';cases e;exact .none_int k t
  |str k=>obtain⟨t,rfl⟩:=ts h' r';cases e;exact .none_str k t
  |tup k=>obtain⟨l,it,rfl,p⟩:=tt h' r';cases e;exact .none_tuple p hu
  |lst k=>obtain⟨l,it,rfl,p⟩:=tl h' r';cases e;exact .none_list p hu
  |exc k=>cases e
  |dic k=>cases e
  |dw _ _ _ _=>cases e
  |fn _ _ _=>cases e
 |bl j=>
  obtain rfl:=tb h r;cases w' with
  |non=>obtain rfl:=tn h' r';cases e;exact .bool_none j
  |bl k=>obtain rfl:=tb h' r';cases e;exact .bool_bool j k
  |int k=>obtain⟨t,rfl⟩:=ti h' r';cases e;exact .bool_int j k t
  |str k=>obtain⟨t,rfl⟩:=ts h' r';cases e;exact .bool_str j k t
  |tup k=>obtain⟨l,it,rfl,p⟩:=tt h' r';cases e;exact .bool_tuple j p hu
  |lst k=>obtain⟨l,it,rfl,p⟩:=tl h' r';cases e;exact .bool_list j p hu
  |exc k=>cases e
  |dic k=>cases e
  |dw _ _ _ _=>cases e
  |fn _ _ _=>cases e
 |int j=>
  obtain⟨t1,rfl⟩:=ti h r;cases w' with
  |non=>obtain rfl:=tn h' r';cases e;exact .int_none j t1
  |bl k=>obtain rfl:=tb h' r';cases e;exact .int_bool j t1 k
  |int k=>obtain⟨t,rfl⟩:=ti h' r';cases e;exact .int_int j t1 k t
  |str k=>obtain⟨t,rfl⟩:=ts h' r';cases e;exact .int_str j t1 k t
  |tup k=>obtain⟨l,it,rfl,p⟩:=tt h' r';cases e;exact .int_tuple j t1 p hu
  |lst k=>obtain⟨l,it,rfl,p⟩:=tl h' r';cases e;exact .int_list j t1 p hu
  |exc k=>cases e
  |dic k=>cases e
  |dw _ _ _ _=>cases e
  |fn _ _ _=>cases e
 |str j=>
  obtain⟨t1,rfl⟩:=ts h r;cases w' with
  |non=>obtain rfl:=tn h' r';cases e;exact .str_none j t1
  |bl k=>obtain rfl:=tb h' r';cases e;exact .str_bool j t1 k
  |int k=>obtain⟨t,rfl⟩:=ti h' r';cases e;exact .str_int j t1 k t
  |str k=>obtain⟨t,rfl⟩:=ts h' r';cases e;exact .str_str j t1 k t
  |tup k=>obtain⟨l,it,rfl,p⟩:=tt h' r';cases e;exact .str_tuple j t1 p hu
  |lst k=>obtain⟨l,it,rfl,p⟩:=tl h' r';cases e;exact .str_list j t1 p hu
  |exc k=>cases e
  |dic k=>cases e
  |dw _ _ _ _=>cases e
  |fn _ _ _=>cases e
 |tup j=>
  obtain⟨l1,it1,rfl,p1⟩:=tt h r;cases w' with
  |non=>obtain rfl:=tn h' r';cases e;exact .tuple_none p1 hu
  |bl k=>obtain rfl:=tb h' r';cases e;exact .tuple_bool k p1 hu
  |int k=>obtain⟨t,rfl⟩:=ti h' r';cases e;exact .tuple_int k t p1 hu
  |str k=>obtain⟨t,rfl⟩:=ts h' r';cases e;exact .tuple_str k t p1 hu
  |tup k=>exact absurd rfl (n1 j rfl k)
  |lst k=>obtain⟨l,it,rfl,p⟩:=tl h' r';cases e;exact .tuple_list p1 p hu
  |exc k=>cases e
  |dic k=>cases e
  |dw _ _ _ _=>cases e
  |fn _ _ _=>cases e
 |lst j=>
  obtain⟨l1,it1,rfl,p1⟩:=tl h r;cases w' with
  |non=>obtain rfl:=tn h' r';cases e;exact .list_none p1 hu
  |bl k=>obtain rfl:=tb h' r';cases e;exact .list_bool k p1 hu
  |int k=>obtain⟨t,rfl⟩:=ti h' r';cases e;exact .list_int k t p1 hu
  |str k=>obtain⟨t,rfl⟩:=ts h' r';cases e;exact .list_str k t p1 hu
  |lst k=>exact absurd rfl (n2 j rfl k)
  |tup k=>obtain⟨l,it,rfl,p⟩:=tt h' r';cases e;exact .list_tuple p1 p hu
  |exc k=>cases e
  |dic k=>cases e
  |dw _ _ _ _=>cases e
  |fn _ _ _=>cases e
 |exc j=>cases w'<;>cases e
 |dic j=>cases w'<;>cases e
 |dw _ _ _ _=>cases w'<;>cases e
 |fn _ _ _=>cases w'<;>cases e
theorem y0c(I:Inv X pins σ H s)(sg:Same G H){b:Bool}(hd:depW w<=0)(hu:A.units<cLine)(h:Rep X.K G w v)(h':Rep X.K G w' v')(r:RelV v u)(r':RelV v' u')(e:eqW w w'=some b):SeqAt.RcNeAt A s u u' (!b):=
 x0b I sg hu (fun ws z=>by subst z;simp[depW]at hd) (fun ws z=>by subst z;simp[depW]at hd) h h' r r' e
theorem x4t(I:Inv X pins σ H s)(sg:Same G H)(hu:A.units+(n+1)<cLine){ws':List W}{xs':List V}{its its':List Value}{k:Bool}(hd:depWs ws<=n)(r1:Reps X.K G ws xs)(r2:Reps X.K G ws' xs')(v1:Vals xs its)(v2:Vals xs' its')(he:eqWs ws ws'=some k):
  ∀j (h1:j<its.toArray.size) (h2:j<its'.toArray.size),SeqAt.EqAt A.in1 s its.toArray[j] its'.toArray[j] ((eqW (ws.getD j .non) (ws'.getD j .non)).getD false):=by
 intro j h1 h2;have l1:=r1.length;have l2:=r2.length;have m1:=v1.length;have m2:=v2.length;have i1:j<xs.length:=by rw[m1];simpa using h1
 have i2:j<xs'.length:=by rw[m2];simpa using h2
 obtain⟨u1,e1,ru1⟩:=v1.get (w0b i1);obtain⟨u2,e2,ru2⟩:=v2.get (w0b i2);obtain⟨w1,f1,p1⟩:=r1.getV (w0b i1);obtain⟨w2,f2,p2⟩:=r2.getV (w0b i2);obtain⟨b',hb'⟩:=(q49 he).1 j w1 w2 f1 f2;rw[q88 f1,q88 f2,hb']
 have g1:its.toArray[j]=u1:=by
  obtain⟨_,z⟩:=w0c.mp e1
  simpa using z
 have g2:its'.toArray[j]=u2:=by
  obtain⟨_,z⟩:=w0c.mp e2
  simpa using z
 rw[g1,g2];have hdw:depW w1<=n:=w0m (q6i f1) hd
 have hun:A.in1.units+n<cLine:=by
  have:A.in1.units=A.units+1:=rfl;omega
 refine x0a ru1 (q99 p1) (x8s I sg n hdw hun p1 p2 ru1 ru2 hb') fun z=>?_
 subst z;have:=ru1.inj ru2;rw[this]at p1;exact q87 I sg w1 p1 p2 hb'
theorem y6z(I:Inv X pins σ H s)(sg:Same G H)(n:Nat){b:Bool}(hd:depW w<=n+1)(hu:A.units+(n+1)<cLine)(h:Rep X.K G w v)(h':Rep X.K G w' v')(r:RelV v u)(r':RelV v' u')(e:eqW w w'=some b):SeqAt.RcNeAt A s u u' (!b):=by
 cases w with
 |tup ws=>
  cases w' with
  |tup ws'=>
   obtain⟨a,xs,rfl,q1,r1⟩:=h;obtain⟨a',xs',rfl,q2,r2⟩:=h';cases r;cases r';obtain⟨its,v1,p1,_⟩:=I.tuple (sg.tup q1);obtain⟨its',v2,p2,_⟩:=I.tuple (sg.tup q2);have e:eqWs ws ws'=some b:=e;have z:=SeqAt.RcNeAt.tuples (show s.heap.IsTuple a _ from p1) (show s.heap.IsTuple a' _ from p2) (show A.units<cLine by omega) (x4t I sg hu (by simp only[depW]at hd;omega) r1 r2 v1 v2 e);have l1:=r1.length;have l2:=r2.length;have m1:=v1.length;have m2:=v2.length;have eb:=(q49 e).2;have n1:its.length=ws.length:=by omega
   have n2:its'.length=ws'.length:=by omega
   rw[eb];simp only[w0d,n1,n2]at z;exact z
  |_=>exact x0b I sg (by omega) (by intro ws';simp) (by intro ws';simp) h h' r r' e
 |lst ws=>
  cases w' with
  |lst ws'=>
   obtain⟨a,xs,rfl,q1,r1⟩:=h;obtain⟨a',xs',rfl,q2,r2⟩:=h';cases r;cases r';obtain⟨its,v1,p1,_⟩:=I.list (sg.seq q1);obtain⟨its',v2,p2,_⟩:=I.list (sg.seq q2);have e:eqWs ws ws'=some b:=e;have l1:=r1.length;have l2:=r2.length;have m1:=v1.length;have m2:=v2.length;have eb:=(q49 e).2;have n1:its.length=ws.length:=by omega
   have n2:its'.length=ws'.length:=by omega
   by_cases hl:ws.length=ws'.length
   ·have z:=SeqAt.RcNeAt.lists p1.isList p2.isList (by simp only[w0d];omega) (show A.units<cLine by omega) (x4t I sg hu (by simp only[depW]at hd;omega) r1 r2 v1 v2 e);rw[eb,hl];simp only[w0d,n1,hl,Nat.min_self,beq_self_eq_true,w5b]at z |-
    exact z
   ·have z:=SeqAt.RcNeAt.lists_lengths (A:=A) p1.isList p2.isList (by simp only[w0d,bne_iff_ne];omega) (show A.units<cLine by omega)
    have:b=false:=by
     rw[eb];have:(ws.length==ws'.length)=false:=by simp[hl]
     rw[this,w4p]
    rw[this];exact z
  |_=>exact x0b I sg (by omega) (by intro ws';simp) (by intro ws';simp) h h' r r' e
 |_=>exact y0c I sg (by simp[depW]) (by omega) h h' r r' e
def eq2(x y:W):Option W:=if depW x<=150 then(eqW x y).map .bl else none
def rEqD(K:Fg):R2:=fun x y H Q=>∃G wx wy b,Same G H/\depW wx<=150/\Rep K G wx x/\Rep K G wy y/\eqW wx wy=some b/\Q (.bl b) H
theorem y0d(hu:X.A.units+150<cLine):OpR X (compareOp .Eq) (rEqD X.K):=by
 intro pins s σ H x y v u Q I rx ry h;obtain⟨G,wx,wy,b,sg,hd,hx,hy,e,q⟩:=h;exact x8s I sg 150 hd hu hx hy rx ry e _ _ _ _ ⟨.bl b,H,I,rfl,q⟩
theorem y52:Op2 K (rEqD K) eq2:=by
 intro G H x y wx wy w Q s px py hf h;unfold eq2 at hf;split at hf
 ·rename_i hd;obtain⟨b,hb,rfl⟩:=w0l.mp hf;exact⟨G,wx,wy,b,s,hd,px,py,hb,h G _ H (.refl s) rfl⟩
 ·cases hf
def ne2(x y:W):Option W:=if depW x<=150 then(eqW x y).map fun b=>.bl (!b)else none
def rNeD(K:Fg):R2:=fun x y H Q=>∃G wx wy b,Same G H/\depW wx<=150/\Rep K G wx x/\Rep K G wy y/\eqW wx wy=some b/\Q (.bl (!b)) H
theorem z0w(hu:X.A.units+150<cLine):OpR X (compareOp .NotEq) (rNeD X.K):=by
 intro pins s σ H x y v u Q I rx ry h;obtain⟨G,wx,wy,b,sg,hd,hx,hy,e,q⟩:=h;exact y6z I sg 149 hd hu hx hy rx ry e _ _ _ _ ⟨.bl (!b),H,I,rfl,q⟩
theorem z3q:Op2 K (rNeD K) ne2:=by
 intro G H x y wx wy w Q s px py hf h;unfold ne2 at hf;split at hf
 ·rename_i hd;obtain⟨b,hb,rfl⟩:=w0l.mp hf;exact⟨G,wx,wy,b,s,hd,px,py,hb,h G _ H (.refl s) rfl⟩
 ·cases hf
def isW:W->W->Option W
 |.non,.non=>some (.bl true)
 |_,.non=>some (.bl false)
 |.bl a,.bl b=>some (.bl (a==b))
 |_,.bl _=>some (.bl false)
 |_,_=>none
def nisW:W->W->Option W
 |.non,.non=>some (.bl false)
 |_,.non=>some (.bl true)
 |.bl a,.bl b=>some (.bl (!(a==b)))
 |_,.bl _=>some (.bl true)
 |_,_=>none
def rIs:R2:=fun x y H Q=>(y=.non\/∃b,y=.bl b)/\Q (.bl (decide (x=y))) H
def rNis:R2:=fun x y H Q=>(y=.non\/∃b,y=.bl b)/\Q (.bl (!decide (x=y))) H
theorem x4u{x y:V}{v:Value}(rx:RelV x v)(ry:RelV y u)(h:y=.non\/∃b,y=.bl b):plainIs v u=true/\(v==u)=decide (x=y):=by
 rcases h with rfl|⟨b,rfl⟩
 ·cases ry
  cases x<;>first
   |(cases rx;exact⟨rfl,by first|rfl|(rw[w1i];simp)⟩)
   |(obtain⟨t,rfl⟩:=rx;exact⟨rfl,by rw[w1i];simp⟩)
 ·cases ry
  cases x<;>first
   |(cases rx;exact⟨rfl,by first|rfl|(rw[w1i];simp)⟩)
   |(obtain⟨t,rfl⟩:=rx;exact⟨rfl,by rw[w1i];simp⟩)
theorem y0e:OpR X (compareOp .Is) rIs:=by
 intro pins s σ H x y v u Q I rx ry h;obtain⟨hy,q⟩:=h;obtain⟨h1,h2⟩:=x4u rx ry hy;exact wpAny_is_plain h1 (x9r I q h2.symm)
theorem x7k:OpR X (compareOp .IsNot) rNis:=by
 intro pins s σ H x y v u Q I rx ry h;obtain⟨hy,q⟩:=h;obtain⟨h1,h2⟩:=x4u rx ry hy;exact wpAny_isNot_plain h1 (x9r I q (by rw[h2]))
theorem z3r{x y:V}{wx wy:W}(px:Rep K G wx x)(py:Rep K G wy y)(h:isW wx wy=some w):(y=.non\/∃b,y=.bl b)/\w=.bl (decide (x=y)):=by
 cases wy with
 |non=>
  cases(show y=.non from py);refine⟨.inl rfl,?_⟩;cases wx with
  |tup ws=>obtain⟨_,_,rfl,_⟩:=px;cases h;simp
  |lst ws=>obtain⟨_,_,rfl,_⟩:=px;cases h;simp
  |exc c=>obtain⟨_,rfl,_⟩:=px;cases h;simp
  |dic c=>obtain⟨_,rfl,_⟩:=px;cases h;simp
  |dw _ _ _ _=>obtain⟨_,_,_,rfl,_⟩:=px;cases h;simp
  |fn _ _ _=>obtain⟨_,_,_,_,rfl,_⟩:=px;cases h;simp
  |_=>cases px;cases h;simp
 |bl b=>
  cases(show y=.bl b from py);refine⟨.inr ⟨b,rfl⟩,?_⟩;cases wx with
  |tup ws=>obtain⟨_,_,rfl,_⟩:=px;cases h;simp
  |lst ws=>obtain⟨_,_,rfl,_⟩:=px;cases h;simp
  |exc c=>obtain⟨_,rfl,_⟩:=px;cases h;simp
  |dic c=>obtain⟨_,rfl,_⟩:=px;cases h;simp
  |dw _ _ _ _=>obtain⟨_,_,_,rfl,_⟩:=px;cases h;simp
  |fn _ _ _=>obtain⟨_,_,_,_,rfl,_⟩:=px;cases h;simp
  |bl k=>cases px;cases h;cases k<;>cases b<;>rfl
  |_=>cases px;cases h;simp
 |_=>cases wx<;>cases h
theorem z0x{x y:V}{wx wy:W}(px:Rep K G wx x)(py:Rep K G wy y)(h:nisW wx wy=some w):(y=.non\/∃b,y=.bl b)/\w=.bl (!decide (x=y)):=by
 cases wy with
 |non=>
  cases(show y=.non from py);refine⟨.inl rfl,?_⟩;cases wx with
  |tup ws=>obtain⟨_,_,rfl,_⟩:=px;cases h;simp
  |lst ws=>obtain⟨_,_,rfl,_⟩:=px;cases h;simp
  |exc c=>obtain⟨_,rfl,_⟩:=px;cases h;simp
  |dic c=>obtain⟨_,rfl,_⟩:=px;cases h;simp
  |dw _ _ _ _=>obtain⟨_,_,_,rfl,_⟩:=px;cases h;simp
  |fn _ _ _=>obtain⟨_,_,_,_,rfl,_⟩:=px;cases h;simp
  |_=>cases px;cases h;simp
 |bl b=>
  cases(show y=.bl b from py);refine⟨.inr ⟨b,rfl⟩,?_⟩;cases wx with
  |tup ws=>obtain⟨_,_,rfl,_⟩:=px;cases h;simp
  |lst ws=>obtain⟨_,_,rfl,_⟩:=px;cases h;simp
  |exc c=>obtain⟨_,rfl,_⟩:=px;cases h;simp
  |dic c=>obtain⟨_,rfl,_⟩:=px;cases h;simp
  |dw _ _ _ _=>obtain⟨_,_,_,rfl,_⟩:=px;cases h;simp
  |fn _ _ _=>obtain⟨_,_,_,_,rfl,_⟩:=px;cases h;simp
  |bl k=>cases px;cases h;cases k<;>cases b<;>rfl
  |_=>cases px;cases h;simp
 |_=>cases wx<;>cases h
theorem y53:Op2 K rIs isW:=by
 intro G H x y wx wy w Q s px py hf h;obtain⟨h1,rfl⟩:=z3r px py hf;exact⟨h1,h G _ H (.refl s) rfl⟩
theorem y0f:Op2 K rNis nisW:=by
 intro G H x y wx wy w Q s px py hf h;obtain⟨h1,rfl⟩:=z0x px py hf;exact⟨h1,h G _ H (.refl s) rfl⟩
section
variable{a b c e:Expr}{p:Pos}
theorem q64(ha:DE Z X EE a da)(hb:DE Z X EE b db):DE Z X EE (.BinOp a .Sub b pos) (dOp subW da db):=q85 y98 z0r ha hb
theorem q3b(ha:DE Z X EE a da)(hb:DE Z X EE b db):DE Z X EE (.BinOp a .Mult b pos) (dOp mulW da db):=q85 y99 z0s ha hb
theorem q89(ha:DE Z X EE a da)(hb:DE Z X EE b db):DE Z X EE (.BinOp a .FloorDiv b pos) (dOp fdivW da db):=q85 y6d y6y ha hb
theorem q33(ha:DE Z X EE a da)(hb:DE Z X EE b db):DE Z X EE (.BinOp a .Mod b pos) (dOp modW da db):=q85 z0a z0t ha hb
theorem x4c(hu:X.A.units+150<cLine)(ha:DE Z X EE a da)(hb:DE Z X EE b db):DE Z X EE (.Compare a [.Eq] [b] pos) (dOp eq2 da db):=x0v (y0d hu) y52 ha hb (nomark _)
theorem y54(ha:DE Z X EE a da)(hb:DE Z X EE b db):DE Z X EE (.Compare a [.Is] [b] pos) (dOp isW da db):=x0v y0e y53 ha hb (nomark _)
theorem z0y(ha:DE Z X EE a da)(hb:DE Z X EE b db):DE Z X EE (.Compare a [.IsNot] [b] pos) (dOp nisW da db):=x0v x7k y0f ha hb (nomark _)
theorem x4d(ha:DE Z X EE a da)(hb:DE Z X EE b db):DT Z X EE (.Compare a [.Lt] [b] pos) (dTest (dOp ltW da db)):=q4w z3j z3n ha hb (nomark _)
theorem z3s(ha:DE Z X EE a da)(hb:DE Z X EE b db):DT Z X EE (.Compare a [.Gt] [b] pos) (dTest (dOp gtW da db)):=q4w z3k z3o ha hb (nomark _)
theorem q6j(hu:X.A.units+150<cLine)(ha:DE Z X EE a da)(hb:DE Z X EE b db):DT Z X EE (.Compare a [.Eq] [b] pos) (dTest (dOp eq2 da db)):=q4w (y0d hu) y52 ha hb (nomark _)
theorem q7g(hu:X.A.units+150<cLine)(ha:DE Z X EE a da)(hb:DE Z X EE b db):DT Z X EE (.Compare a [.NotEq] [b] pos) (dTest (dOp ne2 da db)):=q4w (z0w hu) z3q ha hb (nomark _)
theorem x03(ha:DE Z X EE a da)(hb:DE Z X EE b db):DT Z X EE (.Compare a [.Is] [b] pos) (dTest (dOp isW da db)):=q4w y0e y53 ha hb (nomark _)
theorem z0z(ha:DE Z X EE a da)(hb:DE Z X EE b db):DT Z X EE (.Compare a [.IsNot] [b] pos) (dTest (dOp nisW da db)):=q4w x7k y0f ha hb (nomark _)
theorem q00(h:Room k A):A.units+150<cLine:=by have:=h.un;omega
def cutW(xs:List W)(lo hi:Option Int):List W:=(xs.drop (HT.sIx xs.length 0 lo)).take (HT.sIx xs.length xs.length hi-HT.sIx xs.length 0 lo)
theorem Reps.cut(r:Reps K G ws xs)(lo hi:Option Int):Reps K G (cutW ws lo hi) (cutV xs lo hi):=by
 unfold cutW cutV;rw[r.length];exact(r.drop _).take _
def DO(Z:Zt)(X:Cx)(EE:L2.St->XK)(e:Option Expr)(d:Den (Option Int)):Prop:=PO X e (fun σ H Q=>∃G e,Rel X.K Z G σ H e/\(d e).holds (fun o e'=>∀G' H',Rel X.K Z G' σ H' e'->Same G G'->Q o H') (XH X.K Z EE σ G))
def dNoPart:Den (Option Int):=fun e=>.ok none e
def dPart(d:Den W):Den (Option Int):=fun e=>(d e).bind fun w e1=>match w with
 |.int i=>.ok (some i) e1
 |_=>.no
theorem PO.mono{e:Option Expr}{t t':TO}(h:PO X e t)(i:∀σ H Q,t' σ H Q->t σ H Q):PO X e t':=fun pins s σ H Q I q=>h pins s σ H Q I (i σ H Q q)
theorem q9a:DO Z X EE none dNoPart:=PO.mono y6g fun σ H Q ⟨G,e,r,h⟩=>h G H r (.refl _)
theorem q9b(h:DE Z X EE e da):DO Z X EE (some e) (dPart da):=by
 refine PO.mono (y6h h) ?_;rintro σ H Q ⟨G,e,rel,h⟩;simp only[dPart,R.holds_bind]at h;refine⟨G,e,rel,h.imp (fun x e1 h G1 v1 H1 r1 s1 p1=>?_) fun _ _ h=>h⟩
 cases x with
 |int i=>cases(show v1=V.int i from p1);exact⟨i,rfl,h G1 H1 r1 s1⟩
 |_=>exact h.elim
def slW:W->Option Int->Option Int->Option W
 |.lst ws,lo,hi=>some (.lst (cutW ws lo hi))
 |.tup ws,lo,hi=>if ¬(HT.sIx ws.length 0 lo=0/\HT.sIx ws.length ws.length hi=ws.length)then some (.tup (cutW ws lo hi))else none
 |_,_,_=>none
def dSl(d:Den W)(dl dh:Den (Option Int)):Den W:=fun e=>(d e).bind fun w e1=>(dl e1).bind fun lo e2=>(dh e2).bind fun hi e3=>ofOpt (slW w lo hi) e3
theorem q7h{lo hi:Option Expr}{dl dh:Den (Option Int)}(he:DE Z X EE e da)(hl:DO Z X EE lo dl)(hh:DO Z X EE hi dh):DE Z X EE (.Subscript e (.Slice lo hi none p2) pos) (dSl da dl dh):=by
 refine PE.mono (y21 (sl_list.or z0e) he hl hh) ?_;rintro σ H Q ⟨G,e,rel,h⟩;simp only[dSl,R.holds_bind,ofOpt_holds]at h;refine⟨G,e,rel,h.imp (fun w e1 h G1 v1 H1 r1 s1 p1=>?_) fun _ _ h=>h⟩
 refine⟨G1,e1,r1,h.imp (fun lo e2 h G2 H2 r2 s2=>?_) fun _ _ h=>XH.trans s1 h⟩
 refine⟨G2,e2,r2,h.imp (fun hi e3 h G3 H3 r3 s3=>?_) fun _ _ h=>XH.trans (s1.trans s2) h⟩
 obtain⟨y,hf,h⟩:=h;have p3:=Rep.mono (s2.trans s3) w p1;have s03:=(s1.trans s2).trans s3;cases w with
 |lst ws=>
  cases hf;obtain⟨a,xs,rfl,q,r⟩:=p3;refine .inl ⟨a,xs,rfl,r3.sub.seq q,fun p hp=>?_⟩
  have g:=Grow.laid r3.sub hp (.lst (cutV xs lo hi));exact h _ _ _ (r3.grow g) (s03.trans g.gg) ⟨p,_,rfl,SqL.of q0h,Reps.mono g.gg _ (r.cut lo hi)⟩
 |tup ws=>
  simp only[slW]at hf;split at hf
  ·rename_i hw;cases hf;obtain⟨a,xs,rfl,q,r⟩:=p3;refine .inr ⟨a,xs,rfl,r3.sub.tup q,by rw[r.length];exact hw,fun p hp=>?_⟩
   have g:=Grow.laid r3.sub hp (.tup (cutV xs lo hi));exact h _ _ _ (r3.grow g) (s03.trans g.gg) ⟨p,_,rfl,SqT.of q0h,Reps.mono g.gg _ (r.cut lo hi)⟩
  ·cases hf
 |_=>cases hf
def tyW:W->Value
 |.non=>.type "NoneType"
 |.bl _=>.type "bool"
 |.int _=>.type "int"
 |.str _=>.type "str"
 |.tup _=>.type "tuple"
 |.lst _=>.type "list"
 |.exc c=>c
 |.dic _=>.type "dict"
 |.dw _ _ _ _=>.type "dict"
 |.fn _ _ _=>.type "dict"
def isiW(K:Fg)(cv:Value):W->Option W
 |.exc (.ref D)=>if excClsIn K D=true then(kitOne K (.ref D) cv).map .bl else none
 |.exc _=>none
 |.dic _=>none
 |.dw _ _ _ _=>none
 |.fn _ _ _=>none
 |w=>(kitOne K (tyW w) cv).map .bl
theorem y60{b:Bool}{Q:VK}(I:Inv X pins σ H s)(sg:Same G H)(p:Rep X.K G w v)(r:RelV v u)(h:isiW X.K cv w=some (.bl b))(q:Q (.bl b) H):
  wpAny (model X.prog X.w) X.A (call (.builtin "isinstance") [u,cv]) (EP X pins σ Q) X.xe s:=by
 have fin:∀tk,EP X pins σ Q (.bool b) {s with toks:=tk}:=fun tk=>⟨.bl b,H,I.tok _,rfl,q⟩
 have kit:∀{t:Value},(kitOne X.K t cv).map W.bl=some (.bl b)->kitOne X.K t cv=some b:=fun z=>by
  obtain⟨y,h1,h2⟩:=w0l.mp z;cases h2;exact h1
 cases w with
 |non=>cases p;cases r;exact kia_one PySem.W.kitx_none I.kIn True.intro (kit h) (fun z=>nomatch z) fin
 |bl y=>cases p;cases r;exact kia_one PySem.W.kitx_bool I.kIn True.intro (kit h) (fun z=>nomatch z) fin
 |int y=>cases p;obtain⟨t,rfl⟩:=r;exact kia_one PySem.W.kitx_int I.kIn True.intro (kit h) (fun z=>nomatch z) fin
 |str y=>cases p;obtain⟨t,rfl⟩:=r;exact kia_one PySem.W.kitx_str I.kIn True.intro (kit h) (fun z=>nomatch z) fin
 |tup ws=>
  obtain⟨a,xs,rfl,hq,_⟩:=p;cases r;obtain⟨its,_,⟨o,h1,h2,_⟩,_⟩:=I.tuple (sg.tup hq);exact kia_one PySem.W.kitx_tuple I.kIn ⟨o,h1,h2⟩ (kit h) (fun z=>nomatch z) fin
 |lst ws=>
  obtain⟨a,xs,rfl,hq,_⟩:=p;cases r;obtain⟨its,_,⟨o,n,h1,h2,_⟩,_⟩:=I.list (sg.seq hq);exact kia_one PySem.W.kitx_list I.kIn ⟨o,h1,h2⟩ (kit h) (fun z=>nomatch z) fin
 |dic c=>simp[isiW]at h
 |dw _ _ _ _=>simp[isiW]at h
 |fn _ _ _=>simp[isiW]at h
 |exc c=>
  obtain⟨e,rfl,he⟩:=p;cases r;unfold isiW at h;split at h
  ·rename_i D heq;cases heq;split at h
   ·rename_i hC;obtain⟨⟨o,vs,h1,h2,h3⟩,_⟩:=(show ObjOk X.prog X.w H s.heap e (excO e (.ref D))from I.hok e _ (sg _ _ he));exact kia_one (y28 (ExcCls.of hC)) I.kIn ⟨o,vs,h1,h2,h3⟩ (kit h) (fun z=>nomatch z) fin
   ·cases h
  all_goals first|(cases h;done)|(rename_i h1 h2 h3 h4 h5;exact absurd rfl (h2 c))|(rename_i h1 h2 h3 h4;exact absurd rfl (h2 c))|(rename_i h1 h2 h3;exact absurd rfl (h2 c))|(rename_i h1 h2;exact absurd rfl (h2 c))
def dIsi(K:Fg)(cv:Value)(d:Den W):Den W:=fun e=>(d e).bind fun w e1=>match isiW K cv w with
 |some (.bl b)=>.ok (.bl b) e1
 |_=>.no
theorem y0g{c:V}(hc:ClsV c cv):CallR X (.builtin "isinstance") (fun xs H Q=>∃x G w b,xs=[x,c]/\Same G H/\Rep X.K G w x/\isiW X.K cv w=some (.bl b)/\Q (.bl b) H):=by
 intro pins s σ H xs us Q I r h;obtain⟨x,G,w,b,rfl,sg,p,hi,q⟩:=h;obtain⟨u,u2,rfl,rx,rc⟩:=vals2 r
 have ec:u2=cv:=by
  cases c with
  |ty n=>exact(show u2=Value.type n from rc).trans (show cv=Value.type n from hc).symm
  |ref a=>exact(show u2=Value.ref a from rc).trans (show cv=Value.ref a from hc).symm
  |_=>exact hc.elim
 subst ec;exact y60 I sg p rx hi q
theorem x4v{c0:V}(hc:ClsV c0 cv)(hcl:PE X c (tC c0))(hm:X.mg "isinstance"=none)(he:DE Z X EE e da)(hg:Gl X "isinstance":=by rfl)(hs:starEach [e,c] X.env=(false,eval e X.env)::starEach [c] X.env:=by rfl)(hs2:starEach [c] X.env=(false,eval c X.env)::starEach [] X.env:=by rfl)(hpl:(backTo pos (starEach [c] X.env)).any (·.1)=false:=by rfl):
  DE Z X EE (.Call (.Name "isinstance" p) [e,c] [] pos) (dIsi X.K cv da):=by
 refine PE.mono (x4m (y0g hc) hg hm PyProof.Rows.Boot.«isinstance» (q47 he (q47 hcl q8c hs2) hs) (by decide) (by decide) hs hpl) ?_;rintro σ H Q ⟨G,e,rel,h⟩;simp only[dIsi,R.holds_bind]at h;refine⟨G,e,rel,h.imp (fun w e1 h G1 v1 H1 r1 s1 p1=>?_) fun _ _ h=>h⟩
 split at h
 ·rename_i b hb;exact⟨v1,G1,w,b,rfl,r1.sub,p1,hb,h G1 _ H1 r1 s1 rfl⟩
 ·exact h.elim
theorem y61{n:Str}{a:Addr}(hm:X.mg n=some (.ref a))(hg:Gl X n:=by rfl)(hd:(n==("__debug__":Str))=false:=by decide):PE X (.Name n pos) (tC (.ref a)):=x1z (v:=.ref a) hg hm rfl hd
theorem x7l{n:Str}(hv:bootBuiltins n=some (.type T))(hm:X.mg n=none)(hg:Gl X n:=by rfl)(hn:n≠"__name__":=by decide)(hd:(n==("__debug__":Str))=false:=by decide):PE X (.Name n pos) (tC (.ty T)):=y57 (v:=.ty T) hg hm hv rfl hn hd
def tup1:List W->Option W
 |[.lst ws]=>some (.tup ws)
 |[.tup ws]=>some (.tup ws)
 |_=>none
theorem z00:OpN K (fun xs H Q=>∃p ys,xs=[.ref p]/\((SqL K H p ys/\∀l,H l=none->Q (.ref l) (upd H l (.tup ys)))\/(SqT K H p ys/\Q (.ref p) H))) tup1:=by
 intro G H xs ws w Q s pr hf h;unfold tup1 at hf;split at hf
 ·cases hf;obtain⟨x,r,rfl,px,pr⟩:=pr;cases(show r=[]from pr);obtain⟨a,ys,rfl,ha,ra⟩:=px;refine⟨a,ys,rfl,.inl ⟨s.seq ha,fun l hl=>?_⟩⟩
  have g:=Grow.laid s hl (.tup ys);exact h _ _ _ g ⟨l,ys,rfl,SqT.of q0h,Reps.mono g.gg _ ra⟩
 ·cases hf;obtain⟨x,r,rfl,px,pr⟩:=pr;cases(show r=[]from pr);obtain⟨a,ys,rfl,ha,ra⟩:=px;exact⟨a,ys,rfl,.inr ⟨s.tup ha,h G _ H (.refl s) ⟨a,ys,rfl,ha,ra⟩⟩⟩
 ·cases hf
theorem x4w(hm:X.mg "tuple"=none)(ha:DA Z X EE [e] dA)(hg:Gl X "tuple":=by rfl)(he:starEach [e] X.env=(false,eval e X.env)::starEach [] X.env:=by rfl)(hpl:(backTo pos (starEach [] X.env)).any (·.1)=false:=by rfl):DE Z X EE (.Call (.Name "tuple" p) [e] [] pos) (dFn tup1 dA):=
 x96 x3w z00 PyProof.Rows.Boot.«tuple» hm ha hg (by decide) (by decide) he hpl
theorem q16(hm:X.mg "len"=none)(ha:DA Z X EE [e] dA)(hg:Gl X "len":=by rfl)(he:starEach [e] X.env=(false,eval e X.env)::starEach [] X.env:=by rfl)(hpl:(backTo pos (starEach [] X.env)).any (·.1)=false:=by rfl):DE Z X EE (.Call (.Name "len" p) [e] [] pos) (dFn len1 dA):=
 x0w y2z z0u PySem.boot_len hm ha hg (by decide) (by decide) he hpl
def lst1:List W->Option (List W)
 |[.lst ws]=>some ws
 |[.tup ws]=>some ws
 |_=>none
def dList(dA:Den (List W)):Den (List W):=fun e=>(dA e).bind fun ws e1=>ofOpt (lst1 ws) e1
theorem x7m(hm:X.mg "list"=none)(ha:DA Z X EE [e] dA)(hg:Gl X "list":=by rfl)(he:starEach [e] X.env=(false,eval e X.env)::starEach [] X.env:=by rfl)(hpl:(backTo pos (starEach [] X.env)).any (·.1)=false:=by rfl):DF Z X EE (.Call (.Name "list" p) [e] [] pos) (dList dA):=by
 refine PE.mono (x2t x4o hg hm PyProof.Rows.Boot.«list» ha (by decide) (by decide) he hpl) ?_;rintro σ H Q ⟨G,e,rel,h⟩;simp only[dList,R.holds_bind,ofOpt_holds]at h;refine⟨G,e,rel,h.imp (fun ws e1 h G1 vs H1 r1 s1 p1=>?_) fun _ _ h=>h⟩
 obtain⟨out,hf,h⟩:=h;unfold lst1 at hf;split at hf
 ·cases hf;obtain⟨y,r,rfl,py,pr⟩:=p1;cases(show r=[]from pr);obtain⟨a,ys,rfl,hq,rq⟩:=py;exact⟨a,ys,rfl,.inl (r1.sub.seq hq),q96 r1 s1 rq h⟩
 ·cases hf;obtain⟨y,r,rfl,py,pr⟩:=p1;cases(show r=[]from pr);obtain⟨a,ys,rfl,hq,rq⟩:=py;exact⟨a,ys,rfl,.inr (r1.sub.tup hq),q96 r1 s1 rq h⟩
 ·cases hf
end
section
variable{w:World}{mg:Str->Option Value}{base:Heap}
theorem x04{F:List W->FR}(hF:∀ws,F ws=.no){vs:List V}{Q:VK}{E:XK}(h:spF K F vs H Q E):False:=by
 obtain⟨G,ws,hn,_⟩:=q8k h;exact hn (hF ws)
theorem q8l:∀(ns:List Int),Reps K G (ns.map W.int) (ns.map V.int)
 |[]=>rfl
 |n::ns=>⟨_,_,rfl,rfl,q8l ns⟩
theorem z01{w:World}{e:Value}{s':Shared}(z:CX1 P w [] H s (fun _ _ _=>False) e s'):False:=by
 obtain⟨_,_,_,_,_,_,_,_,_,_,h⟩:=z;exact h
theorem con0{st:Stmt}{ps:List Str}{F:List W->FR}(A:At K mg x st ps)(hF:∀ws,F ws=.no:=by intro _;rfl):Cal P w K mg base 0 x ps (spF K F):=by
 obtain⟨f,fd,F0,m,b⟩:=A.ex;exact⟨f,fd,⟨fun vs H Q E h=>(x04 hF h).elim,fun A outer s H args us vs Q E _ _ _ _ h=>(x04 hF h).elim⟩,m,F0.kp,b⟩
end
section
variable{e:Expr}{d:Den Str}
def DFm(Z:Zt)(X:Cx)(EE:L2.St->XK)(n:Nat)(es:List Expr)(d:Den Str):Prop:=PF X es (fun acc σ H Q=>acc.length+n*1000001<=16777216/\∃G e,Rel X.K Z G σ H e/\(d e).holds (fun y e'=>∀G' H',Rel X.K Z G' σ H' e'->Same G G'->Q (acc++y) H') (XH X.K Z EE σ G))
end
section
variable{β:Type}{c:Prop} [Decidable c]{a:α}{e':List S}{k:α->List S->R β}{ks:α->List S->SR}{x y:R α}{s t:SR}{v:Value}{st:S}
theorem y62:(R.ok a e).bind k=k a e:=rfl
theorem y63:(R.ex v e:R α).bind k=.ex v e:=rfl
theorem y64:(R.no:R α).bind k=.no:=rfl
theorem y3i:(if c then x else y).bind k=if c then x.bind k else y.bind k:=by split<;>rfl
theorem y0h:(R.ok a e).stm ks=ks a e:=rfl
theorem z02:(R.ex v e:R α).stm ks=.ex v e:=rfl
theorem z03:(R.no:R α).stm ks=.no:=rfl
theorem y65:(if c then x else y).stm ks=if c then x.stm ks else y.stm ks:=by split<;>rfl
def SR.seq:SR->(List S->SR)->SR
 |.nx e,b=>b e
 |r,_=>r
theorem z04{p:List S->SR}:dSeq p q e=(p e).seq q:=by
 unfold dSeq SR.seq;cases p e<;>rfl
theorem z05:(SR.nx e).seq q=q e:=rfl
theorem z06:(SR.rt st e).seq q=.rt st e:=rfl
theorem z07:(SR.ex v e).seq q=.ex v e:=rfl
theorem z08:(SR.bk e).seq q=.bk e:=rfl
theorem z09:(SR.ct e).seq q=.ct e:=rfl
theorem z1a:(SR.no).seq q=.no:=rfl
theorem y66:(if c then s else t).seq q=if c then s.seq q else t.seq q:=by split<;>rfl
theorem z3t:(SR.nx e).fn=.ok (.fr .non):=rfl
theorem z3u:(SR.rt st e).fn=.ok st:=rfl
theorem z3v:(SR.ex v e).fn=.ex v:=rfl
theorem z3w:(SR.no).fn=.no:=rfl
theorem z1b:(if c then s else t).fn=if c then s.fn else t.fn:=by split<;>rfl
theorem x8t:ofOpt (some a) e=.ok a e:=rfl
theorem x8u:ofOpt (none:Option α) e=.no:=rfl
theorem y0i{o p:Option α}:ofOpt (if c then o else p) e=if c then ofOpt o e else ofOpt p e:=by split<;>rfl
def varS(i:Nat)(e:List S):Option S->R W
 |some (.fr w)=>.ok w e
 |some (.own none ws)=>.ok (.lst ws) (e.set i (.fr (.lst ws)))
 |some (.x k)=>match k.plain with
  |some w=>.ok w e
  |none=>.no
 |_=>.no
theorem z1c:dVar i e=varS i e e[i]?:=by
 unfold dVar varS;cases e[i]? with
 |none=>rfl
 |some s=>cases s with
  |own b ws=>cases b<;>rfl
  |_=>rfl
theorem y67:varS i e (some (.x (.old w)))=.ok w e:=rfl
theorem y68:varS i e (some (.x (.new w)))=.ok w e:=rfl
theorem z1d:varS i e (some (.fr w))=.ok w e:=rfl
theorem y69:varS i e (some (.own none ws))=.ok (.lst ws) (e.set i (.fr (.lst ws))):=rfl
theorem dC_s:dC w e=.ok w e:=rfl
theorem z3x{f:W->W->Option W}:dOp f da db e=(da e).bind fun x e1=>(db e1).bind fun y e2=>ofOpt (f x y) e2:=rfl
theorem z3y{f:W->Option W}:dUn f da e=(da e).bind fun x e1=>ofOpt (f x) e1:=rfl
def testW(e:List S):W->R Bool
 |.bl k=>.ok k e
 |_=>.no
theorem y7a:dTest da e=(da e).bind fun x e1=>testW e1 x:=rfl
theorem y7b{b:Bool}:testW e (.bl b)=.ok b e:=rfl
theorem z1e:dTru da e=(da e).bind fun x e1=>ofOpt (truW x) e1:=rfl
theorem z1f{p q:Den Bool}:dAnd p q e=(p e).bind fun x e1=>if x=true then q e1 else .ok false e1:=rfl
theorem z3z{p q:Den Bool}:dOr p q e=(p e).bind fun x e1=>if x=true then .ok true e1 else q e1:=rfl
theorem z1g{p:Den Bool}:dNot p e=(p e).bind fun x e1=>.ok (!x) e1:=rfl
def andK(q:Den W)(e:List S):W->R W
 |.bl true=>q e
 |.bl false=>.ok (.bl false) e
 |_=>.no
theorem y7c{p q:Den W}:dAndV p q e=(p e).bind fun x e1=>andK q e1 x:=rfl
theorem z1h{q:Den W}{b:Bool}:andK q e (.bl b)=if b=true then q e else .ok (.bl false) e:=by cases b<;>rfl
def orK(q:Den W)(e:List S):W->R W
 |.bl true=>.ok (.bl true) e
 |.bl false=>q e
 |_=>.no
theorem z1i{p q:Den W}:dOrV p q e=(p e).bind fun x e1=>orK q e1 x:=rfl
theorem z30{q:Den W}{b:Bool}:orK q e (.bl b)=if b=true then .ok (.bl true) e else q e:=by cases b<;>rfl
def notK(e:List S):W->R W
 |.bl k=>.ok (.bl (!k)) e
 |_=>.no
theorem y7d{p:Den W}:dNotV p e=(p e).bind fun x e1=>notK e1 x:=rfl
theorem z1j{b:Bool}:notK e (.bl b)=.ok (.bl (!b)) e:=rfl
theorem z1k:dNil e=.ok [] e:=rfl
theorem y7e{p:Den W}{q:Den (List W)}:dCons p q e=(p e).bind fun x e1=>(q e1).bind fun xs e2=>.ok (x::xs) e2:=rfl
theorem z1l:dTup p e=(p e).bind fun xs e1=>if xs.length<=16777216 then .ok (.tup xs) e1 else .no:=rfl
theorem z1m:dLst p e=(p e).bind fun xs e1=>if xs.length<=16777216 then .ok xs e1 else .no:=rfl
theorem z31:dFz p e=(p e).bind fun xs e1=>.ok (.lst xs) e1:=rfl
theorem z32{f:List W->Option W}:dFn f p e=(p e).bind fun xs e1=>ofOpt (f xs) e1:=rfl
theorem y7f:dList p e=(p e).bind fun xs e1=>ofOpt (lst1 xs) e1:=rfl
theorem z33:dNx e=.nx e:=rfl
theorem y7g:dDrop d e=(d e).stm fun _ e'=>.nx e':=rfl
theorem z1n:dRet d e=(d e).stm fun w e'=>.rt (.fr w) e':=rfl
theorem y7h{d:Den (List W)}:dRetF d e=(d e).stm fun w e'=>.rt (.own none w) e':=rfl
theorem z1o{p:Den Bool}{q':List S->SR}:dIfS p q q' e=(p e).stm fun x e1=>if x=true then q e1 else q' e1:=rfl
theorem z1p:dSet i d e=(d e).stm fun w e'=>.nx (e'.set i (.fr w)):=rfl
theorem y7i{d:Den (List W)}:dSetO i d e=(d e).stm fun w e'=>.nx (e'.set i (.own none w)):=rfl
def callR(e:List S):FR->R W
 |.ok (.fr w)=>.ok w e
 |.ok (.own none ws)=>.ok (.lst ws) e
 |.ok (.dic kvs)=>.ok (.dic kvs) e
 |.ok (.thr us ws vs)=>.ok (.tup (us++.lst ws::vs)) e
 |.ok (.x (.new w))=>.ok w e
 |.ok (.x (.tn us wss))=>.ok (.tup (us++[.lst (wss.map .lst)])) e
 |.ex c=>.ex c e
 |_=>.no
theorem y3j{vs:List W}:callR e (.ok (.thr us ws vs))=.ok (.tup (us++.lst ws::vs)) e:=rfl
theorem y3k:callR e (.ok (.x (.new w)))=.ok w e:=rfl
theorem y3l{kvs:Dd}:callR e (.ok (.dic kvs))=.ok (.dic kvs) e:=rfl
theorem y7j{F:List W->FR}{d:Den (List W)}:dCall F d e=(d e).bind fun ws e1=>callR e1 (F ws):=by
 unfold dCall;congr 1
theorem y7k:callR e (.ok (.fr w))=.ok w e:=rfl
theorem y3m:callR e (.ok (.own none ws))=.ok (.lst ws) e:=rfl
theorem y7l:callR e (.ex v)=.ex v e:=rfl
theorem y7m:callR e .no=.no:=rfl
theorem y3n{f g:FR}:callR e (if c then f else g)=if c then callR e f else callR e g:=by split<;>rfl
def callF(e:List S):FR->R (List W)
 |.ok (.own none ws)=>.ok ws e
 |.ex c=>.ex c e
 |_=>.no
theorem y0j:callF e (.ok (.own none ws))=.ok ws e:=rfl
theorem y3o:callF e (.ex v)=.ex v e:=rfl
theorem y0k{f g:FR}:callF e (if c then f else g)=if c then callF e f else callF e g:=by split<;>rfl
def forW(i:Nat)(b:List S->SR)(e:List S):Option (List W)->SR
 |some ws=>forD i b ws e
 |none=>.no
theorem z1q{b:List S->SR}:dFor i d b e=(d e).stm fun w e1=>forW i b e1 (seqW w):=by
 unfold dFor;congr 1
theorem y7n{g:List W->Option (List W)}{d:Den (List W)}{b:List S->SR}:dForR i g d b e=(d e).stm fun w e1=>forW i b e1 (g w):=by
 unfold dForR;congr 1
theorem y0l{b:List S->SR}:forW i b e (some ws)=forD i b ws e:=rfl
def SR.turn:SR->(List S->SR)->SR
 |.nx e,k=>k e
 |.ct e,k=>k e
 |.bk e,_=>.nx e
 |.rt s e,_=>.rt s e
 |.ex c e,_=>.ex c e
 |.no,_=>.no
theorem q25{b:List S->SR}:forD i b (w::ws) e=(b (e.set i (.fr w))).turn (forD i b ws):=by
 show(match b (e.set i (.fr w))with|.nx e'=>forD i b ws e'|.ct e'=>forD i b ws e'|.bk e'=>.nx e'|.rt s e'=>.rt s e'|.ex c e'=>.ex c e'|.no=>.no)=_;cases b (e.set i (.fr w))<;>rfl
theorem q3v:(SR.nx e).turn q=q e:=rfl
theorem y7o:(SR.ct e).turn q=q e:=rfl
theorem y7p:(SR.bk e).turn q=.nx e:=rfl
theorem x7n:(SR.rt st e).turn q=.rt st e:=rfl
theorem y7q:(SR.ex v e).turn q=.ex v e:=rfl
theorem y7r:(SR.no).turn q=.no:=rfl
theorem y3p:(if c then s else t).turn q=if c then s.turn q else t.turn q:=by split<;>rfl
theorem x7o{p:Den Bool}{b:List S->SR}:whileD p b (n+1) e=(p e).stm fun x e1=>if x=true then(b e1).turn (whileD p b n)else .nx e1:=by
 show(p e).stm _=_;congr 1;funext x e1
 split
 ·cases b e1<;>rfl
 ·rfl
theorem z34:S.look (.fr w)=some w:=rfl
theorem z1r:S.look (.x (.old w))=some w:=rfl
theorem z1s:S.look (.x (.new w))=some w:=rfl
theorem z1t:S.look (.x (.acc ws))=some (.lst ws):=rfl
theorem z1u:S.look (.own b ws)=some (.lst ws):=rfl
def appK(i:Nat)(e:List S):List W->Option S->SR
 |[w],some (.own b xs)=>if xs.length<16777216 then .nx (e.set i (.own b (xs++[w])))else .no
 |_,_=>.no
def ownQ(k:SR):Option S->SR
 |some (.own _ _)=>k
 |_=>.no
theorem z1v{d:Den (List W)}:dApp i d e=ownQ ((d e).stm fun ws e1=>appK i e1 ws e1[i]?) e[i]?:=by
 unfold dApp ownQ;cases e[i]? with
 |none=>rfl
 |some s=>cases s with
  |own b xs=>
   dsimp only;try congr 1
  |_=>rfl
theorem z35{k:SR}:ownQ k (some (.own b ws))=k:=rfl
theorem z36{xs:List W}:appK i e [w] (some (.own b xs))=if xs.length<16777216 then .nx (e.set i (.own b (xs++[w])))else .no:=rfl
theorem y3q{C:Addr}{d:Den (List W)}:dRaise C d e=(d e).stm fun ws e1=>if ws.length<=16777216 then .ex (.ref C) e1 else .no:=rfl
theorem z37{dl dh:Den (Option Int)}:dSl d dl dh e=(d e).bind fun w e1=>(dl e1).bind fun lo e2=>(dh e2).bind fun hi e3=>ofOpt (slW w lo hi) e3:=rfl
theorem y0m:dNoPart e=.ok none e:=rfl
def partK(e:List S):W->R (Option Int)
 |.int i=>.ok (some i) e
 |_=>.no
theorem y7s:dPart d e=(d e).bind fun w e1=>partK e1 w:=rfl
theorem y3r{i:Int}:partK e (.int i)=.ok (some i) e:=rfl
def isiK(e:List S):Option W->R W
 |some (.bl b)=>.ok (.bl b) e
 |_=>.no
theorem z1w:dIsi K cv d e=(d e).bind fun w e1=>isiK e1 (isiW K cv w):=by
 unfold dIsi;congr 1
theorem z1x{b:Bool}:isiK e (some (.bl b))=.ok (.bl b) e:=rfl
theorem y7t{b:List W}{k:Bool}(h:kitOne K (.type "tuple") cv=some k):isiW K cv (.tup b)=some (.bl k):=by show(kitOne K (.type "tuple") cv).map W.bl=_;rw[h];rfl
theorem y7u{b:List W}{k:Bool}(h:kitOne K (.type "list") cv=some k):isiW K cv (.lst b)=some (.bl k):=by show(kitOne K (.type "list") cv).map W.bl=_;rw[h];rfl
theorem y7v{D:Addr}{k:Bool}(hc:excClsIn K D=true)(h:kitOne K (.ref D) cv=some k):isiW K cv (.exc (.ref D))=some (.bl k):=by show(if excClsIn K D=true then _ else _)=_;rw[if_pos hc,h];rfl
def tryH(n:Nat):SR->SR
 |.nx _=>.nx (List.replicate n .no)
 |.bk _=>.bk (List.replicate n .no)
 |.ct _=>.ct (List.replicate n .no)
 |.rt s e=>.rt s e
 |_=>.no
def tryK(K:Fg)(c:Addr)(i n:Nat)(h:List S->SR):SR->SR
 |.ex cls e'=>if exmOne K cls (.ref c)=some true then tryH n (h (e'.set i (.fr (.exc cls))))else .no
 |r=>r
theorem z1y{c : Addr}{b h : List S -> SR} : dTry K c i n b h e = tryK K c i n h (b e) := by
  unfold dTry tryK;cases b e with
  | ex cls e' => dsimp only; split
                 . cases h (e'.set i (.fr (.exc cls))) <;> rfl
                 . rfl
  | _ => rfl
theorem z1z{c:Addr}:tryK K c i n h (.nx e)=.nx e:=rfl
theorem z10{c:Addr}:tryK K c i n h (.rt st e)=.rt st e:=rfl
theorem z11{c:Addr}(hx:exmOne K v (.ref c)=some true):tryK K c i n h (.ex v e)=tryH n (h (e.set i (.fr (.exc v)))):=by show(if _ then _ else _)=_;rw[if_pos hx]
theorem y7w:tryH n (.rt st e)=.rt st e:=rfl
theorem y7x:tryH n (.nx e)=.nx (List.replicate n .no):=rfl
def compR(e:List S):Option (List W)->R (List W)
 |some out=>.ok out e
 |none=>.no
theorem y7y:compK js cc d ws e=if ws.length<=16777216 then compR (frzs js e) (compD cc d (pjS js (frzs js e)) ws)else .no:=by
 unfold compK compR;split
 ·cases compD cc d (pjS js (frzs js e)) ws<;>rfl
 ·rfl
def compW(js:List Nat)(cc:Den Bool)(d:Den W)(e:List S):Option (List W)->R (List W)
 |some ws=>compK js cc d ws e
 |none=>.no
theorem y7z{di:Den W}:dComp js di cc d e=(di e).bind fun w e1=>compW js cc d e1 (seqW w):=by
 unfold dComp;congr 1
theorem y3s{g:List W->Option (List W)}{di:Den (List W)}:dCompR g js di cc d e=(di e).bind fun w e1=>compW js cc d e1 (g w):=by
 unfold dCompR;congr 1
theorem x8v:compW js cc d e (some ws)=compK js cc d ws e:=rfl
theorem x8w{out:List W}:compR e (some out)=.ok out e:=rfl
theorem y0n:dYes e=.ok true e:=rfl
theorem y3t:frzs [] e=e:=rfl
theorem y0o{j:Nat}:frzs (j::js) e=frzs js (frz1 e j):=rfl
theorem y70:pjS [] e=[]:=rfl
theorem y3u{j:Nat}:pjS (j::js) e=pj1 e j::pjS js e:=rfl
theorem x4x{g:W->W}:∀(ws:List W),(∀w∈ws,∃e',d (.fr w::pe)=.ok (g w) e')->compD dYes d pe ws=some (ws.map g)
 |[],_=>rfl
 |w::ws,h=>by
  obtain⟨e',he⟩:=h w (by simp);show(match d (.fr w::pe)with|.ok y _=>(compD dYes d pe ws).map (y::·)|_=>none)=_;rw[he,x4x ws fun u hu=>h u (by simp[hu])]
  rfl
theorem x22:compD cc d pe (w::ws)=(match cc (.fr w::pe)with
  |.ok true e1=>(match d e1 with|.ok y _=>(compD cc d pe ws).map (y::·)|_=>none)
  |.ok false _=>compD cc d pe ws
  |_=>none):=rfl
end
section
variable{i j:Int}{b c:Bool}
theorem z12:addW (.int i) (.int j)=some (.int (i+j)):=rfl
theorem z13:addW (.str x) (.str y)=if x.length+y.length<=16777216 then some (.str (x++y))else none:=rfl
theorem z14:addW (.lst ws) (.lst us)=if ws.length+us.length<=16777216 then some (.lst (ws++us))else none:=rfl
theorem z15:subW (.int i) (.int j)=some (.int (i-j)):=rfl
theorem z16:mulW (.int i) (.int j)=if(-18446744073709551616<i/\i<18446744073709551616)\/(-18446744073709551616<j/\j<18446744073709551616)then some (.int (i*j))else none:=rfl
theorem y71:fdivW (.int i) (.int j)=if 0<j/\j<1073741824 then some (.int (i / j))else none:=rfl
theorem z17:modW (.int i) (.int j)=if 0<j then some (.int (i%j))else none:=rfl
theorem z38:ltW (.int i) (.int j)=some (.bl (decide (i<j))):=rfl
theorem z39:gtW (.int i) (.int j)=some (.bl (decide (j<i))):=rfl
theorem z4a:eq2 (.int i) (.int j)=some (.bl (decide (i=j))):=by
 show some (W.bl (i==j))=_;congr 2
theorem z4b:eq2 (.str x) (.str y)=some (.bl (decide (x=y))):=by
 show some (W.bl (x==y))=_;congr 2
theorem z4c:eq2 (.bl b) (.bl c)=some (.bl (decide (b=c))):=by
 show some (W.bl (b==c))=_;congr 2
theorem z4d:ne2 (.int i) (.int j)=some (.bl (!decide (i=j))):=by
 show some (W.bl (!(i==j)))=_;congr 2
theorem z4e:ne2 (.str x) (.str y)=some (.bl (!decide (x=y))):=by
 show some (W.bl (!(x==y)))=_;congr 2
theorem z4f:ne2 (.bl b) (.bl c)=some (.bl (!decide (b=c))):=by
 show some (W.bl (!(b==c)))=_;congr 2
theorem z4g:isW (.bl b) (.bl c)=some (.bl (decide (b=c))):=by
 show some (W.bl (b==c))=_;congr 2
theorem z4h:isW .non .non=some (.bl true):=rfl
theorem z4i:isW (.bl b) .non=some (.bl false):=rfl
theorem z4j:isW (.int i) .non=some (.bl false):=rfl
theorem z4k:isW (.str x) .non=some (.bl false):=rfl
theorem z4l:isW (.tup ws) .non=some (.bl false):=rfl
theorem z4m:isW (.lst ws) .non=some (.bl false):=rfl
theorem z18:nisW (.bl b) (.bl c)=some (.bl (!decide (b=c))):=by
 show some (W.bl (!(b==c)))=_;congr 2
theorem z19:nisW .non .non=some (.bl false):=rfl
theorem z2a:nisW (.bl b) .non=some (.bl true):=rfl
theorem z2b:nisW (.int i) .non=some (.bl true):=rfl
theorem z2c:nisW (.str x) .non=some (.bl true):=rfl
theorem z2d:nisW (.tup ws) .non=some (.bl true):=rfl
theorem z2e:nisW (.lst ws) .non=some (.bl true):=rfl
theorem ix_t:ixW (.tup ws) (.int i)=atI ws i:=rfl
theorem ix_l:ixW (.lst ws) (.int i)=atI ws i:=rfl
theorem z4n:len1 [.tup ws]=some (.int ws.length):=rfl
theorem z4o:len1 [.lst ws]=some (.int ws.length):=rfl
theorem z4p:tup1 [.lst ws]=some (.tup ws):=rfl
theorem z4q:tup1 [.tup ws]=some (.tup ws):=rfl
theorem z4r:lst1 [.lst ws]=some ws:=rfl
theorem z4s:lst1 [.tup ws]=some ws:=rfl
theorem z4t:truW (.bl b)=some b:=rfl
theorem z4u:truW (.int i)=some (i != 0):=rfl
theorem z4v:truW .non=some false:=rfl
theorem z4w:truW (.tup ws)=some (!ws.isEmpty):=rfl
theorem z4x:truW (.lst ws)=some (!ws.isEmpty):=rfl
theorem z4y:seqW (.tup ws)=some ws:=rfl
theorem z4z:seqW (.lst ws)=some ws:=rfl
theorem sc_i:scalW (.int i)=true:=rfl
theorem sc_b:scalW (.bl b)=true:=rfl
theorem sc_s:scalW (.str x)=true:=rfl
theorem sc_n:scalW .non=true:=rfl
theorem sl_l{lo hi:Option Int}:slW (.lst ws) lo hi=some (.lst (cutW ws lo hi)):=rfl
theorem at0{xs:List α}:atI xs 0=xs[0]?:=by
 cases xs with
 |nil=>rfl
 |cons a l=>exact q5u (j:=0) rfl
theorem at1{xs:List α}:atI xs 1=xs[1]?:=by
 cases xs with
 |nil=>rfl
 |cons a l=>
  cases l with
  |nil=>rfl
  |cons b l=>exact q5u (j:=1) rfl
theorem at2{xs:List α}:atI xs 2=xs[2]?:=by
 cases xs with
 |nil=>rfl
 |cons a l=>
  cases l with
  |nil=>rfl
  |cons b l=>
   cases l with
   |nil=>rfl
   |cons c l=>exact q5u (j:=2) rfl
theorem x4y{xs:List α}{k:Int}(h0:0<=k):atI xs k=xs[k.toNat]?:=by
 unfold atI ixN;rw[if_pos h0]
 by_cases h:k<xs.length
 ·rw[if_pos h];rfl
 ·rw[if_neg h];exact(w1m (by omega)).symm
theorem x4z{a b:String}(h:Str.ofString a=Str.ofString b):a=b:=by
 rw[Str.ofString_eq_toList,Str.ofString_eq_toList]at h;have h1:(a.toList.map Char.toNat).toArray=(b.toList.map Char.toNat).toArray:=congrArg Str.cps h;have h2:a.toList.map Char.toNat=b.toList.map Char.toNat:=by simpa using congrArg Array.toList h1
 have h3:a.toList=b.toList:=by
  have inj:∀c d:Char,c.toNat=d.toNat->c=d:=fun c d e=>by
   apply Char.ext;exact UInt32.toNat_inj.mp e
  exact(List.map_inj_right inj).mp h2
 exact String.toList_inj.mp h3
theorem z2f{a b:String}:(Str.ofString a=Str.ofString b)=(a=b):=propext ⟨x4z,fun h=>by rw[h]⟩
end
def tuprevW:W->Option W
 |.lst ws=>some (.tup ws.reverse)
 |_=>none
def boolsW:List W->Option (List Bool)
 |[]=>some []
 |.bl b::ws=>(boolsW ws).map (b::·)
 |_=>none
def all1:List W->Option W
 |[.lst ws]=>(boolsW ws).map fun bs=>.bl (bs.all id)
 |_=>none
def int1:List W->Option W
 |[.int i]=>some (.int i)
 |[.bl b]=>some (.int (if b then 1 else 0))
 |_=>none
def eqS(y x:W):Bool:=(eqW y x).getD false
def inW:W->W->Option W
 |x,.tup ws=>if scalW x=true/\ws.all scalW=true then some (.bl (ws.any fun y=>eqS y x))else none
 |x,.lst ws=>if scalW x=true/\ws.all scalW=true then some (.bl (ws.any fun y=>eqS y x))else none
 |_,_=>none
def ninW:W->W->Option W
 |x,.tup ws=>if scalW x=true/\ws.all scalW=true then some (.bl (!ws.any fun y=>eqS y x))else none
 |x,.lst ws=>if scalW x=true/\ws.all scalW=true then some (.bl (!ws.any fun y=>eqS y x))else none
 |_,_=>none
theorem q5h(h:scalW w=true)(p:Rep K G w v):flatV v=true:=by
 cases w with
 |non=>cases p;rfl
 |bl b=>cases p;rfl
 |int b=>cases p;rfl
 |str b=>cases p;rfl
 |_=>cases h
theorem y72{u:W}{x:V}(h:scalW w=true)(h':scalW u=true)(p:Rep K G w v)(q:Rep K G u x):eqV v x=eqS w u:=by
 cases w<;>cases u<;>first|(cases p;cases q;rfl)|exact absurd (show false=true from h') w1e|exact absurd (show false=true from h) w1e
theorem q56{u:W}{x:V}(hu:scalW u=true)(q:Rep K G u x):∀{ws:List W}{xs:List V},ws.all scalW=true->Reps K G ws xs->xs.all flatV=true/\inV x xs=ws.any fun y=>eqS y u
 |[],xs,_,r=>by cases r;exact⟨rfl,rfl⟩
 |w::ws,xs,h,r=>by
  obtain⟨y,r',rfl,p,r⟩:=r;rw[w2j,w0o]at h;obtain⟨i1,i2⟩:=q56 hu q h.2 r;refine⟨by rw[w2j,q5h h.1 p,i1];rfl,?_⟩;show(eqV y x||inV x r')=(eqS w u||ws.any _);rw[y72 h.1 hu p q,i2]
theorem z40:Op2 K (rIn K false) inW:=by
 intro G H x y wx wy w Q s px py hf h;cases wy with
 |tup ws=>
  simp only[inW]at hf;split at hf
  ·rename_i hc;cases hf;obtain⟨a,xs,rfl,ha,ra⟩:=py;obtain⟨i1,i2⟩:=q56 hc.1 px hc.2 ra;refine⟨a,xs,rfl,.inr (s.tup ha),q5h hc.1 px,i1,?_⟩;rw[i2];exact h G _ H (.refl s) rfl
  ·cases hf
 |lst ws=>
  simp only[inW]at hf;split at hf
  ·rename_i hc;cases hf;obtain⟨a,xs,rfl,ha,ra⟩:=py;obtain⟨i1,i2⟩:=q56 hc.1 px hc.2 ra;refine⟨a,xs,rfl,.inl (s.seq ha),q5h hc.1 px,i1,?_⟩;rw[i2];exact h G _ H (.refl s) rfl
  ·cases hf
 |_=>simp[inW]at hf
theorem y0p:Op2 K (rIn K true) ninW:=by
 intro G H x y wx wy w Q s px py hf h;cases wy with
 |tup ws=>
  simp only[ninW]at hf;split at hf
  ·rename_i hc;cases hf;obtain⟨a,xs,rfl,ha,ra⟩:=py;obtain⟨i1,i2⟩:=q56 hc.1 px hc.2 ra;refine⟨a,xs,rfl,.inr (s.tup ha),q5h hc.1 px,i1,?_⟩;rw[i2];exact h G _ H (.refl s) rfl
  ·cases hf
 |lst ws=>
  simp only[ninW]at hf;split at hf
  ·rename_i hc;cases hf;obtain⟨a,xs,rfl,ha,ra⟩:=py;obtain⟨i1,i2⟩:=q56 hc.1 px hc.2 ra;refine⟨a,xs,rfl,.inl (s.seq ha),q5h hc.1 px,i1,?_⟩;rw[i2];exact h G _ H (.refl s) rfl
  ·cases hf
 |_=>simp[ninW]at hf
theorem y0q:Op1 K (fun x H1 Q=>∃p ys,x=.ref p/\SqL K H1 p ys/\∀l,H1 l=none->Q (.ref l) (upd H1 l (.tup ys.reverse))) tuprevW:=by
 intro G H x wx w Q s px hf h;unfold tuprevW at hf;split at hf
 ·cases hf;obtain⟨a,xs,rfl,ha,ra⟩:=px;refine⟨a,xs,rfl,s.seq ha,fun l hl=>?_⟩
  have g:=Grow.laid s hl (.tup xs.reverse);exact h _ _ _ g ⟨l,_,rfl,SqT.of q0h,Reps.mono g.gg _ ra.reverse⟩
 ·cases hf
theorem q7i:∀{ws:List W}{bs:List Bool},boolsW ws=some bs->ws=bs.map .bl
 |[],bs,h=>by cases h;rfl
 |.bl b::ws,bs,h=>by
  obtain⟨cs,h1,rfl⟩:=w0l.mp (show(boolsW ws).map (b::·)=some bs from h);rw[q7i h1];rfl
 |.non::ws,bs,h=>by cases h
 |.int _::ws,bs,h=>by cases h
 |.str _::ws,bs,h=>by cases h
 |.tup _::ws,bs,h=>by cases h
 |.lst _::ws,bs,h=>by cases h
 |.exc _::ws,bs,h=>by cases h
theorem q8m:∀(bs:List Bool),boolsW (bs.map .bl)=some bs
 |[]=>rfl
 |b::bs=>by
  show(boolsW (bs.map W.bl)).map (b::·)=_;rw[q8m bs];rfl
theorem q7j:∀{bs:List Bool}{xs:List V},Reps K G (bs.map W.bl) xs->xs=bs.map V.bl
 |[],xs,h=>h
 |b::bs,xs,h=>by
  obtain⟨x,r,rfl,h1,h2⟩:=h;rw[q7j h2,show x=V.bl b from h1];rfl
theorem z2g:OpN K (fun xs H Q=>∃p ys,xs=[.ref p]/\SqL K H p ys/\(∀y∈ys,∃b,y=.bl b)/\Q (.bl (ys.all fun y=>decide (y=.bl true))) H) all1:=by
 intro G H xs ws w Q s pr hf h;unfold all1 at hf;split at hf
 ·obtain⟨bs,hb,rfl⟩:=w0l.mp hf;have:=q7i hb;subst this;obtain⟨x,r,rfl,px,pr⟩:=pr;cases(show r=[]from pr);obtain⟨a,ys,rfl,ha,ra⟩:=px;have:=q7j ra;subst this;refine⟨a,_,rfl,s.seq ha,fun y hy=>?_,h G _ H (.refl s) ?_⟩
  ·obtain⟨b,_,rfl⟩:=w1f.mp hy;exact⟨b,rfl⟩
  ·show V.bl _=V.bl _;congr 1;rw[w5h];congr 1;funext b
   cases b<;>rfl
 ·cases hf
theorem z2h:OpN K (fun xs H Q=>(∃i,xs=[.int i]/\Q (.int i) H)\/∃k,xs=[.bl k]/\Q (.int (if k then 1 else 0)) H) int1:=by
 intro G H xs ws w Q s pr hf h;unfold int1 at hf;split at hf
 ·cases hf;obtain⟨x,r,rfl,px,pr⟩:=pr;cases(show r=[]from pr);cases px;exact .inl ⟨_,rfl,h G _ H (.refl s) rfl⟩
 ·cases hf;obtain⟨x,r,rfl,px,pr⟩:=pr;cases(show r=[]from pr);cases px;exact .inr ⟨_,rfl,h G _ H (.refl s) rfl⟩
 ·cases hf
section
variable{a b c e:Expr}{p pos1 pos2:Pos}
theorem z41(hu:X.A.units+150<cLine)(ha:DE Z X EE a da)(hb:DE Z X EE b db)(hm:behindInMarks .In b=false:=by with_unfolding_all rfl):DT Z X EE (.Compare a [.In] [b] pos) (dTest (dOp inW da db)):=q4w x9v z40 ha hb hm
theorem y0r(hu:X.A.units+150<cLine)(ha:DE Z X EE a da)(hb:DE Z X EE b db)(hm:behindInMarks .NotIn b=false:=by with_unfolding_all rfl):DE Z X EE (.Compare a [.NotIn] [b] pos) (dOp ninW da db):=x0v q8d y0p ha hb hm
theorem y0s(hu:X.A.units+150<cLine)(ha:DE Z X EE a da)(hb:DE Z X EE b db)(hm:behindInMarks .NotIn b=false:=by with_unfolding_all rfl):DT Z X EE (.Compare a [.NotIn] [b] pos) (dTest (dOp ninW da db)):=q4w q8d y0p ha hb hm
theorem y0t(hc:X.calm=true)(hm1:X.mg "tuple"=none)(hm2:X.mg "reversed"=none)(he:DE Z X EE e da)(hg1:Gl X "tuple":=by rfl)(hg2:Gl X "reversed":=by rfl)
  (hs1:starEach [.Call (.Name "reversed" p2) [e] [] pos2] X.env=(false,eval (.Call (.Name "reversed" p2) [e] [] pos2) X.env)::starEach [] X.env:=by rfl)(hs2:starEach [e] X.env=(false,eval e X.env)::starEach [] X.env:=by rfl):
  DE Z X EE (.Call (.Name "tuple" p1) [.Call (.Name "reversed" p2) [e] [] pos2] [] pos1) (dUn tuprevW da):=PE.mono (x9y hc hm1 hm2 he hg1 hg2 hs1 hs2) (y6t y0q)
theorem y0u(hc:X.calm=true)(hm:X.mg "all"=none)(ha:DA Z X EE [e] dA)(hg:Gl X "all":=by rfl)(he:starEach [e] X.env=(false,eval e X.env)::starEach [] X.env:=by rfl)(hpl:(backTo pos (starEach [] X.env)).any (·.1)=false:=by rfl):DE Z X EE (.Call (.Name "all" p) [e] [] pos) (dFn all1 dA):=
 x0w (y26 hc) z2g PyProof.Rows.Boot.«all» hm ha hg (by decide) (by decide) he hpl
theorem y73(hm:X.mg "int"=none)(ha:DA Z X EE [e] dA)(hg:Gl X "int":=by rfl)(he:starEach [e] X.env=(false,eval e X.env)::starEach [] X.env:=by rfl)(hpl:(backTo pos (starEach [] X.env)).any (·.1)=false:=by rfl):DE Z X EE (.Call (.Name "int" p) [e] [] pos) (dFn int1 dA):=
 x96 x9s z2h PyProof.Rows.Boot.«int» hm ha hg (by decide) (by decide) he hpl
end
theorem y3v:tuprevW (.lst ws)=some (.tup ws.reverse):=rfl
theorem y55{bs:List Bool}:all1 [.lst (bs.map .bl)]=some (.bl (bs.all id)):=by
 show(boolsW (bs.map W.bl)).map _=_;rw[q8m];rfl
theorem z42{i:Int}:int1 [.int i]=some (.int i):=rfl
theorem z43{b:Bool}:int1 [.bl b]=some (.int (if b then 1 else 0)):=rfl
theorem cast0:((0:Nat):Int)=0:=rfl
theorem cast1:((1:Nat):Int)=1:=rfl
theorem y0v{b:List S->SR}(I:Nat->List S->Prop):∀(ws:List W)(k:Nat)(e:List S),I k e->(∀(j:Nat)(w:W)(e:List S),ws[j]?=some w->I (k+j) e->∃e',b (e.set i (.fr w))=.nx e'/\I (k+j+1) e')->∃e',forD i b ws e=.nx e'/\I (k+ws.length) e'
 |[],k,e,h0,_=>⟨e,rfl,h0⟩
 |w::ws,k,e,h0,h=>by
  obtain⟨e1,h1,h2⟩:=h 0 w e rfl h0
  obtain⟨e2,h3,h4⟩:=y0v I ws (k+1) e1 h2 fun j u e hu hI=>by
   have z:=h (j+1) u e (by simpa using hu) (by rw[show k+(j+1)=k+1+j by omega];exact hI);rw[show k+(j+1)+1=k+1+j+1 by omega]at z;exact z
  refine⟨e2,?_,?_⟩
  ·rw[q25,h1,q3v,h3]
  ·rw[w0q,show k+(ws.length+1)=k+1+ws.length by omega];exact h4
theorem q20{hi:Int}:(rangeW lo hi).length=(hi-lo).toNat:=by simp[rangeW]
theorem y0w{hi:Int}{j:Nat}(h:(rangeW lo hi)[j]?=some w):w=.int (lo+j)/\j<(hi-lo).toNat:=by
 unfold rangeW at h;rw[w0v]at h;obtain⟨k,h1,rfl⟩:=w0l.mp h;obtain⟨h2,h3⟩:=w0c.mp h1;simp at h2 h3;subst h3;exact⟨rfl,by omega⟩
theorem q4y{b:List S->SR}{hi:Int}(n:Nat)(hn:(hi-lo).toNat=n)(I:Nat->List S->Prop)(e:List S)(h0:I 0 e)(h:∀(j:Nat)(e:List S),j<n->I j e->∃e',b (e.set i (.fr (.int (lo+j))))=.nx e'/\I (j+1) e'):∃e',forD i b (rangeW lo hi) e=.nx e'/\I n e':=by
 obtain⟨e',h1,h2⟩:=y0v (b:=b) (i:=i) I (rangeW lo hi) 0 e h0 fun j w e hw hI=>by
  obtain⟨rfl,hj⟩:=y0w hw;rw[w2x]at hI |-
  exact h j e (by omega) hI
 rw[q20,hn,w2x]at h2;exact⟨e',h1,h2⟩
def dLend(F:List W->FR)(i:Nat)(dA:Den (List W)):Den W:=fun e=>match e[i]? with
 |some (.own _ _)=>(dA e).bind fun us e1=>match e1[i]? with
  |some (.own _ ws)=>match F (.lst ws::us)with
   |.ok (.fr w)=>if scalW w=true then .ok w e1 else .no
   |_=>.no
  |_=>.no
 |_=>.no
mutual
def conIn(K:Fg):W->Value->Bool
 |.non,u=>match u with|.none=>true|_=>false
 |.bl b,u=>match u with|.bool c=>b==c|_=>false
 |.int i,u=>match u with|.int j _=>decide (i=j)|_=>false
 |.str x,u=>match u with|.str y _=>decide (x=y)|_=>false
 |.tup ws,u=>match u with
  |.ref a=>match K.lookup a with
   |some o=>(o.cls==.type "tuple"&&o.dict.isNone)&&(match o.data with|.seq its _=>Nat.ble its.size 1000000&&consIn K ws its.toList|_=>false)
   |none=>false
  |_=>false
 |.lst _,_=>false
 |.exc _,_=>false
 |.dic _,_=>false
 |.dw _ _ _ _,_=>false
 |.fn _ _ _,_=>false
def consIn(K:Fg):List W->List Value->Bool
 |[],us=>us.isEmpty
 |w::ws,us=>match us with
  |u::us=>conIn K w u&&consIn K ws us
  |[]=>false
end
mutual
theorem x7p{K:Fg}:∀(w:W){u:Value},conIn K w u=true->∃v,RelV v u/\∀G,Rep K G w v
 |.non,u,h=>by
  unfold conIn at h;split at h
  ·exact⟨.non,rfl,fun _=>rfl⟩
  ·cases h
 |.bl b,u,h=>by
  unfold conIn at h;split at h
  ·rename_i c;have:b=c:=by simpa using h
   exact⟨.bl b,by rw[this];rfl,fun _=>rfl⟩
  ·cases h
 |.int i,u,h=>by
  unfold conIn at h;split at h
  ·rename_i j t;have:i=j:=by simpa using h
   exact⟨.int i,⟨t,by rw[this]⟩,fun _=>rfl⟩
  ·cases h
 |.str x,u,h=>by
  unfold conIn at h;split at h
  ·rename_i y t;have:x=y:=by simpa using h
   exact⟨.str x,⟨t,by rw[this]⟩,fun _=>rfl⟩
  ·cases h
 |.tup ws,u,h=>by
  unfold conIn at h;split at h
  ·rename_i a;split at h
   ·rename_i o ho;rw[w0o]at h;obtain⟨h1,h2⟩:=h;split at h2
    ·rename_i its n hd;rw[w0o]at h2;obtain⟨h3,h4⟩:=h2;obtain⟨xs,r,q⟩:=x40 ws h4;exact⟨.ref a,rfl,fun G=>⟨a,xs,rfl,.inr ⟨o,its,n,ho,by simpa using ((w0o _ _).mp h1).1,Option.isNone_iff_eq_none.mp ((w0o _ _).mp h1).2,hd,by rw[sizeLine_eq];have:=w3h h3;omega,r⟩,q G⟩⟩
    ·cases h2
   ·cases h
  ·cases h
 |.lst _,u,h=>by unfold conIn at h;cases h
 |.exc _,u,h=>by unfold conIn at h;cases h
 |.dic _,u,h=>by unfold conIn at h;cases h
 |.dw _ _ _ _,u,h=>by unfold conIn at h;cases h
 |.fn _ _ _,u,h=>by unfold conIn at h;cases h
theorem x40{K:Fg}:∀(ws:List W){us:List Value},consIn K ws us=true->∃xs,Vals xs us/\∀G,Reps K G ws xs
 |[],us,h=>by
  unfold consIn at h;cases us with
  |nil=>exact⟨[],.nil,fun _=>rfl⟩
  |cons _ _=>cases h
 |w::ws,us,h=>by
  unfold consIn at h;cases us with
  |nil=>cases h
  |cons u us=>
   rw[w0o]at h;obtain⟨v,r,q⟩:=x7p w h.1;obtain⟨xs,r',q'⟩:=x40 ws h.2;exact⟨v::xs,.cons r r',fun G=>⟨v,xs,rfl,q G,q' G⟩⟩
end
theorem y0x(hm:X.mg x=some u)(hc:conIn X.K w u=true)(hg:Gl X x:=by rfl)(hd:(x==("__debug__":Str))=false:=by decide):DE Z X EE (.Name x pos) (dC w):=by
 obtain⟨v,r,q⟩:=x7p w hc;exact PE.mono (x1z hg hm r hd) fun σ H Q ⟨G,e,rel,h⟩=>h G v H rel (.refl _) (q G)
theorem x05(l : Addr)(items : Array Value)(n : Nat)(b : Addr)(items2 : Array Value)(n2 : Nat)(T : String)(hT : T = "list" \/ T = "tuple")(hs0 : ¬(!items.isEmpty && Builtin.List.listTooLong (items.size + items2.size)) = true)(hs1 : items.size <= sizeLine)(hs2 : items.size + items2.size <= sizeLine + 1) :
  Meets (Builtin.«list.extend» { pos := [Value.ref l, Value.ref b] }) fun _ R s =>
     s.heap.get? l = some { cls := Value.type "list", data := Data.seq items n } /\
      (∃ o, s.heap.get? b = some o /\ o.cls = .type T /\ o.data = Data.seq items2 n2) /\
       R (Except.ok (Flow.ret Value.none)) { s with heap := s.heap.update l (Obj.mapSeq fun x => x ++ items2) } := by
 refine Meets.of_wp fun prog w A R s h => ?_
 obtain ⟨hl, ⟨o, hb, hc, hd⟩, h⟩ := h;obtain ⟨cls, dict, data, slots⟩ := o;simp only at hc hd;subst hc hd;refine wpAny_bind (wpAny_bind (wpAny_ite_true rfl (wpAny_pure (wpAny_pure ?_))));refine wpAny_bind (wpAny_bind (AutoSeq1.wpAny_loadPart' hb (wpAny_pure (wpAny_ite_true ?_ ?_))))
 ·rcases hT with rfl | rfl <;> simp
 refine wpAny_bind (wpAny_bind (wpAny_bind (wpAny_load' hb (wpAny_pure (wpAny_pure ?_)))));refine wpAny_bind (wpAny_bind (wpAny_bind (wpAny_load' hl (wpAny_pure (wpAny_pure ?_)))));refine wpAny_ite_false (by simpa using hs0) ?_;exact wpAny_bind (wpAny_updateSeq hl rfl (wpAny_pure ⟨_, rfl, h⟩) hs1 (by rw [Array.size_append]; exact hs2))
def rExt(K:Fg):V->List V->Hp->VK->Prop:=fun x vs H Q=>∃l b xs zs,x=.ref l/\vs=[.ref b]/\H l=some (.lst xs)/\(SqL K H b zs\/SqT K H b zs)/\xs.length+zs.length<=sizeLine/\Q .non (upd H l (.lst (xs++zs)))
theorem z2i:MtM X "list.extend" (rExt X.K):=by
 intro pins s σ H x vs v us Q I rx rv h;obtain⟨l,b,xs,zs,rfl,rfl,hH,hB,hz,q⟩:=h;cases rx;obtain⟨u,rfl,ru⟩:=rv.one;cases ru;obtain⟨z,its,n,r,hl,e⟩:=I.lstM hH
 have fin:∀(T:String)(its2:List Value)(n2:Nat)(o:Obj),T="list"\/T="tuple"->Vals zs its2->s.heap.get? b=some o->o.cls=.type T->o.data=.seq its2.toArray n2->wpAny (model X.prog X.w) X.A (call (.builtin "list.extend") [.ref l,.ref b]) (EP X pins σ Q) X.xe s:=fun T its2 n2 o hT r2 e2 hc hd=>by
  have hl2:=r2.length;have hsz:its.toArray.size+its2.toArray.size<=sizeLine:=by rw[w0d,w0d];omega
  have hlong:¬(!its.toArray.isEmpty&&Builtin.List.listTooLong (its.toArray.size+its2.toArray.size))=true:=by
   rw[notLongL hsz,w4p];exact w1e
  refine call_meets F.slot_list_extend ⟨_,e,rfl⟩ F.entry_list_extend (F.args_list_extend_2 _ _)
   (x05 l its.toArray n b its2.toArray n2 T hT hlong (by rw[w0d];omega) (by omega)) ⟨e,⟨o,e2,hc,hd⟩,?_⟩
  refine⟨.non,_,I.lset (its':=its++its2) hH e (by simp) (r.append r2) ?_,rfl,q⟩;rw[w0p];omega
 rcases hB with hB|hB
 ·obtain⟨its2,r2,pl,_⟩:=I.list hB;obtain⟨o,e2,hc,n2,hd⟩:=pl.isList;exact fin "list" its2 n2 o (.inl rfl) r2 e2 hc hd
 ·obtain⟨its2,r2,⟨o,e2,hc,n2,hd⟩,_⟩:=I.tuple hB;exact fin "tuple" its2 n2 o (.inr rfl) r2 e2 hc hd
def dExt(i:Nat)(d:Den (List W)):List S->SR:=fun e=>match e[i]? with
 |some (.own _ _)=>(d e).stm fun ws e1=>match ws,e1[i]? with
  |[w],some (.own b xs)=>match seqW w with
   |some ys=>if xs.length+ys.length<=16777216 then .nx (e1.set i (.own b (xs++ys)))else .no
   |none=>.no
  |_,_=>.no
 |_=>.no
section
variable{e:Expr}{p:Pos}
theorem z2j(i:Nat)(ha:DA Z X EE (e::es) dA)(hN:X.N[i]?=some x:=by rfl)(hv:Vis X.env.scope x:=by walk_at "1")(hd:(x==("__debug__":Str))=false:=by decide)(hcd:(x==("__classdict__":Str))=false:=by decide)
  (hbase:attributeBase (.Name x p) "extend" X.env (eval (.Name x p) X.env)=eval (.Name x p) X.env:=by rfl)
  (hfew:((backTo cpos (starEach (e::es) X.env)).all (fun x=>!x.1)&&(backToKw cpos (keywordEach [] X.env)).all (fun x=>x.1.isSome)&&decide ((e::es).length+([]:List Keyword).length+(if([]:List Keyword).isEmpty then 0 else 1)<30))=true:=by rfl)
  (hline:(apos.endLine==cpos.line)=true:=by rfl)(hs:starEach (e::es) X.env=(false,eval e X.env)::starEach es X.env:=by rfl)(hplain:(backTo cpos (starEach es X.env)).any (·.1)=false:=by rfl)
  (hsw:swapsWith (.Call (.Attribute (.Name x p) "extend" apos) (e::es) [] cpos) none pos.line X.env=pure false:=by rfl):
  DS Z X EE (.Expr (.Call (.Attribute (.Name x p) "extend" apos) (e::es) [] cpos) pos) (dExt i dA):=by
 refine PS.mono (q61 (x8n PySem.F.plainAttrs_list PySem.F.slot_list_extend PySem.F.type_list_extend z2i (pv i hN hv hd hcd) ha hbase hfew hline hs hplain) hsw) ?_;rintro D σ H ⟨G,e,rel,h⟩;unfold dExt at h;split at h
 ·rename_i b0 ws0 he0;obtain⟨a,xs,h1,h2,h3,h4,h5⟩:=rel.own he0;refine⟨.ref a,h1,.inl ⟨rfl,xs,SqL.of h2⟩,G,e,rel,(q12 h).imp (fun ws e1 h G1 vs H1 r1 s1 p1=>?_) fun _ _ h=>h⟩
  split at h
  ·rename_i w b ys he1;obtain⟨a',zs,g1,g2,g3,g4,g5⟩:=r1.own he1;rw[h1]at g1;cases g1;obtain⟨y,r,rfl,py,pr⟩:=p1;cases(show r=[]from pr);split at h
   ·rename_i us hu;split at h
    ·rename_i hl
     have step:∀c cs,y=.ref c->(SqL X.K G1 c cs\/SqT X.K G1 c cs)->Reps X.K G1 us cs->rExt X.K (.ref a) [y] H1 (fun v H'=>D.nx σ H'):=fun c cs hy hq hr=>by
      subst hy;refine⟨a,c,zs,cs,rfl,rfl,g2,?_,by rw[g5.length,hr.length,sizeLine_eq];exact hl,?_⟩
      ·rcases hq with q|q
       ·exact .inl (r1.sub.seq q)
       ·exact .inr (r1.sub.tup q)
      ·exact h G1 σ _ (r1.mut he1 h1 (g5.append hr)) s1
     unfold seqW at hu;split at hu
     ·cases hu;obtain⟨c,cs,hy,q,hr⟩:=py;exact step c cs hy (.inr q) hr
     ·cases hu;obtain⟨c,cs,hy,q,hr⟩:=py;exact step c cs hy (.inl q) hr
     ·cases hu
    ·exact h.elim
   ·exact h.elim
  ·exact h.elim
 ·exact h.elim
end
def ltS:W->W->Option W
 |.str i,.str j=>some (.bl (decide (i.cps.toList<j.cps.toList)))
 |_,_=>none
def OpM(K:Fg)(r:V->List V->Hp->VK->Prop)(f:W->List W->Option W):Prop:=∀(G H:Hp)(x:V)(xs:List V)(wx:W)(ws:List W)(w:W)(Q:VK),Same G H->Rep K G wx x->Reps K G ws xs->f wx ws=some w->(∀G' v H',Grow G H G' H'->Rep K G' w v->Q v H')->r x xs H Q
def kindW(T:String):W->Bool
 |.str _=>T=="str"
 |.lst _=>T=="list"
 |_=>false
def dMeth(T:String)(f:W->List W->Option W)(d:Den W)(dA:Den (List W)):Den W:=fun e=>(d e).bind fun x e1=>if kindW T x=true then(dA e1).bind fun ws e2=>ofOpt (f x ws) e2 else .no
section
variable{o e:Expr}{p:Pos}
theorem y74{id:String}{name:Str}{r:V->List V->Hp->VK->Prop}{f:W->List W->Option W}(pa:PlainAttrs T)(slot:Slot T name id)(hty:typeOf (.builtin id)=pure (.type "method_descriptor"))(hm:MtR X id r)(hf:OpM X.K r f)(ho:DE Z X EE o d)(ha:DA Z X EE (e::es) dA)
  (hbase:attributeBase o name X.env (eval o X.env)=eval o X.env:=by rfl)
  (hfew:((backTo cpos (starEach (e::es) X.env)).all (fun x=>!x.1)&&(backToKw cpos (keywordEach [] X.env)).all (fun x=>x.1.isSome)&&decide ((e::es).length+([]:List Keyword).length+(if([]:List Keyword).isEmpty then 0 else 1)<30))=true:=by rfl)
  (hline:(apos.endLine==cpos.line)=true:=by rfl)(hs:starEach (e::es) X.env=(false,eval e X.env)::starEach es X.env:=by rfl)(hplain:(backTo cpos (starEach es X.env)).any (·.1)=false:=by rfl):
  DE Z X EE (.Call (.Attribute o name apos) (e::es) [] cpos) (dMeth T f d dA):=by
 refine PE.mono (x8n pa slot hty hm ho ha hbase hfew hline hs hplain) ?_;rintro σ H Q ⟨G,e,rel,h⟩;simp only[dMeth,R.holds_bind]at h;refine⟨G,e,rel,h.imp (fun wx e1 h G1 v1 H1 r1 s1 p1=>?_) fun _ _ h=>h⟩
 split at h
 ·rename_i hk;refine⟨?_,G1,e1,r1,(R.holds_bind.mp h).imp (fun ws e2 h G2 vs H2 r2 s2 p2=>?_) fun _ _ h=>XH.trans s1 h⟩
  ·cases wx with
   |str z=>cases p1;exact(by simpa [kindW]using hk:T="str")
   |lst ws=>
    obtain⟨a,xs,rfl,q,_⟩:=p1;exact .inl ⟨by simpa [kindW]using hk,xs,r1.sub.seq q⟩
   |_=>cases hk
  ·obtain⟨w,hw,h⟩:=ofOpt_holds.mp h;exact hf G2 H2 v1 vs wx ws w Q r2.sub (Rep.mono s2 wx p1) p2 hw fun G' v H' g p=>h G' v H' (r2.grow g) ((s1.trans s2).trans g.gg) p
 ·exact h.elim
end
def strsW:List W->Option (List Str)
 |[]=>some []
 |.str x::r=>(strsW r).map (x::·)
 |_=>none
def joinOk(sep:Str)(ys:List Str):Bool:=Nat.ble ((ys.map fun x=>x.length).sum+ys.length*sep.length) 16777216
def joinW:W->List W->Option W
 |.str sep,[w]=>match seqW w with
  |some ws=>match strsW ws with
   |some ys=>if joinOk sep ys=true then some (.str (Txt.join sep ys))else none
   |none=>none
  |none=>none
 |_,_=>none
def rJoin(K:Fg):V->List V->Hp->VK->Prop:=fun x vs H Q=>∃sep b zs ys,x=.str sep/\vs=[.ref b]/\(SqL K H b zs\/SqT K H b zs)/\zs=ys.map V.str/\joinOk sep ys=true/\Q (.str (Txt.join sep ys)) H
theorem x0c:∀{ys:List Str}{its:List Value},Vals (ys.map V.str) its->PyProof.Rows.StrsAre its ys
 |[],its,h=>by cases h;exact .nil
 |y::ys,its,h=>by
  cases h with
  |cons r t=>
   obtain⟨k,rfl⟩:=r;exact .cons y k (x0c t)
theorem y75:MtR X "str.join" (rJoin X.K):=by
 intro pins s σ H x vs v us Q I rx rv h;obtain⟨sep,b,zs,ys,rfl,rfl,hB,rfl,hz,q⟩:=h;obtain⟨t,rfl⟩:=rx;obtain⟨u,rfl,ru⟩:=rv.one;cases ru;have hz':=w3h hz;have fin:∀(t':Tok)(k:Nat),EP X pins σ Q (Value.str (Txt.join sep ys) t') {s with toks:=k}:=fun t' k=>⟨.str _,H,I.tok k,⟨t',rfl⟩,q⟩
 rcases hB with hB|hB
 ·obtain⟨its,r,pl,_⟩:=I.list hB;exact PyProof.Rows.join_list pl.isList (by simpa using x0c r) hz' fin
 ·obtain⟨its,r,pl,_⟩:=I.tuple hB;exact PyProof.Rows.join_tuple pl (by simpa using x0c r) hz' fin
theorem x41:∀{ws:List W}{ys:List Str}{xs:List V},strsW ws=some ys->Reps K G ws xs->xs=ys.map V.str
 |[],ys,xs,h,r=>by cases h;exact r
 |.str x::ws,ys,xs,h,r=>by
  unfold strsW at h;obtain⟨zs,h1,rfl⟩:=w0l.mp h;obtain⟨v,t,rfl,p,q⟩:=r;cases p;rw[x41 h1 q];rfl
 |.non::ws,_,_,h,_=>by cases h
 |.bl _::ws,_,_,h,_=>by cases h
 |.int _::ws,_,_,h,_=>by cases h
 |.tup _::ws,_,_,h,_=>by cases h
 |.lst _::ws,_,_,h,_=>by cases h
 |.exc _::ws,_,_,h,_=>by cases h
theorem y76:OpM K (rJoin K) joinW:=by
 intro G H x xs wx ws w Q s px pr hf h;unfold joinW at hf;split at hf
 ·rename_i sep w0;obtain⟨y,r,rfl,py,pr⟩:=pr;cases(show r=[]from pr);cases px;split at hf
  ·rename_i us hu;split at hf
   ·rename_i ys hy;split at hf
    ·rename_i ho;cases hf
     have step:∀c cs,y=.ref c->(SqL K G c cs\/SqT K G c cs)->Reps K G us cs->rJoin K (.str sep) [y] H Q:=fun c cs hc hq hr=>by
      subst hc;refine⟨sep,c,cs,ys,rfl,rfl,?_,x41 hy hr,ho,h G _ H (.refl s) rfl⟩;rcases hq with q|q
      ·exact .inl (s.seq q)
      ·exact .inr (s.tup q)
     unfold seqW at hu;split at hu
     ·cases hu;obtain⟨c,cs,hc,q,hr⟩:=py;exact step c cs hc (.inr q) hr
     ·cases hu;obtain⟨c,cs,hc,q,hr⟩:=py;exact step c cs hc (.inl q) hr
     ·cases hu
    ·cases hf
   ·cases hf
  ·cases hf
 ·cases hf
section
variable{o e:Expr}
theorem y77(ho:DE Z X EE o d)(ha:DA Z X EE [e] dA)
  (hbase:attributeBase o "join" X.env (eval o X.env)=eval o X.env:=by rfl)
  (hfew:((backTo cpos (starEach [e] X.env)).all (fun x=>!x.1)&&(backToKw cpos (keywordEach [] X.env)).all (fun x=>x.1.isSome)&&decide ([e].length+([]:List Keyword).length+(if([]:List Keyword).isEmpty then 0 else 1)<30))=true:=by rfl)
  (hline:(apos.endLine==cpos.line)=true:=by rfl)(hs:starEach [e] X.env=(false,eval e X.env)::starEach [] X.env:=by rfl)(hplain:(backTo cpos (starEach [] X.env)).any (·.1)=false:=by rfl):
  DE Z X EE (.Call (.Attribute o "join" apos) [e] [] cpos) (dMeth "str" joinW d dA):=
 y74 PySem.F.plainAttrs_str PySem.F.slot_str_join PySem.F.type_str_join y75 y76 ho ha hbase hfew hline hs hplain
end
def SR.turnT(r:SR)(k:List S->SR):SR:=match r with
 |.nx e'=>k e'
 |.ct e'=>k e'
 |.bk e'=>.nx e'
 |.rt s e'=>.rt s e'
 |.ex c e'=>.ex c e'
 |.no=>.no
structure TabK(P:Program)(w:World)(K:Fg)(d:Addr)(tb:List (Str×Int)):Prop where
 tab:∀h,K.In h->PyProof.Rows.StrTab P w h d (PySem.W.kdpD tb)
 obj:∃o,K.lookup d=some o/\o.cls=.type "dict" /\ o.dict=none
def putC(i:Nat)(e:List S)(b:Option Nat)(ws:List W)(w:W):Option Nat->SR
 |some j=>.nx (e.set i (.own b (ws.set j w)))
 |none=>.no
def putB(i:Nat)(e:List S)(w:W):W->Option S->SR
 |.int k,some (.own b ws)=>putC i e b ws w (ixN ws.length k)
 |_,_=>.no
def putA(i:Nat)(dk:Den W)(w:W)(e:List S):Option S->SR
 |some (.own _ _)=>(dk e).stm fun k e2=>putB i e2 w k e2[i]?
 |_=>.no
theorem y3w:putA i dk w e (some (.own b ws))=(dk e).stm fun k e2=>putB i e2 w k e2[i]?:=rfl
theorem y3x{k:Int}:putB i e w (.int k) (some (.own b ws))=putC i e b ws w (ixN ws.length k):=rfl
theorem y0y{j:Nat}:putC i e b ws w (some j)=.nx (e.set i (.own b (ws.set j w))):=rfl
def lendC(e:List S):FR->R W
 |.ok (.fr w)=>if scalW w=true then .ok w e else .no
 |_=>.no
def lendB(F:List W->FR)(us:List W)(e:List S):Option S->R W
 |some (.own _ ws)=>lendC e (F (.lst ws::us))
 |_=>.no
def lendA(F:List W->FR)(i:Nat)(dA:Den (List W))(e:List S):Option S->R W
 |some (.own _ _)=>(dA e).bind fun us e1=>lendB F us e1 e1[i]?
 |_=>.no
theorem y78{F:List W->FR}:dLend F i dA e=lendA F i dA e e[i]?:=by
 unfold dLend lendA;cases e[i]? with
 |none=>rfl
 |some s=>cases s with
  |own b ws=>
   dsimp only;congr 1
  |_=>rfl
theorem y0z{F:List W->FR}:lendA F i dA e (some (.own b ws))=(dA e).bind fun us e1=>lendB F us e1 e1[i]?:=rfl
theorem y00{F:List W->FR}:lendB F us e (some (.own b ws))=lendC e (F (.lst ws::us)):=rfl
theorem y3y:lendC e (.ok (.fr w))=if scalW w=true then .ok w e else .no:=rfl
def extB(i:Nat)(e:List S)(b:Option Nat)(xs:List W):Option (List W)->SR
 |some ys=>if xs.length+ys.length<=16777216 then .nx (e.set i (.own b (xs++ys)))else .no
 |none=>.no
def extA(i:Nat)(e:List S):List W->Option S->SR
 |[w],some (.own b xs)=>extB i e b xs (seqW w)
 |_,_=>.no
def ext0(i:Nat)(d:Den (List W))(e:List S):Option S->SR
 |some (.own _ _)=>(d e).stm fun ws e1=>extA i e1 ws e1[i]?
 |_=>.no
theorem z2k{d:Den (List W)}:dExt i d e=ext0 i d e e[i]?:=by
 unfold dExt ext0;cases e[i]? with
 |none=>rfl
 |some s=>cases s with
  |own b ws=>
   dsimp only;congr 1
  |_=>rfl
theorem y3z{d:Den (List W)}{xs:List W}:ext0 i d e (some (.own b xs))=(d e).stm fun ws e1=>extA i e1 ws e1[i]?:=rfl
theorem y30{xs:List W}:extA i e [w] (some (.own b xs))=extB i e b xs (seqW w):=rfl
theorem y01{xs ys:List W}:extB i e b xs (some ys)=if xs.length+ys.length<=16777216 then .nx (e.set i (.own b (xs++ys)))else .no:=rfl
theorem y79{f:W->List W->Option W}:dMeth T f d dA e=(d e).bind fun x e1=>if kindW T x=true then(dA e1).bind fun ws e2=>ofOpt (f x ws) e2 else .no:=rfl
theorem z2l{z:Str}:kindW "str" (.str z)=true:=rfl
theorem z2m:kindW "list" (.lst ws)=true:=rfl
theorem z2n{i j:Str}:ltS (.str i) (.str j)=some (.bl (decide (i.cps.toList<j.cps.toList))):=rfl
def forP(i j:Nat)(b:List S->SR):List (W×W)->List S->SR
 |[],e=>.nx e
 |p::ps,e=>(b ((e.set i (.fr p.1)).set j (.fr p.2))).turnT (forP i j b ps)
def dForP(i j:Nat)(d:Den (List (W×W)))(b:List S->SR):List S->SR:=fun e=>(d e).stm fun ps e1=>forP i j b ps e1
def compP(c:Den Bool)(d:Den W)(pe:List S):List (W×W)->Option (List W)
 |[]=>some []
 |p::ps=>match c (.fr p.1::.fr p.2::pe)with
  |.ok true e1=>match d e1 with
   |.ok y _=>(compP c d pe ps).map (y::·)
   |_=>none
  |.ok false _=>compP c d pe ps
  |_=>none
def compPK(js:List Nat)(c:Den Bool)(d:Den W)(ps:List (W×W))(e1:List S):R (List W):=
 if ps.length<=16777216 then(match compP c d (pjS js (frzs js e1)) ps with
  |some out=>.ok out (frzs js e1)
  |none=>.no)else .no
def dCompP(js:List Nat)(di:Den (List (W×W)))(c:Den Bool)(d:Den W):Den (List W):=fun e=>(di e).bind fun ps e1=>compPK js c d ps e1
structure Walk2(K:Fg)(G1:Hp)(J:It)(ps:List (W×W)):Prop where
 go:∀(i:Nat)(G H:Hp),Same G1 G->Same G H->i<ps.length->J.go i H
 yld:∀(i:Nat)(G H:Hp)(x:V)(H':Hp),Same G1 G->Same G H->J.yld i H x H'->∀u v,ps[i]?=some (u,v) ->
  Grow G H G H'/\∀(m n:Nat)(σ:St)(Q:St->Hp->Prop),(∀y z,Rep K G u y->Rep K G v z->Q ((σ.set m (some y)).set n (some z)) H')->gTup K 2 (gCons (gName m) (gCons (gName n) gNil)) x σ H' Q
 stop:∀(i:Nat)(G H:Hp),Same G1 G->Same G H->ps.length<=i->J.stop i H
def liftI(K:Fg)(Z:Zt)(EE:L2.St->XK)(d:Den (List (W×W))):TI:=fun σ H R=>AtG K Z σ H fun G e=>(d e).holds (fun ps e1=>∀G1 H1 J,Rel K Z G1 σ H1 e1->Same G G1->Walk2 K G1 J ps->R J H1) (XH K Z EE σ G)
def DI(Z:Zt)(X:Cx)(EE:L2.St->XK)(tg iter:Expr)(d:Den (List (W×W))):Prop:=PI X tg iter (liftI X.K Z EE d)
theorem PI.mono{tg iter:Expr}{wi wi':TI}(h:PI X tg iter wi)(m:∀σ H R,wi' σ H R->wi σ H R):PI X tg iter wi':=fun pins s σ H R I q=>h pins s σ H R I (m σ H R q)
theorem y02{j:Nat}{D:Ends}{Pv:St->Hp->Prop}{G':Hp}{p:W×W}{x y:V}(r:Rel K Z G' σ H e)(s:Same G1 G')(pu:Rep K G' p.1 x)(pv:Rep K G' p.2 y)
  (h:PostS K Z EE D G1 (forP i j s1 (p::ps) e))(hP:∀G'' σ'' H'' e'',Rel K Z G'' σ'' H'' e''->Same G1 G''->PostS K Z EE D G1 (forP i j s1 ps e'')->Pv σ'' H''):
  liftS K Z EE s1 {D with nx:=Pv,ct:=Pv,bk:=D.nx} ((σ.set i (some x)).set j (some y)) H:=by
 refine⟨G',_,(r.set pu).set pv,?_⟩;unfold forP at h;cases q:s1 ((e.set i (.fr p.1)).set j (.fr p.2))with
 |nx e'=>rw[q]at h;exact fun G'' σ'' H'' r'' s''=>hP G'' σ'' H'' e' r'' (s.trans s'') h
 |ct e'=>rw[q]at h;exact fun G'' σ'' H'' r'' s''=>hP G'' σ'' H'' e' r'' (s.trans s'') h
 |bk e'=>rw[q]at h;exact fun G'' σ'' H'' r'' s''=>h G'' σ'' H'' r'' (s.trans s'')
 |rt t e'=>rw[q]at h;exact fun G'' σ'' v H'' r'' s'' p=>h G'' σ'' v H'' r'' (s.trans s'') p
 |ex c e'=>rw[q]at h;exact fun G'' σ'' H'' r'' s''=>h G'' σ'' H'' r'' (s.trans s'')
 |no=>rw[q]at h;exact h
theorem x06{p:W×W}(h:ps[k]?=some p):ps.drop k=p::ps.drop (k+1):=by
 obtain⟨h1,h2⟩:=w0c.mp h;rw[w3u h1,h2]
theorem Rel.block2(r:Rel K Z G σ H e)(js:List Nat){u:W}{y x:V}(q:Rep K G u y)(p:Rep K G w x):Rel K ⟨H,G,[]⟩ G (some y::some x::pj js σ) H (.fr u::.fr w::pjS js e):=by
 have b:=r.block js p
 have hfr:∀(i:Nat)(s:S),(S.fr w::pjS js e)[i]?=some s->s=.no\/∃u,s=.fr u:=fun i s h=>by
  cases i with
  |zero=>cases h;exact .inr ⟨w,rfl⟩
  |succ k=>
   rw[w0e]at h;unfold pjS at h;rw[w0v]at h;obtain⟨j,h1,h2⟩:=w0l.mp h;unfold pj1 at h2;split at h2
   ·subst h2;exact .inr ⟨_,rfl⟩
   ·subst h2;exact .inl rfl
 refine⟨b.sub,fun i s h=>?_,?_,fun i j b1 b2 w1 w2 a h1 h2 _ _=>?_,b.ent,b.ion,b.gen⟩
 ·cases i with
  |zero=>cases h;exact⟨y,rfl,q⟩
  |succ i=>
   rw[w0e]at h;have z:=b.slot i s h;rcases hfr i s h with rfl|⟨u',rfl⟩
   ·trivial
   ·obtain⟨v,z1,z2⟩:=b.fr h;exact⟨v,by rw[w0e,z1];rfl,z2⟩
 ·have:=b.len;simp only[w0q]at this |-
  omega
 ·cases i with
  |zero=>cases h1
  |succ i=>
   rw[w0e]at h1;rcases hfr i _ h1 with z|⟨u',z⟩<;>cases z
theorem y31{J:It}{out:List W}{Q:VK}{G0 H1:Hp}{e1:List S}(W0:Walk2 K G1 J ps)(r1:Rel K Z G1 σ H1 e1)(s1:Same G0 G1)(hl:ps.length<=16777216)
  (hz:∀p,H1 p=none->p∉Z.io)(hc:compP c d (pjS js e1) ps=some out)
  (h:∀G' a xs H',Rel K Z G' σ H' e1->Same G0 G'->H' a=some (.lst xs)->G' a=none->Z.H a=none->Free σ e1 a->Reps K G' out xs->Q (.ref a) H'):
  ∀D,H1 D=none->∃W:Nat->Nat->Hp->Prop,(∃m,W 0 m (upd H1 D (.lst [])))/\∀i m H2,W i m H2 ->
   (J.stop i H2/\Q (.ref D) H2)\/(J.go i H2/\∀x H3,J.yld i H2 x H3->gTup K 2 (gCons (gName 0) (gCons (gName 1) gNil)) x (List.replicate 2 none++pj js σ) H3 fun σ4 H4=>Kp (List.replicate 2 none++pj js σ) σ4/\cT K c σ4 H4 fun b H5=>
    if b=true then cE K d σ4 H5 fun y H6=>∃ys,H6 D=some (.lst ys)/\ys.length<sizeLine/\∃m',m'<m/\W (i+1) m' (upd H6 D (.lst (ys++[y])))else ∃m',m'<m/\W (i+1) m' H5):=by
 intro D hD
 refine⟨fun i m H2=>m=ps.length-i/\i<=ps.length/\∃G2 ys done rest,Rel K Z G2 σ H2 e1/\Same G1 G2/\H2 D=some (.lst ys)/\G2 D=none/\Reps K G2 done ys/\done.length<=i/\compP c d (pjS js e1) (ps.drop i)=some rest/\done++rest=out,
  ⟨ps.length,by omega,w1c _,G1,[],[],out,r1.grow (Grow.hid r1.sub hD _),.refl _,q0h,r1.sub.free hD,rfl,w0g _,hc,rfl⟩,?_⟩
 rintro i m H2 ⟨rfl,hi,G2,ys,done,rest,r2,s2,hd2,hg2,rp2,hdl,hc2,ho⟩;have hfree:Free σ e1 D:=q48 r1 hD;have hzh:Z.H D=none:=q4x r1 hD
 by_cases hlt:i<ps.length
 ·refine .inr ⟨W0.go i G2 H2 s2 r2.sub hlt,fun x H3 hy=>?_⟩
  have hp:ps[i]?=some ((ps[i]).1,(ps[i]).2):=by rw[w0b hlt]
  obtain⟨g3,hgo⟩:=W0.yld i G2 H2 x H3 s2 r2.sub hy _ _ hp;have r2':=r2.grow g3;have hd3:H3 D=some (.lst ys):=g3.hh _ _ hd2;rw[x06 hp]at hc2;refine hgo 0 1 _ _ fun yv zv py pz=>⟨Kp.two,⟨H3,G2,[]⟩,G2,.fr (ps[i]).1::.fr (ps[i]).2::pjS js e1,r2'.block2 js py pz,?_⟩
  unfold compP at hc2;cases qc:c (.fr (ps[i]).1::.fr (ps[i]).2::pjS js e1)with
  |no=>rw[qc]at hc2;cases hc2
  |ex _ _=>rw[qc]at hc2;cases hc2
  |ok k e2=>
   rw[qc]at hc2;intro G3 H5 r3 s3;have g3:=r3.toGrow s3;cases k with
   |false=>
    exact⟨ps.length-(i+1),by omega,rfl,hlt,G3,ys,done,rest,r2'.grow g3,s2.trans s3,g3.hh _ _ hd3,by rw[g3.new D (by rw[hd3];simp)];exact hg2,Reps.mono s3 _ rp2,by omega,hc2,ho⟩
   |true=>
    refine⟨⟨H3,G2,[]⟩,G3,e2,r3,?_⟩;dsimp only at hc2;cases qd:d e2 with
    |no=>rw[qd]at hc2;cases hc2
    |ex _ _=>rw[qd]at hc2;cases hc2
    |ok y e3=>
     rw[qd]at hc2;intro G4 v H6 r4 s4 p4;have g4:=r4.toGrow (s3.trans s4);obtain⟨rest',hr,rfl⟩:=w0l.mp hc2;have hd6:H6 D=some (.lst ys):=g4.hh _ _ hd3;have hg6:G4 D=none:=by rw[g4.new D (by rw[hd3];simp)];exact hg2
     refine⟨ys,hd6,?_,ps.length-(i+1),by omega,rfl,hlt,G4,ys++[v],done++[y],rest',(r2'.grow g4).mutFree hg6 hzh (hz D hD) hfree hd6,s2.trans (s3.trans s4),q0h,hg6,(Reps.mono (s3.trans s4) _ rp2).append (.one p4),by simp;omega,hr,by rw[w2v];exact ho⟩;rw[rp2.length,sizeLine_eq];omega
 ·have:i=ps.length:=by omega
  subst this;rw[w3k]at hc2;cases hc2;rw[w1l]at ho;subst ho;exact .inl ⟨W0.stop _ G2 H2 s2 r2.sub (by omega),h G2 D ys H2 r2 (s1.trans s2) hd2 hg2 hzh hfree rp2⟩
section
variable{elt iter e a:Expr}{body:List Stmt}{ifs:List Expr}{scope sc:Scope}{pt p3:Pos}{Nf N:List Str}{di:Den (List (W×W))}{d0:Den W}
theorem y8a(i j:Nat)(hN:X.N.Nodup)(hp:PassesOwn (model X.prog X.w) X.A X.env X.xe)(hc:X.calm=true)(hl:DI Z X EE (.Tuple [.Name x p1,.Name y p2] kt p3) e di)(hb:DSs Z X EE body s1)
  (hi:X.N[i]?=some x:=by rfl)(hx:Loc X.env.scope x:=by walk_at "3")(hf:X.fn x=true\/X.env.scope.names.lookup x=some .local:=by walk_at "2")
  (hj:X.N[j]?=some y:=by rfl)(hy:Loc X.env.scope y:=by walk_at "3")(hf':X.fn y=true\/X.env.scope.names.lookup y=some .local:=by walk_at "2")
  (hn:(assignEach [.Name x p1,.Name y p2] X.env).length=2:=by rfl)(hst:(assignEach [.Name x p1,.Name y p2] X.env).findIdx? (·.1)=none:=by rfl)
  (g1:(assignEach [.Name x p1,.Name y p2] X.env).map (·.2)=assign (.Name x p1) X.env::(assignEach [.Name y p2] X.env).map (·.2):=by rfl)(g2:(assignEach [.Name y p2] X.env).map (·.2)=assign (.Name y p2) X.env::(assignEach [] X.env).map (·.2):=by rfl)
  (hs:∀x,foldedSetIterable e X.env x=pure x:=by intro _;rfl):
  DS Z X EE (.For (.Tuple [.Name x p1,.Name y p2] kt p3) e body [] pos) (dForP i j di s1):=by
 refine PS.mono (x4j hp hc hl (x9n hc (q7f (q1e i hN hi hx hf) (q7f (q1e j hN hj hy hf') x7d g2) g1) hn hst) hb hs) ?_;rintro D σ H ⟨G,e,rel,h⟩;refine⟨G,e,rel,(q12 h).imp (fun ps e1 h G1 H1 J r1 q1 W0=>?_) fun _ _ h=>h⟩
 have h:=PostS.trans q1 h;refine⟨fun k m σ' H'=>m=ps.length-k/\k<=ps.length/\∃G' e',Rel X.K Z G' σ' H' e'/\Same G1 G'/\PostS X.K Z EE D G1 (forP i j s1 (ps.drop k) e'),⟨ps.length,by omega,w1c _,G1,e1,r1,.refl _,h⟩,?_⟩
 rintro k m σ' H' ⟨rfl,hk,G',e',r',s',h'⟩
 by_cases hlt:k<ps.length
 ·refine .inr ⟨W0.go k G' H' s' r'.sub hlt,fun σ'' H''=>∃G' e',Rel X.K Z G' σ'' H'' e'/\Same G1 G'/\PostS X.K Z EE D G1 (forP i j s1 (ps.drop (k+1)) e'),?_,fun v H2 hy=>?_⟩
  ·rintro σ'' H'' ⟨G'',e'',r'',s'',h''⟩;exact⟨ps.length-(k+1),by omega,rfl,hlt,G'',e'',r'',s'',h''⟩
  ·have hp:ps[k]?=some ((ps[k]).1,(ps[k]).2):=by rw[w0b hlt]
   obtain⟨g3,hgo⟩:=W0.yld k G' H' v H2 s' r'.sub hy _ _ hp;rw[x06 hp]at h';exact hgo i j σ' _ fun y z py pz=>y02 (p:=((ps[k]).1,(ps[k]).2)) (r'.grow g3) s' py pz h' fun G'' σ'' H'' e'' r'' s'' h''=>⟨G'',e'',r'',s'',h''⟩
 ·have:k=ps.length:=by omega
  subst this;rw[w3k]at h';exact .inl ⟨W0.stop _ G' H' s' r'.sub (by omega),h' G' σ' H' r' s'⟩
theorem x8x:∀σ H Q,liftF K Z EE (dCompP js di c d) σ H Q->tComp (liftI K Z EE di) 2 js (gTup K 2 (gCons (gName 0) (gCons (gName 1) gNil))) (cT K c) (cE K d) σ H Q:=by
 rintro σ H Q ⟨G,e,rel,h⟩;simp only[dCompP,R.holds_bind]at h;refine⟨G,e,rel,h.imp (fun ps e1 h G1 H1 J r1 s1 W0=>?_) fun _ _ h=>h⟩
 unfold compPK at h;split at h
 ·rename_i hl;split at h
  ·rename_i out ho;obtain⟨G2,s2,r2⟩:=r1.frzs js;have W1:Walk2 K G2 J ps:=⟨fun i G H a=>W0.go i G H (s2.trans a),fun i G H x H' a=>W0.yld i G H x H' (s2.trans a),fun i G H a=>W0.stop i G H (s2.trans a)⟩
   exact y31 W1 r2 (s1.trans s2) hl (ionone r2) ho h
  ·exact h.elim
 ·exact h.elim
theorem x0d(hc:X.calm=true)(hi:DI Z X EE (.Tuple [.Name x p1,.Name y p2] kt p3) iter di)(ok:compOk sc scope N Nf js=true)
  (ht:∀Z' cl C s₀ H₀ ex,DTs Z' (X.cp ([x,y]++Nf) scope cl C s₀ H₀ ex) (fun _=>E0) ifs c)(he:∀Z' cl C s₀ H₀ ex,DE Z' (X.cp ([x,y]++Nf) scope cl C s₀ H₀ ex) (fun _=>E0) elt d)
  (hg:∀cl C s₀ H₀ ex,PG (X.cp ([x,y]++Nf) scope cl C s₀ H₀ ex) (.Tuple [.Name x p1,.Name y p2] kt p3) (gTup X.K 2 (gCons (gName 0) (gCons (gName 1) gNil))))
  (hsc:X.env.scope=sc:=by rfl)(hN:X.N=N:=by rfl)(hs:∀x,foldedSetIterable iter X.env x=pure x:=by intro _;rfl):
  DF Z X EE (.ListComp elt [⟨.Tuple [.Name x p1,.Name y p2] kt p3,iter,ifs,0⟩] scope pos) (dCompP js di c d):=by
 exact PE.mono (q95 (Nl:=[x,y]) (tc:=cT X.K c) (te:=cE X.K d) hc hi ok hg (x00 ht) (x01 he) hsc hN hs) x8x
def pairsW:List W->Option (List (W×W))
 |[]=>some []
 |.tup [u,v]::ws=>(pairsW ws).map ((u,v)::·)
 |_=>none
def srcP(d:Den W):Den (List (W×W)):=fun e=>(d e).bind fun w e1=>match seqW w with
 |some ws=>ofOpt (pairsW ws) e1
 |none=>.no
theorem x23:∀{ws:List W}{ps:List (W×W)},pairsW ws=some ps->ws.length=ps.length/\∀(i:Nat) u v,ps[i]?=some (u,v)->ws[i]?=some (.tup [u,v])
 |[],ps,h=>by cases h;exact⟨rfl,fun i u v z=>by simp at z⟩
 |w::ws,ps,h=>by
  unfold pairsW at h;split at h
  ·rename_i z;cases z
  ·rename_i u v ws' z;cases z;obtain⟨q,hq,rfl⟩:=w0l.mp h;obtain⟨h1,h2⟩:=x23 hq;refine⟨by simp[h1],fun i u' v' z=>?_⟩
   cases i with
   |zero=>simp at z;simp[z.1,z.2]
   |succ i=>simp only[w0e]at z |-;exact h2 i _ _ z
  ·cases h
theorem x24{J:It}{SQ:Hp->Prop}(W0:Walk J xs SQ)(rp:Reps K G1 ws xs)(hp:pairsW ws=some ps)(hSQ:∀G' H',Same G1 G'->Same G' H'->SQ H'):Walk2 K G1 J ps:=by
 obtain⟨hl,hg⟩:=x23 hp;have hx:=rp.length;refine⟨fun i G H a b h=>W0.go i H (hSQ G H a b) (by omega),fun i G H x H' a b hy u v h=>?_,fun i G H a b h=>W0.stop i H (hSQ G H a b) (by omega)⟩
 have hlt:i<ps.length:=(w0c.mp h).1;obtain⟨rfl,hx'⟩:=W0.yld i H x H' (hSQ G H a b) hy (by omega);refine⟨Grow.refl b,fun m n σ Q hQ=>?_⟩
 obtain⟨w,hw,pw⟩:=rp.getV hx';rw[hg i u v h]at hw;cases hw;have pw:=Rep.mono a _ pw;obtain⟨c,ys,rfl,hq,y1,q1,rfl,p1,y2,q2,rfl,p2,rfl⟩:=pw;exact⟨c,[y1,y2],rfl,b.tup hq,rfl,y1,[y2],rfl,y2,[],rfl,rfl,hQ y1 y2 p1 p2⟩
theorem y32{tg l:Expr}(hl:DE Z X EE l d0):DI Z X EE tg l (srcP d0):=by
 refine PI.mono (x0y hl) ?_;rintro σ H RR ⟨G,e,rel,h⟩;simp only[srcP,R.holds_bind]at h;refine⟨G,e,rel,h.imp (fun w e1 h G1 v1 H1 r1 s1 p1=>?_) fun _ _ h=>h⟩
 split at h
 ·rename_i ws hw;obtain⟨ps,hp,h⟩:=ofOpt_holds.mp h;cases w with
  |tup us=>
   cases hw;obtain⟨a,xs,rfl,hq,rp⟩:=p1;exact⟨a,rfl,.inr ⟨⟨xs,r1.sub.tup hq⟩,h _ _ _ r1 s1 (x24 y0b rp hp fun G' H' s s'=>Same.tup s' (Same.tup s hq))⟩⟩
  |lst us=>
   cases hw;obtain⟨a,xs,rfl,hq,rp⟩:=p1;exact⟨a,rfl,.inl ⟨⟨xs,r1.sub.seq hq⟩,h _ _ _ r1 s1 (x24 y0a rp hp fun G' H' s s'=>Same.seq s' (Same.seq s hq))⟩⟩
  |_=>cases hw
 ·exact h.elim
def enumL:Nat->List W->List (W×W)
 |_,[]=>[]
 |k,w::ws=>(.int k,w)::enumL (k+1) ws
def srcE(dA:Den (List W)):Den (List (W×W)):=fun e=>(dA e).bind fun ws e1=>match ws with
 |[.lst us]=>.ok (enumL 0 us) e1
 |_=>.no
theorem x25:∀(k:Nat)(ws:List W),(enumL k ws).length=ws.length
 |_,[]=>rfl
 |k,w::ws=>by simp[enumL,x25 (k+1) ws]
theorem x26:∀(k:Nat)(ws:List W)(i:Nat)(u v:W),(enumL k ws)[i]?=some (u,v)->u=.int ((k+i:Nat):Int)/\ws[i]?=some v
 |_,[],i,u,v,h=>by simp[enumL]at h
 |k,w::ws,i,u,v,h=>by
  cases i with
  |zero=>
   have e:(W.int k,w)=(u,v):=Option.some.inj h;cases e;exact⟨rfl,rfl⟩
  |succ i=>
   have h:(enumL (k+1) ws)[i]?=some (u,v):=h;obtain⟨h1,h2⟩:=x26 (k+1) ws i u v h;exact⟨by rw[h1];congr 2;omega,h2⟩
def Ite(K:Fg)(a:Addr):It:=
 ⟨fun i H=>∃xs x,SqL K H a xs/\xs[i]?=some x,fun i H x H'=>∃b y,x=.ref b/\H b=none/\(∀xs,SqL K H a xs->xs[i]?=some y)/\H'=upd H b (.tup [.int i,y]),fun i H=>∃xs,SqL K H a xs/\xs.length<=i⟩
theorem x27{t':Nat}{fp:List Addr}{b:Addr}{o:HO}(I:Inv X pins σ H s)(k:∀b o,b∉fp->s.heap.get? b=some o->h'.get? b=some o)(hf:∀b∈fp,FpOk X pins H b)(hp:s.heap.objs.size<=b)(new:ObjOk X.prog X.w (upd H b o) h' b o):Inv X pins σ (upd H b o) {s with heap:=h',toks:=t'}:=by
 have hn:H b=none:=I.hok.fresh hp;have ne:∀c u,H c=some u->c≠b:=fun c u e=>q0m e hn
 have nfp:∀c u,H c=some u->c∉fp:=fun c u e z=>by rw[(hf c z).1]at e;cases e
 have lt:∀c o,s.heap.get? c=some o->c≠b:=fun c o e=>w0r (w0t (Heap.lt_size e) hp)
 refine I.step (g':=s.gens) (d':=s.drawn) (ch:=fp) (fun c hc=>?_) (fun c o _ _ hc e _=>k c o hc e) (fun c o _ _ hc e _=>⟨o.slots,k c o hc e⟩) (fun c o _ e n=>by rw[q0c (lt c o e)];exact n)
  (fun c o hc e=>⟨o,k c o hc e⟩) (fun c xs e=>by rw[q0c (ne c _ e)];exact e) (fun c o u e=>by rw[q0c (ne c _ e)];exact e) (fun c ps e=>⟨#[],by rw[q0c (ne c _ e),e];simp⟩) (fun m hm=>?_) (fun c u e=>?_) I.bare
 ·obtain⟨f0,f1,f2,f3,f4,f5⟩:=hf c hc;exact⟨f3,f1,f4,f5⟩
 ·obtain⟨o,es,ep,ho,r⟩:=hm;exact⟨o,es,ep,k _ o (fun z=>(hf _ z).2.1 rfl) ho,r⟩
 ·by_cases hb:c=b
  ·subst hb;rw[q0h]at e;cases e;exact new
  ·rw[q0c hb]at e;refine(I.hok c u e).stay (fun d v hd q=>k d v ?_ q) (fun d q=>by rw[q0c (ne d _ q)];exact q) fun d xs _ q=>by rw[q0c (ne d _ q)];exact q
   rcases hd with z|z
   ·rw[z];exact nfp c u e
   ·exact nfp d _ z
theorem y03{w:World}(a e it:Addr)(hne:e≠it):Turn P w K (.Tuple elts kt pt) (Ite K a) [e,it] e (fun i h=>∃old,PySem.IsEnum h e it (i:Nat) old/\h.IsListIter it a i) where
 mem:=by simp
 obj:=fun i h ⟨old,st1,st2⟩ b hb=>by
  simp only[w0j,w1d,or_false]at hb;rcases hb with rfl|rfl
  ·exact⟨_,st1,fun v z=>by cases z⟩
  ·obtain⟨o,e,c,d⟩:=st2;exact⟨o,e,fun v z=>by rw[d]at z;cases z⟩
 keep:=fun i h h' ⟨old,st1,st2⟩ k=>⟨old,k e (by simp) _ st1,st2.at fun o e=>k it (by simp) o e⟩
 item:=by
  intro X hP hw hK hc i pins s σ H E I hf st hg;subst hP hw hK;obtain⟨old,st1,st2⟩:=st;obtain⟨xs,x,hq,hx⟩:=hg;obtain⟨its,rv,p,hz⟩:=I.list hq;obtain⟨u,hu,ru⟩:=rv.get hx;refine wpAny_pyNext_enum_item st1 st2 p.isList (x:=u) (by simpa using hu) hne fun h1 heo hit1 ht1 hz1 hk1=>⟨_,rfl,?_⟩
  refine wpAny_letOwnedTupleGo_enum heo fun h2 he2 hs2=>?_
  have hs2:Heap.SameBut e h1 h2:=hs2;have hlt:e<s.heap.objs.size:=Heap.lt_size st1;have hfr:H s.heap.objs.size=none:=I.hok.fresh (w0g _);have ht2:h2.get? s.heap.objs.size=some {cls:=.type "tuple", data:=.seq #[.int i s.toks,u]}:=(hs2.2 _ (w3f hlt)).trans ht1;refine⟨.ref s.heap.objs.size,upd H s.heap.objs.size (.tup [.int i,x]),?_,rfl,⟨_,x,rfl,hfr,fun ys hy=>by rw[I.list_inj hy hq];exact hx,rfl⟩,⟨u,he2,?_⟩,fun b hb=>?_⟩
  ·show L2.Inv X pins σ _ {s with heap:=h2,toks:=s.toks+1};refine x27 (fp:=[e,it]) I (fun b o hb q=>?_) hf (w0g _) ⟨?_,[.int i s.toks,u],.cons ⟨_,rfl⟩ (.cons ru .nil),⟨_,ht2,rfl,?_⟩,⟨_,ht2,rfl⟩⟩
   ·simp only[w0j,w1d,or_false,not_or]at hb;exact(hs2.2 b hb.1).trans (hk1 b o hb.1 hb.2 q)
   ·rw[sizeLine_eq];simp
   ·exact⟨_,rfl⟩
  ·exact hit1.at fun o q=>(hs2.2 it (Ne.symm hne)).trans q
  ·have:b≠s.heap.objs.size:=by
    obtain⟨o,q,_⟩:∃o,s.heap.get? b=some o/\True:=by
     simp only[w0j,w1d,or_false]at hb;rcases hb with rfl|rfl
     ·exact⟨_,st1,trivial⟩
     ·obtain⟨o,e,_⟩:=st2;exact⟨o,e,trivial⟩
    exact w0r (Heap.lt_size q)
   rw[q0c this];exact(hf b hb).1
 done:=by
  intro X hP hw hK hc i pins s σ H E I hf st hg;subst hP hw hK;obtain⟨old,st1,st2⟩:=st;obtain⟨xs,hq,hx⟩:=hg;obtain⟨its,rv,p,hz⟩:=I.list hq;obtain⟨f0,f1,f2,f3,f4,f5⟩:=hf it (by simp);have hl:=rv.length;exact wpAny_pyNext_enum_end (I.ok.hd hc) st1 st2 p.isList (by simp;omega) fun h' eb=>⟨rfl,I.turned (t':=s.toks) (fun b o hb e=>eb b o hb e) f0 f1 f3 f4 f5⟩
 self:=fun _ _ _ _ _ ⟨old,st1,_⟩ h=>wpAny_pyIter_enum st1 h
def iEnum(K:Fg)(ta:TA):TI:=fun σ H R=>ta σ H fun vs H1=>∃a,vs=[.ref a]/\(∃xs,SqL K H1 a xs)/\R (Ite K a) H1
theorem y8b{ta:TA}{p:Pos}(hg:Gl X "enumerate")(hm:X.mg "enumerate"=none)(ha:PA X [a] ta)(hs:starEach [a] X.env=[(false,eval a X.env)]:=by rfl):PI X (.Tuple elts kt pt) (.Call (.Name "enumerate" p) [a] [] pos) (iEnum X.K ta):=by
 intro pins s σ H R I h;refine PyProof.Rows.Call_ (q4f I hg hm PyProof.Rows.boot_enumerate (PyProof.Rows.callWith_type1 (thn (ha pos pins s σ H _ I h) fun us s1 ⟨vs,H1,I1,r1,q1⟩=>?_) hs rfl))
 obtain⟨l,e,⟨xs,hq⟩,q⟩:=q1;subst e;cases r1 with
 |cons r rr=>
  cases rr;cases r;obtain⟨its,rv,p,hz⟩:=I1.list hq;refine call_enumerate_list p.isList fun h' he hit hsz hk=>?_
  refine wpAny_pyIter_enum he ?_;refine⟨s1.heap.objs.size+1,[s1.heap.objs.size+1,s1.heap.objs.size],_,_,H1,rfl,I1.kept (t':=s1.toks) hk,y03 l _ _ (w4c _),⟨_,he,hit⟩,fun b hb=>?_,q⟩
  simp only[w0j,w1d,or_false]at hb;rcases hb with rfl|rfl
  ·exact I1.fpOk (by omega) (I1.hok.fresh (by omega))
  ·exact I1.fpOk (w0g _) (I1.hok.fresh (w0g _))
theorem x8y{b:Addr}(rp:Reps K G1 ws xs)(hq:SqL K G1 b xs):Walk2 K G1 (Ite K b) (enumL 0 ws):=by
 have hx:=rp.length;have hl:=x25 0 ws;refine⟨fun i G H s s' h=>⟨xs,xs[i]'(by omega),Same.seq s' (Same.seq s hq),by simp⟩,fun i G H x H' s s' hy u v h=>?_,fun i G H s s' h=>⟨xs,Same.seq s' (Same.seq s hq),by omega⟩⟩
 obtain⟨c,y,rfl,hn,hx',rfl⟩:=hy;obtain⟨hu,hv⟩:=x26 0 ws i u v h;obtain⟨w,hw,pw⟩:=rp.getV (hx' xs (Same.seq s' (Same.seq s hq)));rw[hv]at hw;cases hw;refine⟨Grow.hid s' hn _,fun m n σ Q hQ=>⟨c,[.int i,y],rfl,SqT.of q0h,rfl,.int i,[y],rfl,y,[],rfl,rfl,hQ _ _ ?_ (Rep.mono s _ pw)⟩⟩
 rw[hu,w2x];exact rfl
theorem x7q{p:Pos}(hm:X.mg "enumerate"=none)(ha:DA Z X EE [a] dA)(hg:Gl X "enumerate":=by rfl)(hs:starEach [a] X.env=[(false,eval a X.env)]:=by rfl):DI Z X EE (.Tuple elts kt pt) (.Call (.Name "enumerate" p) [a] [] pos) (srcE dA):=by
 refine PI.mono (y8b hg hm ha hs) ?_;rintro σ H RR ⟨G,e,rel,h⟩;simp only[srcE,R.holds_bind]at h;refine⟨G,e,rel,h.imp (fun ws e1 h G1 vs H1 r1 s1 p1=>?_) fun _ _ h=>h⟩
 split at h
 ·rename_i us;obtain⟨y,r,rfl,e1,e2⟩:=p1;cases(show r=[]from e2);obtain⟨b,xs,rfl,hq,rp⟩:=e1;exact⟨b,rfl,⟨xs,r1.sub.seq hq⟩,h _ _ _ r1 s1 (x8y rp hq)⟩
 ·exact h.elim
end
theorem x42{p3:Pos}(hN:X.N.Nodup)(hc:X.calm=true)
  (hi:X.N[0]?=some x:=by rfl)(hx:Loc X.env.scope x:=by walk_at "3")(hf:X.fn x=true\/X.env.scope.names.lookup x=some .local:=by walk_at "2")
  (hj:X.N[1]?=some y:=by rfl)(hy:Loc X.env.scope y:=by walk_at "3")(hf':X.fn y=true\/X.env.scope.names.lookup y=some .local:=by walk_at "2")
  (hn:(assignEach [.Name x p1,.Name y p2] X.env).length=2:=by rfl)(hst:(assignEach [.Name x p1,.Name y p2] X.env).findIdx? (·.1)=none:=by rfl)
  (g1:(assignEach [.Name x p1,.Name y p2] X.env).map (·.2)=assign (.Name x p1) X.env::(assignEach [.Name y p2] X.env).map (·.2):=by rfl)(g2:(assignEach [.Name y p2] X.env).map (·.2)=assign (.Name y p2) X.env::(assignEach [] X.env).map (·.2):=by rfl):
  PG X (.Tuple [.Name x p1,.Name y p2] kt p3) (gTup X.K 2 (gCons (gName 0) (gCons (gName 1) gNil))):=
 x9n hc (q7f (q1e 0 hN hi hx hf) (q7f (q1e 1 hN hj hy hf') x7d g2) g1) hn hst
section
variable{di:Den (List (W×W))}{b:List S->SR}{j:Nat}{c:Prop} [Decidable c]{s t:SR}{k:List S->SR}{v:Value}{st:S}
theorem y8c:dForP i j di b e=(di e).stm fun ps e1=>forP i j b ps e1:=rfl
theorem y33:(SR.nx e).turnT k=k e:=rfl
theorem y34:(SR.ct e).turnT k=k e:=rfl
theorem y35:(SR.bk e).turnT k=.nx e:=rfl
theorem y36:(SR.rt st e).turnT k=.rt st e:=rfl
theorem y37:(SR.ex v e).turnT k=.ex v e:=rfl
theorem y38:(SR.no).turnT k=.no:=rfl
theorem y04:(if c then s else t).turnT k=if c then s.turnT k else t.turnT k:=by split<;>rfl
def srcEW(e:List S):List W->R (List (W×W))
 |[.lst us]=>.ok (enumL 0 us) e
 |_=>.no
theorem z2o:srcE dA e=(dA e).bind fun ws e1=>srcEW e1 ws:=by
 unfold srcE;congr 1
theorem y8d:srcEW e [.lst ws]=.ok (enumL 0 ws) e:=rfl
def srcPW(e:List S):Option (List W)->R (List (W×W))
 |some ws=>ofOpt (pairsW ws) e
 |none=>.no
theorem z2p:srcP d e=(d e).bind fun w e1=>srcPW e1 (seqW w):=by
 unfold srcP;congr 1
theorem x8z:srcPW e (some ws)=ofOpt (pairsW ws) e:=rfl
theorem y39:compPK js cc d ps e=if ps.length<=16777216 then compR (frzs js e) (compP cc d (pjS js (frzs js e)) ps)else .no:=by
 unfold compPK compR;split
 ·cases compP cc d (pjS js (frzs js e)) ps<;>rfl
 ·rfl
theorem y4a:dCompP js di cc d e=(di e).bind fun ps e1=>compPK js cc d ps e1:=rfl
theorem x07{p:W×W}:compP cc d pe (p::ps)=(match cc (.fr p.1::.fr p.2::pe)with
  |.ok true e1=>(match d e1 with|.ok y _=>(compP cc d pe ps).map (y::·)|_=>none)
  |.ok false _=>compP cc d pe ps
  |_=>none):=rfl
end
def intsW:List W->Option (List Int)
 |[]=>some []
 |.int x::r=>(intsW r).map (x::·)
 |_=>none
theorem x0e:∀{ws:List W}{ys:List Int}{xs:List V},intsW ws=some ys->Reps K G ws xs->xs=ys.map V.int
 |[],ys,xs,h,r=>by cases h;cases(show xs=[]from r);rfl
 |w::ws,ys,xs,h,r=>by
  unfold intsW at h;split at h
  ·rename_i z;cases z
  ·rename_i y r' z;cases z;obtain⟨ys',h1,rfl⟩:=w0l.mp h;obtain⟨v,vs,rfl,p1,p2⟩:=r;cases(show v=V.int y from p1);rw[x0e h1 p2];rfl
  ·cases h
section
variable{prog:Program}{w:World}{E:Value->Shared->Prop}
theorem x43{b:Addr}{x:Value}{Q:Value->Shared->Prop}(gi:s.heap.IsTupleIter j b k)(gt:s.heap.IsTuple b vs)(gx:vs[k]?=some x)
  (hQ:∀h',h'.IsTupleIter j b (k+1)->Heap.SameBut j s.heap h'->Q x {s with heap:=h'}):wpAny (model prog w) A (Builtin.SmallTypes.nextOf (.ref j)) Q E s:=by
 obtain⟨o,ho,hc,hd⟩:=id gi;obtain⟨ot,hot,_,m,hdt⟩:=gt;unfold Builtin.SmallTypes.nextOf;refine wpAny_bind (wpAny_callSpecial?_slot (name:=Str.ofString "__next__") gi.typeIs F.slot_tuple_iterator_next (wpAny_call_entry F.slot_tuple_iterator_next gi.typeIs F.entry_tuple_iterator_next ?_ (F.args_tuple_iterator_next_1 _)));show wpAny _ _ (field (.ref j) 0 >>= _) _ _ s;refine wpAny_bind (wpAny_field ho hd (x:=.ref b) rfl ?_);show wpAny _ _ (if(Value.ref b==Value.none)=true then _ else _) _ _ s;rw[if_neg (show ¬((Value.ref b==Value.none)=true)from w1e)];show wpAny _ _ (field (.ref j) 1 >>= _) _ _ s;refine wpAny_bind (wpAny_field ho hd (x:=.int k 0) rfl ?_);show wpAny _ _ (seqItems? (.ref b) >>= _) _ _ s;refine wpAny_bind (wpAny_seqItems hot hdt ?_);simp only[w1p,gx];refine wpAny_bind (wpAny_setField ho hd (by simp) (wpAny_pure ⟨x,rfl,wpAny_pure (hQ _ ⟨_,Heap.get?_update_self _ ho (Obj.isFreed_of_fields (Obj.data_mapFields hd _)),(Obj.cls_mapFields ..).trans hc,by rw[Obj.data_mapFields hd];simp[rawInt]⟩ (Heap.SameBut.update ..))⟩))
theorem x6l{b:Addr}{Q:Value->Shared->Prop}(hh:A.handled=none)(gi:s.heap.IsTupleIter j b k)(gt:s.heap.IsTuple b vs)(gx:vs[k]?=none)
  (hE:∀h' e,Heap.ExtBut j s.heap h'->(∃o,h'.get? e=some o/\o.cls=.type "StopIteration")->E (.ref e) {s with heap:=h'}):wpAny (model prog w) A (Builtin.SmallTypes.nextOf (.ref j)) Q E s:=by
 obtain⟨o,ho,hc,hd⟩:=id gi;obtain⟨ot,hot,_,m,hdt⟩:=gt;unfold Builtin.SmallTypes.nextOf;refine wpAny_bind (wpAny_callSpecial?_slot (name:=Str.ofString "__next__") gi.typeIs F.slot_tuple_iterator_next (wpAny_call_entry F.slot_tuple_iterator_next gi.typeIs F.entry_tuple_iterator_next ?_ (F.args_tuple_iterator_next_1 _)));show wpAny _ _ (field (.ref j) 0 >>= _) _ _ s;refine wpAny_bind (wpAny_field ho hd (x:=.ref b) rfl ?_);show wpAny _ _ (if(Value.ref b==Value.none)=true then _ else _) _ _ s;rw[if_neg (show ¬((Value.ref b==Value.none)=true)from w1e)];show wpAny _ _ (field (.ref j) 1 >>= _) _ _ s;refine wpAny_bind (wpAny_field ho hd (x:=.int k 0) rfl ?_);show wpAny _ _ (seqItems? (.ref b) >>= _) _ _ s;refine wpAny_bind (wpAny_seqItems hot hdt ?_);simp only[w1p,gx];refine wpAny_bind (wpAny_rule (wpAny_bind (wpAny_setField ho hd (by simp) ?_)));show wpAny _ _ (newExc (.type "StopIteration") [] >>= _) _ _ _;refine wpAny_bind ?_;simp only[newExc,newTuple];refine wpAny_bind (wpAny_newObj_type ?_ (by size_fits));refine wpAny_bind (m:=firstArgMember _ _) (wpAny_of_eq (a:=Value.none) (by first|rfl|(simp only[firstArgMember];rfl)) (wpAny_newObj_type ?_ (by size_fits)));simp only[raiseNew];refine wpAny_bind (wpAny_handled ?_)
 first|rw[show A.in1.handled=none from hh]|rw[hh]
 refine wpAny_bind (wpAny_pure (wpAny_throw (hE _ _ (((Heap.SameBut.update ..).extBut.push _).push _) ⟨_,Heap.get?_push_size _ rfl,rfl⟩)))
def IsIt(t:Bool)(j b:Addr)(k:Nat)(h:Heap):Prop:=if t=true then h.IsTupleIter j b k else h.IsListIter j b k
def IsSq(t:Bool)(b:Addr)(vs:Array Value)(h:Heap):Prop:=if t=true then h.IsTuple b vs else h.IsList b vs
theorem IsIt.keep{b:Addr}{h:Heap}(x:IsIt t j b k h)(e:∀o,h.get? j=some o->h'.get? j=some o):IsIt t j b k h':=by
 cases t with
 |true=>obtain⟨o,ho,r⟩:=(show h.IsTupleIter j b k from x);exact⟨o,e o ho,r⟩
 |false=>obtain⟨o,ho,r⟩:=(show h.IsListIter j b k from x);exact⟨o,e o ho,r⟩
theorem IsIt.obj{b:Addr}{h:Heap}(x:IsIt t j b k h):∃o,h.get? j=some o/\∀v,o.data≠.cell v:=by
 cases t with
 |true=>obtain⟨o,ho,c,d⟩:=(show h.IsTupleIter j b k from x);exact⟨o,ho,fun v z=>by rw[d]at z;cases z⟩
 |false=>obtain⟨o,ho,c,d⟩:=(show h.IsListIter j b k from x);exact⟨o,ho,fun v z=>by rw[d]at z;cases z⟩
theorem IsSq.keep{b:Addr}{h:Heap}(x:IsSq t b vs h)(e:∀o,h.get? b=some o->h'.get? b=some o):IsSq t b vs h':=by
 cases t with
 |true=>obtain⟨o,ho,r⟩:=(show h.IsTuple b vs from x);exact⟨o,e o ho,r⟩
 |false=>obtain⟨o,ho,r⟩:=(show h.IsList b vs from x);exact⟨o,e o ho,r⟩
theorem x12{b:Addr}{x:Value}{Q:Value->Shared->Prop}(gi:IsIt t j b k s.heap)(gt:IsSq t b vs s.heap)(gx:vs[k]?=some x)
  (hQ:∀h',IsIt t j b (k+1) h'->Heap.SameBut j s.heap h'->Q x {s with heap:=h'}):wpAny (model prog w) A (Builtin.SmallTypes.nextOf (.ref j)) Q E s:=by
 cases t with
 |true=>exact x43 gi gt gx hQ
 |false=>exact wpAny_nextOf_list_item gi gt gx hQ
theorem y05{b:Addr}{Q:Value->Shared->Prop}(hh:A.handled=none)(gi:IsIt t j b k s.heap)(gt:IsSq t b vs s.heap)(gx:vs[k]?=none)
  (hE:∀h' e,Heap.ExtBut j s.heap h'->(∃o,h'.get? e=some o/\o.cls=.type "StopIteration")->E (.ref e) {s with heap:=h'}):wpAny (model prog w) A (Builtin.SmallTypes.nextOf (.ref j)) Q E s:=by
 cases t with
 |true=>exact x6l hh gi gt gx hE
 |false=>exact wpAny_nextOf_list_end hh gi gt gx hE
structure Apart(z I O i j a b:Addr):Prop where
 Iz:I≠z
 Oz:O≠z
 iz:i≠z
 jz:j≠z
 IO:I≠O
 Ii:I≠i
 Ij:I≠j
 Oi:O≠i
 Oj:O≠j
 ij:i≠j
 az:a≠z
 aO:a≠O
 ai:a≠i
 aj:a≠j
 bz:b≠z
 bO:b≠O
 bi:b≠i
 bj:b≠j
theorem y8e{z I O i b:Addr}{u:Bool}{xs:Array Value}{x y p q:Value}{Q:Value->Shared->Prop}(D:Apart z I O i j a b)
  (gz:IsZip s.heap z I O .none)(gI:IsPair s.heap I (.ref i) (.ref j))(gO:IsPair s.heap O p q)
  (g1:IsIt t i a k s.heap)(g2:IsIt u j b k s.heap)(l1:IsSq t a xs s.heap)(l2:IsSq u b ys s.heap)(hx:xs[k]?=some x)(hy:ys[k]?=some y)
  (hQ:∀h',IsZip h' z I O (rawInt s.heap.objs.size)->IsPair h' O x y->IsIt t i a (k+1) h'->IsIt u j b (k+1) h'->IsPair h' s.heap.objs.size x y->h'.objs.size=s.heap.objs.size+1 ->
   (∀c o,c≠z->c≠O->c≠i->c≠j->s.heap.get? c=some o->h'.get? c=some o)->Q (.ref s.heap.objs.size) {s with heap:=h'}):
  wpAny (model prog w) A (Builtin.«zip.__next__» ⟨[.ref z],[]⟩) (fun fin s'=>∃v,fin=.done (.ret v)/\Q v s') E s:=by
 show wpAny _ _ (field (.ref z) 2 >>= _) _ _ _;refine wpAny_bind (wpAny_field gz rfl (x:=.bool false) rfl ?_);show wpAny _ _ (field (.ref z) 3 >>= _) _ _ _;refine wpAny_bind (wpAny_field gz rfl (x:=.ref I) rfl (wpAny_bind (wpAny_seqItems gI rfl ?_)));show wpAny _ _ (Builtin.SmallTypes.ownedTupleIsFree (.ref z) >>= _) _ _ _;refine wpAny_bind ?_;unfold Builtin.SmallTypes.ownedTupleIsFree;refine wpAny_bind (wpAny_field gz rfl (x:=.none) rfl (wpAny_pure ?_));simp only[if_true];refine wpAny_bind (wpAny_rule (wpAny_bind (wpAny_field gz rfl (x:=.ref O) rfl (wpAny_bind (wpAny_setField_rec gz (by simp) fun ha za sa=>?_)))))
 replace za:IsZip ha z I O .ellipsis:=za
 refine wpAny_bind ?_;simp only[List.zipIdx_cons,List.zipIdx_nil,w2q,w4q];refine wpAny_bind (wpAny_bind (wpAny_onRaise ?_));show wpAny _ _ (Builtin.SmallTypes.nextOf (.ref i) >>= _) _ _ _;refine wpAny_bind (x12 (s:={s with heap:=ha}) (g1.keep fun o e=>sa.extBut _ _ D.iz e) (l1.keep fun o e=>sa.extBut _ _ D.az e) hx fun hb ib sb=>wpAny_pure ?_)
 have Ob:IsPair hb O p q:=sb.extBut _ _ D.Oi (sa.extBut _ _ D.Oz gO);refine wpAny_bind (wpAny_seqItems Ob rfl (wpAny_bind (wpAny_updateSeq_pair Ob fun hc Oc sc=>?_)))
 replace Oc:IsPair hc O x q:=Oc
 refine wpAny_bind (wpAny_letGo (wpAny_pure (wpAny_bind (wpAny_bind (wpAny_onRaise ?_)))));show wpAny _ _ (Builtin.SmallTypes.nextOf (.ref j) >>= _) _ _ _;refine wpAny_bind (x12 (s:={s with heap:=hc}) (g2.keep fun o e=>sc.extBut _ _ D.Oj.symm (sb.extBut _ _ D.ij.symm (sa.extBut _ _ D.jz e))) (l2.keep fun o e=>sc.extBut _ _ D.bO (sb.extBut _ _ D.bi (sa.extBut _ _ D.bz e))) hy fun hd jd sd=>wpAny_pure ?_)
 have Od:IsPair hd O x q:=sd.extBut _ _ D.Oj Oc;refine wpAny_bind (wpAny_seqItems Od rfl (wpAny_bind (wpAny_updateSeq_pair Od fun he Oe se=>?_)))
 replace Oe:IsPair he O x y:=Oe
 refine wpAny_bind (wpAny_letGo (wpAny_pure (wpAny_pure (wpAny_bind (wpAny_seqItems Oe rfl (wpAny_bind (wpAny_newTuple ?_)))))));have sz:he.objs.size=s.heap.objs.size:=by rw[se.1,sd.1,sc.1,sb.1,sa.1]
 have ze:IsZip he z I O .ellipsis:=se.extBut _ _ D.Oz.symm (sd.extBut _ _ D.jz.symm (sc.extBut _ _ D.Oz.symm (sb.extBut _ _ D.iz.symm za)));have ke:∀c o,c≠z->c≠O->c≠i->c≠j->s.heap.get? c=some o->he.get? c=some o:=fun c o c1 c2 c3 c4 e=>se.extBut _ _ c2 (sd.extBut _ _ c4 (sc.extBut _ _ c2 (sb.extBut _ _ c3 (sa.extBut _ _ c1 e))))
 have ie:IsIt t i a (k+1) he:=ib.keep fun o e=>se.extBut _ _ D.Oi.symm (sd.extBut _ _ D.ij (sc.extBut _ _ D.Oi.symm e))
 have je:IsIt u j b (k+1) he:=jd.keep fun o e=>se.extBut _ _ D.Oj.symm e
 have zlt:z<he.objs.size:=Heap.lt_size ze;show wpAny _ _ (Builtin.SmallTypes.ownedTupleHandOut (.ref z) (.ref he.objs.size) >>= _) _ _ _;refine wpAny_bind ?_;unfold Builtin.SmallTypes.ownedTupleHandOut;have zf:IsZip (he.push {cls:=.type "tuple", data:=.seq #[x,y]}) z I O .ellipsis:=Heap.get?_push_of_some _ ze;refine wpAny_bind (wpAny_setField_rec zf (by simp) fun hg zg sg=>?_)
 replace zg:IsZip hg z I O (rawInt he.objs.size):=zg
 refine wpAny_setField_rec zg (by simp) fun hk zk sk=>?_
 replace zk:IsZip hk z I O (rawInt he.objs.size):=zk
 have up:∀c o,c≠z->he.get? c=some o->hk.get? c=some o:=fun c o c1 e=>sk.extBut _ _ c1 (sg.extBut _ _ c1 (Heap.get?_push_of_some _ e))
 have Tk:IsPair hk he.objs.size x y:=sk.extBut _ _ (w3f zlt) (sg.extBut _ _ (w3f zlt) (Heap.get?_push_size _ rfl));have nk:hk.objs.size=he.objs.size+1:=by rw[sk.1,sg.1,Heap.size_push]
 rw[sz]at zk Tk nk;refine wpAny_pure ⟨_,rfl,?_⟩;show Q (.ref he.objs.size) _;rw[sz];exact hQ hk zk (up _ _ D.Oz Oe) (ie.keep fun o e=>up _ o D.iz e) (je.keep fun o e=>up _ o D.jz e) Tk nk fun c o c1 c2 c3 c4 e=>up c o c1 (ke c o c1 c2 c3 c4 e)
theorem z2q{z I O i b:Addr}{u:Bool}{xs:Array Value}{p q:Value}{Q:Fin->Shared->Prop}(hh:A.handled=none)(D:Apart z I O i j a b)
  (gz:IsZip s.heap z I O .none)(gI:IsPair s.heap I (.ref i) (.ref j))(gO:IsPair s.heap O p q)
  (g1:IsIt t i a k s.heap)(g2:IsIt u j b k s.heap)(l1:IsSq t a xs s.heap)(l2:IsSq u b ys s.heap)(hend:xs[k]?=none\/ys[k]?=none)
  (hE:∀h' e,(∀c o,c≠z->c≠O->c≠i->c≠j->s.heap.get? c=some o->h'.get? c=some o)->(∃o,h'.get? e=some o/\o.cls=.type "StopIteration")->E (.ref e) {s with heap:=h'}):
  wpAny (model prog w) A (Builtin.«zip.__next__» ⟨[.ref z],[]⟩) Q E s:=by
 show wpAny _ _ (field (.ref z) 2 >>= _) _ _ _;refine wpAny_bind (wpAny_field gz rfl (x:=.bool false) rfl ?_);show wpAny _ _ (field (.ref z) 3 >>= _) _ _ _;refine wpAny_bind (wpAny_field gz rfl (x:=.ref I) rfl (wpAny_bind (wpAny_seqItems gI rfl ?_)));show wpAny _ _ (Builtin.SmallTypes.ownedTupleIsFree (.ref z) >>= _) _ _ _;refine wpAny_bind ?_;unfold Builtin.SmallTypes.ownedTupleIsFree;refine wpAny_bind (wpAny_field gz rfl (x:=.none) rfl (wpAny_pure ?_));simp only[if_true];refine wpAny_bind (wpAny_rule (wpAny_bind (wpAny_field gz rfl (x:=.ref O) rfl (wpAny_bind (wpAny_setField_rec gz (by simp) fun ha za sa=>?_)))))
 replace za:IsZip ha z I O .ellipsis:=za
 refine wpAny_bind ?_;simp only[List.zipIdx_cons,List.zipIdx_nil,w2q,w4q];refine wpAny_bind (wpAny_bind (wpAny_onRaise ?_));show wpAny _ _ (Builtin.SmallTypes.nextOf (.ref i) >>= _) _ _ _;cases hx:xs[k]? with
 |none=>
  refine wpAny_bind (y05 (s:={s with heap:=ha}) hh (g1.keep fun o e=>sa.extBut _ _ D.iz e) (l1.keep fun o e=>sa.extBut _ _ D.az e) hx fun hb e sb ge=>?_)
  obtain⟨oe,hoe,hce⟩:=ge;have zb:IsZip hb z I O .ellipsis:=sb _ _ D.iz.symm za;have nz:e≠z:=fun x=>by subst x;rw[zb]at hoe;cases hoe;simp at hce
  refine wpAny_setField_rec zb (by simp) fun hc _ sc=>hE hc e (fun c o c1 _ c3 _ x=>sc.extBut _ _ c1 (sb _ _ c3 (sa.extBut _ _ c1 x))) ⟨oe,sc.extBut _ _ nz hoe,hce⟩
 |some x=>
  have hy:ys[k]?=none:=by rcases hend with h|h;rw[hx]at h;cases h;exact h
  refine wpAny_bind (x12 (s:={s with heap:=ha}) (g1.keep fun o e=>sa.extBut _ _ D.iz e) (l1.keep fun o e=>sa.extBut _ _ D.az e) hx fun hb ib sb=>wpAny_pure ?_)
  have Ob:IsPair hb O p q:=sb.extBut _ _ D.Oi (sa.extBut _ _ D.Oz gO);refine wpAny_bind (wpAny_seqItems Ob rfl (wpAny_bind (wpAny_updateSeq_pair Ob fun hc Oc sc=>?_)))
  refine wpAny_bind (wpAny_letGo (wpAny_pure (wpAny_bind (wpAny_bind (wpAny_onRaise ?_)))));show wpAny _ _ (Builtin.SmallTypes.nextOf (.ref j) >>= _) _ _ _;refine wpAny_bind (y05 (s:={s with heap:=hc}) hh (g2.keep fun o e=>sc.extBut _ _ D.Oj.symm (sb.extBut _ _ D.ij.symm (sa.extBut _ _ D.jz e))) (l2.keep fun o e=>sc.extBut _ _ D.bO (sb.extBut _ _ D.bi (sa.extBut _ _ D.bz e))) hy fun hd e sd ge=>?_)
  obtain⟨oe,hoe,hce⟩:=ge;have zd:IsZip hd z I O .ellipsis:=sd _ _ D.jz.symm (sc.extBut _ _ D.Oz.symm (sb.extBut _ _ D.iz.symm za));have nz:e≠z:=fun x=>by subst x;rw[zd]at hoe;cases hoe;simp at hce
  refine wpAny_setField_rec zd (by simp) fun he _ se=>hE he e (fun c o c1 c2 c3 c4 x=>se.extBut _ _ c1 (sd _ _ c4 (sc.extBut _ _ c2 (sb.extBut _ _ c3 (sa.extBut _ _ c1 x))))) ⟨oe,se.extBut _ _ nz hoe,hce⟩
theorem y8f{z I O i b:Addr}{u:Bool}{xs:Array Value}{x y p q:Value}{Q:Option Value->Shared->Prop}(D:Apart z I O i j a b)
  (gz:IsZip s.heap z I O .none)(gI:IsPair s.heap I (.ref i) (.ref j))(gO:IsPair s.heap O p q)
  (g1:IsIt t i a k s.heap)(g2:IsIt u j b k s.heap)(l1:IsSq t a xs s.heap)(l2:IsSq u b ys s.heap)(hx:xs[k]?=some x)(hy:ys[k]?=some y)
  (hQ:∀h',IsZip h' z I O (rawInt s.heap.objs.size)->IsPair h' O x y->IsIt t i a (k+1) h'->IsIt u j b (k+1) h'->IsPair h' s.heap.objs.size x y->h'.objs.size=s.heap.objs.size+1 ->
   (∀c o,c≠z->c≠O->c≠i->c≠j->s.heap.get? c=some o->h'.get? c=some o)->Q (some (.ref s.heap.objs.size)) {s with heap:=h'}):wpAny (model prog w) A (pyNext (.ref z)) Q E s:=by
 have hT:s.TypeIs (.ref z) "zip":=⟨_,gz,rfl⟩;unfold pyNext;exact wpAny_bind (wpAny_attempt (wpAny_callSpecial?_slot (name:=Str.ofString "__next__") hT F.slot_zip_next (wpAny_call_entry F.slot_zip_next hT F.entry_zip_next (y8e D gz gI gO g1 g2 l1 l2 hx hy fun h' a1 a2 a3 a4 a5 a6 a7=>wpAny_pure (hQ h' a1 a2 a3 a4 a5 a6 a7)) (F.args_zip_next_1 _))))
theorem y8g{z I O i b:Addr}{u:Bool}{xs:Array Value}{p q:Value}{Q:Option Value->Shared->Prop}(hh:A.handled=none)(D:Apart z I O i j a b)
  (gz:IsZip s.heap z I O .none)(gI:IsPair s.heap I (.ref i) (.ref j))(gO:IsPair s.heap O p q)
  (g1:IsIt t i a k s.heap)(g2:IsIt u j b k s.heap)(l1:IsSq t a xs s.heap)(l2:IsSq u b ys s.heap)(hend:xs[k]?=none\/ys[k]?=none)
  (hQ:∀h',(∀c o,c≠z->c≠O->c≠i->c≠j->s.heap.get? c=some o->h'.get? c=some o)->Q none {s with heap:=h'}):wpAny (model prog w) A (pyNext (.ref z)) Q E s:=by
 have hT:s.TypeIs (.ref z) "zip":=⟨_,gz,rfl⟩;unfold pyNext;refine wpAny_bind (wpAny_attempt (wpAny_callSpecial?_slot (name:=Str.ofString "__next__") hT F.slot_zip_next (wpAny_call_entry F.slot_zip_next hT F.entry_zip_next (z2q hh D gz gI gO g1 g2 l1 l2 hend fun h' e hk he=>?_) (F.args_zip_next_1 _))))
 obtain⟨o,ho,hc⟩:=he;exact wpAny_bind (wpAny_isInstance (T:="StopIteration") (b:=true) ⟨o,ho,hc⟩ isSubtype_stop (wpAny_pure (hQ _ hk)))
end
def itT(t:Bool):String:=if t=true then "tuple_iterator" else "list_iterator"
noncomputable abbrev zq1(t:Bool)(h:Heap)(a:Addr):Heap:=h.push {cls:=.type (itT t),data:=.fields #[.ref a,.int 0 0]}
noncomputable abbrev zq2(t u:Bool)(h:Heap)(a b:Addr):Heap:=(zq1 t h a).push {cls:=.type (itT u),data:=.fields #[.ref b,.int 0 0]}
noncomputable abbrev zq3(t u:Bool)(h:Heap)(a b:Addr):Heap:=(zq2 t u h a b).push {cls:=.type "tuple", data:=.seq #[.ref h.objs.size,.ref (zq1 t h a).objs.size]}
noncomputable abbrev zq4(t u:Bool)(h:Heap)(a b:Addr):Heap:=(zq3 t u h a b).push {cls:=.type "tuple", data:=.seq #[.none,.none]}
noncomputable abbrev zq5(t u:Bool)(h:Heap)(a b:Addr):Heap:=(zq4 t u h a b).push {cls:=.type "zip", data:=.fields #[.none,.bool false,.bool false,.ref (zq2 t u h a b).objs.size,.ref (zq3 t u h a b).objs.size]}
theorem z2r(t u:Bool)(a b:Addr)(xs ys:Array Value):
  Meets (Builtin.«zip.__new__» ⟨[.type "zip", .ref a,.ref b],[]⟩) (fun _ R s=>IsSq t a xs s.heap/\IsSq u b ys s.heap/\R (.ok (.ret (.ref (zq4 t u s.heap a b).objs.size))) {s with heap:=zq5 t u s.heap a b}):=
 .of_wp fun prog w A R s hyp=>by
  obtain⟨hp,g,d,tk,os⟩:=s;obtain⟨g1,g2,h⟩:=hyp;have hsub:=sub_zip;have q2:IsSq u b ys (zq1 t hp a):=g2.keep fun o e=>Heap.get?_push_of_some _ e
  cases t with
  |false=>
   have p1:Heap.IsList (Shared.heap ⟨hp,g,d,tk,os⟩) a xs:=g1;cases u with
   |false=>
    have p2:Heap.IsList (Shared.heap ⟨hp.push {cls:=.type "list_iterator", data:=.fields #[.ref a,.int 0 0]},g,d,tk,os⟩) b ys:=q2
    wp_walk using wpAny_pyIter_list p1,wpAny_pyIter_list p2
    exact⟨_,rfl,h⟩
   |true=>
    have p2:Heap.IsTuple (Shared.heap ⟨hp.push {cls:=.type "list_iterator", data:=.fields #[.ref a,.int 0 0]},g,d,tk,os⟩) b ys:=q2
    wp_walk using wpAny_pyIter_list p1,wpAny_pyIter_tuple p2
    exact⟨_,rfl,h⟩
  |true=>
   have p1:Heap.IsTuple (Shared.heap ⟨hp,g,d,tk,os⟩) a xs:=g1;cases u with
   |false=>
    have p2:Heap.IsList (Shared.heap ⟨hp.push {cls:=.type "tuple_iterator", data:=.fields #[.ref a,.int 0 0]},g,d,tk,os⟩) b ys:=q2
    wp_walk using wpAny_pyIter_tuple p1,wpAny_pyIter_list p2
    exact⟨_,rfl,h⟩
   |true=>
    have p2:Heap.IsTuple (Shared.heap ⟨hp.push {cls:=.type "tuple_iterator", data:=.fields #[.ref a,.int 0 0]},g,d,tk,os⟩) b ys:=q2
    wp_walk using wpAny_pyIter_tuple p1,wpAny_pyIter_tuple p2
    exact⟨_,rfl,h⟩
section
variable{prog:Program}{w:World}{E:Value->Shared->Prop}
theorem x44{h:Heap}{o:Obj}(e:h.get? j=some o)(c:o.cls=.type (itT t))(d:o.data=.fields #[.ref a,.int 0 0]):IsIt t j a 0 h:=by
 cases t with
 |true=>exact(show h.IsTupleIter j a 0 from⟨o,e,c,d⟩)
 |false=>exact(show h.IsListIter j a 0 from⟨o,e,c,d⟩)
theorem y06{u:Bool}{b:Addr}{xs:Array Value}{Q:Value->Shared->Prop}(g1:IsSq t a xs s.heap)(g2:IsSq u b ys s.heap)
  (h:∀h',IsZip h' (s.heap.objs.size+4) (s.heap.objs.size+2) (s.heap.objs.size+3) .none->IsPair h' (s.heap.objs.size+2) (.ref s.heap.objs.size) (.ref (s.heap.objs.size+1)) ->
   IsPair h' (s.heap.objs.size+3) .none .none->IsIt t s.heap.objs.size a 0 h'->IsIt u (s.heap.objs.size+1) b 0 h'->(∀c o,s.heap.get? c=some o->h'.get? c=some o)->Q (.ref (s.heap.objs.size+4)) {s with heap:=h'}):
  wpAny (model prog w) A (call (.type "zip") [.ref a,.ref b]) Q E s:=by
 refine callType_new F.called_zip (by decide) (F.typeCall_zip_2 _ _) (F.newCall_zip_2 _ _) (fun obj=>F.args_object_init_3 obj _ _) F.entry_zip_new (z2r t u a b xs ys) ⟨g1,g2,?_⟩
 have n1:(zq1 t s.heap a).objs.size=s.heap.objs.size+1:=Heap.size_push ..;have n2:(zq2 t u s.heap a b).objs.size=s.heap.objs.size+2:=by rw[Heap.size_push,n1]
 have n3:(zq3 t u s.heap a b).objs.size=s.heap.objs.size+3:=by rw[Heap.size_push,n2]
 have n4:(zq4 t u s.heap a b).objs.size=s.heap.objs.size+4:=by rw[Heap.size_push,n3]
 have k5:(zq5 t u s.heap a b).get? (zq4 t u s.heap a b).objs.size=some _:=Heap.get?_push_size _ rfl;have k4:(zq5 t u s.heap a b).get? (zq3 t u s.heap a b).objs.size=some _:=Heap.get?_push_of_some _ (Heap.get?_push_size _ rfl);have k3:(zq5 t u s.heap a b).get? (zq2 t u s.heap a b).objs.size=some _:=Heap.get?_push_of_some _ (Heap.get?_push_of_some _ (Heap.get?_push_size _ rfl));have k2:(zq5 t u s.heap a b).get? (zq1 t s.heap a).objs.size=some _:=Heap.get?_push_of_some _ (Heap.get?_push_of_some _ (Heap.get?_push_of_some _ (Heap.get?_push_size _ rfl)));have k1:(zq5 t u s.heap a b).get? s.heap.objs.size=some _:=Heap.get?_push_of_some _ (Heap.get?_push_of_some _ (Heap.get?_push_of_some _ (Heap.get?_push_of_some _ (Heap.get?_push_size _ rfl))));have up:∀c o,s.heap.get? c=some o->(zq5 t u s.heap a b).get? c=some o:=fun c o e=>Heap.get?_push_of_some _ (Heap.get?_push_of_some _ (Heap.get?_push_of_some _ (Heap.get?_push_of_some _ (Heap.get?_push_of_some _ e))))
 show _/\_;rw[n2,n3,n4]at k5;rw[n1,n2]at k3;rw[n3]at k4;rw[n1]at k2;rw[n4];exact⟨⟨_,k5,rfl⟩,h _ k5 k3 k4 (x44 k1 rfl rfl) (x44 k2 rfl rfl) up⟩
end
section
variable{e1 e2:Expr}{pt:Pos}
def SqG(K:Fg)(t:Bool)(H:Hp)(a:Addr)(xs:List V):Prop:=if t=true then SqT K H a xs else SqL K H a xs
theorem q65(I:Inv X pins σ H s)(h:SqG X.K t H a xs):∃its:List Value,Vals xs its/\IsSq t a its.toArray s.heap:=by
 cases t with
 |true=>
  obtain⟨its,r,p,_⟩:=I.tuple h;exact⟨its,r,(show s.heap.IsTuple a its.toArray from p)⟩
 |false=>
  obtain⟨its,r,p,_⟩:=I.list h;exact⟨its,r,p.isList⟩
theorem y07{ys:List V}(I:Inv X pins σ H s)(h:SqG X.K t H a xs)(h':SqG X.K t H a ys):xs=ys:=by
 cases t with
 |true=>exact I.tuple_inj h h'
 |false=>exact I.list_inj h h'
theorem IsSq.obj{h:Heap}(x:IsSq t a vs h):∃o,h.get? a=some o/\o.cls=.type (if t=true then "tuple" else "list"):=by
 cases t with
 |true=>obtain⟨o,ho,c,_⟩:=(show h.IsTuple a vs from x);exact⟨o,ho,c⟩
 |false=>obtain⟨o,ho,c,_⟩:=(show h.IsList a vs from x);exact⟨o,ho,c⟩
theorem x6m{t':Nat}{fp:List Addr}(I:Inv X pins σ H s)(k:∀b o,b∉fp->s.heap.get? b=some o->h'.get? b=some o)(hf:∀b∈fp,FpOk X pins H b):Inv X pins σ H {s with heap:=h',toks:=t'}:=by
 have nfp:∀c u,H c=some u->c∉fp:=fun c u e z=>by rw[(hf c z).1]at e;cases e
 refine I.step (g':=s.gens) (d':=s.drawn) (ch:=fp) (fun c hc=>?_) (fun c o _ _ hc e _=>k c o hc e) (fun c o _ _ hc e _=>⟨o.slots,k c o hc e⟩) (fun c o _ e n=>n)
  (fun c o hc e=>⟨o,k c o hc e⟩) (fun c xs e=>e) (fun c o u e=>e) (fun c ps e=>⟨#[],by rw[e];simp⟩) (fun m hm=>?_) (fun c u e=>?_) I.bare
 ·obtain⟨f0,f1,f2,f3,f4,f5⟩:=hf c hc;exact⟨f3,f1,f4,f5⟩
 ·obtain⟨o,es,ep,ho,r⟩:=hm;exact⟨o,es,ep,k _ o (fun z=>(hf _ z).2.1 rfl) ho,r⟩
 ·refine(I.hok c u e).stay (fun d v hd q=>k d v ?_ q) (fun d q=>q) fun d xs _ q=>q
  rcases hd with z|z
  ·rw[z];exact nfp c u e
  ·exact nfp d _ z
def Itz(K:Fg)(t u:Bool)(a b:Addr):It:=
  ⟨fun i H=>∃xs ys x y,SqG K t H a xs/\SqG K u H b ys/\xs[i]?=some x/\ys[i]?=some y,
   fun i H v H'=>∃c x y,v=.ref c/\H c=none/\(∀xs,SqG K t H a xs->xs[i]?=some x)/\(∀ys,SqG K u H b ys->ys[i]?=some y)/\H'=upd H c (.tup [x,y]),
   fun i H=>∃xs ys,SqG K t H a xs/\SqG K u H b ys/\(xs.length<=i\/ys.length<=i)⟩
theorem y4b{w:World}(t u:Bool)(a b z I O i j:Addr)(D:Apart z I O i j a b):
  Turn P w K (.Tuple elts kt pt) (Itz K t u a b) [z,I,O,i,j] z (fun k h=>IsZip h z I O .none/\IsPair h I (.ref i) (.ref j)/\(∃p q,IsPair h O p q)/\IsIt t i a k h/\IsIt u j b k h) where
 mem:=by simp
 obj:=fun k h ⟨s1,s2,⟨p,q,s3⟩,s4,s5⟩ c hc=>by
  simp only[w0j,w1d,or_false]at hc;rcases hc with rfl|rfl|rfl|rfl|rfl
  ·exact⟨_,s1,fun v z=>by cases z⟩
  ·exact⟨_,s2,fun v z=>by cases z⟩
  ·exact⟨_,s3,fun v z=>by cases z⟩
  ·exact s4.obj
  ·exact s5.obj
 keep:=fun k h h' ⟨s1,s2,⟨p,q,s3⟩,s4,s5⟩ f=>⟨f z (by simp) _ s1,f I (by simp) _ s2,⟨p,q,f O (by simp) _ s3⟩,s4.keep fun o e=>f i (by simp) o e,s5.keep fun o e=>f j (by simp) o e⟩
 item:=by
  intro X hP hw hK hc k pins s σ H E Iv hf st hg;subst hP hw hK;obtain⟨s1,s2,⟨p,q,s3⟩,s4,s5⟩:=st;obtain⟨xs,ys,x,y,q1,q2,hx,hy⟩:=hg;obtain⟨is1,r1,p1⟩:=q65 Iv q1;obtain⟨is2,r2,p2⟩:=q65 Iv q2;obtain⟨ux,hux,rux⟩:=r1.get hx;obtain⟨uy,huy,ruy⟩:=r2.get hy;refine y8f D s1 s2 s3 s4 s5 p1 p2 (x:=ux) (y:=uy) (by simpa using hux) (by simpa using huy) fun h1 z1 o1 i1 j1 t1 n1 k1=>⟨_,rfl,?_⟩
  refine wpAny_letOwnedTupleGo_zip z1 fun h2 z2 b2=>?_
  have b2:Heap.SameBut z h1 h2:=b2;have zlt:z<s.heap.objs.size:=Heap.lt_size s1;have hfr:H s.heap.objs.size=none:=Iv.hok.fresh (w0g _);have t2:IsPair h2 s.heap.objs.size ux uy:=(b2.2 _ (w3f zlt)).trans t1;have I1:IsPair h1 I (.ref i) (.ref j):=k1 I _ D.Iz D.IO D.Ii D.Ij s2;refine⟨.ref s.heap.objs.size,upd H s.heap.objs.size (.tup [x,y]),?_,rfl,⟨_,x,y,rfl,hfr,fun xs' h'=>by rw[y07 Iv h' q1];exact hx,fun ys' h'=>by rw[y07 Iv h' q2];exact hy,rfl⟩,⟨z2,(b2.2 _ D.Iz).trans I1,⟨ux,uy,(b2.2 _ D.Oz).trans o1⟩,i1.keep fun o e=>(b2.2 _ D.iz).trans e,j1.keep fun o e=>(b2.2 _ D.jz).trans e⟩,fun c hc=>?_⟩
  ·show L2.Inv X pins σ _ {s with heap:=h2,toks:=s.toks};refine x27 (fp:=[z,I,O,i,j]) Iv (fun c o hc q=>?_) hf (w0g _) ⟨?_,[ux,uy],.cons rux (.cons ruy .nil),⟨_,t2,rfl,?_⟩,⟨_,t2,rfl⟩⟩
   ·simp only[w0j,w1d,or_false,not_or]at hc;exact(b2.2 c hc.1).trans (k1 c o hc.1 hc.2.2.1 hc.2.2.2.1 hc.2.2.2.2 q)
   ·rw[sizeLine_eq];simp
   ·exact⟨_,rfl⟩
  ·have:c≠s.heap.objs.size:=by
    obtain⟨o,q,_⟩:∃o,s.heap.get? c=some o/\True:=by
     simp only[w0j,w1d,or_false]at hc;rcases hc with rfl|rfl|rfl|rfl|rfl
     ·exact⟨_,s1,trivial⟩
     ·exact⟨_,s2,trivial⟩
     ·exact⟨_,s3,trivial⟩
     ·obtain⟨o,e,_⟩:=s4.obj;exact⟨o,e,trivial⟩
     ·obtain⟨o,e,_⟩:=s5.obj;exact⟨o,e,trivial⟩
    exact w0r (Heap.lt_size q)
   rw[q0c this];exact(hf c hc).1
 done:=by
  intro X hP hw hK hc k pins s σ H E Iv hf st hg;subst hP hw hK;obtain⟨s1,s2,⟨p,q,s3⟩,s4,s5⟩:=st;obtain⟨xs,ys,q1,q2,hlen⟩:=hg;obtain⟨is1,r1,p1⟩:=q65 Iv q1;obtain⟨is2,r2,p2⟩:=q65 Iv q2;have l1:=r1.length;have l2:=r2.length;refine y8g (Iv.ok.hd hc) D s1 s2 s3 s4 s5 p1 p2 (by rcases hlen with h|h;left;simp;omega;right;simp;omega) fun h' k1=>⟨rfl,?_⟩
  have hfp:∀c∈[z,I,O,i,j],FpOk X pins H c:=hf;refine x6m (fp:=[z,I,O,i,j]) (t':=s.toks) Iv (fun c o hc q=>?_) hfp
  simp only[w0j,w1d,or_false,not_or]at hc;exact k1 c o hc.1 hc.2.2.1 hc.2.2.2.1 hc.2.2.2.2 q
 self:=fun _ _ _ _ _ ⟨s1,_⟩ h=>wpAny_pyIter_zip s1 h
end
theorem y08(n a b:Nat)(ha:a<n)(hb:b<n):Apart (n+4) (n+2) (n+3) n (n+1) a b where
 Iz:=by show ¬(n+2:Nat)=n+4;omega
 Oz:=by show ¬(n+3:Nat)=n+4;omega
 iz:=by show ¬(n:Nat)=n+4;omega
 jz:=by show ¬(n+1:Nat)=n+4;omega
 IO:=by show ¬(n+2:Nat)=n+3;omega
 Ii:=by show ¬(n+2:Nat)=n;omega
 Ij:=by show ¬(n+2:Nat)=n+1;omega
 Oi:=by show ¬(n+3:Nat)=n;omega
 Oj:=by show ¬(n+3:Nat)=n+1;omega
 ij:=by show ¬(n:Nat)=n+1;omega
 az:=by show ¬(a:Nat)=n+4;omega
 aO:=by show ¬(a:Nat)=n+3;omega
 ai:=by show ¬(a:Nat)=n;omega
 aj:=by show ¬(a:Nat)=n+1;omega
 bz:=by show ¬(b:Nat)=n+4;omega
 bO:=by show ¬(b:Nat)=n+3;omega
 bi:=by show ¬(b:Nat)=n;omega
 bj:=by show ¬(b:Nat)=n+1;omega
section
variable{a1 a2:Expr}{pt:Pos}
def iZip(K:Fg)(ta:TA):TI:=fun σ H R=>ta σ H fun vs H1=>∃t u a b,vs=[.ref a,.ref b]/\(∃xs,SqG K t H1 a xs)/\(∃ys,SqG K u H1 b ys)/\R (Itz K t u a b) H1
theorem z2s{ta:TA}{p:Pos}(hg:Gl X "zip")(hm:X.mg "zip"=none)(ha:PA X [a1,a2] ta)(hs:starEach [a1,a2] X.env=[(false,eval a1 X.env),(false,eval a2 X.env)]:=by rfl)(hs2:starEach [a2] X.env=[(false,eval a2 X.env)]:=by rfl):
  PI X (.Tuple elts kt pt) (.Call (.Name "zip" p) [a1,a2] [] pos) (iZip X.K ta):=by
 intro pins s σ H R I h;refine PyProof.Rows.Call_ (q4f I hg hm PyProof.Rows.boot_zip (PyProof.Rows.callWith_type1 (thn (ha pos pins s σ H _ I h) fun us s1 ⟨vs,H1,I1,r1,q1⟩=>?_) (by rw[hs,hs2]) (by rw[hs2];rfl)))
 obtain⟨t,u,a,b,e,⟨xs,hx⟩,⟨ys,hy⟩,q⟩:=q1;subst e;cases r1 with
 |cons r rr=>
  cases rr with
  |cons r' rr=>
   cases rr;cases r;cases r';obtain⟨is1,v1,p1⟩:=q65 I1 hx;obtain⟨is2,v2,p2⟩:=q65 I1 hy;obtain⟨oa,ea,_⟩:=p1.obj;obtain⟨ob,eb,_⟩:=p2.obj;have la:=Heap.lt_size ea;have lb:=Heap.lt_size eb;refine y06 p1 p2 fun h' z1 i1 o1 k1 k2 up=>?_
   refine wpAny_pyIter_zip z1 ?_
   have D:Apart (s1.heap.objs.size+4) (s1.heap.objs.size+2) (s1.heap.objs.size+3) s1.heap.objs.size (s1.heap.objs.size+1) a b:=by
    have la':(a:Nat)<s1.heap.objs.size:=la;have lb':(b:Nat)<s1.heap.objs.size:=lb;generalize s1.heap.objs.size=n at la' lb';exact y08 n a b la' lb'
   refine⟨s1.heap.objs.size+4,[s1.heap.objs.size+4,s1.heap.objs.size+2,s1.heap.objs.size+3,s1.heap.objs.size,s1.heap.objs.size+1],_,_,H1,rfl,I1.kept (t':=s1.toks) up,y4b t u a b _ _ _ _ _ D,⟨z1,i1,⟨_,_,o1⟩,k1,k2⟩,fun c hc=>?_,q⟩
   simp only[w0j,w1d,or_false]at hc;rcases hc with rfl|rfl|rfl|rfl|rfl<;>exact I1.fpOk (by omega) (I1.hok.fresh (by omega))
def srcZ(dA:Den (List W)):Den (List (W×W)):=fun e=>(dA e).bind fun ws e1=>match ws with
 |[x,y]=>match seqW x,seqW y with
  |some us,some vs=>.ok (us.zip vs) e1
  |_,_=>.no
 |_=>.no
theorem x7r(h:seqW w=some us)(p:Rep K G w v):∃t a xs,v=.ref a/\SqG K t G a xs/\Reps K G us xs:=by
 cases w with
 |tup l=>
  cases h;obtain⟨a,xs,rfl,hq,rp⟩:=p;exact⟨true,a,xs,rfl,hq,rp⟩
 |lst l=>
  cases h;obtain⟨a,xs,rfl,hq,rp⟩:=p;exact⟨false,a,xs,rfl,hq,rp⟩
 |_=>cases h
theorem q13(s:Same G H)(h:SqG K t G a xs):SqG K t H a xs:=by
 cases t with
 |true=>exact s.tup h
 |false=>exact s.seq h
theorem y09{u:Bool}{b:Addr}{vs:List W}{ys:List V}(r1:Reps K G1 us xs)(r2:Reps K G1 vs ys)(h1:SqG K t G1 a xs)(h2:SqG K u G1 b ys):Walk2 K G1 (Itz K t u a b) (us.zip vs):=by
 have l1:=r1.length;have l2:=r2.length;have lz:(us.zip vs).length=min us.length vs.length:=List.length_zip ..;refine⟨fun i G H s s' h=>⟨xs,ys,xs[i]'(by omega),ys[i]'(by omega),q13 s' (q13 s h1),q13 s' (q13 s h2),by simp,by simp⟩,fun i G H x H' s s' hy p q h=>?_,fun i G H s s' h=>⟨xs,ys,q13 s' (q13 s h1),q13 s' (q13 s h2),by omega⟩⟩
 obtain⟨c,x1,y1,rfl,hn,hx1,hy1,rfl⟩:=hy;obtain⟨hu,hv⟩:=w3t.mp h;obtain⟨w1,hw1,pw1⟩:=r1.getV (hx1 xs (q13 s' (q13 s h1)));obtain⟨w2,hw2,pw2⟩:=r2.getV (hy1 ys (q13 s' (q13 s h2)));rw[hu]at hw1;rw[hv]at hw2;cases hw1;cases hw2;exact⟨Grow.hid s' hn _,fun m n σ Q hQ=>⟨c,[x1,y1],rfl,SqT.of q0h,rfl,x1,[y1],rfl,y1,[],rfl,rfl,hQ _ _ (Rep.mono s _ pw1) (Rep.mono s _ pw2)⟩⟩
theorem z2t{p:Pos}(hm:X.mg "zip"=none)(ha:DA Z X EE [a1,a2] dA)(hg:Gl X "zip":=by rfl)(hs:starEach [a1,a2] X.env=[(false,eval a1 X.env),(false,eval a2 X.env)]:=by rfl)(hs2:starEach [a2] X.env=[(false,eval a2 X.env)]:=by rfl):
  DI Z X EE (.Tuple elts kt pt) (.Call (.Name "zip" p) [a1,a2] [] pos) (srcZ dA):=by
 refine PI.mono (z2s hg hm ha hs hs2) ?_;rintro σ H RR ⟨G,e,rel,h⟩;simp only[srcZ,R.holds_bind]at h;refine⟨G,e,rel,h.imp (fun ws e1 h G1 vs H1 r1 s1 p1=>?_) fun _ _ h=>h⟩
 split at h
 ·rename_i w1 w2;split at h
  ·rename_i us ws hu hw;obtain⟨y1,r,rfl,q1,y2,r',rfl,q2,q3⟩:=p1;cases(show r'=[]from q3);obtain⟨t,a,xs,rfl,hx,rx⟩:=x7r hu q1;obtain⟨u,b,ys,rfl,hy,ry⟩:=x7r hw q2;exact⟨t,u,a,b,rfl,⟨xs,q13 r1.sub hx⟩,⟨ys,q13 r1.sub hy⟩,h _ _ _ r1 s1 (y09 rx ry hx hy)⟩
  ·exact h.elim
 ·exact h.elim
end
section
variable{vs:List W}
def srcZW(e:List S):List W->R (List (W×W))
 |[x,y]=>match seqW x,seqW y with
  |some us,some vs=>.ok (us.zip vs) e
  |_,_=>.no
 |_=>.no
theorem z2u:srcZ dA e=(dA e).bind fun ws e1=>srcZW e1 ws:=by
 unfold srcZ;congr 1
theorem y4c:srcZW e [.tup us,.tup vs]=.ok (us.zip vs) e:=rfl
theorem y4d:srcZW e [.lst us,.lst vs]=.ok (us.zip vs) e:=rfl
theorem y4e:srcZW e [.tup us,.lst vs]=.ok (us.zip vs) e:=rfl
theorem y4f:srcZW e [.lst us,.tup vs]=.ok (us.zip vs) e:=rfl
end
def dMut0(i:Nat)(f:List W->List W):List S->SR:=fun e=>match e[i]? with
 |some (.own b ws)=>.nx (e.set i (.own b (f ws)))
 |_=>.no
section
variable{p:Pos}
theorem y4g(i:Nat)(hN:X.N[i]?=some x:=by rfl)(hv:Vis X.env.scope x:=by walk_at "1")(hd:(x==("__debug__":Str))=false:=by decide)(hcd:(x==("__classdict__":Str))=false:=by decide)
  (hbase:attributeBase (.Name x p) "clear" X.env (eval (.Name x p) X.env)=eval (.Name x p) X.env:=by rfl)(hline:(apos.endLine==cpos.line)=true:=by rfl)(hsw:swapsWith (.Call (.Attribute (.Name x p) "clear" apos) [] [] cpos) none pos.line X.env=pure false:=by rfl):
  DS Z X EE (.Expr (.Call (.Attribute (.Name x p) "clear" apos) [] [] cpos) pos) (dMut0 i fun _=>[]):=by
 refine PS.mono (q61 (z0i PySem.F.plainAttrs_list PySem.F.slot_list_clear PySem.F.type_list_clear y22 (pv i hN hv hd hcd) hbase hline) hsw) ?_;rintro D σ H ⟨G,e,rel,h⟩;unfold dMut0 at h;split at h
 ·rename_i b ws he;obtain⟨a,xs,h1,h2,h3,h4,h5⟩:=rel.own he;refine⟨.ref a,h1,.inl ⟨rfl,xs,SqL.of h2⟩,a,xs,rfl,rfl,h2,?_⟩;exact h G σ _ (rel.mut he h1 (ws':=[]) (xs':=[]) rfl) (.refl _)
 ·exact h.elim
end
def mut0K(i:Nat)(f:List W->List W)(e:List S):Option S->SR
 |some (.own b ws)=>.nx (e.set i (.own b (f ws)))
 |_=>.no
theorem y8h{f:List W->List W}:dMut0 i f e=mut0K i f e e[i]?:=by
 unfold dMut0 mut0K;cases e[i]? with
 |none=>rfl
 |some s=>cases s<;>rfl
theorem y4h{f:List W->List W}:mut0K i f e (some (.own b ws))=.nx (e.set i (.own b (f ws))):=rfl
def insI(x:Int):List Int->List Int
 |[]=>[x]
 |y::ys=>if x<=y then x::y::ys else y::insI x ys
def sortI:List Int->List Int
 |[]=>[]
 |x::xs=>insI x (sortI xs)
theorem q8n(x:Int):∀l:List Int,(insI x l).Perm (x::l)
 |[]=>.refl _
 |y::ys=>by
  unfold insI;split
  ·exact .refl _
  ·exact((q8n x ys).cons y).trans (.swap x y ys)
theorem q39:∀l:List Int,(sortI l).Perm l
 |[]=>.refl _
 |x::xs=>(q8n x _).trans ((q39 xs).cons x)
theorem q9n{x:Int}:∀{l:List Int},l.Pairwise (·<=·)->(insI x l).Pairwise (·<=·)
 |[],_=>by simp[insI]
 |y::ys,h=>by
  unfold insI;rw[w1t]at h;split
  ·rename_i hxy;refine w1t.mpr ⟨fun z hz=>?_,w1t.mpr h⟩
   rcases w0j.mp hz with rfl|hz
   ·exact hxy
   ·exact Int.le_trans hxy (h.1 z hz)
  ·rename_i hxy;refine w1t.mpr ⟨fun z hz=>?_,q9n h.2⟩
   rcases w0j.mp ((q8n x ys).mem_iff.mp hz)with rfl|hz
   ·omega
   ·exact h.1 z hz
theorem q8o:∀l:List Int,(sortI l).Pairwise (·<=·)
 |[]=>.nil
 |x::xs=>q9n (q8o xs)
theorem x3y{l l':List Int}(p:l.Perm l')(h:l.Pairwise (·<=·))(h':l'.Pairwise (·<=·)):l=l':=p.eq_of_pairwise (fun a b _ _ h1 h2=>Int.le_antisymm h1 h2) h h'
theorem x45:∀{ys:List Int}{its:List Value},Vals (ys.map V.int) its->PyProof.Rows.IntsAre its ys
 |[],its,h=>by cases h;exact .nil
 |y::ys,its,h=>by
  cases h with
  |cons r t=>
   obtain⟨k,rfl⟩:=r;exact .cons y k (x45 t)
theorem x46:∀{ys:List Int}{its:List Value},PyProof.Rows.IntsAre its ys->Vals (ys.map V.int) its
 |_,_,.nil=>.nil
 |_,_,.cons n t h=>.cons ⟨_,rfl⟩ (x46 h)
theorem x6n:CallR X (.builtin "sorted") (fun xs H Q=>∃p ns,xs=[.ref p]/\SqL X.K H p (ns.map V.int)/\ns.length<64/\∀b,H b=none->Q (.ref b) (upd H b (.lst ((sortI ns).map V.int)))):=by
 intro pins s σ H xs us Q I r h;obtain⟨p,ns,rfl,hq,hn,q⟩:=h;obtain⟨u,rfl,ru⟩:=vals1 r;cases ru;obtain⟨its,rv,pl,hz⟩:=I.list hq;have hlen:=rv.length;rw[w0a]at hlen;refine PyProof.Rows.sorted_ints pl.isList (x45 rv) (by omega) fun out ns' a1 a2 a3=>?_
 have e:ns'=sortI ns:=x3y (a2.trans (q39 ns).symm) a3 (q8o ns);subst e;obtain⟨n,hat⟩:=PyProof.Rows.sortedAll_at s.heap its out;have fr:H (s.heap.objs.size+1)=none:=I.hok.fresh (w3o _);refine⟨.ref (s.heap.objs.size+1),_,I.laid (t':=s.toks) (a:=s.heap.objs.size+1) (o:=.lst ((sortI ns).map V.int)) (fun b ob z=>PyProof.Rows.sortedAll_old z) (w3o _) ?_,rfl,q _ fr⟩
 refine⟨?_,out.toList,n,x46 a1,?_⟩
 ·rw[w0a,(q39 ns).length_eq,sizeLine_eq];omega
 ·rw[hat]
def sorted1:List W->Option W
 |[.lst ws]=>match intsW ws with
  |some ns=>if ns.length<64 then some (.lst ((sortI ns).map .int))else none
  |none=>none
 |_=>none
theorem y1a:OpN K (fun xs H Q=>∃p ns,xs=[.ref p]/\SqL K H p (ns.map V.int)/\ns.length<64/\∀b,H b=none->Q (.ref b) (upd H b (.lst ((sortI ns).map V.int)))) sorted1:=by
 intro G H xs ws w Q s pr hf h;unfold sorted1 at hf;split at hf
 ·rename_i us;obtain⟨y,r,rfl,py,pr⟩:=pr;cases(show r=[]from pr);split at hf
  ·rename_i ns hns;split at hf
   ·rename_i hl;cases hf;obtain⟨a,cs,rfl,hq,rp⟩:=py;have:=x0e hns rp;subst this;refine⟨a,ns,rfl,s.seq hq,hl,fun b hb=>?_⟩
    exact h _ _ _ (Grow.laid s hb _) ⟨b,_,rfl,SqL.of q0h,q8l _⟩
   ·cases hf
  ·cases hf
 ·cases hf
section
variable{e:Expr}{p:Pos}
theorem y1b(hc:X.calm=true)(hm:X.mg "sorted"=none)(ha:DA Z X EE [e] dA)(hg:Gl X "sorted":=by rfl)(he:starEach [e] X.env=(false,eval e X.env)::starEach [] X.env:=by rfl)(hpl:(backTo pos (starEach [] X.env)).any (·.1)=false:=by rfl):DE Z X EE (.Call (.Name "sorted" p) [e] [] pos) (dFn sorted1 dA):=
 x0w x6n y1a PyProof.Rows.Boot.«sorted» hm ha hg (by decide) (by decide) he hpl
end
theorem x7s:∀ns:List Int,intsW (ns.map .int)=some ns
 |[]=>rfl
 |n::ns=>by rw[w0n];show(intsW (ns.map .int)).map (n::·)=_;rw[x7s ns];rfl
theorem x47{ns:List Int}(h:ns.length<64):sorted1 [.lst (ns.map .int)]=some (.lst ((sortI ns).map .int)):=by
 show(match intsW (ns.map .int)with|some ns=>if ns.length<64 then some (W.lst ((sortI ns).map .int))else none|none=>none)=_;rw[x7s];exact if_pos h
def hide1:S->S
 |.own _ ws=>.fr (.lst ws)
 |.dic kvs=>.fr (.dic kvs)
 |.thr us ws vs=>.fr (.tup (us++.lst ws::vs))
 |.nest wss=>.fr (.lst (wss.map W.lst))
 |.x (.old w)=>.fr w
 |.x (.new w)=>.fr w
 |.x (.acc ws)=>.fr (.lst ws)
 |.x (.thro us ws vs)=>.fr (.tup (us++.lst ws::vs))
 |.x (.tn us wss)=>.fr (.tup (us++[.lst (wss.map W.lst)]))
 |.x (.pt _ _ _)=>.no
 |.x (.fz w)=>.fr w
 |.x (.fzo w)=>.fr w
 |.dw sh ks ws=>.fr (.dw false sh ks ws)
 |s=>s
theorem NestIn.reps{G':Hp}(sg:Same G G')(hf:∀l o ys,FzAt Z G H l o ys->G' l=some (.frz o (.lst ys))):∀{ls:List Addr}{wss:List (List W)},NestIn K Z G H ls wss->Reps K G' (wss.map W.lst) (ls.map V.ref)
 |[],[],_=>rfl
 |l::ls,ws::wss,⟨⟨o,ys,h1,h4⟩,h⟩=>⟨.ref l,ls.map V.ref,rfl,⟨l,ys,rfl,.inl (.inr ⟨o,hf l o ys h1⟩),Reps.mono sg ws h4⟩,h.reps sg hf⟩
 |[],_::_,h=>h.elim
 |_::_,[],h=>h.elim
def hideS(e:List S):List S:=e.map hide1
def borrowR(e:List S):R W->R W
 |.ok w _=>if scalW w=true then .ok w e else .no
 |.ex c _=>.ex c e
 |.no=>.no
def dBorrow(d:Den W):Den W:=fun e=>borrowR e (d (hideS e))
def borrowT(e:List S):R Bool->R Bool
 |.ok b _=>.ok b e
 |.ex c _=>.ex c e
 |.no=>.no
def dBorrowT(d:Den Bool):Den Bool:=fun e=>borrowT e (d (hideS e))
theorem Rel.hide(r:Rel K Z G σ H e):Rel K ⟨H,H,[]⟩ H σ H (hideS e):=by
 have g:∀(i:Nat)(s:S),(hideS e)[i]?=some s->∃s0,e[i]?=some s0/\s=hide1 s0:=fun i s h=>by
  unfold hideS at h;rw[w0v]at h;obtain⟨s0,h1,h2⟩:=w0l.mp h;exact⟨s0,h1,h2.symm⟩
 refine⟨.refl _,fun i s h=>?_,by unfold hideS;rw[w0a];exact r.len,fun i j b b' ws ws' a h1 _ _ _=>?_,fun a o h _=>h,(fun a h=>nomatch h),fun a _=>rfl⟩
 ·obtain⟨s0,h0,rfl⟩:=g i s h;have q:=r.slot i s0 h0;cases s0 with
  |no=>trivial
  |fr w=>
   obtain⟨u,q1,q2⟩:=q;exact⟨u,q1,Rep.mono r.sub w q2⟩
  |own b ws=>
   obtain⟨a,xs,q1,q2,q3,q4,q5⟩:=q;exact⟨.ref a,q1,a,xs,rfl,SqL.of q2,Reps.mono r.sub ws q5⟩
  |dic kvs=>
   obtain⟨a,q1,q2,_⟩:=q;exact⟨.ref a,q1,a,rfl,q2⟩
  |thr us ws vs=>
   obtain⟨t,l,o,xs,ys,zs,q1,q2,q3,_,_,q6,q7,q8⟩:=q;exact⟨.ref t,q1,t,_,rfl,SqT.of (r.sub _ _ q2),(Reps.mono r.sub us q6).append ⟨.ref l,zs,rfl,⟨l,ys,rfl,.inl (.inr ⟨o,q3⟩),Reps.mono r.sub ws q7⟩,Reps.mono r.sub vs q8⟩⟩
  |nest wss=>
   obtain⟨a,ls,q1,q2,_,q4⟩:=q;exact⟨.ref a,q1,a,_,rfl,SqL.of (r.sub _ _ q2),q4.reps r.sub fun l o ys z=>z.1⟩
  |x k=>
   cases k with
   |old w=>obtain⟨u,q1,_,q2⟩:=q;exact⟨u,q1,Rep.mono r.sub w q2⟩
   |new w=>obtain⟨u,q1,q2⟩:=q;exact⟨u,q1,Rep.mono r.sub w (RepN.rep w q2)⟩
   |acc ws=>obtain⟨a,o,xs,q1,q2,q3⟩:=q;exact⟨.ref a,q1,a,xs,rfl,.inl (.inr ⟨o,q2.1⟩),Reps.mono r.sub ws (RepNs.reps ws q3)⟩
   |thro us ws vs=>
    obtain⟨t,l,o,xs,ys,zs,q1,_,q2,q3,_,q6,q7,q8⟩:=q;exact⟨.ref t,q1,t,_,rfl,SqT.of (r.sub _ _ q2),(Reps.mono r.sub us q6).append ⟨.ref l,zs,rfl,⟨l,ys,rfl,.inl (.inr ⟨o,q3.1⟩),Reps.mono r.sub ws q7⟩,Reps.mono r.sub vs q8⟩⟩
   |tn us wss=>
    obtain⟨t,l,o,ls,xs,q1,q2,q3,_,q5,q6⟩:=q;exact⟨.ref t,q1,t,_,rfl,SqT.of (r.sub _ _ q2),(Reps.mono r.sub us q5).append ⟨.ref l,[],rfl,⟨l,_,rfl,.inl (.inr ⟨o,q3.1⟩),q6.reps r.sub fun l o ys z=>z.1⟩,rfl⟩⟩
   |pt _ _ _=>trivial
   |fz w=>obtain⟨u,as,q1,_,q3⟩:=q;exact⟨u,q1,RepF.rep r.sub (fun l o ys z=>z.1) w q3⟩
   |fzo w=>obtain⟨u,as,q1,_,_,q3⟩:=q;exact⟨u,q1,RepF.rep r.sub (fun l o ys z=>z.1) w q3⟩
  |dw sh ks ws=>
   obtain⟨a,kvs,kas,q1,q2,_,_,q5,q6,q7⟩:=q;exact⟨.ref a,q1,a,kvs,kas,rfl,q2,q5,q6.mono r.sub,Reps.mono r.sub ws q7⟩
 ·obtain⟨s0,_,h2⟩:=g i _ h1;cases s0 with
  |x k=>cases k<;>cases h2
  |_=>cases h2
theorem Rel.back{G2 H2:Hp}{e2:List S}(r:Rel K Z G σ H e)(r2:Rel K ⟨H,H,[]⟩ G2 σ H2 e2):Rel K Z G σ H2 e:=by
 have hh:Same H H2:=fun a o h=>r2.ent a o h (fun z=>nomatch z)
 exact r.grow ⟨hh,.refl _,fun a o h=>hh a o (r.sub a o h),fun _ _=>rfl⟩
theorem y4i{G':Hp}(h:scalW w=true)(p:Rep K G w v):Rep K G' w v:=by
 cases w with
 |non=>exact p
 |bl b=>exact p
 |int b=>exact p
 |str b=>exact p
 |_=>cases h
section
variable{e:Expr}
theorem q6k(he:∀Z',DE Z' X EE e d):DE Z X EE e (dBorrow d):=by
 intro pins s σ H Q I hq;obtain⟨G,e0,rel,h⟩:=hq;refine he ⟨H,H,[]⟩ pins s σ H Q I ⟨H,hideS e0,rel.hide,?_⟩;unfold dBorrow borrowR at h;cases q:d (hideS e0)with
 |ok w e2=>
  rw[q]at h;dsimp only at h;split at h
  ·rename_i hs;intro G2 v H2 r2 s2 p;exact h G v H2 (rel.back r2) (.refl _) (y4i hs p)
  ·exact h.elim
 |ex k e2=>
  rw[q]at h;intro G2 H2 r2 s2;exact h G H2 (rel.back r2) (.refl _)
 |no=>rw[q]at h;exact h.elim
theorem x28(he:∀Z',DT Z' X EE e c):DT Z X EE e (dBorrowT c):=by
 intro pins s σ H Q I hq;obtain⟨G,e0,rel,h⟩:=hq;refine he ⟨H,H,[]⟩ pins s σ H Q I ⟨H,hideS e0,rel.hide,?_⟩;unfold dBorrowT borrowT at h;cases q:c (hideS e0)with
 |ok w e2=>
  rw[q]at h;intro G2 H2 r2 s2;exact h G H2 (rel.back r2) (.refl _)
 |ex k e2=>
  rw[q]at h;intro G2 H2 r2 s2;exact h G H2 (rel.back r2) (.refl _)
 |no=>rw[q]at h;exact h.elim
end
section
variable{e':List S}{v:Value}{k:Bool}{s:S}{p:Prop} [Decidable p]
theorem y1c:dBorrow d e=borrowR e (d (hideS e)):=rfl
theorem x80{d:Den Bool}:dBorrowT d e=borrowT e (d (hideS e)):=rfl
theorem y1d:borrowR e (.ok w e')=if scalW w=true then .ok w e else .no:=rfl
theorem y1e:borrowR e (.ex v e')=.ex v e:=rfl
theorem x81:borrowT e (.ok k e')=.ok k e:=rfl
theorem x82:borrowT e (.ex v e')=.ex v e:=rfl
theorem x83{x y:R W}:borrowR e (if p then x else y)=if p then borrowR e x else borrowR e y:=by split<;>rfl
theorem x6o{x y:R Bool}:borrowT e (if p then x else y)=if p then borrowT e x else borrowT e y:=by split<;>rfl
theorem y4j:hideS []=[]:=rfl
theorem y1f:hideS (s::e)=hide1 s::hideS e:=rfl
theorem y4k:hide1 (.own b ws)=.fr (.lst ws):=rfl
theorem y8i:hide1 (.fr w)=.fr w:=rfl
theorem y8j:hide1 .no=.no:=rfl
end
end D
namespace L2
open PySem PySem.Spec PyProof.Rows
structure FlyA(outer:List Env)(H H':Hp)(h h':Heap)(e:Addr)(cls:Value)(B:Heap):Prop where
 stay:B.StaysIn h'
 bare:B.get? e=none
 ff:h'.FunFrames B outer
 tr:∃a0 fl,h'.TracedAtW B e cls a0 fl
 old:∀b o,h.get? b=some o->H b=none->b∉frs outer->B.get? b=some o
 trk:∀b u o,H' b=some u->h'.get? b=some o->B.get? b=some o
 all:∀b o,h.get? b=some o->b∈frs outer\/∃o',B.get? b=some o'
 new:h.get? e=none
end L2
namespace D
open PySem L2
variable{e:List S}
def compX(c:Den Bool)(d:Den W)(pe:List S):List W->Option (Value ⊕ List W)
 |[]=>some (.inr [])
 |w::ws=>match c (.fr w::pe)with
  |.ok true e1=>match d e1 with
   |.ok y _=>(compX c d pe ws).map (Sum.map id (y::·))
   |.ex k _=>some (.inl k)
   |.no=>none
  |.ok false _=>compX c d pe ws
  |.ex k _=>some (.inl k)
  |.no=>none
def compXR(e:List S):Option (Value ⊕ List W)->R (List W)
 |some (.inr out)=>.ok out e
 |some (.inl k)=>.ex k e
 |none=>.no
def compKX(js:List Nat)(c:Den Bool)(d:Den W)(ws:List W)(e1:List S):R (List W):=
 if ws.length<=16777216 then compXR (frzs js e1) (compX c d (pjS js (frzs js e1)) ws)else .no
theorem y4l{js:List Nat}{cc:Den Bool}{d:Den W}{ws:List W}:compKX js cc d ws e=if ws.length<=16777216 then compXR (frzs js e) (compX cc d (pjS js (frzs js e)) ws)else .no:=rfl
theorem y1g{out:List W}:compXR e (some (.inr out))=.ok out e:=rfl
theorem y1h{k:Value}:compXR e (some (.inl k))=.ex k e:=rfl
section
variable{X:Cx}{Z:Zt}{EE:L2.St->XK}{elt iter a b:Expr}{ifs:List Expr}{scope sc:Scope}{pos pt:Pos}{x:Str}{Nf N:List Str}{js:List Nat}{di:Den W}{dA:Den (List W)}{c:Den Bool}{d:Den W}
theorem z2v{ws:List W}{P:List W->List S->Prop}{Ex:Value->List S->Prop}{e1:List S}(h:(compKX js c d ws e1).holds P Ex):ws.length<=16777216/\∃out,compX c d (pjS js (frzs js e1)) ws=some out/\Sum.elim (fun k=>Ex k (frzs js e1)) (fun o=>P o (frzs js e1)) out:=by
 unfold compKX at h;split at h
 ·rename_i hl;cases ho:compX c d (pjS js (frzs js e1)) ws with
  |none=>rw[ho]at h;exact h.elim
  |some out=>rw[ho]at h;exact⟨hl,out,rfl,by cases out<;>exact h⟩
 ·exact h.elim
end
end D
namespace L2
open PySem PySem.Spec PyProof.Rows
variable{A:Around}{prog:Program}{s:Shared}{E:Value->Shared->Prop}{w:World}
def Rise(t:SetTable):Prop:=t.place.toList.Pairwise (·<·)/\t.dummies=#[]
def valI:Value->Int
 |.int n _=>n
 |_=>0
structure SetData(prog:Program)(w:World)(es:Array (Int×Value))(t:SetTable)(S:List Int):Prop where
 el:ElemsOf (intKind prog w) es.toList
 sz:es.size<scanBound
 fit:t.fits es.size=true
 rise:Rise t
 led:t.led=!w.params.followText "set-order"
 whole:∀e∈es.toList,∃n k,e.2=Value.int n k
 perm:(es.toList.map fun e=>valI e.2).Perm S
namespace SI
theorem own:Manifest.owners.lookup (String.ofList ['r','o','t','a','r','e','t','i','_','t','e','s'].reverse)=some Manifest.sig_set_iterator:=by kernel_rfl
theorem next:Slot "set_iterator" "__next__" "set_iterator.__next__":=.of (owner:="set_iterator") (n:="__next__") (by rw[typeLookup_type,builtinLookup_eq_fast];kernel_rfl) (by decide +kernel) (by decide +kernel) (by decide +kernel) (by first|exact .inl (by decide +kernel)|exact .inr (by decide +kernel)) (by rw[isSubtype_type];kernel_rfl)
theorem iter:Slot "set_iterator" "__iter__" "set_iterator.__iter__":=.of (owner:="set_iterator") (n:="__iter__") (by rw[typeLookup_type,builtinLookup_eq_fast];kernel_rfl) (by decide +kernel) (by decide +kernel) (by decide +kernel) (by first|exact .inl (by decide +kernel)|exact .inr (by decide +kernel)) (by rw[isSubtype_type];kernel_rfl)
end SI
open PySem PySem.Spec PyProof.Rows
end L2
namespace D
open PySem L2
variable{X:Cx}{dA:Den (List W)}{a e:Expr}{EE:L2.St->XK}{p pos:Pos}{Z:Zt}
theorem y4m(hc:X.calm=true):CallR X (.builtin "any") (fun xs H Q=>∃p ys,xs=[.ref p]/\SqL X.K H p ys/\(∀y∈ys,∃b,y=.bl b)/\Q (.bl (ys.any fun y=>decide (y=.bl true))) H):=by
 intro pins s σ H xs us Q I r h;obtain⟨p,ys,rfl,hq,hb,q⟩:=h;obtain⟨u,rfl,rx⟩:=vals1 r;cases rx;obtain⟨its,r',pl,hz⟩:=I.list hq;have hl:=pl.isList;have hlt:p<s.heap.objs.size:=by obtain⟨_,e,_⟩:=hl;exact Heap.lt_size e
 have hh:X.A.in1.handled=none:=I.ok.hd hc;refine call_any_walk (wpAny_pyIter_list hl ⟨s.heap.objs.size,[s.heap.objs.size,p],[s.heap.objs.size],_,_,_,fun i=>decide (ys[i]?=some (.bl true)),rfl,Walks.list hh s.heap.objs.size p (w0r hlt) its.toArray,⟨⟨_,Heap.get?_push_size _ rfl,rfl,rfl⟩,hl.push _⟩,?_,fun h' tk kp=>?_⟩)
 ·intro i v s1 Q1 E1 hv hQ;have hv':its[i]?=some v:=by simpa using hv
  have hi:i<ys.length:=by rw[r'.length];exact(w0c.mp hv').1
  obtain⟨u,hu,ru⟩:=r'.get (w0b hi);rw[hv']at hu;cases hu;obtain⟨b,eb⟩:=hb ys[i] (w1w hi);rw[eb]at ru;cases ru;refine wpAny_truthy_bool ?_
  have e:decide (ys[i]?=some (V.bl true))=b:=by
   rw[w0b hi,eb];cases b<;>simp
  rw[<- e];exact hQ
 ·have e:(List.range its.toArray.size).any (fun i=>decide (ys[i]?=some (V.bl true)))=ys.any fun y=>decide (y=.bl true):=by
   rw[w1i,w1x,w1x];constructor
   ·rintro⟨i,hi,z⟩;rw[w0x,w0d,<- r'.length]at hi;rw[w0b hi]at z;exact⟨ys[i],w1w hi,by simpa using z⟩
   ·rintro⟨y,hy,z⟩;obtain⟨i,hi,rfl⟩:=w4s hy;exact⟨i,by rw[w0x,w0d,<- r'.length];exact hi,by rw[w0b hi];simpa using z⟩
  refine⟨.bl _,H,I.kept (t':=tk) fun b o hbo=>kp b o (fun z=>?_) (Heap.get?_push_of_some _ hbo),rfl,e ▸ q⟩
  rw[w1g]at z;exact absurd (Heap.lt_size hbo) (by rw[z];exact w2f _)
def any1:List W->Option W
 |[.lst ws]=>(boolsW ws).map fun bs=>.bl (bs.any id)
 |_=>none
theorem z2w{K:Fg}:OpN K (fun xs H Q=>∃p ys,xs=[.ref p]/\SqL K H p ys/\(∀y∈ys,∃b,y=.bl b)/\Q (.bl (ys.any fun y=>decide (y=.bl true))) H) any1:=by
 intro G H xs ws w Q s pr hf h;unfold any1 at hf;split at hf
 ·obtain⟨bs,hb,rfl⟩:=w0l.mp hf;have:=q7i hb;subst this;obtain⟨x,r,rfl,px,pr⟩:=pr;cases(show r=[]from pr);obtain⟨a,ys,rfl,ha,ra⟩:=px;have:=q7j ra;subst this;refine⟨a,_,rfl,s.seq ha,fun y hy=>?_,h G _ H (.refl s) ?_⟩
  ·obtain⟨b,_,rfl⟩:=w1f.mp hy;exact⟨b,rfl⟩
  ·show V.bl _=V.bl _;congr 1;rw[w5i];congr 1;funext b
   cases b<;>rfl
 ·cases hf
theorem y1i(hc:X.calm=true)(hm:X.mg "any"=none)(ha:DA Z X EE [e] dA)(hg:Gl X "any":=by rfl)(he:starEach [e] X.env=(false,eval e X.env)::starEach [] X.env:=by rfl)(hpl:(backTo pos (starEach [] X.env)).any (·.1)=false:=by rfl):DE Z X EE (.Call (.Name "any" p) [e] [] pos) (dFn any1 dA):=
 x0w (y4m hc) z2w PyProof.Rows.Boot.«any» hm ha hg (by decide) (by decide) he hpl
theorem z44{bs:List Bool}:any1 [.lst (bs.map .bl)]=some (.bl (bs.any id)):=by
 show(boolsW (bs.map .bl)).map _=_;rw[q8m];rfl
def rCat0(K:Fg):R2:=fun x y H Q=>∃a b ys,x=.ref a/\y=.ref b/\SqT K H a []/\SqT K H b ys/\Q (.ref b) H
open PyProof.Rows in
theorem op_cat0:OpR X (binaryOp .Add) (rCat0 X.K):=by
 intro pins s σ H x y v u Q I rx ry h;obtain⟨a,b,ys,rfl,rfl,ha,hb,q⟩:=h;cases rx;cases ry;obtain⟨its,r1,p1,_⟩:=I.tuple ha;obtain⟨its2,r2,p2,_⟩:=I.tuple hb;cases r1;obtain⟨⟨cls,dd,data,sl⟩,ho,hc,n,hd⟩:=id p1;obtain⟨⟨cls2,dd2,data2,sl2⟩,ho2,hc2,n2,hd2⟩:=id p2;simp only at hc hd hc2 hd2;subst hc hd hc2 hd2;exact concat_meets ⟨_,ho,rfl⟩ ⟨_,ho2,rfl⟩ noFill_tuple_add seq_tuple_add PySem.F.slot_tuple_add PySem.F.entry_tuple_add (PySem.F.args_tuple_add_2 _ _) (tuple_addW0 a b _ _ n n2 dd dd2 sl sl2 rfl) ⟨ho,ho2,.ref b,H,I,rfl,q⟩
def addX:W->W->Option W
 |.tup xs,.tup ys=>if xs.length+ys.length<=16777216 then some (.tup (xs++ys))else none
 |x,y=>addW x y
theorem y8k{xs ys:List W}:addX (.tup xs) (.tup ys)=if xs.length+ys.length<=16777216 then some (.tup (xs++ys))else none:=rfl
theorem y8l{i j:Int}:addX (.int i) (.int j)=some (.int (i+j)):=rfl
theorem y8m{xs ys:List W}:addX (.lst xs) (.lst ys)=if xs.length+ys.length<=16777216 then some (.lst (xs++ys))else none:=rfl
theorem y8n{x y:Str}:addX (.str x) (.str y)=if x.length+y.length<=16777216 then some (.str (x++y))else none:=rfl
theorem y8o{K:Fg}:Op2 K (fun x y H Q=>rCat0 K x y H Q\/(rI0 (fun i j=>.int (i+j)) x y H Q\/((∃i j,x=.str i/\y=.str j/\i.length+j.length<=sizeLine/\Q (.str (i++j)) H)\/(rCatT K x y H Q\/rCatS K x y H Q)))) addX:=by
 intro G H x y wx wy w Q s px py hf h;unfold addX at hf;split at hf
 ·rename_i xs ys;split at hf
  ·rename_i hl
   by_cases h0:xs=[]
   ·subst h0;cases hf;obtain⟨a,vs,rfl,hq,rp⟩:=px;obtain⟨b,us,rfl,hq2,rp2⟩:=py;cases(show vs=[]from rp);exact .inl ⟨a,b,us,rfl,rfl,s.tup hq,s.tup hq2,h G _ H (.refl s) ⟨b,us,rfl,hq2,rp2⟩⟩
   ·exact .inr (x99 G H x y (.tup xs) (.tup ys) w Q s px py (by show(if xs≠[]/\xs.length+ys.length<=16777216 then some (W.tup (xs++ys))else none)=some w;rw[if_pos ⟨h0,hl⟩];exact hf) h)
  ·cases hf
 ·exact .inr (x99 G H x y _ _ w Q s px py hf h)
section
variable{b:Expr}{da db:Den W}
theorem q0y(ha:DE Z X EE a da)(hb:DE Z X EE b db):DE Z X EE (.BinOp a .Add b pos) (dOp addX da db):=q85 (op_cat0.or (op_add.or (op_add_str.or (op_catT.or y6x)))) y8o ha hb
end
def minL:Int->List Int->Int
 |x,[]=>x
 |x,y::ys=>minL (if y<x then y else x) ys
open PySem L2 PySem.Spec PyProof.Rows
end D
namespace L2
open PySem PySem.Spec PyProof.Rows
section
variable{X:Cx}{pins:List (Addr×Obj)}{σ:St}{H:Hp}{s:Shared}{a:Addr}{o:Obj}{kvs:List (Key×V)}
theorem Inv.swapAt{u u':HO}(I:Inv X pins σ H s)(e:H a=some u)(ht:¬TupLike u)(hb:∀ps,u≠.tbl ps)(hf:∀o v,X.H₀ a≠some (.frz o v))(hw:∀x,u≠.own x)(ok:HOk X.prog X.w H s.heap->ObjOk X.prog X.w (upd H a u') s.heap a u'):Inv X pins σ (upd H a u') s:=by
 have up:∀b,H b=none->upd H a u' b=none:=fun b n=>by
  rw[q0c (fun z=>by subst z;rw[e]at n;cases n)];exact n
 refine⟨I.ok,I.os,I.bare,⟨I.base.keep,I.base.slot,fun b ob q n hx=>up b (I.base.free b ob q n hx),I.base.there,fun b xs q=>?_,fun b ob v q=>?_,fun b ps q=>?_⟩,I.loc,I.cell,up _ I.free,fun x c q=>up c (I.freeC x c q),fun p hp=>?_,fun b v q=>?_,I.len⟩
 ·have z:=I.base.tups b xs q
  by_cases hb':b=a
  ·subst hb';rw[e]at z;exact absurd (show TupLike u by rw[Option.some.inj z];exact True.intro) ht
  ·rw[q0c hb'];exact z
 ·by_cases hb':b=a
  ·subst hb';exact absurd q (hf ob v)
  ·rw[q0c hb'];exact I.base.frzs b ob v q
 ·obtain⟨more,z⟩:=I.base.tbls b ps q
  by_cases hb':b=a
  ·subst hb';rw[e]at z;exact absurd (Option.some.inj z) (hb _)
  ·exact⟨more,by rw[q0c hb'];exact z⟩
 ·obtain⟨q1,q2,q3⟩:=I.pin p hp;exact⟨q1,up _ q2,q3⟩
 ·by_cases hb':b=a
  ·subst hb';rw[q0h]at q;cases q;exact ok I.hok
  ·rw[q0c hb']at q;refine(I.hok b v q).stay (fun _ _ _ z=>z) (fun c z=>?_) fun c xs tl z=>?_
   ·rw[q0c (fun y=>by subst y;rw[e]at z;exact hw _ (Option.some.inj z))];exact z
   ·rw[q0c (fun y=>by subst y;rw[e]at z;exact ht ((Option.some.inj z) ▸ tl))];exact z
end
section
variable{X:Cx}{pins:List (Addr×Obj)}{σ:St}{H:Hp}{s:Shared}{a:Addr}{o:Obj}{xs:List V}
theorem Inv.freezeL(I:Inv X pins σ H s)(e:H a=some (.lst xs))(q:s.heap.get? a=some o):Inv X pins σ (upd H a (.frz o (.lst xs))) s:=
 I.swapAt e (fun z=>z) (fun _ z=>nomatch z) (fun ob v z=>by have:=I.base.frzs a ob v z;rw[e]at this;cases this) (fun _ z=>nomatch z) fun ok=>⟨q,(ok a _ e).stay (fun _ _ _ z=>z) (fun c z=>by rw[q0c (q03 z e (fun y=>nomatch y))];exact z) fun c xs tl z=>by rw[q0c (q03 z e (fun y=>by subst y;exact tl))];exact z⟩
theorem Inv.meltL(I:Inv X pins σ H s)(e:H a=some (.frz o (.lst xs)))(hf:∀o v,X.H₀ a≠some (.frz o v)):Inv X pins σ (upd H a (.lst xs)) s:=
 I.swapAt e (fun z=>z) (fun _ z=>nomatch z) hf (fun _ z=>nomatch z) fun ok=>(ok a _ e).2.stay (fun _ _ _ z=>z) (fun c z=>by rw[q0c (q03 z e (fun y=>nomatch y))];exact z) fun c xs tl z=>by rw[q0c (q03 z e (fun y=>by subst y;exact tl))];exact z
end
section
variable{X:Cx}
theorem y8p{l:Expr}{tl:TE}(hl:PE X l tl):PE X l (fun σ H Q=>tl σ H fun v H1=>∃a xs,v=.ref a/\H1 a=some (.lst xs)/\∀o,Q v (upd H1 a (.frz o (.lst xs)))):=by
 intro pins s σ H Q I h;refine thn (hl pins s σ H _ I h) fun v s1 ⟨x,H1,I1,r1,q1⟩=>?_
 obtain⟨a,xs,rfl,e,q⟩:=q1;obtain⟨its,_,⟨o,n,g,_⟩,_⟩:=I1.list (SqL.of e);exact⟨.ref a,_,I1.freezeL e g,r1,q o⟩
end
end L2
namespace D
open PySem L2 PySem.Spec PyProof.Rows
open PyProof.Rows (envOfC)
section
variable{P:Program}{w:World}{K:Fg}{mg:Str->Option Value}{base:Heap}
theorem conZ{x:Str}{st:Stmt}{N ps:List Str}{k:Nat}{F:List W->FR}(A:At K mg x st ps)(sc:FnScope N ps (defScope st))(len:∀ws,F ws≠.no->ws.length=ps.length)
  (hb:∀ws,F ws≠.no->∀(f:Addr)(cdv:Value)(A:Around)(outer:List Env)(s:Shared)(H:Hp)(E:XK)(Z:Zt),Room k (A.deeper (envOfC x (defScope st) s.heap.objs.size f cdv))->(Z.H=H/\Z.io=[]) ->
   ∃d,DSs Z (cxOf (CX1 P w) P w K mg base N x (defScope st) f cdv A outer s H E) (fun _=>E) (defBody st) d/\(d (init N.length ws)).fn=F ws):Cal P w K mg base (k+1) x ps (spF K F):=by
 refine A.cal sc (fun vs H Q E h=>?_) (fun f cdv A outer s H vs Q E hr h=>?_)
 ·obtain⟨G,ws,hn,r⟩:=q8k h;rw[r.length];exact len ws hn
 ·obtain⟨G,ws,sg,rp,h⟩:=h;have hn:F ws≠.no:=fun z=>by rw[z]at h;exact h
  obtain⟨d,hd,he⟩:=hb ws hn f cdv A outer s H E ⟨H,G,[]⟩ hr ⟨rfl,rfl⟩;exact⟨_,hd,G,init N.length ws,q54 sg rp,q86 he h⟩
theorem conFZ{x:Str}{st:Stmt}{N ps:List Str}{k:Nat}{F:List W->FR}{f:Addr}{fd:FuncData}(A:Fun K x x st f fd)(sc:FnScope N ps (defScope st))(len:∀ws,F ws≠.no->ws.length=ps.length)
  (hb:∀ws,F ws≠.no->∀(cdv:Value)(A:Around)(outer:List Env)(s:Shared)(H:Hp)(E:XK)(Z:Zt),Room k (A.deeper (PyProof.Rows.envOfC x (defScope st) s.heap.objs.size f cdv))->(Z.H=H/\Z.io=[]) ->
   ∃d,DSs Z (cxOf (CX1 P w) P w K mg base N x (defScope st) f cdv A outer s H E) (fun _=>E) (defBody st) d/\(d (init N.length ws)).fn=F ws):FnOk P w K mg base (CX1 P w) (k+1) f fd ps (spF K F):=by
 refine A.okX sc (fun vs H Q E h=>?_) (fun cdv A outer s H vs Q E hr h=>?_)
 ·obtain⟨G,ws,hn,r⟩:=q8k h;rw[r.length];exact len ws hn
 ·obtain⟨G,ws,sg,rp,h⟩:=h;have hn:F ws≠.no:=fun z=>by rw[z]at h;exact h
  obtain⟨d,hd,he⟩:=hb ws hn cdv A outer s H E ⟨H,G,[]⟩ hr ⟨rfl,rfl⟩;exact⟨_,hd,G,init N.length ws,q54 sg rp,q86 he h⟩
end
section
variable{X:Cx}{Z:Zt}{EE:L2.St->XK}{a b c e:Expr}{es:List Expr}{da db d:Den W}{dF dA:Den (List W)}{x:Str}{pos p tpos:Pos}
theorem Rel.setThr{K:Fg}{G H:Hp}{σ:L2.St}{e:List S}(r:Rel K Z G σ H e){i:Nat}{us ws vs:List W}{v:V}(q:SlotOk K Z G H (.thr us ws vs) (some v)):Rel K Z G (σ.set i (some v)) H (e.set i (.thr us ws vs)):=by
 refine⟨r.sub,fun j s z=>?_,by simpa using r.len,fun j k b1 b2 w1 w2 c z1 z2 z3 z4=>?_,r.ent,r.ion,r.gen⟩
 ·by_cases hj:j=i
  ·subst hj
   have hi:j<e.length:=by
    have:=(w0c.mp z).1;simpa using this
   rw[w0u hi]at z;cases z;rw[w0u (by rw[<- r.len];exact hi)];exact q
  ·rw[w0s (fun z=>hj z.symm)]at z |-
   exact r.slot j s z
 ·have old:∀(k:Nat)(bb:Option Nat)(ww:List W),(e.set i (S.thr us ws vs))[k]?=some (.own bb ww)->k≠i/\e[k]?=some (.own bb ww):=fun k bb ww z=>by
   by_cases hk:k=i
   ·subst hk
    have hi:k<e.length:=by
     have:=(w0c.mp z).1;simpa using this
    rw[w0u hi]at z;cases z
   ·rw[w0s (fun z=>hk z.symm)]at z;exact⟨hk,z⟩
  obtain⟨n1,q1⟩:=old _ _ _ z1;obtain⟨n2,q2⟩:=old _ _ _ z2;rw[w0s (fun z=>n1 z.symm)]at z3
  rw[w0s (fun z=>n2 z.symm)]at z4
  exact r.dis _ _ _ _ _ _ _ q1 q2 z3 z4
def isT:S->Bool
 |.thr _ _ _=>true
 |.nest _=>true
 |.x (.acc _)=>true
 |.x (.thro _ _ _)=>true
 |.x (.tn _ _)=>true
 |.x (.pt _ _ _)=>true
 |.x (.fz _)=>true
 |.x (.fzo _)=>true
 |_=>false
theorem Rel.mutL{K:Fg}{G H:Hp}{σ:L2.St}{e:List S}{l:Addr}{o:Obj}{ys:List V}{u:HO}(r:Rel K Z G σ H e)(hl:H l=some (.frz o (.lst ys)))(hg:G l=none)(hz:Z.H l=none)(hT:∀s∈e,isT s=false):Rel K Z G σ (upd H l u) e:=by
 refine⟨fun c u z=>?_,fun j s z=>?_,r.len,r.dis,fun c u z n=>?_,fun c z=>?_,r.gen⟩
 ·rw[q0c (q0m z hg)];exact r.sub c u z
 ·have y:=r.slot j s z;cases s with
  |no=>trivial
  |fr w=>exact y
  |own b2 w2=>
   obtain⟨c,ys,y1,y2,y3,y4,y5⟩:=y;refine⟨c,ys,y1,?_,y3,y4,y5⟩;rw[q0c (q03 y2 hl (fun z=>nomatch z))];exact y2
  |dic kvs=>
   obtain⟨c,y1,y2,y3,y4⟩:=y;refine⟨c,y1,?_,y3,y4⟩;rw[q0c (q03 y2 hl (q5g rfl))];exact y2
  |thr us ws vs=>have:=hT _ (w0y z);cases this
  |nest _=>have:=hT _ (w0y z);cases this
  |x k=>
   have hk:=hT _ (w0y z);cases k with
   |old _=>exact y
   |new _=>exact y
   |_=>cases hk
  |dw sh ks ws=>exact DwOk.move y (.refl _) fun l o ys k1 k2 k3=>⟨by rw[q0c (q03 k1 hl (q53 rfl))];exact k1,k2,k3⟩
 ·rw[q0c (q0m z hz)];exact r.ent c u z n
 ·by_cases hc:c=l
  ·subst hc;rw[q0h];exact fun z=>nomatch z
  ·rw[q0c hc];exact r.ion c z
end
variable{X:Cx}{σ:L2.St}{EE:L2.St->XK}{e:List S}{K:Fg}{Z:Zt}
mutual
def flatW:W->Bool
 |.non=>true
 |.bl _=>true
 |.int _=>true
 |.str _=>true
 |.tup ws=>flatWs ws
 |_=>false
def flatWs:List W->Bool
 |[]=>true
 |w::ws=>flatW w&&flatWs ws
end
mutual
theorem y4n{K:Fg}{G G':Hp}(hG:∀a xs,SqT K G a xs->SqT K G' a xs):∀(w:W){v:V},flatW w=true->Rep K G w v->Rep K G' w v
 |.non,_,_,p=>p
 |.bl _,_,_,p=>p
 |.int _,_,_,p=>p
 |.str _,_,_,p=>p
 |.tup ws,_,h,⟨a,xs,e,q,r⟩=>⟨a,xs,e,hG _ _ q,q4v hG ws h r⟩
 |.lst _,_,h,_=>by cases h
 |.exc _,_,h,_=>by cases h
 |.dic _,_,h,_=>by cases h
 |.dw _ _ _ _,_,h,_=>by cases h
 |.fn _ _ _,_,h,_=>by cases h
theorem q4v{K:Fg}{G G':Hp}(hG:∀a xs,SqT K G a xs->SqT K G' a xs):∀(ws:List W){vs:List V},flatWs ws=true->Reps K G ws vs->Reps K G' ws vs
 |[],_,_,p=>p
 |w::ws,_,h,⟨x,r,e,p,q⟩=>by
  have h:(flatW w&&flatWs ws)=true:=h;rw[w0o]at h;exact⟨x,r,e,y4n hG w h.1 p,q4v hG ws h.2 q⟩
end
def keepT:HO->Bool
 |.tup _=>true
 |.frz _ (.tup _)=>true
 |_=>false
theorem y4o{sh:Sh}{kvs:List (Kx×V)}{kas:List Addr}:keepT (dwO sh kvs kas)=false:=by unfold dwO;split<;>rfl
def withT0(G G2:Hp):Hp:=fun a=>match G a with
 |some o=>some o
 |none=>match G2 a with
  |some o=>if keepT o=true then some o else none
  |none=>none
def lentG(Z:Zt)(G H:Hp):Hp:=fun a=>match Z.H a with
 |some _=>G a
 |none=>H a
section
variable{e:Expr}{d:Den (List W)}{G H:Hp}{e0:List S}
theorem Rel.lent(r:Rel K Z G σ H e0)(hio:Z.io=[]):Rel K ⟨H,lentG Z G H,[]⟩ (lentG Z G H) σ H (hideS e0):=by
 have sg:Same G (lentG Z G H):=fun a o h=>by
  unfold lentG;cases q:Z.H a with
  |none=>exact r.sub a o h
  |some _=>exact h
 have fresh:∀a o,Z.H a=none->H a=some o->lentG Z G H a=some o:=fun a o h1 h2=>by
  unfold lentG;rw[h1];exact h2
 have g:∀(i:Nat)(s:S),(hideS e0)[i]?=some s->∃s0,e0[i]?=some s0/\s=hide1 s0:=fun i s h=>by
  unfold hideS at h;rw[w0v]at h;obtain⟨s0,h1,h2⟩:=w0l.mp h;exact⟨s0,h1,h2.symm⟩
 refine⟨fun a o h=>?_,fun i s h=>?_,by unfold hideS;rw[w0a];exact r.len,fun i j b b' ws ws' a h1 _ _ _=>?_,fun a o h _=>h,(fun a h=>nomatch h),fun a _=>rfl⟩
 ·unfold lentG at h;cases q:Z.H a with
  |none=>rw[q]at h;exact h
  |some _=>rw[q]at h;exact r.sub a o h
 ·obtain⟨s0,h0,rfl⟩:=g i s h;have q:=r.slot i s0 h0;cases s0 with
  |no=>trivial
  |fr w=>
   obtain⟨u,q1,q2⟩:=q;exact⟨u,q1,Rep.mono sg w q2⟩
  |own b ws=>
   obtain⟨a,xs,q1,q2,q3,q4,q5⟩:=q
   have hz:Z.H a=none:=by
    cases b with
    |none=>exact q4
    |some j=>have q4:a∈Z.io:=w0y q4;rw[hio]at q4;cases q4
   exact⟨.ref a,q1,a,xs,rfl,SqL.of (fresh _ _ hz q2),Reps.mono sg ws q5⟩
  |dic kvs=>
   obtain⟨a,q1,q2,_,q4⟩:=q;exact⟨.ref a,q1,a,rfl,fresh _ _ q4 q2⟩
  |thr us ws vs=>
   obtain⟨t,l,o,xs,ys,zs,q1,q2,q3,_,q5,q6,q7,q8⟩:=q;exact⟨.ref t,q1,t,_,rfl,SqT.of (sg _ _ q2),(Reps.mono sg us q6).append ⟨.ref l,zs,rfl,⟨l,ys,rfl,.inl (.inr ⟨o,fresh _ _ q5 q3⟩),Reps.mono sg ws q7⟩,Reps.mono sg vs q8⟩⟩
  |nest wss=>
   obtain⟨a,ls,q1,q2,_,q4⟩:=q;exact⟨.ref a,q1,a,_,rfl,SqL.of (sg _ _ q2),q4.reps sg fun l o ys z=>fresh _ _ z.2.2 z.1⟩
  |x k=>
   cases k with
   |old w=>obtain⟨u,q1,_,q2⟩:=q;exact⟨u,q1,Rep.mono sg w q2⟩
   |new w=>obtain⟨u,q1,q2⟩:=q;exact⟨u,q1,Rep.mono sg w (RepN.rep w q2)⟩
   |acc ws=>obtain⟨a,o,xs,q1,q2,q3⟩:=q;exact⟨.ref a,q1,a,xs,rfl,.inl (.inr ⟨o,fresh _ _ q2.2.2 q2.1⟩),Reps.mono sg ws (RepNs.reps ws q3)⟩
   |thro us ws vs=>
    obtain⟨t,l,o,xs,ys,zs,q1,_,q2,q3,_,q6,q7,q8⟩:=q;exact⟨.ref t,q1,t,_,rfl,SqT.of (sg _ _ q2),(Reps.mono sg us q6).append ⟨.ref l,zs,rfl,⟨l,ys,rfl,.inl (.inr ⟨o,fresh _ _ q3.2.2 q3.1⟩),Reps.mono sg ws q7⟩,Reps.mono sg vs q8⟩⟩
   |tn us wss=>
    obtain⟨t,l,o,ls,xs,q1,q2,q3,_,q5,q6⟩:=q;exact⟨.ref t,q1,t,_,rfl,SqT.of (sg _ _ q2),(Reps.mono sg us q5).append ⟨.ref l,[],rfl,⟨l,_,rfl,.inl (.inr ⟨o,fresh _ _ q3.2.2 q3.1⟩),q6.reps sg fun l o ys z=>fresh _ _ z.2.2 z.1⟩,rfl⟩⟩
   |pt _ _ _=>trivial
   |fz w=>obtain⟨u,as,q1,_,q3⟩:=q;exact⟨u,q1,RepF.rep sg (fun l o ys z=>fresh _ _ z.2.2 z.1) w q3⟩
   |fzo w=>obtain⟨u,as,q1,_,_,q3⟩:=q;exact⟨u,q1,RepF.rep sg (fun l o ys z=>fresh _ _ z.2.2 z.1) w q3⟩
  |dw sh ks ws=>
   obtain⟨a,kvs,kas,q1,q2,_,q4,q5,q6,q7⟩:=q;exact⟨.ref a,q1,a,kvs,kas,rfl,fresh _ _ q4 q2,q5,q6.mono sg,Reps.mono sg ws q7⟩
 ·obtain⟨s0,_,h2⟩:=g i _ h1;cases s0 with
  |x k=>cases k<;>cases h2
  |_=>cases h2
theorem Rel.unlent{G2 H2:Hp}{e2:List S}(r:Rel K Z G σ H e0)(hio:Z.io=[])(r2:Rel K ⟨H,lentG Z G H,[]⟩ G2 σ H2 e2):Rel K Z (withT0 G G2) σ H2 e0:=by
 have hh:Same H H2:=fun a o h=>r2.ent a o h (fun z=>nomatch z)
 have sg:Same G (withT0 G G2):=fun a o h=>by unfold withT0;rw[h]
 have stay:∀a o,H a=some o->G a=none->keepT o=false->withT0 G G2 a=none:=fun a o h1 h2 h3=>by
  have z:G2 a=lentG Z G H a:=r2.gen a (by show H a≠none;rw[h1];exact fun z=>nomatch z)
  unfold withT0;rw[h2,z];unfold lentG;cases q:Z.H a with
  |none=>simp only[h1,h3];rfl
  |some _=>simp only[h2]
 refine⟨fun a o h=>?_,fun i s h=>?_,r.len,r.dis,fun a o h n=>hh _ _ (r.ent a o h n),fun a h=>(by rw[hio]at h;cases h),fun a h=>?_⟩
 ·unfold withT0 at h;cases q:G a with
  |some u=>rw[q]at h;cases h;exact hh _ _ (r.sub _ _ q)
  |none=>
   rw[q]at h;cases q2:G2 a with
   |none=>rw[q2]at h;cases h
   |some u=>
    rw[q2]at h;dsimp only at h;split at h
    ·cases h;exact r2.sub _ _ q2
    ·cases h
 ·have q:=r.slot i s h;cases s with
  |no=>trivial
  |fr w=>
   obtain⟨u,q1,q2⟩:=q;exact⟨u,q1,Rep.mono sg w q2⟩
  |own b ws=>
   obtain⟨a,xs,q1,q2,q3,q4,q5⟩:=q;exact⟨a,xs,q1,hh _ _ q2,stay _ _ q2 q3 rfl,q4,Reps.mono sg ws q5⟩
  |dic kvs=>
   obtain⟨a,q1,q2,q3,q4⟩:=q;exact⟨a,q1,hh _ _ q2,stay _ _ q2 q3 (by cases kvs<;>rfl),q4⟩
  |thr us ws vs=>
   obtain⟨t,l,o,xs,ys,zs,q1,q2,q3,q4,q5,q6,q7,q8⟩:=q;exact⟨t,l,o,xs,ys,zs,q1,sg _ _ q2,hh _ _ q3,stay _ _ q3 q4 rfl,q5,Reps.mono sg us q6,Reps.mono sg ws q7,Reps.mono sg vs q8⟩
  |nest wss=>exact NestOk.move q sg fun l o ys k1 k2 k3=>⟨hh _ _ k1,stay _ _ k1 k2 rfl,k3⟩
  |x k=>exact XOk.move q sg fun l o ys k1 k2 k3=>⟨hh _ _ k1,stay _ _ k1 k2 rfl,k3⟩
  |dw sh ks ws=>exact DwOk.move q sg fun l o ys k1 k2 k3=>⟨hh _ _ k1,stay _ _ k1 k2 y4o,k3⟩
 ·have e:∃o,H a=some o:=by
   cases q:Z.H a with
   |none=>exact absurd q h
   |some o=>exact⟨o,r.ent a o q (by rw[hio];exact fun z=>nomatch z)⟩
  obtain⟨o,ho⟩:=e;rw[<- r.gen a h];unfold withT0;cases q:G a with
  |some u=>rfl
  |none=>
   have z:G2 a=lentG Z G H a:=r2.gen a (by show H a≠none;rw[ho];exact fun z=>nomatch z)
   rw[z];unfold lentG;cases q2:Z.H a with
   |none=>exact absurd q2 h
   |some _=>simp only[q]
def lendF(e:List S):R (List W)->R (List W)
 |.ok ws _=>if flatWs ws=true then .ok ws e else .no
 |.ex c _=>.ex c e
 |.no=>.no
def dLendF(d:Den (List W)):Den (List W):=fun e=>lendF e (d (hideS e))
theorem y8q(hio:Z.io=[])(he:∀Z',DF Z' X EE e d):DF Z X EE e (dLendF d):=by
 intro pins s σ H Q I hq;obtain⟨G,e0,rel,h⟩:=hq;refine he ⟨H,lentG Z G H,[]⟩ pins s σ H Q I ⟨_,hideS e0,rel.lent hio,?_⟩;unfold dLendF lendF at h;cases q:d (hideS e0)with
 |ok ws e2=>
  rw[q]at h;dsimp only at h;split at h
  ·rename_i hs;intro G2 a xs H2 r2 s2 q1 q2 q3 q4 p;have hn:H a=none:=q3
   have sT:∀b ys,SqT X.K G2 b ys->SqT X.K (withT0 G G2) b ys:=fun b ys z=>by
    have kp:∀o,G2 b=some o->keepT o=true->withT0 G G2 b=some o:=fun o h1 h2=>by
     unfold withT0;cases qq:G b with
     |some u=>
      have h3:G2 b=some u:=s2 b u (by
       unfold lentG;cases q9:Z.H b with
       |none=>exact rel.sub _ _ qq
       |some _=>exact qq)
      rw[h1]at h3;cases h3;rfl
     |none=>simp only[h1,h2];rfl
    rcases z with(z|⟨o,z⟩)|z
    ·exact .inl (.inl (kp _ z rfl))
    ·exact .inl (.inr ⟨o,kp _ z rfl⟩)
    ·exact .inr z
   refine h (withT0 G G2) a xs H2 (rel.unlent hio r2) (fun b o z=>by unfold withT0;rw[z]) q1 ?_ (q4x rel hn) (q48 rel hn) (q4v sT ws hs p)
   unfold withT0;rw[rel.sub.free hn,q2]
  ·exact h.elim
 |ex k e2=>
  rw[q]at h;intro G2 H2 r2 s2;exact h (withT0 G G2) H2 (rel.unlent hio r2) (fun b o z=>by unfold withT0;rw[z])
 |no=>rw[q]at h;exact h.elim
end
section
variable{e':List S}{ws us vs:List W}{v:Value}
theorem y4p{d:Den (List W)}:dLendF d e=lendF e (d (hideS e)):=rfl
theorem y4q:lendF e (.ok ws e')=if flatWs ws=true then .ok ws e else .no:=rfl
theorem y4r:lendF e (.ex v e')=.ex v e:=rfl
theorem y1j{wss:List (List W)}:hide1 (.nest wss)=.fr (.lst (wss.map W.lst)):=rfl
theorem y4s:hide1 (.thr us ws vs)=.fr (.tup (us++.lst ws::vs)):=rfl
end
end D
namespace L2
open PySem PySem.Spec PyProof.Rows
end L2
namespace D
open PySem L2 PySem.Spec PyProof.Rows
variable{X:Cx}{EE:L2.St->XK}{wss:List (List W)}{e:List S}{pos:Pos}{K:Fg}{Z:Zt}
theorem allT(h:e.all (fun s=>!isT s)=true):∀s∈e,isT s=false:=fun s hs=>by
 have:=w0z.mp h s hs;simpa using this
end D
namespace L2
open PySem PySem.Spec PyProof.Rows
end L2
namespace D
open PySem L2 PySem.Spec PyProof.Rows
open Classical
variable{a:Addr}{X:Cx}{e:Expr}{EE:L2.St->XK}{pos:Pos}{K:Fg}{x:Str}{Z:Zt}
mutual
def kxW:W->Option Kx
 |.non=>some .non
 |.bl b=>some (.bl b)
 |.int i=>some (.int i)
 |.str x=>some (.str x)
 |.tup ws=>(kxWs ws).map .tup
 |_=>none
def kxWs:List W->Option (List Kx)
 |[]=>some []
 |w::ws=>match kxW w,kxWs ws with
  |some k,some ks=>some (k::ks)
  |_,_=>none
end
def keyT:W->Option Kx
 |.tup ws=>(kxWs ws).map .tup
 |_=>none
def fits(k:Kx)(sh:Sh):Prop:=Conf k sh/\k.depth<=7
def lkW:List Kx->List W->Kx->Option W
 |k::ks,w::ws,x=>if k=x then some w else lkW ks ws x
 |_,_,_=>none
def inT(w d:W):Option W:=match keyT w,d with
 |some k,.dw _ sh ks ws=>if fits k sh then some (.bl (lkW ks ws k).isSome)else none
 |_,_=>none
section
variable{e:List S}{w kw dflt:W}{sh:Sh}{ks:List Kx}{ws:List W}{i:Nat}{x:Kx}{fz:Bool}
theorem y8r:hide1 (.dw sh ks ws)=.fr (.dw false sh ks ws):=rfl
end
def tupAt(K:Fg)(a:Addr):Bool:=match K.lookup a with
 |some o=>(match o.cls with
  |.type n=>n=="tuple"
  |_=>false)
 |none=>false
def dropT(K:Fg):Fg:=K.filter fun p=>!tupAt K p.1
theorem q6w{q:Addr->Bool}:∀{K:Fg}{o:Obj},(K.filter fun p=>q p.1).lookup a=some o->K.lookup a=some o/\q a=true
 |[],_,h=>by cases h
 |(b,u)::K,o,h=>by
  by_cases hq:q b=true
  ·rw[w2z (p:=fun p:Addr×Obj=>q p.1) (a:=(b,u)) hq]at h
   by_cases e:a=b
   ·subst e;rw[show List.lookup a ((a,u)::(K.filter fun p=>q p.1))=some u by simp[List.lookup]]at h
    refine⟨?_,hq⟩;rw[<- h];simp[List.lookup]
   ·rw[show List.lookup a ((b,u)::(K.filter fun p=>q p.1))=List.lookup a (K.filter fun p=>q p.1) by simp only[List.lookup];rw[beq_eq_false_iff_ne.mpr e]]at h
    obtain⟨h1,h2⟩:=q6w h;refine⟨?_,h2⟩;rw[<- h1];simp only[List.lookup];rw[beq_eq_false_iff_ne.mpr e]
  ·rw[w3z (p:=fun p:Addr×Obj=>q p.1) (a:=(b,u)) hq]at h
   obtain⟨h1,h2⟩:=q6w h;have e:a≠b:=fun z=>hq (by rw[<- z];exact h2)
   refine⟨?_,h2⟩;rw[<- h1];simp only[List.lookup];rw[beq_eq_false_iff_ne.mpr e]
theorem y4t{h:Heap}(X:K.In h):(dropT K).In h:=fun a o e=>X a o (q6w (q:=fun a=>!tupAt K a) e).1
theorem q0i{o:Obj}(h:K.lookup a=some o)(t:tupAt K a=false):(dropT K).lookup a=some o:=by
 have gen:∀(l:Fg)(q:Addr->Bool),q a=true->l.lookup a=some o->(l.filter fun p=>q p.1).lookup a=some o:=by
  intro l q hq
  induction l with
  |nil=>intro h;cases h
  |cons p l ih=>
   obtain⟨b,u⟩:=p;intro h
   by_cases e:a=b
   ·subst e;rw[w2z (p:=fun p:Addr×Obj=>q p.1) (a:=(a,u)) hq]
    rw[show List.lookup a ((a,u)::l)=some u by simp[List.lookup]]at h;rw[<- h];simp[List.lookup]
   ·rw[show List.lookup a ((b,u)::l)=List.lookup a l by simp only[List.lookup];rw[beq_eq_false_iff_ne.mpr e]]at h
    by_cases hb:q b=true
    ·rw[w2z (p:=fun p:Addr×Obj=>q p.1) (a:=(b,u)) hb,<- ih h]
     simp only[List.lookup];rw[beq_eq_false_iff_ne.mpr e]
    ·rw[w3z (p:=fun p:Addr×Obj=>q p.1) (a:=(b,u)) hb]
     exact ih h
 exact gen K (fun a=>!tupAt K a) (by rw[t];rfl) h
theorem q0g{r:Option Value}(h:PySem.W.nsIn K a x=some r)(t:tupAt K a=false):PySem.W.nsIn (dropT K) a x=some r:=by
 unfold PySem.W.nsIn at h |-
 cases q:K.lookup a with
 |none=>rw[q]at h;cases h
 |some o=>rw[q0i q t];rw[q]at h;exact h
def tupAtV(K:Fg):Value->Bool
 |.ref a=>tupAt K a
 |_=>false
theorem q0k{cd:Value}(h:PySem.W.codeIn K cd x=true)(t:tupAtV K cd=false):PySem.W.codeIn (dropT K) cd x=true:=by
 cases cd with
 |ref a=>
  unfold PySem.W.codeIn at h |-
  dsimp only at h |-
  cases q:K.lookup a with
  |none=>rw[q]at h;cases h
  |some o=>rw[q0i q t];rw[q]at h;exact h
 |_=>cases h
def funAt(K:Fg)(a:Addr):Bool:=!tupAt K a&&(match K.lookup a with
 |some ⟨_,_,.func _,_⟩=>true
 |_=>false)
def lk{κ:Type} [DecidableEq κ](kvs:List (κ×Sv))(x:κ):Option Sv:=(kvs.find? fun p=>decide (p.1=x)).map (·.2)
section
variable{e:List S}{w kw:W}{kvs:List (Key×Sv)}
theorem y4u{dd:Dd}:hide1 (.dic dd)=.fr (.dic dd):=rfl
end
end D
namespace L2
open PySem PySem.Spec PyProof.Rows
theorem y1k{P:Program}{w:World}{K:Fg}{mg mb:Str->Option Value}{CX:CXT}{k:Nat}{fa a:Addr}{fd:FuncData}{x:Str}{sp:Sp}{s₁:Shared}{vs:List Value}{ns:List Int}{tabs:List (Addr×Str)}
  (KX:K.In s₁.heap)(hns:s₁.heap.Ns mainGlobals mg)(hb:s₁.heap.Ns builtinsNs mb)(hbb:∀x:Str,x≠"__name__"->mb x=bootBuiltins x)(hlim:s₁.heap.NoLimit)(hg:s₁.gens=#[])
  (ha:s₁.heap.get? a=some {cls:=.type "list", data:=.seq vs.toArray})(hi:IntsAre vs ns)(hl:ns.length<=sizeLine)(hr:Room k callerA)
  (F:∀base:Heap,K.In base->base.Ns mainGlobals mg->BMain base mg->FnOk P w K mg base CX k fa fd [x] sp)(hbind:∀(s:Shared)(u:Value),BindsTo s fd ⟨[u],[]⟩ [(x,u)])
  (hsp:∀H:Hp,SqL K H a (ns.map V.int)->sp [.ref a] H (fun v _=>v=.bl true) fun _ _ _=>False)
  (hCX:∀H e s',CX [] H s₁ (fun _ _ _=>False) e s'->False)
  (hBM:BMain s₁.heap mg)(hM:∀a q P,(a,markO P q)∈K->tabs.lookup P=some q)(hT:∀P q,tabs.lookup P=some q->s₁.heap.get? P=some (tabObj #[])/\isCodeTable s₁.heap P)(hKT:∀P q,tabs.lookup P=some q->K.lookup P=none):
  codeAny (model P w) callerA (.call (.ref fa) ⟨[.ref a],[]⟩) (fun r s'=>r=.ok (.ret (.bool true))/\OldK s₁.heap s'.heap/\s'.os=s₁.os/\AllBare s'.gens) s₁:=by
 have rv:=q8f hi;have lenV:=hi.length
 have aT:tabs.lookup a=none:=by
  cases q:tabs.lookup a with
  |none=>rfl
  |some t=>rw[(hT a t q).1]at ha;cases ha
 have core:∀H0:Hp,(∀b,H0 b=none\/∃o xs,H0 b=some (.frz o (.lst xs)))->SqL K H0 a (ns.map V.int)->HOk P w H0 s₁.heap->(∀b,H0 b≠none->b=a)->(H0 a≠none->K.lookup a=none) ->
   codeAny (model P w) callerA (.call (.ref fa) ⟨[.ref a],[]⟩) (fun r s'=>r=.ok (.ret (.bool true))/\OldK s₁.heap s'.heap/\s'.os=s₁.os/\AllBare s'.gens) s₁:=by
  intro H0 hO hS0 hok0 hA hK;obtain⟨H,hH⟩:∃H:Hp,H=fun b=>match tabs.lookup b with|some q=>some (.tbl #[.bool true,.str q 0])|none=>H0 b:=⟨_,rfl⟩
  have inT:∀b q,tabs.lookup b=some q->H b=some (.tbl #[.bool true,.str q 0]):=fun b q z=>by rw[hH];simp only[z]
  have outT:∀b,tabs.lookup b=none->H b=H0 b:=fun b z=>by rw[hH];simp only[z]
  have up:∀b u,H0 b=some u->H b=some u:=fun b u z=>by
   have:b=a:=hA b (by rw[z];simp);subst this;rw[outT b aT];exact z
  have hS:SqL K H a (ns.map V.int):=by
   rcases hS0 with(z|⟨o,z⟩)|z
   ·exact .inl (.inl (up _ _ z))
   ·exact .inl (.inr ⟨o,up _ _ z⟩)
   ·exact .inr z
  have hok:HOk P w H s₁.heap:=fun b u z=>by
   cases q:tabs.lookup b with
   |some t=>
    rw[inT b t q]at z;cases z;exact .inl ⟨t,#[],rfl,rfl,(hT b t q).1,trivial,fun pos cv z=>by cases z⟩
   |none=>
    rw[outT b q]at z;exact(hok0 b u z).stay (fun c v _ q=>q) (fun c q=>up c _ q) fun c v _ q=>up c v q
  have base_of:∀{b:Addr}{o:Obj},s₁.heap.get? b=some o->H b=none->(hidT s₁.heap H).get? b=some o:=fun e n=>x4g e n
  have free:∀{b:Addr}{o:Obj},s₁.heap.get? b=some o->o≠{cls:=.type "list", data:=.seq vs.toArray}->o≠tabObj #[]->H b=none:=fun {b o} e d1 d2=>by
   cases q:tabs.lookup b with
   |some t=>rw[(hT b t q).1]at e;cases e;exact absurd rfl d2
   |none=>
    rw[outT b q];cases q0:H0 b with
    |none=>rfl
    |some u=>
     have e':b=a:=hA b (by rw[q0];simp);subst e';rw[ha]at e;cases e;exact absurd rfl d1
  have nsK:∀{b:Addr}{m:Str->Option Value},s₁.heap.Ns b m->(hidT s₁.heap H).Ns b m:=fun {b m} ⟨o,es,ep,e,d,r⟩=>⟨o,es,ep,base_of e (free e (fun z=>by rw[z]at d;cases d) fun z=>by rw[z]at d;cases d),d,r⟩
  have hKb:K.In (hidT s₁.heap H):=fun b o e=>base_of (KX b o e) (by
   cases q:tabs.lookup b with
   |some t=>rw[hKT b t q]at e;cases e
   |none=>
    rw[outT b q];cases q0:H0 b with
    |none=>rfl
    |some u=>
     have e':b=a:=hA b (by rw[q0];simp);subst e';rw[hK (by rw[q0];simp)]at e;cases e)
  have hBb:BMain (hidT s₁.heap H) mg:=by
   obtain⟨bm,ob,b1,b2,b3,b4,b5,b6⟩:=hBM;exact⟨bm,ob,b1,b2,base_of b3 (free b3 (fun z=>by rw[z]at b4;simp at b4) fun z=>by rw[z]at b4;cases b4),b4,b5,b6⟩
  have hMd:Mod K mg (hidT s₁.heap H):=⟨hKb,nsK hns,⟨mb,nsK hb,hbb⟩,let ⟨mc,h1,h2⟩:=hlim;⟨mc,nsK h1,h2⟩⟩;have e0:Env0 P w K mg (hidT s₁.heap H) callerA [] s₁ H:=⟨rfl,hMd,fun b o e=>x7c e,Nat.le_of_eq (x2o _ _),trivial,fun b hb=>absurd (show b∈([]:List Addr)from hb) (by simp),hok,.of_eq hg,fun a q P m=>⟨_,inT P q (hM a q P m),rfl,rfl⟩⟩
  refine codeAny_mono ((F _ hKb (nsK hns) hBb).run callerA [] s₁ H ⟨[.ref a],[]⟩ [.ref a] [.ref a] _ _ hr e0 (hbind s₁ (.ref a)) (.cons rfl .nil) (hsp H hS)) fun r s' h=>?_
  cases r with
  |error e=>exact(hCX H e s' h).elim
  |ok fl=>
   cases fl with
   |next=>exact False.elim h
   |brk=>exact False.elim h
   |cont=>exact False.elim h
   |ret u=>
    obtain⟨v,H',os,bare,un,hok',r',q⟩:=h;have q':v=.bl true:=q;subst q';obtain rfl:u=Value.bool true:=r'
    have kp:∀b o,tabs.lookup b=none->s₁.heap.get? b=some o->s'.heap.get? b=some o:=fun b o z e=>by
     cases q:H b with
     |none=>exact un.keep b o e q (by intro z;exact absurd (show b∈([]:List Addr)from z) (by simp)) (by simp)
     |some u=>
      have q0:=q;rw[outT b z]at q0;rcases hO b with z|⟨ob,xs,z⟩
      ·rw[q0]at z;cases z
      ·rw[q0]at z;cases z;have z2:=un.frzs b ob _ q;obtain⟨e1,_⟩:=(show s₁.heap.get? b=some ob/\_ from hok b _ q);obtain⟨e2,_⟩:=(show s'.heap.get? b=some ob/\_ from hok' b _ z2);rw[e]at e1;cases e1;exact e2
    have gr:∀b t,tabs.lookup b=some t->∃qs,s'.heap.get? b=some (tabObj qs):=fun b t z=>by
     obtain⟨more,e⟩:=un.tbls b _ (inT b t z);have o1:ObjOk P w H' s'.heap b (.tbl (#[.bool true,.str t 0]++more)):=hok' b _ e;rcases o1 with⟨_,qs,_,_,g,_⟩|⟨_,_,_,_,_,_,p0,_⟩
     ·exact⟨qs,g⟩
     ·rw[w1n (by simp)]at p0;cases p0
    refine⟨rfl,⟨fun b o e=>?_,fun b o e=>?_⟩,os,bare⟩
    ·cases z:tabs.lookup b with
     |none=>exact .inl (kp b o z e)
     |some t=>
      obtain⟨qs,g⟩:=gr b t z;obtain⟨g1,g2⟩:=hT b t z;rw[e]at g1;cases g1;exact .inr (.inl ⟨g2,rfl,#[],qs,rfl,by rw[Array.empty_append];exact g⟩)
    ·cases z:tabs.lookup b with
     |none=>exact⟨o,kp b o z e⟩
     |some t=>
      obtain⟨qs,g⟩:=gr b t z;exact⟨_,g⟩
 cases hk:K.lookup a with
 |some o=>
  have e:=KX a o hk;rw[ha]at e;cases e;refine core (fun _=>none) (fun _=>.inl rfl) (.inr ⟨_,vs.toArray,_,hk,rfl,rfl,rfl,by rw[w0d,lenV];exact hl,by simpa using rv⟩) (fun b u z=>by have z':(none:Option HO)=some u:=z;cases z') (fun b z=>absurd rfl z) fun z=>absurd rfl z
 |none=>
  refine core (fun b=>if b=a then some (.frz {cls:=.type "list", data:=.seq vs.toArray} (.lst (ns.map V.int)))else none) (fun b=>?_) (.inl (.inr ⟨{cls:=.type "list", data:=.seq vs.toArray},if_pos rfl⟩)) (fun b u z=>?_) (fun b z=>?_) fun _=>hk
  ·by_cases hb:b=a
   ·exact .inr ⟨_,_,if_pos hb⟩
   ·exact .inl (if_neg hb)
  ·by_cases hb:b=a
   ·have z':=(if_pos hb).symm.trans z;cases z';subst hb;exact⟨ha,by rw[w0a];exact hl,vs,_,rv,ha⟩
   ·have z':=(if_neg hb).symm.trans z;cases z'
  ·by_cases hb:b=a
   ·exact hb
   ·exact absurd (if_neg hb) z
end L2
namespace D
open PySem L2
variable{X:Cx}{dA:Den (List W)}{e:Expr}{G H:Hp}{EE:L2.St->XK}{es:List Expr}{N ps:List Str}{k:Nat}{r:Nat->List W->FR}{p pos:Pos}{K:Fg}{x:Str}{Z:Zt}
mutual
def noFn:W->Bool
 |.tup ws=>noFns ws
 |.lst ws=>noFns ws
 |.dw _ _ _ ws=>noFns ws
 |.fn _ _ _=>false
 |.non=>true
 |.bl _=>true
 |.int _=>true
 |.str _=>true
 |.exc _=>true
 |.dic _=>true
def noFns:List W->Bool
 |[]=>true
 |w::ws=>noFn w&&noFns ws
end
section
variable{cs:Cs}
theorem Rd.rm{a:Addr}{u:HO}(c:CelsIn G cs)(h:Rd G a u)(n:∀o,u≠celO o)(n2:∀φ,u≠.ext φ):Rd (rmC G cs) a u:=by
 rcases h with h|⟨o,h⟩
 ·exact .inl (c.rm_some h n)
 ·exact .inr ⟨o,c.rm_some h fun o' z=>by cases z;exact n2 _ rfl⟩
theorem KeysG.rm(c:CelsIn G cs):∀{ks:List Kx}{bs:List Addr},KeysG G ks bs->KeysG (rmC G cs) ks bs
 |[],[],_=>trivial
 |k::ks,b::bs,h=>⟨KRep.keeps (fun _ _ t z=>c.rm_some z (q9k t)) k h.1,KeysG.rm c h.2⟩
 |[],_::_,h=>h.elim
 |_::_,[],h=>h.elim
theorem KeysS.rm{sh:Sh}(c:CelsIn G cs){ks:List Kx}{bs:List Addr}(h:KeysS sh G ks bs):KeysS sh (rmC G cs) ks bs:=by
 unfold KeysS at h |-
 split at h
 ·rename_i hi;rw[if_pos hi];exact h
 ·rename_i hi;rw[if_neg hi];exact h.rm c
mutual
theorem Rep.rm(c:CelsIn G cs):∀(w:W){v:V},noFn w=true->Rep K G w v->Rep K (rmC G cs) w v
 |.non,v,_,h=>h
 |.bl b,v,_,h=>h
 |.int i,v,_,h=>h
 |.str x,v,_,h=>h
 |.tup ws,v,n,h=>by
  obtain⟨a,xs,rfl,q,r⟩:=h;refine⟨a,xs,rfl,?_,Reps.rm c ws n r⟩;rcases q with q|q
  ·exact .inl (Rd.rm c q (fun o z=>nomatch z) fun φ z=>nomatch z)
  ·exact .inr q
 |.lst ws,v,n,h=>by
  obtain⟨a,xs,rfl,q,r⟩:=h;refine⟨a,xs,rfl,?_,Reps.rm c ws n r⟩;rcases q with q|q
  ·exact .inl (Rd.rm c q (fun o z=>nomatch z) fun φ z=>nomatch z)
  ·exact .inr q
 |.exc e,v,_,h=>by
  obtain⟨a,rfl,q⟩:=h;exact⟨a,rfl,c.rm_some q fun o z=>by unfold excO at z;cases z⟩
 |.dic kvs,v,_,h=>by
  obtain⟨a,rfl,q⟩:=h;exact⟨a,rfl,c.rm_some q fun o z=>by cases kvs;cases z⟩
 |.dw fz sh ks ws,v,n,h=>by
  obtain⟨a,kvs,kas,rfl,h1,h2,h3,h4⟩:=h;refine⟨a,kvs,kas,rfl,?_,h2,KeysS.rm c h3,Reps.rm c ws n h4⟩;cases fz with
  |true=>obtain⟨o,h1⟩:=h1;exact⟨o,c.rm_some h1 fun o z=>by injection z with _ z;exact q53 rfl z⟩
  |false=>exact c.rm_some h1 fun o z=>q53 rfl z
 |.fn _ _ _,v,n,_=>by cases n
theorem Reps.rm(c:CelsIn G cs):∀(ws:List W){xs:List V},noFns ws=true->Reps K G ws xs->Reps K (rmC G cs) ws xs
 |[],xs,_,h=>h
 |w::ws,xs,n,h=>by
  obtain⟨x,r,rfl,h1,h2⟩:=h
  have n':noFn w=true/\noFns ws=true:=by
   have:(noFn w&&noFns ws)=true:=n
   rwa [w0o]at this
  exact⟨x,r,rfl,Rep.rm c w n'.1 h1,Reps.rm c ws n'.2 h2⟩
end
end
section
variable{G' H':Hp}{cs:Cs}
theorem x48(h:∀b o,cs.lookup b=some o->H b=none):Same H (addC H cs):=fun b u e=>by
 cases q:cs.lookup b with
 |some o=>rw[h b o q]at e;cases e
 |none=>rw[q0z q];exact e
theorem q8p(h:Same G H):Same (addC G cs) (addC H cs):=fun b u e=>by
 cases q:cs.lookup b with
 |some o=>rw[q38 q]at e |-;exact e
 |none=>rw[q0z q]at e |-;exact h b u e
theorem x49(h:Same G H):Same (rmC G cs) (rmC H cs):=fun b u e=>by
 obtain⟨e1,e2⟩:=y51 e;rw[q15 e2];exact h b u e1
theorem Grow.lam(ch:CelsIn H cs)(cg:CelsIn G cs)(e1:Same (rmC H cs) H')(e2:Same (rmC G cs) G')(e3:Same G' H')(e4:∀a,rmC H cs a≠none->G' a=rmC G cs a):Grow G H (addC G' cs) (addC H' cs) where
 hh:=fun b u e=>by
  cases q:cs.lookup b with
  |some o=>rw[q38 q];rw[ch b o q]at e;exact e
  |none=>rw[q0z q];exact e1 b u (by rw[q15 q];exact e)
 gg:=fun b u e=>by
  cases q:cs.lookup b with
  |some o=>rw[q38 q];rw[cg b o q]at e;exact e
  |none=>rw[q0z q];exact e2 b u (by rw[q15 q];exact e)
 sub:=q8p e3
 new:=fun a ha=>by
  cases q:cs.lookup a with
  |some o=>rw[q38 q,cg a o q]
  |none=>
   rw[q0z q,e4 a (by rw[q15 q];exact ha),q15 q]
theorem Grow.nocells(g:Grow (addC G cs) (addC H cs) G' H')(hn:∀b o,cs.lookup b=some o->H b=none)(sg:Same G H):Grow G H (rmC G' cs) (rmC H' cs) where
 hh:=fun b u e=>by
  cases q:cs.lookup b with
  |some o=>rw[hn b o q]at e;cases e
  |none=>rw[q15 q];exact g.hh b u (by rw[q0z q];exact e)
 gg:=fun b u e=>by
  cases q:cs.lookup b with
  |some o=>have:=sg b u e;rw[hn b o q]at this;cases this
  |none=>rw[q15 q];exact g.gg b u (by rw[q0z q];exact e)
 sub:=x49 g.sub
 new:=fun a ha=>by
  cases q:cs.lookup a with
  |some o=>exact absurd (hn a o q) ha
  |none=>rw[q15 q,g.new a (by rw[q0z q];exact ha),q0z q]
end
def exprFR:R W->FR
 |.ok w _=>.ok (.fr w)
 |.ex c _=>.ex c
 |.no=>.no
def spV(K:Fg)(lams:Nat->Option Lm)(r:Nat->List W->FR):V->List V->Hp->VK->XK->Prop:=fun x vs H Q _=>∃G i l caps ws w,Same G H/\Rep K G (.fn i l caps) x/\Reps K G ws vs/\noFns ws=true/\noFns caps=true/\lams i=some l /\
 r i (ws++caps)=.ok (.fr w)/\∀G' H' v,Grow G H G' H'->Rep K G' w v->Q v H'
structure LamOk(P:Program)(w:World)(K:Fg)(mg:Str->Option Value)(base:Heap)(n:Nat)(l:Lm)(ps:List Str)(F:List W->FR):Prop where
 sc:LamScope ps l.nf l.scope
 bind:∀(cl:List (Str×Addr))(pm:Value)(c':Addr)(ctv:Value)(us:List Value),us.length=ps.length->bindArgs (kla_fn "<lambda>" l.qual l.params l.body l.scope cl pm (.ref c') ctv) ⟨us,[]⟩=pure (ps.zip us)
 len:∀ws,F ws≠.no->ws.length=ps.length+l.nf.length
 body:∀ws,F ws≠.no->∀(Z:Zt)(f:Addr)(cd:Value)(cl:List (Str×Addr))(A:Around)(outer:List Env)(s:Shared)(H:Hp),Room n (A.deeper (lamEnv l.qual l.scope f cd cl s)) ->
  ∃d,DE Z (cxLam P w K mg base (ps++l.nf) l.qual l.scope f cd cl A outer s H) (fun _=>E0) l.body d/\exprFR (d (ws.map .fr))=F ws
theorem z2x{P:Program}{w:World}{mg:Str->Option Value}{base:Heap}{n:Nat}{lams:Nat->Option Lm}(h:∀i l,lams i=some l->∃ps,LamOk P w K mg base n l ps (r i)):
  FnV P w K mg base (CX1 P w) (n+1) (spV K lams r):=by
 rintro x vs H Q E ⟨G,i,l,caps,ws,w',sg,rf,rv,nw,nc,hl,hr,q⟩;obtain⟨ps,L⟩:=h i l hl;obtain⟨f,cl,zs,cs,rfl,⟨pm,c',ctv,ef⟩,FC,rz⟩:=rf;have hn:r i (ws++caps)≠.no:=by rw[hr];exact fun z=>nomatch z
 have hlen:=L.len _ hn;have hz:zs.length=l.nf.length:=FC.len;have hcl:caps.length=l.nf.length:=by rw[<- rz.length];exact hz
 have hwl:ws.length=ps.length:=by rw[w0p,hcl]at hlen;omega
 have hvl:vs.length=ps.length:=by rw[rv.length];exact hwl
 have cg:CelsIn G cs:=fun b o e=>(FC.cel b o e).1
 have ch:CelsIn H cs:=fun b o e=>sg _ _ (cg b o e)
 refine⟨f,_,_,_,_,_,rfl,sg _ _ ef,fun A outer s us hR e0 ru=>?_⟩
 have hul:us.length=ps.length:=by rw[<- ru.length];exact hvl
 have FC2:LamCells cl l.nf l.scope zs s.heap cs:=⟨FC.inj,FC.has,FC.all,fun c o e=>⟨(show s.heap.get? c=some o/\_ from e0.hok c _ (ch c o e)).1,(FC.cel c o e).2⟩,FC.val⟩
 obtain⟨d,hd,he⟩:=L.body _ hn ⟨rmC H cs,rmC G cs,[]⟩ f (.ref c') cl A outer s (rmC H cs) (hR.deeper _);refine y6s hR e0 (sg _ _ ef) L.sc ch FC2 (L.bind cl pm c' ctv us hul) hvl hz ru hd ?_;have sg':Same (rmC G cs) (rmC H cs):=x49 sg;have rr:Reps K (rmC G cs) (ws++caps) (vs++zs):=(Reps.rm cg ws nw rv).append (Reps.rm cg caps nc rz);have rel:=q54 (N:=ps++l.nf) sg' rr
 have e1:L2.start (ps++l.nf) (vs++zs)=vs.map some++zs.map some:=by
  unfold L2.start;rw[show(ps++l.nf).length-(vs++zs).length=0 by simp[hvl,hz],w4u,w1l,w1j]
 have e2:init (ps++l.nf).length (ws++caps)=(ws++caps).map .fr:=by
  unfold init;rw[show(ps++l.nf).length-(ws++caps).length=0 by simp[hwl,hcl],w4u,w1l]
 rw[e1,e2]at rel;refine⟨rmC G cs,_,rel,?_⟩;cases hde:d ((ws++caps).map .fr)with
 |ok w2 e'=>
  rw[hde,hr]at he;cases he;intro G' v H' r' sG rp hnone
  have hn':∀b o,cs.lookup b=some o->G' b=none:=fun b o z=>by
   cases q2:G' b with
   |none=>rfl
   |some u=>have:=r'.sub b u q2;rw[hnone b o z]at this;cases this
  exact q (addC G' cs) (addC H' cs) v (Grow.lam ch cg (fun b u e=>r'.ent b u e (fun z=>nomatch z)) sG r'.sub r'.gen) (Rep.mono (x48 hn') _ rp)
 |ex c e'=>rw[hde,hr]at he;cases he
 |no=>rw[hde,hr]at he;cases he
section
variable{lams:Nat->Option Lm}
open Classical in
def callVK(lams:Nat->Option Lm)(r:Nat->List W->FR)(j:Nat)(l:Lm)(caps:List W)(ws:List W)(e1:List S):R W:=
 if lams j=some l/\noFns ws=true/\noFns caps=true then(match r j (ws++caps)with
  |.ok (.fr w)=>.ok w e1
  |_=>.no)else .no
def callV0(lams:Nat->Option Lm)(r:Nat->List W->FR)(dA:Den (List W))(e:List S):Option S->R W
 |some (.fr (.fn j l caps))=>(dA e).bind fun ws e1=>callVK lams r j l caps ws e1
 |_=>.no
end
def capsOf:List Nat->List S->Option (List W)
 |[],_=>some []
 |j::js,e=>match e[j]? with
  |some (.fr w)=>(capsOf js e).map (w::·)
  |_=>none
theorem x29{σ:L2.St}{e:List S}(r:Rel K Z G σ H e):∀{js:List Nat}{caps:List W},capsOf js e=some caps->∃zs:List V,Reps K G caps zs/\zs.length=js.length/\∀(i j:Nat) z,js[i]?=some j->zs[i]?=some z->σ[j]?=some (some z)
 |[],caps,h=>by
  cases h;exact⟨[],rfl,rfl,fun i j z h _=>by simp at h⟩
 |j::js,caps,h=>by
  unfold capsOf at h;split at h
  ·rename_i w hw;obtain⟨cs,h1,rfl⟩:=w0l.mp h;obtain⟨zs,r1,r2,r3⟩:=x29 r h1;obtain⟨v,v1,v2⟩:=r.fr hw;refine⟨v::zs,⟨v,zs,rfl,v2,r1⟩,by simp[r2],fun i j' z g1 g2=>?_⟩
   cases i with
   |zero=>
    simp only[w0k,Option.some.injEq]at g1 g2;subst g1;subst g2;exact v1
   |succ i=>exact r3 i j' z (by simpa using g1) (by simpa using g2)
  ·cases h
def keyOf:W->Option Key
 |.int i=>some (.inl i)
 |.str x=>some (.inr x)
 |_=>none
def noE:Expr:=.Name "" ⟨0,0,0,0⟩
def stAt(i:Nat)(st:Stmt):Stmt:=(defBody st).getD i (.Pass ⟨0,0,0,0⟩)
def stVal:Stmt->Expr
 |.Assign _ v _=>v
 |.Return (some v) _=>v
 |.For _ it _ _ _=>it
 |.Expr v _=>v
 |_=>noE
def lamParams:Expr->Arguments
 |.Lambda p _ _ _=>p
 |_=>default
def lamBody:Expr->Expr
 |.Lambda _ b _ _=>b
 |_=>noE
def lamScope:Expr->Scope
 |.Lambda _ _ s _=>s
 |_=>default
def MakK(K:Fg)(x:Str)(cdv:Value):Prop:=∃c P a,cdv=.ref c/\codeHdIn K c P=true/\(a,markO P ((x++".<locals>.")++"<lambda>"))∈K
section
variable{P:Program}{w:World}{mg:Str->Option Value}{base:Heap}
theorem z45{CX:CXT}{scope:Scope}{f:Addr}{cdv:Value}{A:Around}{outer:List Env}{s:Shared}{E:XK}(h:MakK K x cdv)(b:BMain base mg):Maker (cxOf CX P w K mg base N x scope f cdv A outer s H E):=by
 obtain⟨c,P,a,rfl,h1,h2⟩:=h;exact⟨⟨c,P,a,rfl,h1,h2⟩,b⟩
theorem conM{st:Stmt}{F:List W->FR}(A:At K mg x st ps)(hm:∀f oc od fd sl,mg x=some (.ref f)->K.lookup f=some ⟨oc,od,.func fd,sl⟩->MakK K x fd.code)(sc:FnScope N ps (defScope st))(len:∀ws,F ws≠.no->ws.length=ps.length)
  (hb:∀ws,F ws≠.no->∀(f:Addr)(cdv:Value)(A:Around)(outer:List Env)(s:Shared)(H:Hp)(E:XK)(Z:Zt),Room k (A.deeper (PyProof.Rows.envOfC x (defScope st) s.heap.objs.size f cdv))->MakK K x cdv ->
   ∃d,DSs Z (cxOf (CX1 P w) P w K mg base N x (defScope st) f cdv A outer s H E) (fun _=>E) (defBody st) d/\(d (init N.length ws)).fn=F ws):Cal P w K mg base (k+1) x ps (spF K F):=by
 obtain⟨f,fd,F0,m,b⟩:=A.ex;have kp:=F0.kp;obtain⟨oc,od,kV,doc,pm,an,cdv,ct,osl,rfl,lk,hcd⟩:=F0.ex;have hk:MakK K x cdv:=hm f _ _ _ _ m lk;refine⟨f,_,y50 lk hcd sc (fun vs H Q E h=>?_) (fun A outer s H vs Q E hr h=>?_),m,kp,b⟩
 ·obtain⟨G,ws,hn,r⟩:=q8k h;rw[r.length];exact len ws hn
 ·obtain⟨G,ws,sg,rp,h⟩:=h;have hn:F ws≠.no:=fun z=>by rw[z]at h;exact h
  obtain⟨d,hd,he⟩:=hb ws hn f cdv A outer s H E ⟨H,G,[]⟩ hr hk;exact⟨_,hd,G,init N.length ws,q54 sg rp,q86 he h⟩
theorem fnV0{lams:Nat->Option Lm}(h:∀i ws,r i ws=.no:=by intro _ _;rfl):FnV P w K mg base (CX1 P w) 0 (spV K lams r):=by
 rintro x vs H Q E ⟨G,i,l,caps,ws,w',sg,rf,rv,nw,nc,hl,hr,q⟩;rw[h]at hr;cases hr
end
def markT(K:Fg)(tabs:List (Addr×Str)):Fg:=K++tabs.map fun p=>(mainGlobals,markO p.1 p.2)
section
variable{tabs:List (Addr×Str)}{a:Addr}{o:Obj}
theorem q0q(h:K.lookup a=some o):(markT K tabs).lookup a=some o:=by
 unfold markT;rw[w5c,h];rfl
theorem x7t(hG:(K.lookup mainGlobals).isSome=true):(markT K tabs).lookup a=K.lookup a:=by
 unfold markT;rw[w5c];cases q:K.lookup a with
 |some o=>rfl
 |none=>
  have ne:a≠mainGlobals:=fun z=>by rw[<- z,q]at hG;cases hG
  have:∀l:List (Addr×Str),(l.map fun p=>(mainGlobals,markO p.1 p.2)).lookup a=none:=fun l=>by
   induction l with
   |nil=>rfl
   |cons p l ih=>rw[w0n,w1b,beq_eq_false_iff_ne.mpr ne];exact ih
  rw[this];rfl
theorem in_m{h:Heap}(hG:(K.lookup mainGlobals).isSome=true)(X:K.In h):(markT K tabs).In h:=fun b u e=>X b u (by rw[<- x7t (tabs:=tabs) hG];exact e)
theorem ns_m{r:Option Value}(h:PySem.W.nsIn K a x=some r):PySem.W.nsIn (markT K tabs) a x=some r:=by
 unfold PySem.W.nsIn at h |-
 cases q:K.lookup a with
 |none=>rw[q]at h;cases h
 |some o=>rw[q0q q];rw[q]at h;exact h
theorem q0v{cd:Value}(h:PySem.W.codeIn K cd x=true):PySem.W.codeIn (markT K tabs) cd x=true:=by
 cases cd with
 |ref a=>
  unfold PySem.W.codeIn at h |-
  dsimp only at h |-
  cases q:K.lookup a with
  |none=>rw[q]at h;cases h
  |some o=>rw[q0q q];rw[q]at h;exact h
 |_=>cases h
theorem q0w(t:funAt K a=true):keepIn (markT (dropT K) tabs) (.ref a)=true:=by
 have h:=t;unfold funAt at t
 rw[w0o]at t;obtain⟨t1,t2⟩:=t;have t1:tupAt K a=false:=by simpa using t1
 unfold keepIn;dsimp only;split at t2
 ·rename_i q;rw[q0q (q0i q t1)]
 ·cases t2
theorem x84(h:noMark K=true)(hd:tabs.all (fun p=>tabs.lookup p.1==some p.2)=true):∀a q P,(a,markO P q)∈markT K tabs->tabs.lookup P=some q:=fun a q P m=>by
 rcases w1r.mp m with m|m
 ·have:=w0z.mp h _ m;cases this
 ·obtain⟨p,hp,e⟩:=w1f.mp m;have e1:markO p.1 p.2=markO P q:=(Prod.mk.inj e).2;have e2:p.2=q:=by injection e1 with h1;injection h1
  have e3:p.1=P:=by
   injection e1 with _ _ h3
   injection h3 with h4
   have:=congrArg (fun a:Array Value=>a[0]?) h4
   simpa using this
  have:=w0z.mp hd p hp;rw[<- e2,<- e3]
  simpa using this
theorem x6p(h:noMark K=true):noMark (dropT K)=true:=w0z.mpr fun p hp=>w0z.mp h p (w0w.mp hp).1
theorem tabs_none(hG:(K.lookup mainGlobals).isSome=true)(h:tabs.all (fun p=>(K.lookup p.1).isNone)=true):∀P q,tabs.lookup P=some q->(markT K tabs).lookup P=none:=fun P q e=>by
 rw[x7t hG];have:=w0z.mp h _ (mem_look e)
 simpa using this
where
 mem_look:∀{l:List (Addr×Str)}{P:Addr}{q:Str},l.lookup P=some q->(P,q)∈l
 |[],_,_,e=>by cases e
 |(b,t)::l,P,q,e=>by
  rw[w1b]at e
  by_cases hb:(P==b)=true
  ·rw[hb]at e;cases e;rw[eq_of_beq hb];exact .head _
  ·rw[w1k.mpr hb]at e;exact .tail _ (mem_look e)
theorem y8s{h:Heap}(X:K.In h)(hT:∀P∈tabs.map (·.1),h.get? P=some (tabObj #[]))(hc:∀p∈tabs,∃c,codeHdIn K c p.1=true):∀P q,tabs.lookup P=some q->h.get? P=some (tabObj #[])/\isCodeTable h P:=fun P q e=>by
 have m:=tabs_none.mem_look e;obtain⟨c,hc⟩:=hc _ m;have g:=hT P (w1f.mpr ⟨_,m,rfl⟩);exact⟨g,((PySem.W.codeHd_of_K X hc).tab g).isCodeTable⟩
end
section
variable{e:List S}{ws caps:List W}{lams:Nat->Option Lm}{d:Den W}{i j:Nat}{l:Lm}{w:W}{F:List W->FR}{js:List Nat}
theorem y1l:callV0 lams r dA e (some (.fr (.fn j l caps)))=(dA e).bind fun ws e1=>callVK lams r j l caps ws e1:=rfl
theorem y4v:capsOf [] e=some []:=rfl
end
end D
namespace L2
open PySem PySem.Spec PyProof.Rows
end L2
namespace D
open PySem L2
end D
namespace L2
open PySem PySem.Spec PyProof.Rows
end L2
namespace D
open PySem L2
end D
namespace L2
open PySem PySem.Spec PyProof.Rows
namespace RevT
end RevT
open PySem PySem.Spec PyProof.Rows
variable{A:Around}{X:Cx}{k:Nat}{prog:Program}{s:Shared}{sp:V->List V->Hp->VK->XK->Prop}{E:Value->Shared->Prop}{w:World}
theorem q8q(a v:Value):argsOk "list.sort" ⟨[a],[(Str.ofString "key", v)]⟩:=by unfold argsOk;kernel_rfl
theorem x08(a v:Value):argsOk "sorted" ⟨[a],[(Str.ofString "key", v)]⟩:=by unfold argsOk;kernel_rfl
def keyStep(a:Addr)(f ks x:Value)(items:Array Value):Sem (ForInStep PUnit):=do
 match <- (call f [x]).attempt with
 |.ok k=>do
  Builtin.List.listUpdate ks (·.push k)
  pure (ForInStep.yield PUnit.unit)
 |.error e=>do
  rule "list.sort.key-raised"
  let made <- Builtin.List.listItems ks
  Builtin.List.listUpdate ks fun _=>#[]
  letGo made.toList.reverse [e]
  Builtin.List.listUpdate (.ref a) fun _=>items
  throw e
theorem x3z(a f:Addr):Builtin.«list.sort» ⟨[.ref a],[(Str.ofString "key", .ref f)]⟩=(do
  let items <- Builtin.List.listItems (.ref a)
  Builtin.List.listUpdate (.ref a) fun _=>#[]
  let before <- seqEpoch a
  let held <- newTuple items.toList
  let keyStore <- newList []
  holding [held,keyStore] do
   rule "list.sort.key"
   let _ <- forIn items PUnit.unit fun x (_:PUnit)=>keyStep a (.ref f) keyStore x items
   let keys <- Builtin.List.listItems keyStore
   let kind <- if items.size<2 then pure general' else keyKind' keys
   let ((),s) <- (if items.size<2 then pure ()else sortRuns').run (SortSt.mk' kind (keys.zip items) #[] 7 none)
   let sorted:=(arrOf s).map (·.2)
   Builtin.List.listUpdate keyStore fun _=>#[]
   letGo ((arrOf s).map (·.1)).toList (failedOf s).toList
   let touched:=(<- seqEpoch a) != before
   Builtin.List.listUpdate (.ref a) fun _=>sorted
   if let some e:=failedOf s then rule "list.sort.comparison-raised";throw e
   if touched then rule "list.sort.modified";raiseError "ValueError" "list modified during sort"
   ret .none):=by
 first|rfl|(fail "not by rfl")
theorem y8t{pins:List (Addr×Obj)}{σ:St}{H:Hp}{f:Addr}{us:List Value}{vs:List V}{cs:Cs}{Q:VK}
  (F:FnV X.prog X.w X.K X.mg X.base (CX1 X.prog X.w) k sp)(hr:Room k A)(hA:A.frames=X.A.frames)(I:Inv X pins σ H s)(hc:∀b o,cs.lookup b=some o->H b=none/\s.heap.get? b=some o)
  (hv:∀b o,cs.lookup b=some o->b∉frs X.stack)(hn:∀b o,cs.lookup b=some o->X.base.get? b=none)(r:Vals vs us)
  (h:sp (.ref f) vs (addC H cs) (fun v H'=>Q v (rmC H' cs)) fun _ _ _=>False):
  wpAny (model X.prog X.w) A (call (.ref f) us) (fun u s'=>(∀b o,cs.lookup b=some o->s'.heap.get? b=some o)/\EP X pins σ (fun v H'=>(∀b o,cs.lookup b=some o->H' b=none)/\Q v H') u s') E s:=by
 have e0:=I.env0
 have out:∀b,H b=none->(∀o,cs.lookup b≠some o)->addC H cs b=none:=fun b n z=>by
  cases q:cs.lookup b with
  |some o=>exact absurd q (z o)
  |none=>rw[q0z q];exact n
 have e1:Env0 X.prog X.w X.K X.mg X.base A X.stack s (addC H cs):=by
  refine⟨hA.trans e0.frames,e0.mod,fun b o q=>⟨(e0.bs b o q).1,out b (e0.bs b o q).2 fun o' z=>?_⟩,e0.bsz,e0.funs,fun b hb=>out b (e0.frf b hb) fun o z=>?_,e0.hok.add hc,e0.bare,fun a q P m=>?_⟩
  ·rw[hn b o' z]at q;cases q
  ·exact hv b o z hb
  ·obtain⟨ps,e,p⟩:=e0.tab a q P m;refine⟨ps,?_,p⟩;cases z:cs.lookup P with
   |some o=>rw[(hc P o z).1]at e;cases e
   |none=>rw[q0z z];exact e
 obtain⟨f',oc,od,fd,sl,u,ex,ef,run⟩:=F _ _ _ _ _ h;cases ex;refine wpAny_call (codeAny_mono (run A X.stack s us hr e1 r) fun r s' hq=>?_)
 cases r with
 |error e=>
  obtain⟨_,_,_,_,_,_,_,_,_,_,hE⟩:=hq;exact hE.elim
 |ok fl=>
  cases fl with
  |ret u=>
   obtain⟨v,H',os,bare,un,hok,rv,q⟩:=hq;have CI:CelsIn H' cs:=fun b o z=>un.frzs b o _ (q38 z)
   exact⟨fun b o z=>(show s'.heap.get? b=some o/\_ from hok b _ (CI b o z)).1,I.after ⟨v,rmC H' cs,os,bare,un.nocells hok hc,hok.rm CI,rv,fun b o z=>q51 z,q⟩⟩
  |next=>exact False.elim hq
  |brk=>exact False.elim hq
  |cont=>exact False.elim hq
def CelsAt(cs:Cs)(H:Hp)(h:Heap):Prop:=∀b o,cs.lookup b=some o->H b=none/\h.get? b=some o
end L2
namespace D
open PySem L2
variable{X:Cx}{dA:Den (List W)}{EE:L2.St->XK}{pos:Pos}{K:Fg}{x:Str}{O:Type}{Z:Zt}
theorem Grow.write{G H G' H':Hp}{a:Addr}{o:HO}(g:Grow G H G' H')(hn:H a=none)(hg:G' a=none):Grow G H G' (upd H' a o) where
 hh:=fun b u e=>by rw[q0c (q0m e hn)];exact g.hh b u e
 gg:=g.gg
 sub:=fun b u e=>by rw[q0c (q0m e hg)];exact g.sub b u e
 new:=g.new
def kwAt(i:Nat):Expr->Expr
 |.Call _ _ ks _=>match ks[i]? with
  |some k=>k.value
  |none=>noE
 |_=>noE
end D
namespace L2
open PySem PySem.Spec PyProof.Rows
def bestU(o:Option (Int×Int))(i n:Int):Option (Int×Int):=match o with
 |none=>some (i,n)
 |some (b,m)=>if n<m then some (i,n)else some (b,m)
def minT(sp:V->List V->Hp->VK->XK->Prop)(f:V)(cs:Cs)(K:Fg)(p:Addr)(xs:List V)(Q:VK):List Int->Option (Int×Int)->Hp->Prop
 |[],o,H=>∃b m,o=some (b,m)/\Q (.int b) H
 |i::is,o,H=>sp f [.int i] (addC H cs) (fun v H'=>∃n,v=.int n/\SqL K (rmC H' cs) p xs/\minT sp f cs K p xs Q is (bestU o i n) (rmC H' cs)) fun _ _ _=>False
def BestIs(best:Array Value):Option (Int×Int)->Prop
 |none=>best=#[]
 |some (b,m)=>∃t u,best=#[.int b t,.int m u]
section
variable{X:Cx}{A:Around}{k:Nat}{sp:V->List V->Hp->VK->XK->Prop}{pins:List (Addr×Obj)}{σ:St}{f I S p:Addr}{cs:Cs}{Q:VK}{is0:List Int}
theorem x5a(F:FnV X.prog X.w X.K X.mg X.base (CX1 X.prog X.w) k sp)(hr:Room k A.in1)(hA:A.in1.frames=X.A.frames)(hh:A.in1.handled=none)(hv:∀b o,cs.lookup b=some o->b∉frs X.stack)(hn:∀b o,cs.lookup b=some o->X.base.get? b=none)
  (hIS:S≠I)(hpI:p≠I)(hcI:∀b o,cs.lookup b=some o->b≠I/\b≠S):∀(is:List Int)(j:Nat)(o:Option (Int×Int))(best:Array Value)(c:Nat)(s:Shared)(H:Hp),is0.drop j=is->j<=is0.length->Inv X pins σ H s->FpOk X pins H I->FpOk X pins H S->SqL X.K H p (is0.map V.int)->s.heap.IsListIter I p j ->
   s.heap.get? S=some (seqObj "list" best c)->BestIs best o->CelsAt cs H s.heap->minT sp (.ref f) cs X.K p (is0.map V.int) Q is o H ->
   codeAny (model X.prog X.w) A (.builtin "min.loop" ⟨[.ref I,.ref f,.ref S],[]⟩) (fun r s'=>match r with|.ok (.ret v)=>EP X pins σ Q v s'|.ok _=>False|.error e=>X.xe e s') s
 |[],j,o,best,c,s,H,hd,hj,In,fI,fS,hq,hit,hS,hb,hc,h=>by
  have hjl:j=is0.length:=by
   have:=congrArg List.length hd;rw[w2l,w2d]at this;omega
  obtain⟨its,rI,pl,hz⟩:=In.list hq;have hil:its.length=is0.length:=by rw[<- rI.length,w0a]
  obtain⟨b,m,rfl,q⟩:=h;obtain⟨t,u,rfl⟩:=hb;have W:=Walks.list (prog:=X.prog) (w:=X.w) (A:=A.in1) hh I p hpI its.toArray;refine codeAny_builtin PySem.F.entry_min_loop ?_;rw[Around.under_plainId PySem.F.plain_min_loop _];show wpAny _ A.in1 (seqItems? (.ref S) >>= _) _ _ _;refine wpAny_bind (wpAny_seqItems hS rfl ?_);show wpAny _ A.in1 (tryCatch (pyNext (.ref I)) _ >>= _) _ _ _;refine wpAny_bind (wpAny_tryCatch (W.done _ _ _ ⟨by rw[w0d,hil,<- hjl];exact hit,pl.isList⟩ fun h' tk' hk'=>?_))
  have I1:=In.turned (t':=tk') (it:=I) (h':=h') (fun b o z e=>hk' b o (by simpa using z) e) fI.1 fI.2.1 fI.2.2.2.1 fI.2.2.2.2.1 fI.2.2.2.2.2
  have hS':=hk' S _ (by simpa using hIS) hS;show wpAny _ A.in1 (updateSeq S (fun _=>#[]) >>= _) _ _ _
  refine wpAny_bind (wpAny_updateSeq hS' rfl (wpAny_bind (wpAny_letGo (wpAny_pure ?_))));have I2:=I1.turned (t':=tk') (it:=S) (h':=h'.update S (Obj.mapSeq fun _=>#[])) (fun b o z e=>(Heap.get?_update_other _ _ (Ne.symm z)).trans e) fS.1 fS.2.1 fS.2.2.2.1 fS.2.2.2.2.1 fS.2.2.2.2.2
  exact⟨.int b,H,I2,⟨t,rfl⟩,q⟩
 |i::is,j,o,best,c,s,H,hd,hj,In,fI,fS,hq,hit,hS,hb,hc,h=>by
  have hname:(toString "min"++toString ".loop":String)="min.loop":=by decide
  have hlt:j<is0.length:=by
   have:=congrArg List.length hd;rw[w2l,w0q]at this;omega
  have hij:is0[j]?=some i:=by
   have:=congrArg List.head? hd;rw[List.head?_drop]at this
   simpa using this
  have hd':is0.drop (j+1)=is:=by
   rw[<- List.drop_drop,hd];rfl
  obtain⟨its,rI,pl,hz⟩:=In.list hq;have hil:its.length=is0.length:=by rw[<- rI.length,w0a]
  have W:=Walks.list (prog:=X.prog) (w:=X.w) (A:=A.in1) hh I p hpI its.toArray;refine codeAny_builtin PySem.F.entry_min_loop ?_;rw[Around.under_plainId PySem.F.plain_min_loop _];show wpAny _ A.in1 (seqItems? (.ref S) >>= _) _ _ _;refine wpAny_bind (wpAny_seqItems hS rfl ?_);show wpAny _ A.in1 (tryCatch (pyNext (.ref I)) _ >>= _) _ _ _;refine wpAny_bind (wpAny_tryCatch (W.item j _ _ _ (by rw[w0d,hil];exact hlt) ⟨hit,pl.isList⟩ fun v h' tk' hP hst' hk'=>?_))
  have hv0:its[j]?=some v:=by simpa using hP
  obtain⟨t,rfl⟩:∃t,v=.int i t:=by
   obtain⟨u,hu,ru⟩:=rI.get (i:=j) (x:=V.int i) (by rw[w0v,hij];rfl);rw[hv0]at hu;cases hu;exact ru
  have I1:=In.turned (t':=tk') (it:=I) (h':=h') (fun b o z e=>hk' b o (by simpa using z) e) fI.1 fI.2.1 fI.2.2.2.1 fI.2.2.2.2.1 fI.2.2.2.2.2
  have hS':=hk' S _ (by simpa using hIS) hS;obtain⟨oI',hoI',hoc,hod⟩:=id hst'.1;have dI:∀v,oI'.data≠.cell v:=fun v z=>by rw[hod]at z;cases z
  have dS:∀v,(seqObj "list" best c).data≠.cell v:=fun v z=>nomatch z
  have I2:=I1.pins_of (pins':=(I,oI')::(S,seqObj "list" best c)::pins) fun q hq=>by
   rcases w0j.mp hq with rfl|hq
   ·exact⟨hoI',fI.1,fI.2.1,fI.2.2.1,dI⟩
   ·rcases w0j.mp hq with rfl|hq
    ·exact⟨hS',fS.1,fS.2.1,fS.2.2.1,dS⟩
    ·exact I1.pin q (w0i _ hq)
  have hc1:CelsAt cs H h':=fun b o z=>⟨(hc b o z).1,hk' b o (by simpa using (hcI b o z).1) (hc b o z).2⟩
  have tail:∀(u:Value)(s2:Shared)(n:Int)(H2:Hp),Inv X ((I,oI')::(S,seqObj "list" best c)::pins) σ H2 s2->(∃t2,u=.int n t2)->(∀b o,cs.lookup b=some o->s2.heap.get? b=some o)->(∀b o,cs.lookup b=some o->H2 b=none)->SqL X.K H2 p (is0.map V.int) ->
    minT sp (.ref f) cs X.K p (is0.map V.int) Q is (bestU o i n) H2->∀(best':Array Value)(c':Nat)(s3:Shared),BestIs best' (bestU o i n)->s3.os=s2.os->s3.gens=s2.gens->s3.drawn=s2.drawn->(∀b o,b≠S->s2.heap.get? b=some o->s3.heap.get? b=some o)->s3.heap.get? S=some (seqObj "list" best' c') ->
    s3={s2 with heap:=s3.heap,toks:=s3.toks} ->
    codeAny (model X.prog X.w) A (.builtin "min.loop" ⟨[.ref I,.ref f,.ref S],[]⟩) (fun r s'=>match r with|.ok (.ret v)=>EP X pins σ Q v s'|.ok _=>False|.error e=>X.xe e s') s3:=by
   intro u s2 n H2 I3 hu hcs hcn hsq hm best' c' s3 hb' _ _ _ hk3 hS3 es3;have pI:=I3.pin (I,oI') (w0i _ w0h);have pS:=I3.pin (S,seqObj "list" best c) (w0i _ (w0f _ w0h));have I4:Inv X pins σ H2 s2:=I3.pins_of fun q hq=>I3.pin q (w0i _ (w0f _ (w0f _ hq)))
   have fI2:FpOk X pins H2 I:=⟨pI.2.1,fI.2⟩;have fS2:FpOk X pins H2 S:=⟨pS.2.1,fS.2⟩;have I5:=I4.turned (t':=s3.toks) (it:=S) (h':=s3.heap) hk3 fS2.1 fS2.2.1 fS2.2.2.2.1 fS2.2.2.2.2.1 fS2.2.2.2.2.2;rw[<- es3]at I5;exact x5a F hr hA hh hv hn hIS hpI hcI is (j+1) _ best' c' s3 H2 hd' hlt I5 fI2 fS2 hsq ⟨oI',hk3 I _ (Ne.symm hIS) pI.1,hoc,hod⟩ hS3 hb' (fun b o z=>⟨hcn b o z,hk3 b o (hcI b o z).2 (hcs b o z)⟩) hm
  show wpAny _ A.in1 (tryCatch (holding [.int i t] (call (.ref f) [.int i t])) _ >>= _) _ _ _;refine wpAny_bind (wpAny_tryCatch (wpAny_holding (wpAny_mono (y8t (cs:=cs) (Q:=fun v H'=>∃n,v=.int n/\SqL X.K H' p (is0.map V.int)/\minT sp (.ref f) cs X.K p (is0.map V.int) Q is (bestU o i n) H') F hr hA I2 hc1 hv hn (vs:=[.int i]) (.cons ⟨t,rfl⟩ .nil) h) (fun w s2 hq2=>?_) (fun _ _ z=>z))))
  obtain⟨g1,v,H2,I3,rv,g2,n,rfl,e1,e2⟩:=hq2;obtain⟨t2,rfl⟩:=(show ∃t2,w=Value.int n t2 from rv);have pS:=(I3.pin (S,seqObj "list" best c) (w0i _ (w0f _ w0h))).1;cases o with
  |none=>
   cases(show best=#[]from hb);obtain⟨c2,hc2⟩:∃c2,(s2.heap.update S (Obj.mapSeq fun _=>#[.int i t,.int n t2])).get? S=some (seqObj "list" #[.int i t,.int n t2] c2):=⟨_,get?_update_seq pS fun _=>#[.int i t,.int n t2]⟩
   show wpAny _ A.in1 (updateSeq S (fun _=>#[.int i t,.int n t2]) >>= _) _ _ _
   refine wpAny_bind (wpAny_updateSeq pS rfl ?_);rw[hname];exact wpAny_pure ⟨plainId_quiet PySem.F.plain_min_loop _,tail _ s2 n H2 I3 ⟨t2,rfl⟩ g1 g2 e1 e2 _ c2 _ ⟨t,t2,rfl⟩ rfl rfl rfl (fun b o z e=>(Heap.get?_update_other _ _ (Ne.symm z)).trans e) hc2 rfl⟩
  |some bm=>
   obtain⟨b,m⟩:=bm;obtain⟨tb,tm,rfl⟩:=(show ∃t u,best=#[.int b t,.int m u]from hb);show wpAny _ A.in1 (tryCatch (holding [.int i t,.int n t2] (richCompare .Lt (.int n t2) (.int m tm) >>= _)) _ >>= _) _ _ _;refine wpAny_bind (wpAny_tryCatch (wpAny_holding (wpAny_bind (CmpOf.ints_lt (prog:=X.prog) (w:=X.w) (A:=A.in1) (P:=fun z v=>∃t,v=.int (if z=0 then n else m) t) (fun z=>if z=0 then n else m) (fun i v h=>h) 0 1 _ _ _ _ _ ⟨t2,rfl⟩ ⟨tm,rfl⟩ ?_))))
   refine wpAny_bind (wpAny_holding (wpAny_truthy_bool ?_));refine wpAny_bind (wpAny_letGo (wpAny_pure ?_))
   by_cases hb':n<m
   ·obtain⟨c2,hc2⟩:∃c2,(s2.heap.update S (Obj.mapSeq fun _=>#[.int i t,.int n t2])).get? S=some (seqObj "list" #[.int i t,.int n t2] c2):=⟨_,get?_update_seq pS fun _=>#[.int i t,.int n t2]⟩
    rw[if_pos (show decide ((if(0:Nat)=0 then n else m)<(if(1:Nat)=0 then n else m))=true by simp[hb'])];refine wpAny_bind (wpAny_updateSeq pS rfl (wpAny_bind (wpAny_letGo ?_)));rw[hname];exact wpAny_pure ⟨plainId_quiet PySem.F.plain_min_loop _,tail _ s2 n H2 I3 ⟨t2,rfl⟩ g1 g2 e1 e2 _ c2 _ (by unfold bestU;simp only[if_pos hb'];exact⟨t,t2,rfl⟩) rfl rfl rfl (fun b o z e=>(Heap.get?_update_other _ _ (Ne.symm z)).trans e) hc2 rfl⟩
   ·rw[if_neg (show ¬decide ((if(0:Nat)=0 then n else m)<(if(1:Nat)=0 then n else m))=true by simp[hb'])];refine wpAny_bind (wpAny_letGo ?_);rw[hname];exact wpAny_pure ⟨plainId_quiet PySem.F.plain_min_loop _,tail _ s2 n H2 I3 ⟨t2,rfl⟩ g1 g2 e1 e2 _ c s2 (by unfold bestU;simp only[if_neg hb'];exact⟨tb,tm,rfl⟩) rfl rfl rfl (fun b o _ e=>e) pS rfl⟩
theorem y1m{s:Shared}{H:Hp}(F:FnV X.prog X.w X.K X.mg X.base (CX1 X.prog X.w) k sp)(hr:Room (k+1) X.A)(hcalm:X.calm=true)(hv:∀b o,cs.lookup b=some o->b∉frs X.stack)(hn:∀b o,cs.lookup b=some o->X.base.get? b=none)
  (In:Inv X pins σ H s)(hc:CelsAt cs H s.heap)(hq:SqL X.K H p (is0.map V.int))(h:minT sp (.ref f) cs X.K p (is0.map V.int) Q is0 none H):
  wpAny (model X.prog X.w) X.A (call (.builtin "min") [.ref p] [(Str.ofString "key", .ref f)]) (EP X pins σ Q) X.xe s:=by
 have hname:(toString "min"++toString ".loop":String)="min.loop":=by decide
 obtain⟨its,rI,pl,hz⟩:=In.list hq;have hl:=pl.isList;have hlt:p<s.heap.objs.size:=by obtain⟨_,e,_⟩:=hl;exact Heap.lt_size e
 refine kmk_tree PySem.F.kind_min PySem.F.plain_min PySem.F.entry_min (kmk_min_key _ _) ?_;show wpAny _ X.A.in1 (Builtin.Builtins.bindParams "min" ["key", "default"] 0 ⟨[],[(Str.ofString "key", .ref f)]⟩ >>= _) _ _ s;refine wpAny_bind (wpAny_of_eq (show Builtin.Builtins.bindParams "min" ["key", "default"] 0 ⟨[],[(Str.ofString "key", .ref f)]⟩=pure [some (.ref f),none]from rfl) ?_);refine wpAny_bind (wpAny_pure ?_);refine wpAny_bind (wpAny_pyIter_list hl ?_);refine wpAny_bind (wpAny_newList ?_ (w1c _));rw[hname];have hS:(s.heap.push {cls:=.type "list_iterator", data:=.fields #[.ref p,.int 0 0]}).objs.size=s.heap.objs.size+1:=size_push' ..;have k2:∀b o,s.heap.get? b=some o->((s.heap.push {cls:=.type "list_iterator", data:=.fields #[.ref p,.int 0 0]}).push (seqObj "list" #[] 0)).get? b=some o:=fun b o e=>Heap.get?_push_of_some _ (Heap.get?_push_of_some _ e)
 have I2:Inv X pins σ H {s with heap:=(s.heap.push {cls:=.type "list_iterator", data:=.fields #[.ref p,.int 0 0]}).push (seqObj "list" #[] 0)}:=In.kept (t':=s.toks) k2;refine wpAny_pure ⟨plainId_quiet PySem.F.plain_min_loop _,x5a F hr.in1 rfl (In.ok.hd hcalm) hv hn (I:=s.heap.objs.size) (S:=(s.heap.push {cls:=.type "list_iterator", data:=.fields #[.ref p,.int 0 0]}).objs.size) (by rw[hS];exact w4c _) (w0r hlt) (fun b o z=>?_) is0 0 none #[] 0 _ H rfl (w1c _) I2 (In.fpOk (w0g _) (In.hok.fresh (w0g _))) (In.fpOk (by rw[hS];exact w3o _) (In.hok.fresh (by rw[hS];exact w3o _))) hq ⟨_,Heap.get?_push_of_some _ (Heap.get?_push_size _ rfl),rfl,rfl⟩ (Heap.get?_push_size _ rfl) rfl (fun b o z=>⟨(hc b o z).1,k2 b o (hc b o z).2⟩) h⟩
 have:=Heap.lt_size (hc b o z).2;exact⟨w0r this,by rw[hS];exact w0r (w2u this)⟩
end
def tMinK(sp:V->List V->Hp->VK->XK->Prop)(X:Cx)(params:Arguments)(body:Expr)(scope:Scope)(Nf:List Str)(js:List Nat)(ta:TE):TE:=fun σ H Q=>ta σ H fun v H1=>∃(p:Addr)(is:List Int),v=.ref p /\
 ∀f clos H2,LamAt X params body scope clos f H1 H2->∀cs,CellsOf clos Nf scope js σ H2 cs->SqL X.K H2 p (is.map V.int)/\minT sp (.ref f) cs X.K p (is.map V.int) Q is none H2
section
variable{X:Cx}{k:Nat}{sp:V->List V->Hp->VK->XK->Prop}
theorem y8u{params:Arguments}{body a:Expr}{scope:Scope}{lpos p pos kp:Pos}{Nf:List Str}{js:List Nat}{ta:TE}(F:FnV X.prog X.w X.K X.mg X.base (CX1 X.prog X.w) k sp)(hr:Room (k+1) X.A)(hc:X.calm=true)(hg:Gl X "min")(hm:X.mg "min"=none)
  (M:Maker X)(hfn:∀y,X.fn y=true)(ha:PE X a ta)(hdef:defaultsOf params X.env=([],[]))
  (hfree:∀x∈scope.names,x.2=.free->X.env.kindOf x.1=some .cell\/X.env.kindOf x.1=some .free)
  (hNf:∀(i j:Nat) y,Nf[i]?=some y->js[i]?=some j->X.N[j]?=some y/\(y,NameKind.free)∈scope.names/\Vis X.env.scope y/\X.env.kindOf y≠some .local)
  (he:starEach [a] X.env=[(false,eval a X.env)]:=by rfl):
  PE X (.Call (.Name "min" p) [a] [⟨some "key", .Lambda params body scope lpos,kp⟩] pos) (tMinK sp X params body scope Nf js ta):=by
 intro pins s σ H Q I h;refine wpAny_Call_Name_kw (q4f I hg hm PyProof.Rows.Boot.«min» ?_ (by decide) (by decide));refine callWith_kw ?_ (by rw[he];rfl) (by rw[he];rfl);rw[he];show wpAny _ _ (spliced ((false,eval a X.env)::[])) _ _ s;refine Calls.spliced_cons (thn (ha pins s σ H _ I h) fun u s1 ⟨v,H1,I1,r1,q1⟩=>?_)
 obtain⟨pa,is,rfl,q⟩:=q1;obtain rfl:u=Value.ref pa:=r1;refine Calls.spliced_nil ?_;refine kws_cons (thn (z0l M hdef hfree _ _ σ H1 (fun v H2=>∃f clos,v=.ref f/\LamAt X params body scope clos f H1 H2) I1 (fun f clos H2 z=>⟨f,clos,rfl,z⟩)) fun fv s3 ⟨v3,H2,I3,rv3,f,clos,ev,la⟩=>kws_nil ?_)
 subst ev;obtain rfl:fv=Value.ref f:=rv3;obtain⟨clos',hclos',hcl,hcf⟩:=q5r (scope:=scope) (env:=X.env) fun x hx hf=>I.ok.has x.1 (hfree x hx hf)
 obtain rfl:clos'=clos:=pure_inj (hclos'.symm.trans la.1)
 have look:∀b o,(celsAt clos' s3.heap).lookup b=some o->∃x,X.env.cells.lookup x=some b/\s3.heap.get? b=some o:=fun b o z=>by
  obtain⟨x,h1,h2⟩:=q9m z;exact⟨x,hcl x b h1,h2⟩
 have hnone:∀b o,(celsAt clos' s3.heap).lookup b=some o->H2 b=none/\s3.heap.get? b=some o:=fun b o z=>by
  obtain⟨x,h1,h2⟩:=look b o z;exact⟨I3.freeC x b h1,h2⟩
 have hab:∀b o,(celsAt clos' s3.heap).lookup b=some o->X.s₀.heap.objs.size<=b:=fun b o z=>by
  obtain⟨x,h1,h2⟩:=look b o z;exact I3.ok.cab x b (hfn x) h1
 have CO:CellsOf clos' Nf scope js σ H2 (celsAt clos' s3.heap):=by
  refine⟨fun x y c e1 e2=>I3.ok.inj x y c (hcl x c e1) (hcl y c e2),hcf,fun x c e=>?_,fun c o e=>⟨(hnone c o e).1,?_⟩,fun i y j z e1 e2 e3=>?_⟩
  ·obtain⟨v,o,g,_⟩:=I3.cell x c (hcl x c e);exact⟨o,x0u e g⟩
  ·obtain⟨x,h1,h2⟩:=look c o e;obtain⟨v,o',g,d⟩:=I3.cell x c h1;rw[h2]at g;cases g;exact⟨v,d⟩
  ·obtain⟨n1,n2,n3,n4⟩:=hNf i j y e1 e2;obtain⟨m,hm,hl⟩:=I3.loc;obtain⟨u,ru,l⟩:=hl j y z n1 e3 n3;rcases l with⟨k1,_⟩|⟨k1,c,ec,o,g,d⟩
   ·exact absurd k1 n4
   ·obtain⟨c',ec'⟩:=hcf y n2;have e4:=hcl y c' ec';rw[ec]at e4;cases e4;exact⟨c,o,u,ec',x0u ec' g,d,ru⟩
 show wpAny _ _ (call (.builtin "min") [.ref pa] [(Str.ofString "key", .ref f)]) _ _ _;obtain⟨hq,hm2⟩:=q f clos' H2 la _ CO;refine y1m F hr hc ?_ (fun b o z=>Heap.get?_none_of_le (w0m I3.ok.bsz (hab b o z))) I3 (fun b o z=>hnone b o z) hq hm2
 exact fun b o z hb=>by
  rcases w0j.mp (I3.stkSub b hb)with e|hb2
  ·obtain⟨x,h1,_⟩:=look b o z;exact I3.cne x b h1 e
  ·obtain⟨_,o',q',_⟩:=I3.ok.funs.mem hb2
   exact absurd (Heap.lt_size q') (w5f.mpr (hab b o z))
end
end L2
namespace D
open PySem L2
variable{r:Nat->List W->FR}
def keyI1:FR->Option Int
 |.ok (.fr (.int n))=>some n
 |_=>none
def minGo(F:Int->Option Int):List Int->Option (Int×Int)->Option Int
 |[],o=>o.map (·.1)
 |i::is,o=>match F i with
  |some n=>minGo F is (bestU o i n)
  |none=>none
def minK(r:Nat->List W->FR)(j:Nat)(e1:List S):W->Option (List W)->R W
 |.lst ws,some caps=>match intsW ws with
  |some is=>if noFns caps=true then ofOpt ((minGo (fun i=>keyI1 (r j (.int i::caps))) is none).map .int) e1 else .no
  |none=>.no
 |_,_=>.no
def dMinK(r:Nat->List W->FR)(j:Nat)(js:List Nat)(d:Den W):Den W:=fun e=>(d e).bind fun w e1=>minK r j e1 w (capsOf js e1)
theorem y8v{j:Nat}{js:List Nat}{d:Den W}{e:List S}:dMinK r j js d e=(d e).bind fun w e1=>minK r j e1 w (capsOf js e1):=rfl
theorem x7u{K:Fg}{lams:Nat->Option Lm}{j:Nat}{lm:Lm}{caps:List W}{G1 H1:Hp}{cs:Cs}{f p:Addr}{xs:List V}{Q:VK}{out:Int}(hl:lams j=some lm)(hnc:noFns caps=true)(hq:SqL K G1 p xs)
  (hQ:∀Gc Hc,Grow G1 H1 Gc Hc->Q (.int out) Hc):
  ∀(is:List Int)(o:Option (Int×Int))(Gc Hc:Hp),minGo (fun i=>keyI1 (r j (.int i::caps))) is o=some out->Grow G1 H1 Gc Hc->(∀b o,cs.lookup b=some o->Hc b=none)->Rep K (addC Gc cs) (.fn j lm caps) (.ref f) ->
   minT (spV K lams r) (.ref f) cs K p xs Q is o Hc
 |[],o,Gc,Hc,hm,g,hc,rf=>by
  cases o with
  |none=>cases hm
  |some bm=>
   obtain⟨b,m⟩:=bm;cases hm;exact⟨_,_,rfl,hQ Gc Hc g⟩
 |i::is,o,Gc,Hc,hm,g,hc,rf=>by
  obtain⟨n,hn,hm⟩:∃n,keyI1 (r j (.int i::caps))=some n/\minGo (fun i=>keyI1 (r j (.int i::caps))) is (bestU o i n)=some out:=by
   have hm:(match keyI1 (r j (.int i::caps))with
    |some n=>minGo (fun i=>keyI1 (r j (.int i::caps))) is (bestU o i n)
    |none=>none)=some out:=hm
   cases q:keyI1 (r j (.int i::caps))with
   |none=>rw[q]at hm;cases hm
   |some n=>rw[q]at hm;exact⟨n,rfl,hm⟩
  have hn:r j (.int i::caps)=.ok (.fr (.int n)):=by
   unfold keyI1 at hn;split at hn
   ·rename_i m e;cases hn;exact e
   ·cases hn
  refine⟨addC Gc cs,j,lm,caps,[.int i],.int n,q8p g.sub,rf,⟨_,_,rfl,rfl,rfl⟩,rfl,hnc,hl,hn,fun G' H' v g' rv=>?_⟩
  cases(show v=V.int n from rv);have gn:=Grow.nocells g' hc g.sub;refine⟨n,rfl,gn.sub.seq ((g.gg.trans gn.gg).seq hq),x7u hl hnc hq hQ is (bestU o i n) (rmC G' cs) _ hm (g.trans gn) (fun b o z=>q51 z) (Rep.mono (q8p gn.gg) _ rf)⟩
section
variable{X:Cx}{Z:Zt}{EE:L2.St->XK}{e body:Expr}{params:Arguments}{d:Den W}{lpos p pos kp:Pos}{k:Nat}{N nf:List Str}{js:List Nat}{sc scope:Scope}{lams:Nat->Option Lm}
theorem y8w(j:Nat)(l:Lm)(F:FnV X.prog X.w X.K X.mg X.base (CX1 X.prog X.w) k (spV X.K lams r))(hr:Room (k+1) X.A)(hc:X.calm=true)(hm:X.mg "min"=none)(M:Maker X)(hfn:∀y,X.fn y=true)(he:DE Z X EE e d)(hlm:lams j=some l)(ok:compOk sc scope N nf js=true)
  (hl:l=⟨X.env.qual++"<lambda>", params,body,scope,nf⟩:=by rfl)(hdef:defaultsOf params X.env=([],[]):=by rfl)(hsc:X.env.scope=sc:=by rfl)(hN:X.N=N:=by rfl)(hg:Gl X "min":=by rfl)
  (hst:starEach [e] X.env=[(false,eval e X.env)]:=by rfl):
  DE Z X EE (.Call (.Name "min" p) [e] [⟨some "key", .Lambda params body scope lpos,kp⟩] pos) (dMinK r j js d):=by
 unfold compOk at ok;simp only[w0o,w0z,beq_iff_eq,bne_iff_ne,w4h,w0x]at ok;obtain⟨⟨⟨⟨⟨⟨k1,k2⟩,k3⟩,k4⟩,k5⟩,k6⟩,k7⟩:=ok;have kind:∀x,X.env.kindOf x=sc.names.lookup x:=fun x=>by rw[<- hsc];rfl
 refine PE.mono (y8u (Nf:=nf) (js:=js) F hr hc hg hm M hfn he hdef (fun x hx hf=>?_) (fun i j y e1 e2=>?_) hst) ?_
 ·rw[kind];rcases k4 x hx with(z|z)|z
  ·exact absurd hf z
  ·exact .inl z
  ·exact .inr z
 ·have hlt:i<js.length:=(w0c.mp e2).1;have z:=k6 i hlt;rw[e1,e2]at z;obtain⟨z1,z2⟩:=k7 y (w0y e1);refine⟨by rw[hN];simpa using z,PySem.mem_of_lookup z1,?_,?_⟩
  ·rw[hsc];rcases z2 with z|z
   ·exact .inr (.inl z)
   ·exact .inr (.inr z)
  ·rw[kind];rcases z2 with z|z<;>(rw[z];decide)
 ·rintro σ H Q ⟨G,en,rel,h⟩;simp only[dMinK,R.holds_bind]at h;refine⟨G,en,rel,h.imp (fun w e1 h G1 v1 H1 r1 s1 p1=>?_) fun _ _ h=>h⟩
  cases w with
  |lst ws=>
   cases hcap:capsOf js e1 with
   |none=>rw[hcap]at h;exact h.elim
   |some caps=>
   rw[hcap]at h;simp only[minK]at h;cases hi:intsW ws with
   |none=>rw[hi]at h;exact h.elim
   |some is=>
   rw[hi]at h;simp only[]at h;split at h
   ·rename_i hnc;cases ho:minGo (fun i=>keyI1 (r j (.int i::caps))) is none with
    |none=>rw[ho]at h;exact h.elim
    |some out=>
    rw[ho]at h;obtain⟨pa,xs,rfl,q,rr⟩:=p1;cases x0e hi rr;refine⟨pa,is,rfl,fun f clos H2 la cs co=>?_⟩
    obtain⟨hclos,Hm,pm,ctv,c',hH,hf,rfl⟩:=la
    have rm:Rel X.K Z G1 σ Hm e1:=by
     rcases hH with rfl|⟨c,oc,hc,rfl⟩
     ·exact r1
     ·exact r1.grow (Grow.hid r1.sub hc _)
    have gl:=Grow.laid rm.sub hf (fnO (kla_obj "<lambda>" (X.env.qual++"<lambda>") params body scope clos pm c' ctv) (X.env.qual++"<lambda>") c');have r2:=rm.grow gl;obtain⟨zs,rz,zl,zv⟩:=x29 r1 hcap;have hn2:∀b o,cs.lookup b=some o->upd Hm f (fnO (kla_obj "<lambda>" (X.env.qual++"<lambda>") params body scope clos pm c' ctv) (X.env.qual++"<lambda>") c') b=none:=fun b o z=>(co.cel b o z).1
    have gn2:∀b o,cs.lookup b=some o->upd G1 f (fnO (kla_obj "<lambda>" (X.env.qual++"<lambda>") params body scope clos pm c' ctv) (X.env.qual++"<lambda>") c') b=none:=fun b o z=>by
     cases q:upd G1 f (fnO (kla_obj "<lambda>" (X.env.qual++"<lambda>") params body scope clos pm c' ctv) (X.env.qual++"<lambda>") c') b with
     |none=>rfl
     |some u=>have:=r2.sub b u q;rw[hn2 b o z]at this;cases this
    have sA:=gl.gg.trans (x48 gn2)
    have fout:cs.lookup f=none:=by
     cases q:cs.lookup f with
     |none=>rfl
     |some o=>have:=gn2 f o q;rw[q0h]at this;cases this
    have fc:FnCells (addC (upd G1 f (fnO (kla_obj "<lambda>" (X.env.qual++"<lambda>") params body scope clos pm c' ctv) (X.env.qual++"<lambda>") c')) cs) clos l zs cs:=by
     subst hl;refine⟨co.inj,co.has,co.all,fun c o z=>⟨q38 z,(co.cel c o z).2⟩,fun i y z g1 g2=>?_,by rw[zl];exact k5⟩
     have hi:i<js.length:=by rw[<- zl];exact(w0c.mp g2).1
     have g3:js[i]?=some js[i]:=w0b hi;exact co.val i y js[i] z g1 g3 (zv i _ z g3 g2)
    have rfn:Rep X.K (addC (upd G1 f (fnO (kla_obj "<lambda>" (X.env.qual++"<lambda>") params body scope clos pm c' ctv) (X.env.qual++"<lambda>") c')) cs) (.fn j l caps) (.ref f):=by
     refine⟨f,clos,zs,cs,rfl,⟨pm,c',ctv,?_⟩,fc,Reps.mono sA caps rz⟩;rw[q0z fout,q0h,hl]
    have q2:SqL X.K (upd G1 f (fnO (kla_obj "<lambda>" (X.env.qual++"<lambda>") params body scope clos pm c' ctv) (X.env.qual++"<lambda>") c')) pa (is.map V.int):=gl.gg.seq q;refine⟨r2.sub.seq q2,x7u hlm hnc q2 (fun Gc Hc g=>?_) is none _ _ ho (Grow.refl r2.sub) hn2 rfn⟩
    exact h Gc _ Hc (r2.grow g) (s1.trans (gl.gg.trans g.gg)) rfl
   ·exact h.elim
  |_=>exact h.elim
end
end D
namespace L2
open PySem PySem.Spec PyProof.Rows
variable{f:Addr}{X:Cx}{fd:FuncData}{ps:List Str}{k:Nat}{sp:Sp}{α β:Type}
def RelL(R:α->β->Prop):List α->List β->Prop
 |[],[]=>True
 |a::as,b::bs=>R a b/\RelL R as bs
 |_,_=>False
theorem RelL.perm{R:α->β->Prop}{bs' bs:List β}(h:bs'.Perm bs):∀{as:List α},RelL R as bs->∃as',as'.Perm as/\RelL R as' bs':=by
 induction h with
 |nil=>exact fun {as} r=>⟨as,.refl _,r⟩
 |cons x _ ih=>
  intro as r;cases as with
  |nil=>exact r.elim
  |cons a as=>
   obtain⟨as',p,q⟩:=ih r.2;exact⟨a::as',p.cons a,r.1,q⟩
 |swap x y l=>
  intro as r;cases as with
  |nil=>exact r.elim
  |cons a as=>
   cases as with
   |nil=>exact r.2.elim
   |cons b as=>exact⟨b::a::as,.swap ..,r.2.1,r.1,r.2.2⟩
 |trans _ _ ih1 ih2=>
  intro as r;obtain⟨a2,p2,q2⟩:=ih2 r;obtain⟨a1,p1,q1⟩:=ih1 q2;exact⟨a1,p1.trans p2,q1⟩
theorem RelL.get{R:α->β->Prop}:∀{as:List α}{bs:List β},RelL R as bs->∀(i:Nat) a,as[i]?=some a->∃b,bs[i]?=some b/\R a b
 |a::as,b::bs,r,0,_,e=>by cases e;exact⟨b,rfl,r.1⟩
 |a::as,b::bs,r,i+1,x,e=>RelL.get r.2 i x e
 |[],[],_,i,_,e=>by simp at e
theorem RelL.length{R:α->β->Prop}:∀{as:List α}{bs:List β},RelL R as bs->as.length=bs.length
 |[],[],_=>rfl
 |_::_,_::_,r=>congrArg (·+1) (RelL.length r.2)
theorem RelL.map{γ δ:Type}{R:α->β->Prop}{R':γ->δ->Prop}{f:α->γ}{g:β->δ}(h:∀a b,R a b->R' (f a) (g b)):∀{as:List α}{bs:List β},RelL R as bs->RelL R' (as.map f) (bs.map g)
 |[],[],_=>trivial
 |_::_,_::_,r=>⟨h _ _ r.1,RelL.map h r.2⟩
def SKV(a:Str×V)(b:Keyed):Prop:=(∃t,b.1=.str a.1 t)/\RelV a.2 b.2
theorem y1n:∀{ns:List Str}{xs:List V}{ws us:List Value},Vals (ns.map V.str) ws->Vals xs us->RelL SKV (ns.zip xs) (ws.zip us)
 |[],_,_,us,h1,_=>by cases h1;exact trivial
 |_::_,[],_,_,h1,h2=>by cases h1;cases h2;exact trivial
 |n::ns,x::xs,_,_,h1,h2=>by
  cases h1 with
  |cons r1 h1=>
  cases h2 with
  |cons r2 h2=>exact⟨⟨r1,r2⟩,y1n h1 h2⟩
theorem x5b:∀{xs:List V}{us:List Value},RelL RelV xs us->Vals xs us
 |[],[],_=>.nil
 |_::_,_::_,r=>.cons r.1 (x5b r.2)
theorem x3a:∀{ns:List Str}{ws:List Value},Vals (ns.map V.str) ws->StrsAre ws ns
 |[],_,h=>by cases h;exact .nil
 |n::ns,_,h=>by
  cases h with
  |cons r h=>
   obtain⟨t,rfl⟩:=r;exact .cons n t (x3a h)
theorem y1o:∀{ws:List Value}{ns:List Str},StrsAre ws ns->2<=ws.length->keyKind' ws.toArray=pure oneType'
 |[],_,_,h=>absurd h (by simp)
 |[_],_,_,h=>absurd h (by simp)
 |_::_::_,_,hJ,_=>keyKind_strs hJ
abbrev UpTo(zs:List (Str×V)):Prop:=zs.Pairwise fun a b=>¬b.1.cps.toList<a.1.cps.toList
theorem y1p{zs:List (Str×V)}{arr:Array Keyed}(r:RelL SKV zs arr.toList)(h:SortedToK strKind arr arr.size):UpTo zs:=by
 have key:∀i (hi:i<zs.length),KK strKind arr i=zs[i].1.cps.toList:=fun i hi=>by
  obtain⟨b,e,⟨t,hb⟩,_⟩:=r.get i zs[i] (w0b hi);have e2:arr[i]?=some b:=by simpa using e
  unfold KK;rw[e2];show((strKind.keyOf b.1).getD _)=_;rw[hb];rfl
 refine w2w.mpr fun i j hi hj hij=>?_
 have hl:zs.length=arr.size:=by rw[r.length];simp
 have:=h i j (w4g hij) (by omega);rw[key i hi,key j hj]at this;exact of_decide_eq_false this
theorem y8x{A:Around}{pins:List (Addr×Obj)}{σ:St}{H:Hp}{s:Shared}{Q:VK}{us:List Value}{vs:List V}{E:Value->Shared->Prop}(F:FnOk X.prog X.w X.K X.mg X.base (CX1 X.prog X.w) k f fd ps sp)(hr:Room k A)(hA:A.frames=X.A.frames)(hb:Binds X.K fd ps [])
  (I:Inv X pins σ H s)(r:Vals vs us)(h:sp vs H Q fun _ _ _=>False):wpAny (model X.prog X.w) A (call (.ref f) us) (EP X pins σ Q) E s:=by
 have hl:(us++[]).length=ps.length:=by rw[w1l,<- r.length];exact F.len _ _ _ _ h
 have e0:=I.env0;have bd:=hb s us I.kIn hl;rw[w1l]at bd;refine wpAny_call (codeAny_mono (F.run A X.stack s H ⟨us,[]⟩ us vs Q _ hr ⟨hA.trans e0.frames,e0.mod,e0.bs,e0.bsz,e0.funs,e0.frf,e0.hok,e0.bare,e0.tab⟩ bd r h) fun r s' hq=>?_)
 cases r with
 |error e=>
  obtain⟨_,_,_,_,_,_,_,_,_,_,hE⟩:=hq;exact hE.elim
 |ok fl=>
  cases fl with
  |ret u=>exact I.after hq
  |next=>exact False.elim hq
  |brk=>exact False.elim hq
  |cont=>exact False.elim hq
def keysS(sp:Sp)(l:Addr)(o:Obj)(ks:Addr)(K:List Str->Hp->Prop):List V->List Str->Hp->Prop
 |[],ns,H=>K ns H
 |x::xs,ns,H=>sp [x] H (fun v H'=>∃n,v=.str n/\H' l=some (.frz o (.lst []))/\H' ks=some (.lst (ns.map V.str))/\keysS sp l o ks K xs (ns++[n]) (upd H' ks (.lst ((ns++[n]).map V.str)))) fun _ _ _=>False
section
variable{A:Around}{pins:List (Addr×Obj)}{σ:St}{l ks:Addr}{E:Value->Shared->Prop}{o:Obj}{K:List Str->Hp->Prop}
theorem x09(F:FnOk X.prog X.w X.K X.mg X.base (CX1 X.prog X.w) k f fd ps sp)(hr:Room k A)(hA:A.frames=X.A.frames)(hb:Binds X.K fd ps [])
  (hlk:l≠ks)(items:Array Value):∀(xs:List V)(us:List Value)(ns:List Str)(s:Shared)(H:Hp),Vals xs us->Inv X pins σ H s->H l=some (.frz o (.lst []))->H ks=some (.lst (ns.map V.str))->ns.length+xs.length<=1000->keysS sp l o ks K xs ns H ->
  wpAny (model X.prog X.w) A (forIn us PUnit.unit fun x (_:PUnit)=>keyStep l (.ref f) (.ref ks) x items) (fun _ s'=>∃(H':Hp)(ns':List Str),Inv X pins σ H' s'/\H' l=some (.frz o (.lst []))/\H' ks=some (.lst (ns'.map V.str))/\ns'.length=ns.length+xs.length/\K ns' H') E s
 |[],us,ns,s,H,r,I,hl,hk,hz,h=>by
  cases r;rw[w4q];exact wpAny_pure ⟨H,ns,I,hl,hk,rfl,h⟩
 |x::xs,us,ns,s,H,r,I,hl,hk,hz,h=>by
  cases r with
  | @cons _ u _ us r rr=>
   rw[w2q];refine wpAny_bind ?_;unfold keyStep;refine wpAny_bind (wpAny_attempt ?_);refine wpAny_mono (y8x (Q:=fun v H'=>∃n,v=.str n/\H' l=some (.frz o (.lst []))/\H' ks=some (.lst (ns.map V.str))/\keysS sp l o ks K xs (ns++[n]) (upd H' ks (.lst ((ns++[n]).map V.str)))) F hr hA hb I (.cons r .nil) h) (fun w s1 hq=>?_) (fun _ _ z=>z)
   obtain⟨v,H1,I1,rv,n,rfl,e1,e2,h2⟩:=hq;obtain⟨hz1,its,m,rI,eo⟩:=(show ObjOk X.prog X.w H1 s1.heap ks (.lst (ns.map V.str))from I1.hok ks _ e2);have hil:its.length=ns.length:=by rw[<- rI.length,w0a]
   refine wpAny_bind (listUpdate_at eo rfl ?_ (hsz:=by rw[w0d,sizeLine_eq];omega) (hsz2:=by rw[Array.size_push,w0d,sizeLine_eq];omega))
   obtain⟨m2,eo2⟩:∃m2,(s1.heap.update ks (Obj.mapSeq (·.push w))).get? ks=some {cls:=.type "list", data:=.seq (its++[w]).toArray m2}:=by
    have z:=get?_update_seq eo (·.push w);rw[show its.toArray.push w=(its++[w]).toArray by simp]at z;exact⟨_,z⟩
   have I2:Inv X pins σ (upd H1 ks (.lst ((ns++[n]).map V.str))) {s1 with heap:=s1.heap.update ks (Obj.mapSeq (·.push w))}:=by
    refine I1.write (t':=s1.toks) (by rw[e2];exact True.intro) (.inl rfl) (fun b u hb q=>(Heap.get?_update_other _ _ (Ne.symm hb)).trans q) ⟨_,eo2⟩ (show ObjOk X.prog X.w _ _ _ (.lst _)from⟨by rw[w0a,w0p,sizeLine_eq];simp;omega,its++[w],m2,?_,eo2⟩)
    rw[w1j];exact rI.append (.cons rv .nil)
   refine wpAny_pure ?_;show wpAny _ _ (forIn us PUnit.unit _) _ _ _;refine wpAny_mono (x09 F hr hA hb hlk items xs us (ns++[n]) _ _ rr I2 (by rw[q0c hlk];exact e1) q0h (by rw[w0p];simp at hz |-;omega) h2) (fun _ s' hq=>?_) (fun _ _ z=>z)
   obtain⟨H',ns',a1,a2,a3,a4,a5⟩:=hq;exact⟨H',ns',a1,a2,a3,by rw[a4,w0p];simp;omega,a5⟩
def tKeyedS(sp:Sp)(l:Addr)(xs:List V)(H:Hp)(Q:VK):Prop:=
 ∀o ks,upd H l (.frz o (.lst [])) ks=none->keysS sp l o ks (fun ns H'=>∀zs:List (Str×V),zs.Perm (ns.zip xs)->UpTo zs->Q (.ref l) (upd (upd H' ks (.lst [])) l (.lst (zs.map (·.2))))) xs [] (upd (upd H l (.frz o (.lst []))) ks (.lst []))
theorem y1q{Q:VK}{xs:List V}{H:Hp}{s:Shared}(F:FnOk X.prog X.w X.K X.mg X.base (CX1 X.prog X.w) k f fd ps sp)(hr:Room k A)(hA:A.frames=X.A.frames)(hb:Binds X.K fd ps [])
  (I:Inv X pins σ H s)(el:H l=some (.lst xs))(hf:∀o v,X.H₀ l≠some (.frz o v))(h64:xs.length<64)(h:tKeyedS sp l xs H Q):
  wpAny (model X.prog X.w) A (Builtin.«list.sort» ⟨[.ref l],[(Str.ofString "key", .ref f)]⟩) (fun fin s'=>fin=.done (.ret .none)/\EP X pins σ Q (.ref l) s') E s:=by
 rw[x3z];obtain⟨_,us,m,rU,eo⟩:=(show ObjOk X.prog X.w H s.heap l (.lst xs)from I.hok l _ el);have hul:us.length=xs.length:=by rw[<- rU.length]
 refine wpAny_bind (listItems_at eo rfl ?_);refine wpAny_bind (listUpdate_at eo rfl ?_ (hsz:=by rw[w0d,sizeLine_eq];omega));obtain⟨e1,eo1⟩:∃e1,(s.heap.update l (Obj.mapSeq fun _=>#[])).get? l=some (seqObj "list" #[] e1):=⟨_,get?_update_seq eo (fun _=>#[])⟩
 have I1:Inv X pins σ (upd H l (.lst [])) {s with heap:=s.heap.update l (Obj.mapSeq fun _=>#[])}:=
  I.write (t':=s.toks) (by rw[el];exact True.intro) (.inl rfl) (fun b u hb q=>(Heap.get?_update_other _ _ (Ne.symm hb)).trans q) ⟨_,eo1⟩ (show ObjOk X.prog X.w _ _ _ (.lst [])from⟨w1c _,[],e1,.nil,eo1⟩)
 have I2:=I1.freezeL (a:=l) (xs:=[]) (o:=seqObj "list" #[] e1) q0h eo1;rw[x1y]at I2;refine wpAny_bind (seqEpoch_at eo1 rfl ?_);refine wpAny_bind (wpAny_newTuple ?_ (hsz:=by rw[sizeLine_eq];simp;omega));have I3:=I2.kept (t':=s.toks) (h':=(s.heap.update l (Obj.mapSeq fun _=>#[])).push (seqObj "tuple" us.toArray.toList.toArray 0)) fun b u q=>Heap.get?_push_of_some _ q
 refine wpAny_bind (wpAny_newList ?_);have fr:=I3.hok.fresh (w0g _)
 have I4:=I3.laid (t':=s.toks) (o:=.lst []) (h':=((s.heap.update l (Obj.mapSeq fun _=>#[])).push (seqObj "tuple" us.toArray.toList.toArray 0)).push (seqObj "list" #[] 0)) (fun b u q=>Heap.get?_push_of_some _ q) (w0g _)
  (show ObjOk X.prog X.w _ _ _ (.lst [])from⟨w1c _,[],0,.nil,Heap.get?_push_size _ rfl⟩)
 refine wpAny_holding ?_;refine wpAny_bind (wpAny_rule ?_);rw[List.forIn_toArray]
 have hlk:l≠((s.heap.update l (Obj.mapSeq fun _=>#[])).push (seqObj "tuple" us.toArray.toList.toArray 0)).objs.size:=fun z=>by
  rw[<- z,q0h]at fr;cases fr
 refine wpAny_bind (wpAny_mono (x09 F hr hA hb hlk us.toArray xs us [] _ _ rU I4 (by rw[q0c hlk];exact q0h) q0h (by simp;omega) (h _ _ fr)) (fun _ s5 hq=>?_) (fun _ _ z=>z))
 obtain⟨H5,ns,I5,el5,ek5,hns,q⟩:=hq
 clear I1 I2 I3 I4
 generalize ((s.heap.update l (Obj.mapSeq fun _=>#[])).push (seqObj "tuple" us.toArray.toList.toArray 0)).objs.size=ks at *
 obtain⟨_,ws,mk,rW,ew⟩:=(show ObjOk X.prog X.w H5 s5.heap _ (.lst (ns.map V.str))from I5.hok _ _ ek5);have hwl:ws.length=us.length:=by rw[<- rW.length,w0a,hns,hul];simp
 have hJ:=x3a rW;have eo5:s5.heap.get? l=some (seqObj "list" #[] e1):=(show _/\_ from I5.hok _ _ el5).1;refine wpAny_bind (listItems_at ew rfl ?_)
 have fin:∀arr:Array Keyed,arr.Perm (ws.toArray.zip us.toArray)->SortedToK strKind arr arr.size->wpAny (model X.prog X.w) A (do
   Builtin.List.listUpdate (.ref ks) fun _=>#[]
   letGo (arr.map (·.1)).toList ([]:List Value)
   let touched:=(<- seqEpoch l) != e1
   Builtin.List.listUpdate (.ref l) fun _=>arr.map (·.2)
   if touched then rule "list.sort.modified";raiseError "ValueError" "list modified during sort"
   ret .none) (fun fin s'=>fin=.done (.ret .none)/\EP X pins σ Q (.ref l) s') E s5:=fun arr hp hs=>by
  have hp':arr.toList.Perm (ws.zip us):=by
   have:=Array.perm_iff_toList_perm.mp hp
   simpa using this
  obtain⟨zs,pz,rz⟩:=RelL.perm hp' (y1n rW rU);have up:=y1p rz hs
  have hy:Vals (zs.map (·.2)) (arr.map (·.2)).toList:=by
   rw[Array.toList_map];exact x5b (RelL.map (fun _ _ h=>h.2) rz)
  have hxs:arr.size=us.length:=by rw[hp.size_eq];simp[hwl]
  have hzl:zs.length=us.length:=by rw[rz.length];simp[hxs]
  refine wpAny_bind (listUpdate_at ew rfl ?_ (hsz:=by rw[w0d,sizeLine_eq];omega));obtain⟨e6,ew6⟩:∃e6,(s5.heap.update ks (Obj.mapSeq fun _=>#[])).get? ks=some (seqObj "list" #[] e6):=⟨_,get?_update_seq ew (fun _=>#[])⟩
  have I6:Inv X pins σ (upd H5 ks (.lst [])) {s5 with heap:=s5.heap.update ks (Obj.mapSeq fun _=>#[])}:=
   I5.write (t':=s5.toks) (by rw[ek5];exact True.intro) (.inl rfl) (fun b u hb q=>(Heap.get?_update_other _ _ (Ne.symm hb)).trans q) ⟨_,ew6⟩ (show ObjOk X.prog X.w _ _ _ (.lst [])from⟨w1c _,[],e6,.nil,ew6⟩)
  have el6:upd H5 ks (.lst []) l=some (.frz (seqObj "list" #[] e1) (.lst [])):=by rw[q0c hlk];exact el5
  have eo6:(s5.heap.update ks (Obj.mapSeq fun _=>#[])).get? l=some (seqObj "list" #[] e1):=(Heap.get?_update_other _ _ (Ne.symm hlk)).trans eo5
  have I7:=I6.meltL el6 hf;refine wpAny_bind (wpAny_letGo ?_);refine wpAny_bind (seqEpoch_at eo6 rfl ?_);refine wpAny_bind (listUpdate_at eo6 rfl ?_ (hsz2:=by rw[Array.size_map,hxs,sizeLine_eq];omega));obtain⟨e8,eo8⟩:∃e8,((s5.heap.update ks (Obj.mapSeq fun _=>#[])).update l (Obj.mapSeq fun _=>arr.map (·.2))).get? l=some (seqObj "list" (arr.map (·.2)) e8):=⟨_,get?_update_seq eo6 (fun _=>arr.map (·.2))⟩
  have I8:=I7.write (x:=l) (e:=l) (o:=.lst (zs.map (·.2))) (t':=s5.toks) (h':=(s5.heap.update ks (Obj.mapSeq fun _=>#[])).update l (Obj.mapSeq fun _=>arr.map (·.2))) (by rw[q0h];exact True.intro) (.inl rfl) (fun b u hb q=>(Heap.get?_update_other _ _ (Ne.symm hb)).trans q) ⟨_,eo8⟩
   (show ObjOk X.prog X.w _ _ _ (.lst (zs.map (·.2)))from⟨by rw[w0a,hzl,sizeLine_eq];omega,(arr.map (·.2)).toList,e8,hy,by rw[w4n];exact eo8⟩)
  rw[x1y]at I8;simp only[bne_self_eq_false,w2n,if_false];exact wpAny_pure ⟨rfl,.ref l,_,I8,rfl,q zs pz up⟩
 have hza:(ws.toArray.zip us.toArray).size=us.length:=by simp[hwl]
 by_cases h2:us.toArray.size<2
 ·rw[if_pos h2,if_pos h2];refine wpAny_bind (wpAny_pure ?_);dsimp only;rw[StateT.run_pure];refine wpAny_bind (wpAny_pure ?_);refine fin (ws.toArray.zip us.toArray) (Array.Perm.refl _) fun i j hij hj=>?_
  have hsz:us.toArray.size=us.length:=by simp
  have:i=j:=by omega
  subst this;exact KeyOrd.kle_refl _
 ·rw[if_neg h2,if_neg h2];have hsz:us.toArray.size=us.length:=by simp
  rw[y1o hJ (by omega)];refine wpAny_bind (wpAny_pure ?_)
  refine wpAny_bind (wpAny_mono (wpS_sortRunsK (a₀:=ws.toArray.zip us.toArray) (st:=SortSt.mk' oneType' (ws.toArray.zip us.toArray) #[] 7 none)
   (Q:=fun _ st'=>(arrOf st').Perm (ws.toArray.zip us.toArray)/\failedOf st'=none/\SortedToK strKind (arrOf st') (ws.toArray.zip us.toArray).size)
   strKind_oneLt (fun p hp=>?_) ⟨Array.Perm.refl _,rfl,rfl,rfl⟩ (by rw[hza];omega) (by rw[hza];omega) fun st' a1 a2 a3=>⟨a1,a2,a3⟩) ?_ fun _ _ e=>e)
  ·have hm:p∈ws.zip us:=by simpa using hp
   have hw:=(w2y hm).1;obtain⟨i,hi,e⟩:=w1y.mp hw;have hin:i<ns.length:=by rw[<- w0a (f:=V.str),rW.length];exact hi
   obtain⟨u,hu,t,ru⟩:=rW.get (i:=i) (x:=V.str ns[i]) (by rw[w0v,w0b hin];rfl);rw[w0b hi,e]at hu;cases hu;exact⟨_,by rw[ru]⟩
  rintro⟨⟨⟩,st'⟩ s' ⟨rfl,hp,hf5,hs5⟩;have z:=fin _ hp (by rw[hp.size_eq];exact hs5);rw[<- show(failedOf st').toList=([]:List Value) by rw[hf5];rfl]at z;dsimp only at z |-
  rw[hf5]at z |-
  exact z
end
def tSortS(sp:Sp)(K:Fg)(ta:TE):TE:=fun σ H Q=>ta σ H fun v H1=>∃(p:Addr)(xs:List V),v=.ref p/\SqL K H1 p xs/\xs.length<64/\∀l,H1 l=none->tKeyedS sp l xs (upd H1 l (.lst xs)) Q
theorem y4w{a:Expr}{x:Str}{np p pos kp:Pos}{ta:TE}(F:FnOk X.prog X.w X.K X.mg X.base (CX1 X.prog X.w) k f fd ps sp)(hr:Room (k+2) X.A)(hb:Binds X.K fd ps [])(hfm:X.mg x=some (.ref f))(hgx:Gl X x)(hg:Gl X "sorted")(hm:X.mg "sorted"=none)
  (ha:PE X a ta)(he:starEach [a] X.env=[(false,eval a X.env)]:=by rfl)(hdx:(x==("__debug__":Str))=false:=by decide):
  PE X (.Call (.Name "sorted" p) [a] [⟨some "key", .Name x np,kp⟩] pos) (tSortS sp X.K ta):=by
 intro pins s σ H Q I h;refine wpAny_Call_Name_kw (q4f I hg hm PyProof.Rows.Boot.«sorted» ?_ (by decide) (by decide));refine callWith_kw ?_ (by rw[he];rfl) (by rw[he];rfl);rw[he];show wpAny _ _ (spliced ((false,eval a X.env)::[])) _ _ s;refine Calls.spliced_cons (thn (ha pins s σ H _ I h) fun u s1 ⟨v,H1,I1,r1,q1⟩=>?_)
 obtain⟨pa,xs,rfl,hq,h64,q⟩:=q1;obtain rfl:u=Value.ref pa:=r1;refine Calls.spliced_nil ?_;refine kws_cons (q60 I1 hgx hfm (kws_nil ?_) hdx);show wpAny _ _ (call (.builtin "sorted") [.ref pa] [(Str.ofString "key", .ref f)]) _ _ _;obtain⟨its,rI,pl,hz⟩:=I1.list hq;have hil:its.length=xs.length:=rI.length.symm;refine call_function_entry_kw kind_sorted plain_sorted entry_sorted (x08 _ _) ?_
 unfold Builtin.«sorted»;refine wpAny_bind (m:=checkCount "sorted" 1 1 _) (wpAny_pure ?_);refine wpAny_bind (collect_list pl.isList ?_);have k5:∀b o,s1.heap.get? b=some o->((s1.heap.push (seqObj "list" #[] 0)).update s1.heap.objs.size (Obj.mapSeq (·++its.toArray))).get? b=some o:=fun b o e=>(Heap.get?_update_other _ _ (w3f (Heap.lt_size e))).trans (Heap.get?_push_of_some _ e)
 have I5:Inv X pins σ H1 {s1 with heap:=(s1.heap.push (seqObj "list" #[] 0)).update s1.heap.objs.size (Obj.mapSeq (·++its.toArray))}:=I1.kept (t':=s1.toks) k5;refine wpAny_bind (wpAny_newList ?_ (hsz:=by rw[sizeLine_eq];omega));have fr5:=I5.hok.fresh (w0g _)
 have I6:=I5.laid (t':=s1.toks) (o:=.lst xs) (h':=((s1.heap.push (seqObj "list" #[] 0)).update s1.heap.objs.size (Obj.mapSeq (·++its.toArray))).push {cls:=.type "list", data:=.seq its.toArray}) (fun b o q=>Heap.get?_push_of_some _ q) (w0g _)
  (show ObjOk X.prog X.w _ _ _ (.lst _)from⟨hz,its,0,rI,Heap.get?_push_size _ rfl⟩)
 refine wpAny_bind (wpAny_holding (wpAny_call_entry_kw slot_list_sort ⟨_,Heap.get?_push_size _ rfl,rfl⟩ entry_list_sort (wpAny_mono (y1q (Q:=Q) (xs:=xs) F ((hr.in1).in1) rfl hb I6 q0h ?_ h64 (q _ fr5)) (fun fin s' hq=>⟨_,hq.1,?_⟩) fun _ _ z=>z) (q8q _ _)))
 ·intro o v z;have:=I5.base.frzs _ o v z;rw[fr5]at this;cases this
 ·exact wpAny_pure ⟨_,rfl,hq.2⟩
end L2
namespace Att
open PySem PySem.W PySem.Calls PyProof.Rows
theorem x7v:∀{ns:List Int}{m:Nat},WData.weightAll (ns.map WData.int)<=m->∀i∈ns,Builtin.Int.intBits i<=m
 |[],_,_,_,h=>nomatch h
 |n::ns,m,hw,i,h=>by
  have e:WData.weightAll ((n::ns).map WData.int)=Builtin.Int.intBits n+1+WData.weightAll (ns.map WData.int):=rfl;rw[e]at hw;cases h with
  |head=>omega
  |tail _ h=>exact x7v (by omega) i h
theorem y4x{ns:List Int}(h:WData.layableAll [WData.list (ns.map WData.int)]=true):∀i∈ns,Builtin.Int.intBits i<=1048576:=by
 have h1:(WData.layable (WData.list (ns.map WData.int))&&true)=true:=h;rw[w5b]at h1;unfold WData.layable at h1;rw[w0o]at h1;have h2:=of_decide_eq_true h1.2;have e:WData.weight (WData.list (ns.map WData.int))=WData.weightAll (ns.map WData.int):=rfl;rw[e]at h2;exact x7v h2
theorem attach_callB{l:OpenLaw}{n:Nat}{q:Program}{loose:List Str}{XP:(Str->Option Value)->Heap->Prop}{YP:World->Heap->Prop}{d:DefRec}
  (hn:l.most=some n)(hdf:d.params.defaults=[])
  (call:∀(w:World)(s₀ s₁:Shared)(mg mb:Str->Option Value)(fa:Addr)(o:Obj)(pm cd doc:Value)(a:Addr)(vs:List Value)(ns:List Int),
   Ground q loose [] XP w s₀ mg mb s₁.heap->YP w s₁.heap ->
   s₁.heap.get? fa=some o->o.data=.func (docDef d.name d.params d.body d.scope pm cd doc)->s₁.heap.CodeRec cd d.name->mg d.name=some (.ref fa) ->
   s₁.heap.get? a=some {cls:=.type "list", data:=.seq vs.toArray}->IntsAre vs ns->ns.length<=n->(∀i∈ns,Builtin.Int.intBits i<=1048576)->s₁.gens=#[] ->
   codeAny (model l.prog w) callerA (.call (.ref fa) ⟨[.ref a],[]⟩) (fun r s'=>r=.ok (.ret (.bool true))/\OldK s₁.heap s'.heap/\s'.os=s₁.os/\AllBare s'.gens) s₁):
  WalkO q loose XP YP l.row.toRowW d [] (fun f vs=>PySem.call f vs):=by
 intro w s₀ s₁ mg mb G Y fa o pm cd doc dV kV ho hd hcd hD hmg hg args vals as hpre hlay hrd hwl hlo;obtain rfl:dV=.none:=Dflts.none hD hdf;obtain rfl:kV=.none:=Dflts.noKw hD;obtain⟨a,vs,ns,rfl,rfl,hobj,hints,hlen⟩:=x2u hn hpre hwl;refine enter_call (codeAny_mono (call w s₀ s₁ mg mb fa o pm cd doc a vs ns G Y ho (fd_plain hd) hcd hmg hobj hints hlen (y4x hlay) hg) fun r s' hq=>?_)
 obtain⟨rfl,h2,h3,h4⟩:=hq;exact⟨.inl ⟨.bool true,.bool true,[],rfl,fun _=>rfl,.bool true,x2v l _,fun _=>⟨List.Pairwise.nil,fun _ hm=>(nomatch hm)⟩⟩,h2,h3,h4⟩
end Att
namespace L2
open PySem PySem.Spec PyProof.Rows
theorem y8y{X:Cx}:OpR X (binaryOp .Mult) (rI IntMulOk fun i j=>.int (i*j)):=opI fun _ _ _ _ _ _ _ hc q=>mul_int q hc
end L2
namespace D
open PySem L2
open Classical in
def mulB:W->W->Option W
 |.int i,.int j=>if IntMulOk i j then some (.int (i*j))else none
 |_,_=>none
theorem y8z{K:Fg}:Op2 K (rI IntMulOk fun i j=>.int (i*j)) mulB:=by
 intro G H x y wx wy w Q s px py hf h;unfold mulB at hf;split at hf
 ·split at hf
  ·rename_i hc;cases hf;cases px;cases py;exact⟨_,_,rfl,rfl,hc,h G _ H (.refl s) rfl⟩
  ·cases hf
 ·cases hf
theorem y80{X:Cx}{Z:Zt}{EE:L2.St->XK}{a b:Expr}{da db:Den W}{pos:Pos}(ha:DE Z X EE a da)(hb:DE Z X EE b db):DE Z X EE (.BinOp a .Mult b pos) (dOp mulB da db):=q85 y8y y8z ha hb
theorem y81{i j:Int}{m n:Nat}(hi:Builtin.Int.intBits i<=m)(hj:Builtin.Int.intBits j<=n)(h:m+n<=134217728):mulB (.int i) (.int j)=some (.int (i*j)):=if_pos (PyProof.Rows.mulOk_of_bits hi hj h)
def Fit(ns:List Int):Prop:=ns.length<=63/\∀i∈ns,Builtin.Int.intBits i<=1048576
def spLawB(K:Fg):Sp:=fun vs H Q _=>∃(a:Addr)(ns:List Int),vs=[.ref a]/\SqL K H a (ns.map V.int)/\Fit ns/\∀H',Q (.bl true) H'
theorem y1r{K:Fg}{F:List W->FR}(hF:∀ns:List Int,Fit ns->F [.lst (ns.map .int)]=.ok (.fr (.bl true))){vs:List V}{H:Hp}{Q:VK}{E:XK}(h:spLawB K vs H Q E):spF K F vs H Q E:=by
 obtain⟨a,ns,rfl,hS,hl,q⟩:=h;refine⟨fun b=>if b=a then H a else none,[.lst (ns.map .int)],fun b o z=>?_,⟨.ref a,[],rfl,⟨a,ns.map V.int,rfl,?_,q8l ns⟩,rfl⟩,?_⟩
 ·by_cases hb:b=a
  ·subst hb;simpa using z
  ·simp[hb]at z
 ·rcases hS with(h|⟨o,h⟩)|h
  ·exact .inl (.inl (by simpa using h))
  ·exact .inl (.inr ⟨o,by simpa using h⟩)
  ·exact .inr h
 ·rw[hF ns hl];intro G' H' v g sl;obtain⟨u,h1,h2⟩:=sl;cases h1;cases(show v=V.bl true from h2);exact q H'
end D
namespace L2
open PySem PySem.Spec PyProof.Rows
end L2
namespace D
open PySem L2 PySem.Spec PyProof.Rows
open PyProof.Rows (envOfC)
section
variable{K:Fg}{Z:Zt}{G H:Hp}{σ:L2.St}{e:List S}
theorem Rel.drop1(r:Rel K Z G σ H e)(i:Nat):Rel K Z G σ H (e.set i .no):=r.forget (by simp) fun k s z=>by
 by_cases hk:k=i
 ·subst hk
  have hi:k<e.length:=by
   have:=(w0c.mp z).1;simpa using this
  rw[w0u hi]at z;cases z;exact .inl rfl
 ·rw[w0s (fun z=>hk z.symm)]at z;exact .inr z
end
section
variable{e:List S}{w u v:W}{ws us vs:List W}{i j k:Nat}{d da:Den W}{dA:Den (List W)}{F:List W->FR}{l:Lm}{js:List Nat}{caps:List W}{c:Value}{ds:List S->SR}
theorem y4y:flatWs []=true:=rfl
theorem z2y{n:Int}:flatW (.int n)=true:=rfl
theorem y4z:hide1 (.x (.old w))=.fr w:=rfl
theorem y40:hide1 (.x (.new w))=.fr w:=rfl
theorem y41:hide1 (.x (.acc ws))=.fr (.lst ws):=rfl
theorem y1s:hide1 (.x (.thro us ws vs))=.fr (.tup (us++.lst ws::vs)):=rfl
end
open PySem L2
end D
namespace L2
open PySem PySem.Spec PyProof.Rows
end L2
namespace D
open PySem L2
open Classical in
noncomputable instance fitsD (k:Kx) (sh:Sh):Decidable (fits k sh):=Classical.propDecidable _
end D
namespace L2
open PySem PySem.Spec PyProof.Rows
structure LamScopeC(x:Str)(Nf:List Str)(sc:Scope):Prop where
 kind:sc.kind=.function
 co:sc.isCoroutine=false
 gen:sc.isGenerator=false
 par:sc.names.lookup x=some .cell
 one:∀n cl,cellsFrom n sc.names cl=(x,n)::cl
 onep:∀h:Heap,pushCells h sc.names=h.push {cls:=.type "cell", data:=.cell none}
 only:∀y∈sc.names,y.2=.cell->y.1=x
 fr:∀y∈Nf,sc.names.lookup y=some .free
end L2
namespace D
open PySem L2
structure LamOkC(P:Program)(w:World)(K:Fg)(mg:Str->Option Value)(base:Heap)(n:Nat)(l:Lm)(x:Str)(F:List W->FR):Prop where
 sc:LamScopeC x l.nf l.scope
 bind:∀(cl:List (Str×Addr))(pm:Value)(c':Addr)(ctv u:Value),bindArgs (kla_fn "<lambda>" l.qual l.params l.body l.scope cl pm (.ref c') ctv) ⟨[u],[]⟩=pure [(x,u)]
 len:∀ws,F ws≠.no->ws.length=1+l.nf.length
 body:∀ws,F ws≠.no->∀(Z:Zt)(f:Addr)(cd:Value)(cl:List (Str×Addr))(A:Around)(outer:List Env)(s:Shared)(H:Hp),Room n (A.deeper (lamEnv l.qual l.scope f cd cl s)) ->
  ∃d,DE Z (cxLam P w K mg base ([x]++l.nf) l.qual l.scope f cd cl A outer s H) (fun _=>E0) l.body d/\exprFR (d (ws.map .fr))=F ws
end D
namespace L2
open PySem PySem.Spec PyProof.Rows
def cxLamX(P:Program)(w:World)(K:Fg)(mg:Str->Option Value)(base:Heap)(N:List Str)(qual:Str)(scope:Scope)(f:Addr)(cd:Value)(cl:List (Str×Addr))(A:Around)(outer:List Env)(s:Shared)(H:Hp)(E:XK):Cx:=
 {cxLam P w K mg base N qual scope f cd cl A outer s H with xe:=fun e s'=>wpAny (model P w) (A.deeper (lamEnv qual scope f cd cl s)) (leaving (lamEnv qual scope f cd cl s) e) (fun _ s''=>CX1 P w outer H s E e s'') (fun e' s''=>CX1 P w outer H s E e' s'') s'}
end L2
namespace D
open PySem L2
variable{X:Cx}{d:Den W}{e:Expr}{G:Hp}{EE:L2.St->XK}{k:Nat}{p pos:Pos}{K:Fg}{x:Str}{v:Value}{w:World}{Z:Zt}
structure LamOkCX(P:Program)(w:World)(K:Fg)(mg:Str->Option Value)(base:Heap)(n:Nat)(l:Lm)(x:Str)(F:List W->FR):Prop where
 sc:LamScopeC x l.nf l.scope
 bind:∀(cl:List (Str×Addr))(pm:Value)(c':Addr)(ctv u:Value),bindArgs (kla_fn "<lambda>" l.qual l.params l.body l.scope cl pm (.ref c') ctv) ⟨[u],[]⟩=pure [(x,u)]
 len:∀ws,F ws≠.no->ws.length=1+l.nf.length
 body:∀ws,F ws≠.no->∀(Z:Zt)(f:Addr)(cd:Value)(cl:List (Str×Addr))(A:Around)(outer:List Env)(s:Shared)(H:Hp)(E:XK),Room n (A.deeper (lamEnv l.qual l.scope f cd cl s)) ->
  ∃d,DE Z (cxLamX P w K mg base ([x]++l.nf) l.qual l.scope f cd cl A outer s H E) (fun _=>E) l.body d/\exprFR (d (ws.map .fr))=F ws
open PySem L2 PySem.Spec PyProof.Rows
def isOb:Option Bool->Value->Bool
 |none,.none=>true
 |some b,.bool c=>b==c
 |_,_=>false
def obV:Option Bool->Value
 |none=>.none
 |some b=>.bool b
theorem q21{k:Option Bool}(h:isOb k v=true):v=obV k:=by
 cases k with
 |none=>cases v<;>first|rfl|cases h
 |some b=>
  cases v with
  |bool c=>
   have:b=c:=beq_iff_eq.mp h;subst this;rfl
  |_=>cases h
def obHash(w:World):Option Bool->Int
 |none=>kHash w .non
 |some b=>kHash w (.bl b)
theorem y1t{prog:Program}{A:Around}{E:Value->Shared->Prop}{s:Shared}{Q:Int->Shared->Prop}(k:Option Bool)(hv:isOb k v=true)(h:Q (obHash w k) {s with toks:=s.toks+1}):wpAny (model prog w) A (pyHash v) Q E s:=by
 have:=q21 hv;subst this;cases k with
 |none=>exact pyHash_slot (T:="NoneType") rfl F.slot_NoneType_hash F.entry_NoneType_hash (F.args_NoneType_hash_1 _) (beq_builtin_none _) (.inl rfl) (wpAny_bind (wpAny_pure (wpAny_bind (wpAny_mkInt (wpAny_pure ⟨_,_,rfl,h⟩)))))
 |some b=>
  refine pyHash_slot (T:="bool") rfl F.slot_bool_hash entry_int_hash (args_int_hash _) (beq_builtin_none _) (.inl rfl) ?_;cases b
  ·exact(show wpAny _ _ (do ret (<- mkInt 0)) _ _ s from wpAny_bind (wpAny_mkInt (wpAny_pure ⟨_,_,rfl,h⟩)))
  ·exact(show wpAny _ _ (do ret (<- mkInt 1)) _ _ s from wpAny_bind (wpAny_mkInt (wpAny_pure ⟨_,_,rfl,h⟩)))
theorem z46{prog:Program}{A:Around}{E:Value->Shared->Prop}{s:Shared}{Q:Bool->Shared->Prop}{a b:Option Bool}{u:Value}(hu:isOb a u=true)(hv:isOb b v=true)(h:Q (decide (a=b)) s):wpAny (model prog w) A (eqBool u v) Q E s:=by
 have h1:=q21 hu;have h2:=q21 hv;subst h1;subst h2;cases a with
 |none=>
  cases b with
  |none=>exact SeqAt.EqAt.same _ prog w E Q (by simpa using h)
  |some c=>exact SeqAt.EqAt.none_bool c prog w E Q (by simpa using h)
 |some a=>
  cases b with
  |none=>exact SeqAt.EqAt.bool_none a prog w E Q (by simpa using h)
  |some c=>
   have e:decide (some a=some c)=(a==c):=by cases a<;>cases c<;>rfl
   rw[e]at h;exact SeqAt.EqAt.bool_bool a c prog w E Q h
def obKind(prog:Program)(w:World):KeyKind prog w (Option Bool) where
 is:=isOb
 hash:=obHash w
 inj:=fun v a b ha hb=>by
  have h1:=q21 ha;subst h1;cases a with
  |none=>cases b with
   |none=>rfl
   |some c=>cases hb
  |some a=>cases b with
   |none=>cases hb
   |some c=>have:c=a:=beq_iff_eq.mp hb;rw[this]
 byValue:=fun k v h=>by
  have:=q21 h;subst this;cases k<;>rfl
 pyHash:=fun {A E s k v Q} hv h=>y1t k hv h
 eqBool:=fun {A E s a b u v Q} hu hv h=>z46 hu hv h
 «strs»:=fun k x t v h=>(by cases k<;>cases h)
def sgn:Option Bool->Str
 |none=>"-"
 |some true=>"1"
 |some false=>"0"
def valIs(v:Value)(x:Str):Bool:=match v with
 |.str y _=>y==x
 |_=>false
def isSigns(w:World)(o:Obj):Bool:=match o.cls,o.dict,o.slots.toList,o.data with
 |.type c,none,[],.dict es _=>c=="dict"&&(match es.toList with
  |[e1,e2,e3]=>(isOb (some true) e1.key&&e1.hash==obHash w (some true)&&valIs e1.val "1")&&(isOb (some false) e2.key&&e2.hash==obHash w (some false)&&valIs e2.val "0")&&(isOb none e3.key&&e3.hash==obHash w none&&valIs e3.val "-")
  |_=>false)
 |_,_,_,_=>false
structure SignK(w:World)(K:Fg)(d:Addr):Prop where
 obj:∃o,K.lookup d=some o/\isSigns w o=true
theorem q6x(h:valIs v x=true):∃t,v=.str x t:=by
 cases v with
 |str y t=>exact⟨t,by rw[show y=x from beq_iff_eq.mp h]⟩
 |_=>cases h
theorem y1u{prog:Program}{d:Addr}(T:SignK w K d){h:Heap}(x:K.In h):∃f:Option Bool->Option Value,h.MapOf (obKind prog w) d f/\∀k,∃t,f k=some (.str (sgn k) t):=by
 obtain⟨o,h1,h2⟩:=T.obj;unfold isSigns at h2;split at h2
 ·rename_i c es ep hc hd hs hdt;rw[w0o]at h2;obtain⟨hcd,h2⟩:=h2;split at h2
  ·rename_i e1 e2 e3 hes;simp only[w0o,beq_iff_eq]at h2;obtain⟨⟨⟨⟨a1,a2⟩,a3⟩,⟨b1,b2⟩,b3⟩,⟨c1,c2⟩,c3⟩:=h2;obtain⟨t1,v1⟩:=q6x a3;obtain⟨t2,v2⟩:=q6x b3;obtain⟨t3,v3⟩:=q6x c3;have k1:=q21 a1;have k2:=q21 b1;have k3:=q21 c1;have he:es=#[e1,e2,e3]:=by apply w4d.mp;rw[hes]
   refine⟨findBy isOb es,⟨o,es,ep,x d o h1,⟨?_,hd,?_⟩,hdt,fun e hm=>?_,fun _=>rfl⟩,fun k=>?_⟩
   ·rw[hc,beq_iff_eq.mp hcd]
   ·apply w4d.mp;rw[hs]
   ·rw[he]at hm;simp only[List.mem_toArray,w0j,w1d,or_false]at hm;rcases hm with rfl|rfl|rfl
    ·exact⟨some true,a1,a2⟩
    ·exact⟨some false,b1,b2⟩
    ·exact⟨none,c1,c2⟩
   ·rw[he];unfold findBy;rw[List.find?_toArray];cases k with
    |none=>exact⟨t3,by simp only[w4k,k1,k2,k3];exact congrArg some v3⟩
    |some b=>
     cases b with
     |true=>exact⟨t1,by simp only[w4k,k1,k2,k3];exact congrArg some v1⟩
     |false=>exact⟨t2,by simp only[w4k,k1,k2,k3];exact congrArg some v2⟩
  ·cases h2
 ·cases h2
def sgnW:W->Option W
 |.non=>some (.str (sgn none))
 |.bl b=>some (.str (sgn (some b)))
 |_=>none
section
variable{k:Expr}{dk:Den W}{d:Addr}
def rSgn(d:Addr):R2:=fun x y H Q=>x=.ref d/\((y=.non/\Q (.str (sgn none)) H)\/∃b,y=.bl b/\Q (.str (sgn (some b))) H)
theorem z2z(T:SignK X.w X.K d):IxR X (rSgn d):=by
 intro value slice pins s σ H x y v u Q I rx ry h hs;obtain⟨rfl,h⟩:=h;cases rx;obtain⟨f,hm,hf⟩:=y1u (prog:=X.prog) T I.kIn
 have key:∃k:Option Bool,u=obV k/\Q (.str (sgn k)) H:=by
  rcases h with⟨rfl,q⟩|⟨b,rfl,q⟩
  ·exact⟨none,ry,q⟩
  ·exact⟨some b,ry,q⟩
 obtain⟨k,rfl,q⟩:=key;obtain⟨t,ht⟩:=hf k
 have hk:isOb k (obV k)=true:=by
  cases k with
  |none=>rfl
  |some b=>exact beq_self_eq_true b
 exact PyProof.Rows.tail_any hm.typeIs F.slot_dict_getitem.lookup (wpAny_getItem_of (knd:=obKind X.prog X.w) hk hm ht ⟨.str (sgn k),H,I.tok _,⟨t,rfl⟩,q⟩) hs
theorem z20(T:∃d,X.mg x=some (.ref d)/\SignK X.w X.K d)(hk:DE Z X EE k dk)(hg:Gl X x:=by rfl)(hd:(x==("__debug__":Str))=false:=by decide)(hs:PlainIx k:=by intro _ _;rfl):
  DE Z X EE (.Subscript (.Name x p) k pos) (dUn sgnW dk):=by
 obtain⟨d,hm,T⟩:=T;refine PE.mono (x8m (z2z T) (x1z (v:=.ref d) hg hm rfl hd) hk hs) ?_;rintro σ H Q ⟨G,e,rel,h⟩;simp only[dUn,R.holds_bind,ofOpt_holds]at h;refine⟨G,e,rel,h.imp (fun w e1 h G1 v1 H1 r1 s1 p1=>?_) fun _ _ h=>h⟩
 obtain⟨w',hw,h⟩:=h;unfold sgnW at hw;split at hw
 ·cases hw;cases p1;exact⟨rfl,.inl ⟨rfl,h G1 _ H1 r1 s1 rfl⟩⟩
 ·rename_i b;cases hw;cases p1;exact⟨rfl,.inr ⟨b,rfl,h G1 _ H1 r1 s1 rfl⟩⟩
 ·cases hw
end
def str1R:FR->Option Str
 |.ok (.fr (.str n))=>some n
 |_=>none
def keysW(F:List W->FR):List W->Option (List Str)
 |[]=>some []
 |w::ws=>match str1R (F [w]),keysW F ws with
  |some n,some ns=>some (n::ns)
  |_,_=>none
abbrev UpW(zs:List (Str×W)):Prop:=zs.Pairwise fun a b=>a.1.cps.toList<b.1.cps.toList
open Classical in
def srtW(ns:List Str)(ws:List W):Option (List W):=if h:ns.length=ws.length/\∃zs:List (Str×W),zs.Perm (ns.zip ws)/\UpW zs then some (h.2.choose.map (·.2))else none
theorem x13:∀{l m:List (Str×W)},UpW l->UpW m->l.Perm m->l=m
 |[],m,_,_,p=>p.nil_eq
 |x::l,[],_,_,p=>(List.cons_ne_nil _ _ p.eq_nil).elim
 |x::l,y::m,hl,hm,p=>by
  have h1:=w1t.mp hl;have h2:=w1t.mp hm
  have e:x=y:=by
   have hx:x∈y::m:=p.mem_iff.mp w0h;have hy:y∈x::l:=p.mem_iff.mpr w0h;rcases w0j.mp hx with e|hx
   ·exact e
   ·rcases w0j.mp hy with e|hy
    ·exact e.symm
    ·exact(w4r _ (List.lt_trans (h1.1 y hy) (h2.1 x hx))).elim
  subst e;rw[x13 h1.2 h2.2 (List.Perm.cons_inv p)]
theorem y82{ns:List Str}{ws:List W}{zs:List (Str×W)}(hl:ns.length=ws.length)(hp:zs.Perm (ns.zip ws))(hu:UpW zs):srtW ns ws=some (zs.map (·.2)):=by
 unfold srtW;have h:ns.length=ws.length/\∃zs:List (Str×W),zs.Perm (ns.zip ws)/\UpW zs:=⟨hl,zs,hp,hu⟩;rw[dif_pos h];obtain⟨c1,c2⟩:=h.2.choose_spec;rw[x13 c2 hu (c1.trans hp.symm)]
theorem y42{ns:List Str}{ws us:List W}(h:srtW ns ws=some us):ns.length=ws.length/\∃zs:List (Str×W),zs.Perm (ns.zip ws)/\UpW zs/\us=zs.map (·.2):=by
 unfold srtW at h;split at h
 ·rename_i hh;cases h;exact⟨hh.1,_,hh.2.choose_spec.1,hh.2.choose_spec.2,rfl⟩
 ·cases h
theorem y83{y:Str}(h:x.cps.toList=y.cps.toList):x=y:=by
 cases x;cases y;simp only at h;congr 1;exact w4d.mp h
theorem z47{zs ys:List (Str×W)}(h:zs.Pairwise fun a b=>¬b.1.cps.toList<a.1.cps.toList)(hp:zs.Perm ys)(hy:UpW ys):UpW zs:=by
 have ny:(ys.map (·.1)).Nodup:=by
  refine w3x.mpr (hy.imp fun {a b} h e=>?_)
  rw[e]at h;exact w4r _ h
 have nz:(zs.map (·.1)).Nodup:=(hp.map _).nodup_iff.mpr ny;have nz:=w3x.mp nz;refine(h.and nz).imp fun {a b} h=>?_
 by_cases l:a.1.cps.toList<b.1.cps.toList
 ·exact l
 ·exact(h.2 (y83 (List.le_antisymm (List.not_lt.mp h.1) (List.not_lt.mp l)))).elim
def srtK(F:List W->FR):W->Option (List W)
 |.lst ws=>if ws.length<64 then(keysW F ws).bind fun ns=>srtW ns ws else none
 |_=>none
def dSrtK(F:List W->FR)(d:Den W):Den (List W):=fun e=>(d e).bind fun w e1=>ofOpt (srtK F w) e1
theorem y84{F:List W->FR}{e:List S}:dSrtK F d e=(d e).bind fun w e1=>ofOpt (srtK F w) e1:=rfl
def RW2(K:Fg)(G:Hp)(a:Str×W)(b:Str×V):Prop:=a.1=b.1/\Rep K G a.2 b.2
theorem rw_zip{K:Fg}:∀{ns:List Str}{ws:List W}{xs:List V},Reps K G ws xs->RelL (RW2 K G) (ns.zip ws) (ns.zip xs)
 |[],_,_,_=>trivial
 |n::ns,[],xs,h=>by cases(show xs=[]from h);exact trivial
 |n::ns,w::ws,_,h=>by
  obtain⟨x,xs,rfl,h1,h2⟩:=h;exact⟨⟨rfl,h1⟩,rw_zip h2⟩
theorem rw_reps:∀{ws:List W}{xs:List V},RelL (Rep K G) ws xs->Reps K G ws xs
 |[],[],_=>rfl
 |w::ws,x::xs,h=>⟨x,xs,rfl,h.1,rw_reps h.2⟩
theorem rw_up{zw:List (Str×W)}{zs:List (Str×V)}(r:RelL (RW2 K G) zw zs)(h:UpTo zs):zw.Pairwise fun a b=>¬b.1.cps.toList<a.1.cps.toList:=by
 refine w2w.mpr fun i j hi hj hij=>?_
 obtain⟨b1,e1,r1,_⟩:=r.get i zw[i] (w0b hi);obtain⟨b2,e2,r2,_⟩:=r.get j zw[j] (w0b hj);obtain⟨hi',rfl⟩:=w0c.mp e1;obtain⟨hj',rfl⟩:=w0c.mp e2;rw[r1,r2];exact w2w.mp h i j hi' hj' hij
theorem x3b{F:List W->FR}{G1 H1:Hp}{l ks:Addr}{o:Obj}{Kk:List Str->Hp->Prop}(hlk:l≠ks)(n2:H1 ks=none)(all:List Str)
  (hK:∀Gc Hc,Grow G1 H1 Gc Hc->Gc l=none->Gc ks=none->Hc l=some (.frz o (.lst []))->Hc ks=some (.lst (all.map V.str))->Kk all Hc):
  ∀(ws:List W)(xs:List V)(ns0 ns:List Str)(Gc Hc:Hp),Reps K Gc ws xs->keysW F ws=some ns->ns0++ns=all->Grow G1 H1 Gc Hc->Gc l=none->Gc ks=none->Hc l=some (.frz o (.lst []))->Hc ks=some (.lst (ns0.map V.str)) ->
   keysS (spF K F) l o ks Kk xs ns0 Hc
 |[],xs,ns0,ns,Gc,Hc,r,hk,ha,g,g1,g2,h1,h2=>by
  cases(show xs=[]from r);cases hk;rw[w1l]at ha;subst ha;exact hK Gc Hc g g1 g2 h1 h2
 |w::ws,xs,ns0,ns,Gc,Hc,r,hk,ha,g,g1,g2,h1,h2=>by
  obtain⟨x,xs,rfl,r1,r2⟩:=r
  obtain⟨n,ns',hn,hk',rfl⟩:∃n ns',str1R (F [w])=some n/\keysW F ws=some ns'/\ns=n::ns':=by
   have hk:(match str1R (F [w]),keysW F ws with
    |some n,some ns=>some (n::ns)
    |_,_=>none)=some ns:=hk
   split at hk
   ·rename_i n ns' e1 e2;cases hk;exact⟨n,ns',e1,e2,rfl⟩
   ·cases hk
  have hn:F [w]=.ok (.fr (.str n)):=by
   unfold str1R at hn;split at hn
   ·rename_i m e;cases hn;exact e
   ·cases hn
  refine⟨Gc,[w],g.sub,⟨x,[],rfl,r1,rfl⟩,?_⟩;rw[hn];intro G' H' v g' sl;obtain⟨v',e',rp⟩:=sl;cases e';cases(show v=V.str n from rp);have e1:=g'.hh _ _ h1;have e2:=g'.hh _ _ h2;have k1:G' l=none:=by rw[g'.new l (by rw[h1];exact fun z=>nomatch z)];exact g1
  have k2:G' ks=none:=by rw[g'.new ks (by rw[h2];exact fun z=>nomatch z)];exact g2
  refine⟨n,rfl,e1,e2,x3b hlk n2 all hK ws xs (ns0++[n]) ns' G' _ (Reps.mono g'.gg ws r2) hk' (by rw[w2v];exact ha) ((g.trans g').write n2 k2) k1 k2 (by rw[q0c hlk];exact e1) q0h⟩
section
variable{np kp:Pos}{ps:List Str}{F:List W->FR}
theorem y85(C:Cal X.prog X.w X.K X.mg X.base k x ps (spF X.K F))(hr:Room (k+2) X.A)(hm:X.mg "sorted"=none)(he:DE Z X EE e d)(hgx:Gl X x:=by rfl)(hg:Gl X "sorted":=by rfl)
  (hst:starEach [e] X.env=[(false,eval e X.env)]:=by rfl)(hdx:(x==("__debug__":Str))=false:=by decide):
  DF Z X EE (.Call (.Name "sorted" p) [e] [⟨some "key", .Name x np,kp⟩] pos) (dSrtK F d):=by
 obtain⟨fa,fd,FF,m,kpp,bd⟩:=C.ex;refine PE.mono (y4w FF hr bd m hgx hg hm he hst hdx) ?_;rintro σ H Q ⟨G,en,rel,h⟩;simp only[dSrtK,R.holds_bind,ofOpt_holds]at h;refine⟨G,en,rel,h.imp (fun w e1 h G1 v1 H1 r1 s1 p1=>?_) fun _ _ h=>h⟩
 obtain⟨out,hf,h⟩:=h;cases w with
 |lst ws=>
  simp only[srtK]at hf;split at hf
  ·rename_i h64;obtain⟨ns,hns,hf⟩:=w3y.mp hf;obtain⟨hl,ys,py,uy,rfl⟩:=y42 hf;obtain⟨pa,xs,rfl,q,rr⟩:=p1;have hxl:xs.length=ws.length:=rr.length;refine⟨pa,xs,rfl,r1.sub.seq q,by omega,fun lA hlA o ks hks=>?_⟩
   rw[x1y]at hks |-
   have hlk:lA≠ks:=fun z=>by subst z;rw[q0h]at hks;cases hks
   have hk0:H1 ks=none:=by rw[q0c (Ne.symm hlk)]at hks;exact hks
   have gl:G1 lA=none:=r1.sub.free hlA;have gk:G1 ks=none:=r1.sub.free hk0;refine x3b (G1:=G1) (H1:=H1) hlk hk0 ns (fun Gc Hc g c1 c2 c3 c4 zs pz uz=>?_) ws xs [] ns G1 _ rr hns rfl (((Grow.refl r1.sub).write hlA gl).write hk0 gk) gl gk (by rw[q0c hlk];exact q0h) q0h
   obtain⟨zw,pw,rz⟩:=RelL.perm pz (rw_zip (K:=X.K) (G:=Gc) (ns:=ns) (Reps.mono g.gg ws rr));have uw:=z47 (rw_up rz uz) (pw.trans py.symm) uy;cases x13 uw uy (pw.trans py.symm);have gw:=(g.write (o:=.lst []) hk0 c2).write (o:=.lst (zs.map (·.2))) hlA c1;exact h Gc lA _ _ (r1.grow gw) (s1.trans g.gg) q0h c1 (q4x r1 hlA) (q48 r1 hlA) (rw_reps (RelL.map (fun _ _ h=>h.2) rz))
  ·cases hf
 |_=>cases hf
end
theorem con0K{P:Program}{mg:Str->Option Value}{base:Heap}{st:Stmt}{ps:List Str}{F:List W->FR}(A:At K mg x st ps)(hF:∀ws,F ws=.no:=by intro _;rfl):Cal P w K mg base k x ps (spF K F):=by
 obtain⟨f,fd,F0,m,b⟩:=A.ex;exact⟨f,fd,⟨fun vs H Q E h=>(x04 hF h).elim,fun A outer s H args us vs Q E _ _ _ _ h=>(x04 hF h).elim⟩,m,F0.kp,b⟩
end D
namespace L2
open PySem PySem.Spec PyProof.Rows
theorem y1v{l:PySem.W.OpenLaw}{n k:Nat}{q:Program}{loose:List Str}{XP:(Str->Option Value)->Heap->Prop}{YP:World->Heap->Prop}{d:DefRec}{K:Params->Fg}{CX:World->CXT}{sp:World->Sp}{x:Str}{tabs:List (Addr×Str)}
  (hn:l.most=some n)(hn2:n<=sizeLine)(hdf:d.params.defaults=[])(hr:Room k callerA)
  (hY:∀(w:World)(h:Heap),YP w h->(K w.params).In h)
  (F:∀(w:World)(mg:Str->Option Value)(fa:Addr)(h:Heap),(K w.params).In h->h.Ns mainGlobals mg->mg d.name=some (.ref fa) ->
   ∃fd:FuncData,(∀(s:Shared)(u:Value),BindsTo s fd ⟨[u],[]⟩ [(x,u)]) /\
    ∀base:Heap,(K w.params).In base->base.Ns mainGlobals mg->BMain base mg->FnOk l.prog w (K w.params) mg base (CX w) k fa fd [x] (sp w))
  (hsp:∀(w:World)(H:Hp)(a:Addr)(ns:List Int),ns.length<=n->(∀i∈ns,Builtin.Int.intBits i<=1048576)->SqL (K w.params) H a (ns.map V.int)->sp w [.ref a] H (fun v _=>v=.bl true) fun _ _ _=>False)
  (hCX:∀(w:World)(H:Hp)(s:Shared)(e:Value)(s':Shared),CX w [] H s (fun _ _ _=>False) e s'->False)
  (hM:∀(w:World) a q P,(a,markO P q)∈K w.params->tabs.lookup P=some q)(hT:∀(w:World)(h:Heap),YP w h->∀P q,tabs.lookup P=some q->h.get? P=some (tabObj #[])/\isCodeTable h P)(hKT:∀(w:World) P q,tabs.lookup P=some q->(K w.params).lookup P=none):
  PySem.W.WalkO q loose XP YP l.row.toRowW d [] (fun f vs=>PySem.call f vs):=by
 refine Att.attach_callB hn hdf fun w s₀ s₁ mg mb fa o pm cd doc a vs ns G Y ho hd hcd hmg hobj hints hlen hbits hg=>?_
 have KX:=hY w _ Y;obtain⟨fd,hb,hF⟩:=F w mg fa _ KX G.T.g hmg;exact y1k KX G.T.g G.T.b G.T.builtins G.T.nolimit hg hobj hints (w0m hlen hn2) hr hF hb (fun H hS=>hsp w H a ns hlen hbits hS) (fun H e s'=>hCX w H s₁ e s') G.T.bmain (hM w) (hT w _ Y) (hKT w)
section
variable{X:Cx}
theorem y43{es:List Expr}{tl:TA}(hl:PA X es tl):PA X es (fun σ H Q=>tl σ H fun vs H1=>∃a o xs,H1 a=some (.frz o (.lst xs))/\(∀o v,X.H₀ a≠some (.frz o v))/\Q vs (upd H1 a (.lst xs))):=by
 intro p pins s σ H Q I h;refine thn (hl p pins s σ H _ I h) fun v s1 ⟨x,H1,I1,r1,q1⟩=>?_
 obtain⟨a,o,xs,e,hf,q⟩:=q1;exact⟨x,_,I1.meltL e hf,r1,q⟩
end
end L2
namespace D
open PySem L2 PySem.Spec PyProof.Rows
open PyProof.Rows (envOfC)
open PySem L2
open Classical
variable{X:Cx}{dA dF:Den (List W)}{da db:Den W}{c:Expr}{EE:L2.St->XK}{ws:List W}{i:Nat}{p pos tpos:Pos}{K:Fg}{x:Str}{Z:Zt}
def lkG{κ:Type}(kv:List (κ×Int))(k:κ):Option Int:=(kv.find? fun p=>decide (p.1=k)).map (·.2)
def vG{κ:Type}(kv:List (κ×Int)):List (κ×V):=kv.map fun p=>(p.1,V.int p.2)
inductive DD where
 |t (sh:Sh) (kv:List (Kx×Int))
 |k (kv:List (Key×Int))
def DD.size:DD->Nat
 |.t _ kv=>kv.length
 |.k kv=>kv.length
def DD.look:DD->W->Option (Option Int)
 |.t sh kv,w=>match keyT w with
  |some x=>if fits x sh then some (lkG kv x)else none
  |none=>none
 |.k kv,.int i=>some (lkG kv (.inl i))
 |.k _,_=>none
def ddO:DD->List Addr->HO
 |.t sh kv,ka=>.dT sh (vG kv) ka
 |.k kv,_=>.dK (vG kv)
structure NSt where
 nodes:List W
 num:List (Kx×Int)
 seen:DD
def shN:Sh:=.tup [.int,.int,.int]
def nkey(pl lo hi:Int):Kx:=.tup [.int pl,.int lo,.int hi]
def nW(pl lo hi:Int):W:=.tup [.int pl,.int lo,.int hi]
inductive N2(K:Fg)(G H:Hp)(p d1:Addr)(ns:List W)(kv:List (Kx×Int)):Prop where
 |mk (xs:List V) (ka:List Addr) (sg:Same G H) (hp:H p=some (.lst xs)) (gp:G p=none) (rp:Reps K G ns xs) (h1:H d1=some (.dT shN (vG kv) ka)) (g1:G d1=none):N2 K G H p d1 ns kv
inductive N3(K:Fg)(G H:Hp)(p d1 d2:Addr)(st:NSt):Prop where
 |mk (q:N2 K G H p d1 st.nodes st.num) (ka:List Addr) (h2:H d2=some (ddO st.seen ka)) (g2:G d2=none) (ne:d1≠d2):N3 K G H p d1 d2 st
structure NOk(G H G' H':Hp)(L:List Addr):Prop where
 ent:∀a o,H a=some o->a∉L->H' a=some o
 gg:Same G G'
 new:∀a,H a≠none->G' a=G a
 dom:∀a,H a≠none->H' a≠none
noncomputable abbrev Nd:=Nat×Nat×Nat
def ndW(x:Nd):W:=nW x.1 x.2.1 x.2.2
def ndK(x:Nd):Kx:=nkey x.1 x.2.1 x.2.2
def plc(ns:List Nd)(m r:Nat):Nat:=if r<2 then m else match ns[r-2]? with
 |some x=>x.1
 |none=>m
structure GOk(m:Nat)(ns:List Nd):Prop where
 nd:∀(k:Nat) x,ns[k]?=some x->x.1<m/\x.2.1≠x.2.2/\x.2.1<k+2/\x.2.2<k+2/\x.1<plc ns m x.2.1/\x.1<plc ns m x.2.2
 dist:ns.Nodup
inductive Post(ns:List Nd):Nat->Nat->Nat->Prop
 |old {L r:Nat} (h:r<L+2):Post ns L r L
 |new {L L1 L2 p lo hi:Nat} (h:ns[L2]?=some (p,lo,hi)) (h1:Post ns L lo L1) (h2:Post ns L1 hi L2):Post ns L (L2+2) (L2+1)
section
variable{T:Type}(enc:T->W)(Vd:T->Prop)(top:T->Nat)(m:Nat)(P:List Nd->Nat->T->Prop)
structure SI(st:NSt)(ns:List Nd)(f:T->Option Nat):Prop where
 nodes:st.nodes=ns.map ndW
 ok:GOk m ns
 num1:∀(k:Nat) x,ns[k]?=some x->lkG st.num (ndK x)=some ((k:Int)+2)
 num0:∀x,x∉ns->lkG st.num (ndK x)=none
 numl:st.num.length=ns.length
 seen:∀t,Vd t->st.seen.look (enc t)=some ((f t).map fun n=>(n:Int))
 val:∀t r,Vd t->f t=some r->r<ns.length+2/\top t<=plc ns m r/\P ns r t
inductive NfR(d:Nat)(t:T)(st:NSt)(ns:List Nd)(f:T->Option Nat)(o:Option (Int×NSt)):Prop where
 |mk (r:Nat) (st':NSt) (ns' ext:List Nd) (f':T->Option Nat) (eq:o=some ((r:Int),st')) (si:SI enc Vd top m P st' ns' f') (ap:ns'=ns++ext) (pl:∀x∈ext,top t<=x.1) (po:Post ns' ns.length r ns'.length) (tp:top t<=plc ns' m r) (pr:P ns' r t) (fr:∀t',Vd t'->top t'<top t->f' t'=f t') (sn:ns'.length+1<=ns.length+2^(d+1)) (ss:st'.seen.size+1<=st.seen.size+2^(d+1)):NfR d t st ns f o
structure PropOk(A:W->Option W):Prop where
 mono:∀ns ext r t,GOk m ns->r<ns.length+2->P ns r t->P (ns++ext) r t
 bl:∀ns t b,Vd t->A (enc t)=some (.bl b)->P ns (if b=true then 1 else 0) t
 eqv:∀ns t p t0 t1 r,Vd t->A (enc t)=some (.tup [.int (p:Nat),enc t0,enc t1])->P ns r t0->P ns r t1->P ns r t
 node:∀ns t p t0 t1 lo hi k,Vd t->A (enc t)=some (.tup [.int (p:Nat),enc t0,enc t1])->ns[k]?=some (p,lo,hi)->P ns lo t0->P ns hi t1->P ns (k+2) t
variable{enc Vd top m P}
end
def oe(r:Nat):Nat:=if r<2 then 1-r else r
structure GG(m:Nat)(ns:List Nd)(r:Nat):Prop where
 ok:GOk m ns
 po:Post ns 0 r ns.length
 sz:ns.length+1<=2^(m+1)
def inBW(x:W):List W->Option Bool
 |[]=>some false
 |w::ws=>match eqW w x,inBW x ws with
  |some b,some c=>some (b||c)
  |_,_=>none
def inL:W->W->Option W
 |x,.lst ws=>if depWs ws<=148 then(inBW x ws).map .bl else none
 |_,_=>none
theorem x5c{x:W}:∀{ws:List W}{b:Bool},inBW x ws=some b->(∀w∈ws,∃k,eqW w x=some k)/\b=ws.any fun w=>eqS w x
 |[],b,h=>by cases h;exact⟨(fun w h=>nomatch h),rfl⟩
 |w::ws,b,h=>by
  unfold inBW at h;split at h
  ·rename_i k c h1 h2;cases h;obtain⟨a1,a2⟩:=x5c h2;refine⟨fun w' hw=>?_,?_⟩
   ·rcases w0j.mp hw with rfl|hw
    ·exact⟨k,h1⟩
    ·exact a1 w' hw
   ·rw[w2t,a2];unfold eqS;rw[h1];rfl
  ·cases h
def rInD(K:Fg):R2:=fun x y H Q=>∃G wx ws p xs b,y=.ref p/\Same G H/\SqL K G p xs/\Reps K G ws xs/\Rep K G wx x/\depWs ws<=148/\inBW wx ws=some b/\Q (.bl b) H
theorem z21(hu:X.A.units+150<cLine):OpR X (compareOp .In) (rInD X.K):=by
 intro pins s σ H x y v u Q I rx ry h;obtain⟨G,wx,ws,p,xs,b,rfl,sg,hq,rs,px,hd,hb,q⟩:=h;cases ry;obtain⟨its,r,pl,hz⟩:=I.list (sg.seq hq);obtain⟨g1,g2⟩:=x5c hb;have l1:=rs.length;have m1:=r.length
 have key:∀k (hk:k<its.length) (hk2:k<ws.length),SeqAt.EqAt X.A.in1 s its[k] v (eqS ws[k] wx):=fun k hk hk2=>by
  have i1:k<xs.length:=by omega
  obtain⟨u1,e1,ru1⟩:=r.get (w0b i1);obtain⟨w1,f1,p1⟩:=rs.getV (w0b i1);rw[w0b hk]at e1;rw[w0b hk2]at f1;cases e1;cases f1;obtain⟨k',hk'⟩:=g1 ws[k] (w1w hk2);have:eqS ws[k] wx=k':=by unfold eqS;rw[hk'];rfl
  rw[this]
  have hun:X.A.in1.units+148<cLine:=by
   have:X.A.in1.units=X.A.units+1:=rfl;omega
  refine x0a ru1 (q99 p1) (x8s I sg 148 (w0m (q6i (w0b hk2)) hd) hun p1 px ru1 rx hk') fun z=>?_
  subst z;have:=ru1.inj rx;rw[this]at p1;exact q87 I sg ws[k] p1 px hk'
 have hany:its.toArray.any (fun y=>@decide (∃k,∃(hk:k<its.length)(hk2:k<ws.length),its[k]=y/\eqS ws[k] wx=true) (Classical.propDecidable _))=b:=by
  rw[g2];apply w1i.mpr;rw[List.any_toArray,w1x,w1x];constructor
  ·rintro⟨y,_,h⟩;obtain⟨k,hk,hk2,_,h2⟩:=@of_decide_eq_true _ (Classical.propDecidable _) h;exact⟨ws[k],w1w hk2,h2⟩
  ·rintro⟨w',hw,h⟩;obtain⟨k,hk2,rfl⟩:=w1y.mp hw;have hk:k<its.length:=by omega
   exact⟨its[k],w1w hk,@decide_eq_true _ (Classical.propDecidable _) ⟨k,hk,hk2,rfl,h⟩⟩
 refine SeqAt.in_listAt _ pl.isList (fun y hy=>?_) ⟨.bl b,H,I,congrArg Value.bool hany,q⟩
 have hy:y∈its:=by simpa using hy
 obtain⟨k,hk,rfl⟩:=w1y.mp hy
 by_cases h:∃k',∃(hk':k'<its.length)(hk2:k'<ws.length),its[k']=its[k]/\eqS ws[k'] wx=true
 ·rw[@decide_eq_true _ (Classical.propDecidable _) h];obtain⟨k',hk',hk2,e1,e2⟩:=h;have z:=key k' hk' hk2;rw[e1,e2]at z;exact z
 ·rw[@decide_eq_false _ (Classical.propDecidable _) h];have hk2:k<ws.length:=by omega
  have z:=key k hk hk2;cases e:eqS ws[k] wx with
  |false=>rw[e]at z;exact z
  |true=>exact absurd ⟨k,hk,hk2,rfl,e⟩ h
theorem z22:Op2 K (rInD K) inL:=by
 intro G H x y wx wy w Q s px py hf h;cases wy with
 |lst ws=>
  simp only[inL]at hf;split at hf
  ·rename_i hd;obtain⟨b,hb,rfl⟩:=w0l.mp hf;obtain⟨a,xs,rfl,ha,ra⟩:=py;exact⟨G,wx,ws,a,xs,b,rfl,s,ha,ra,px,hd,hb,h G _ H (.refl s) rfl⟩
  ·cases hf
 |_=>simp[inL]at hf
section
variable{a b:Expr}
theorem z23(hu:X.A.units+150<cLine)(ha:DE Z X EE a da)(hb:DE Z X EE b db)(hm:behindInMarks .In b=false:=by with_unfolding_all rfl):DT Z X EE (.Compare a [.In] [b] pos) (dTest (dOp inL da db)):=q4w (z21 hu) z22 ha hb hm
end
def minT:List W->Option W
 |[.tup ws]=>match intsW ws with
  |some (n::ns)=>some (.int (minL n ns))
  |_=>none
 |_=>none
noncomputable abbrev Rw:=Nat->Bool
inductive Ev(ns:List Nd)(row:Rw):Nat->Bool->Prop
 |fin {r:Nat} (h:r<2):Ev ns row r (decide (r=1))
 |nd {k p lo hi:Nat} {b:Bool} (h:ns[k]?=some (p,lo,hi)) (h':Ev ns row (if row p=true then hi else lo) b):Ev ns row (k+2) b
def ev(ns:List Nd)(row:Rw)(r:Nat):Bool:=@decide (Ev ns row r true) (Classical.propDecidable _)
def retTF(ws:List W)(e:List S):Option S->SR
 |some (.fr w)=>.rt (.thr [] ws [w]) e
 |_=>.no
def dRetTF(dF:Den (List W))(j:Nat):List S->SR:=fun e=>(dF e).stm fun ws e1=>retTF ws e1 e1[j]?
section
variable{e:Expr}{es:List Expr}{y:Str}{spos yp:Pos}
theorem y44(j:Nat){x1}(hio:Z.io=[])(hc:DF Z X EE c dF)(hNy:X.N[j]?=some y:=by rfl)(hvy:Vis X.env.scope y:=by walk_at "1")(hdy:(y==("__debug__":Str))=false:=by decide)(hcdy:(y==("__classdict__":Str))=false:=by decide)
  (h1:starEach [c,.Name y yp] X.env=(false,eval c X.env)::starEach [.Name y yp] X.env:=by rfl)(h2:starEach [.Name y yp] X.env=(false,eval (.Name y yp) X.env)::starEach [] X.env:=by rfl):
  DS Z X EE (.Return (some (.Tuple [c,.Name y yp] x1 tpos)) pos) (dRetTF dF j):=by
 refine PS.mono (x4i (x4k (q47 (y8p hc) (q47 (pv j hNy hvy hdy hcdy) q8c h2) h1))) ?_;rintro D σ H ⟨G,e,rel,h⟩;refine⟨G,e,rel,(q12 h).imp (fun ws e1 h G1 l xs H1 r1 s1 q1 q2 q3 q4 p1=>?_) fun _ _ h=>h⟩
 unfold retTF at h;split at h
 ·rename_i w hw;obtain⟨u,w1,w2⟩:=r1.fr hw;refine⟨l,xs,rfl,q1,fun o=>⟨u,w1,by rw[sizeLine_eq];show 2<=16777216;decide,fun t ht=>?_⟩⟩
  have r4:=r1.mutFree (o:=.frz o (.lst xs)) q2 q3 (by rw[hio];exact fun z=>nomatch z) q4 q1
  have htl:l≠t:=fun z=>by subst z;rw[q0h]at ht;cases ht
  have g:=Grow.laid r4.sub ht (.tup [.ref l,u]);refine h _ σ (.ref t) _ (r4.grow g) (s1.trans g.gg) ⟨t,l,o,[],xs,[u],rfl,q0h,?_,?_,q3,rfl,Reps.mono g.gg ws p1,⟨u,[],rfl,Rep.mono g.gg w w2,rfl⟩⟩
  ·rw[q0c htl,q0h]
  ·rw[q0c htl];exact q2
 ·exact h.elim
def setTL(i:Nat)(e:List S):FR->SR
 |.ok (.thr us ws vs)=>if flatWs us=true/\flatWs ws=true/\flatWs vs=true then .nx (e.set i (.thr us ws vs))else .no
 |_=>.no
def lendTL(i:Nat)(F:List W->FR)(e:List S):R (List W)->SR
 |.ok ws _=>setTL i e (F ws)
 |_=>.no
def dSetTL(i:Nat)(F:List W->FR)(dA:Den (List W)):List S->SR:=fun e=>lendTL i F e (dA (hideS e))
theorem y45(i:Nat){f:Str}{k:Nat}{ps:List Str}{F:List W->FR}{np cpos:Pos}(hio:Z.io=[])(hN:X.N.Nodup)(C:Cal X.prog X.w X.K X.mg X.base k f ps (spF X.K F))(hr:Room k X.A)(hx:PassX (CX1 X.prog X.w) X EE)(ha:∀Z',DA Z' X EE (e::es) dA)(hg:Gl X f:=by rfl)
  (hdb:(f==("__debug__":Str))=false:=by decide)(he:starEach (e::es) X.env=(false,eval e X.env)::starEach es X.env:=by rfl)(hpl:(backTo cpos (starEach es X.env)).any (·.1)=false:=by rfl)
  (hi:X.N[i]?=some x:=by rfl)(hl:Loc X.env.scope x:=by walk_at "3")(hs:swapsWith (.Call (.Name f np) (e::es) [] cpos) (some (.Name x p)) pos.line X.env=pure false:=by rfl)(hf:X.fn x=true\/X.env.scope.names.lookup x=some .local:=by walk_at "2"):
  DS Z X EE (.Assign [.Name x p] (.Call (.Name f np) (e::es) [] cpos) pos) (dSetTL i F dA):=by
 intro pins s σ H D I hq;obtain⟨G,e0,rel,h⟩:=hq;refine x8p i hN (x91 C hr hx (ha ⟨H,lentG Z G H,[]⟩) hg hdb he hpl) hi hl hs hf pins s σ H D I ⟨_,hideS e0,rel.lent hio,?_⟩;unfold dSetTL at h;cases q:dA (hideS e0)with
 |no=>rw[q]at h;exact h.elim
 |ex c e1=>rw[q]at h;exact h.elim
 |ok ws e1=>
  rw[q]at h;intro G1 vs H1 r1 s1 p1;refine⟨G1,ws,r1.sub,by rw[w1l];exact p1,?_⟩;simp only[lendTL]at h;cases q2:F ws with
  |ok s=>
   rw[q2]at h;intro G' H' v g sl;cases s with
   |thr us ws' vs'=>
    simp only[setTL]at h;split at h
    ·rename_i hfl;obtain⟨f1,f2,f3⟩:=hfl;have r2:=r1.grow g;have s2:Same (lentG Z G H) G':=s1.trans g.gg;have ru:=rel.unlent hio r2;obtain⟨t,l,o,xs,ys,zs,h1,h2,h3,h4,h5,h6⟩:=sl;cases h1
     have hn:H l=none:=by
      cases qq:H l with
      |none=>rfl
      |some u=>
       have:=r1.ent l u qq (fun z=>nomatch z)
       have h5:H1 l=none:=h5;rw[h5]at this;cases this
     have kp:∀b o,G' b=some o->keepT o=true->withT0 G G' b=some o:=fun b o z1 z2=>by
      unfold withT0;cases qq:G b with
      |some u=>
       have h3:G' b=some u:=s2 b u (by
        unfold lentG;cases q9:Z.H b with
        |none=>exact rel.sub _ _ qq
        |some _=>exact qq)
       rw[z1]at h3;cases h3;rfl
      |none=>simp only[z1,z2];rfl
     have sT:∀b ys,SqT X.K G' b ys->SqT X.K (withT0 G G') b ys:=fun b ys z=>by
      rcases z with(z|⟨o,z⟩)|z
      ·exact .inl (.inl (kp b _ z rfl))
      ·exact .inl (.inr ⟨o,kp b _ z rfl⟩)
      ·exact .inr z
     have hg':withT0 G G' l=none:=by
      unfold withT0;rw[rel.sub.free hn,h4]
     exact h (withT0 G G') _ H' (ru.setThr ⟨t,l,o,xs,ys,zs,rfl,kp t _ h2 rfl,h3,hg',q4x rel hn,q4v sT us f1 h6.1,q4v sT ws' f2 h6.2.1,q4v sT vs' f3 h6.2.2⟩) (fun b o z=>by unfold withT0;rw[z])
    ·exact h.elim
   |_=>exact h.elim
  |ex c=>rw[q2]at h;exact h.elim
  |no=>rw[q2]at h;exact h.elim
def appTh(i:Nat)(e:List S):Option S->SR
 |some (.thr [] ws _)=>if ws.length<16777216/\(e.set i .no).all (fun s=>!isT s)=true then .nx (e.set i .no)else .no
 |_=>.no
def dAppTh(i:Nat):List S->SR:=fun e=>appTh i e e[i]?
theorem y46(i:Nat){apos cpos bp tp:Pos}{kk kp k1 tk}(hz:Z.H=X.H₀)(hN:X.N[i]?=some x:=by rfl)(hv:Vis X.env.scope x:=by walk_at "1")(hd:(x==("__debug__":Str))=false:=by decide)(hcd:(x==("__classdict__":Str))=false:=by decide)
  (hs:PlainIx (.Constant (.int ((0:Nat):Int)) kk kp):=by intro _ _;rfl)
  (hbase:attributeBase (.Subscript (.Name x p) (.Constant (.int ((0:Nat):Int)) kk kp) spos) "append" X.env (eval (.Subscript (.Name x p) (.Constant (.int ((0:Nat):Int)) kk kp) spos) X.env)=eval (.Subscript (.Name x p) (.Constant (.int ((0:Nat):Int)) kk kp) spos) X.env:=by rfl)
  (hfew:((backTo cpos (starEach [.Tuple [.Constant (.bool true) k1 bp] tk tp] X.env)).all (fun x=>!x.1)&&(backToKw cpos (keywordEach [] X.env)).all (fun x=>x.1.isSome)&&decide (([.Tuple [.Constant (.bool true) k1 bp] tk tp]:List Expr).length+([]:List Keyword).length+(if([]:List Keyword).isEmpty then 0 else 1)<30))=true:=by rfl)
  (hline:(apos.endLine==cpos.line)=true:=by rfl)(hst:starEach [.Tuple [.Constant (.bool true) k1 bp] tk tp] X.env=(false,eval (.Tuple [.Constant (.bool true) k1 bp] tk tp) X.env)::starEach [] X.env:=by rfl)(hst2:starEach [.Constant (.bool true) k1 bp] X.env=(false,eval (.Constant (.bool true) k1 bp) X.env)::starEach [] X.env:=by rfl)(hplain:(backTo cpos (starEach [] X.env)).any (·.1)=false:=by rfl)
  (hsw:swapsWith (.Call (.Attribute (.Subscript (.Name x p) (.Constant (.int ((0:Nat):Int)) kk kp) spos) "append" apos) [.Tuple [.Constant (.bool true) k1 bp] tk tp] [] cpos) none pos.line X.env=pure false:=by rfl):
  DS Z X EE (.Expr (.Call (.Attribute (.Subscript (.Name x p) (.Constant (.int ((0:Nat):Int)) kk kp) spos) "append" apos) [.Tuple [.Constant (.bool true) k1 bp] tk tp] [] cpos) pos) (dAppTh i):=by
 refine PS.mono (q61 (x92 (x8m ix_tup (pv i hN hv hd hcd) x9m hs) (y43 (q47 (x4k (q47 y5z q8c hst2)) q8c hst)) hbase hfew hline hst hplain) hsw) ?_;rintro D σ H ⟨G,e,rel,h⟩;unfold dAppTh appTh at h;split at h
 ·rename_i ws vs he;split at h
  ·rename_i hc;obtain⟨hlen,hT⟩:=hc;obtain⟨t,l,o,xs,ys,zs,h1,h2,h3,h4,h5,h6,h7,h8⟩:=rel.slot i _ he;cases(show xs=[]from h6);have hv:=rel.at he fun _=>h1
   have hat:atI ([]++V.ref l::zs) ((0:Nat):Int)=some (.ref l):=q5u rfl;refine⟨.ref t,hv,t,[]++V.ref l::zs,((0:Nat):Int),.ref l,rfl,rfl,SqT.of (rel.sub _ _ h2),hat,.inl ⟨rfl,ys,.inl (.inr ⟨o,h3⟩)⟩,by rw[sizeLine_eq];exact(by decide:1<=16777216),fun q hq=>?_⟩
   have nq:l≠q:=fun z=>by subst z;rw[h3]at hq;cases hq
   have g:=Grow.laid rel.sub hq (.tup [.bl true]);have r1:=rel.grow g;have h3':upd H q (.tup [.bl true]) l=some (.frz o (.lst ys)):=by rw[q0c nq];exact h3
   have h4':upd G q (.tup [.bl true]) l=none:=by rw[q0c nq];exact h4
   refine⟨l,o,ys,h3',fun _ _ z=>(by rw[<- hz,h5]at z;cases z),l,ys,.ref q,rfl,rfl,q0h,by rw[h7.length,sizeLine_eq];exact hlen,?_⟩
   rw[show ∀u,upd (upd (upd H q (.tup [.bl true])) l (.lst ys)) l u=upd (upd H q (.tup [.bl true])) l u from fun u=>by funext c;unfold upd;split<;>rfl]
   exact h _ σ _ ((r1.drop1 i).mutL (u:=.lst (ys++[.ref q])) h3' h4' h5 (allT hT)) g.gg
  ·exact h.elim
 ·exact h.elim
theorem y47{j:Nat}{e:List S}:dRetTF dF j e=(dF e).stm fun ws e1=>retTF ws e1 e1[j]?:=rfl
theorem y48{w:W}{e:List S}:retTF ws e (some (.fr w))=.rt (.thr [] ws [w]) e:=rfl
theorem y49{F:List W->FR}{e:List S}:dSetTL i F dA e=lendTL i F e (dA (hideS e)):=rfl
theorem y1w{F:List W->FR}{e e1:List S}:lendTL i F e (.ok ws e1)=setTL i e (F ws):=rfl
theorem y86{e:List S}{us vs:List W}(h:flatWs us=true/\flatWs ws=true/\flatWs vs=true):setTL i e (.ok (.thr us ws vs))=.nx (e.set i (.thr us ws vs)):=if_pos h
theorem y5a{e:List S}:dAppTh i e=appTh i e e[i]?:=rfl
theorem y5b{e:List S}{vs:List W}(h1:ws.length<16777216)(h2:(e.set i .no).all (fun s=>!isT s)=true):appTh i e (some (.thr [] ws vs))=.nx (e.set i .no):=if_pos ⟨h1,h2⟩
end
end D
namespace M10
def numG(a:Int)(row:List Bool):Int:=row.foldl (fun acc b=>2*acc+(if b=true then 1 else 0)) a
def num(row:List Bool):Int:=numG 0 row
def b2(b:Bool):Int:=if b=true then 1 else 0
theorem y1x(a:Int)(row:List Bool)(b:Bool):numG a (row++[b])=2*numG a row+b2 b:=by
 unfold numG;rw[List.foldl_append];rfl
theorem x7w:num []=0:=rfl
theorem x0f(row:List Bool)(b:Bool):num (row++[b])=2*num row+b2 b:=y1x 0 row b
theorem x5d(b:Bool):b2 b=0\/b2 b=1:=by cases b<;>simp[b2]
theorem x5e{P:List Bool->Prop}(h0:P [])(h1:∀l b,P l->P (l++[b])):∀l,P l:=by
 intro l
 have:∀r:List Bool,P r.reverse:=by
  intro r
  induction r with
  |nil=>simpa using h0
  |cons b r ih=>rw[w2a];exact h1 _ _ ih
 have:=this l.reverse
 rwa [List.reverse_reverse]at this
theorem x1a(row:List Bool):0<=num row/\num row<2^row.length:=by
 induction row using x5e with
 |h0=>simp[x7w]
 |h1 l b ih=>
  rw[x0f,w0p,w2r,w3s];rcases x5d b with h|h<;>omega
def bits:Nat->Int->List Bool
 |0,_=>[]
 |m+1,n=>decide (n%2=1)::bits m (n / 2)
def rest:Nat->Int->Int
 |0,n=>n
 |m+1,n=>rest m (n / 2)
theorem q5a:∀m n,(bits m n).length=m
 |0,_=>rfl
 |m+1,n=>by rw[bits,w0q,q5a m]
theorem x3c:∀m n,bits (m+1) n=bits m n++[decide (rest m n%2=1)]
 |0,n=>rfl
 |m+1,n=>by rw[bits,x3c m (n / 2),bits,rest];rfl
theorem x3d:∀m n,rest (m+1) n=rest m n / 2
 |0,n=>rfl
 |m+1,n=>by rw[rest,x3d m (n / 2)];rfl
theorem x5f(m:Nat):∀n:Int,n=num (bits m n).reverse+2^m*rest m n:=by
 induction m with
 |zero=>intro n;simp[bits,rest,x7w]
 |succ m ih=>
  intro n;rw[bits,rest,w2a,x0f,w3s];have h:=ih (n / 2)
  have hb:b2 (decide (n%2=1))=n%2:=by
   unfold b2
   by_cases h1:n%2=1
   ·simp[h1]
   ·simp[h1];omega
  rw[hb]
  have e:(2:Int)^m*2*rest m (n / 2)=2*(2^m*rest m (n / 2)):=by
   rw[w5j (2^m) 2,Int.mul_assoc]
  rw[e];generalize (2:Int)^m*rest m (n / 2)=z at *;generalize num (bits m (n / 2)).reverse=y at *;omega
theorem y5c(m:Nat):(0:Int)<2^m:=by
 induction m with
 |zero=>decide
 |succ m ih=>rw[w3s];omega
theorem x3e{m:Nat}{n:Int}(h0:0<=n)(h1:n<2^m):rest m n=0:=by
 have h:=x5f m n;have hb:=x1a (bits m n).reverse;rw[w3p,q5a]at hb;have hp:=y5c m
 by_cases hr:rest m n=0
 ·exact hr
 ·exfalso;rcases Int.lt_or_gt_of_ne hr with h2|h2
  ·have:2^m*rest m n<=2^m*(-1):=w3l (by omega) (by omega);omega
  ·have:2^m*1<=2^m*rest m n:=w3l (by omega) (by omega);omega
theorem x0g{m:Nat}{n:Int}(h0:0<=n)(h1:n<2^m):num (bits m n).reverse=n:=by
 have h:=x5f m n;rw[x3e h0 h1,Int.mul_zero]at h;omega
theorem y5d(row:List Bool):(bits row.length (num row)).reverse=row:=by
 induction row using x5e with
 |h0=>rfl
 |h1 l b ih=>
  rw[w0p,w2r,x0f,bits,w2a];have hb:=x5d b;have e1:(2*num l+b2 b) / 2=num l:=by rcases hb with h|h<;>omega
  have e2:decide ((2*num l+b2 b)%2=1)=b:=by
   cases b
   ·have:b2 false=0:=rfl;rw[this];simp
   ·have:b2 true=1:=rfl;rw[this,decide_eq_true_eq];omega
  rw[e1,e2,ih]
def part(row:List Bool)(i:Nat):Int:=num (row.take i)*2^(row.length-i)
end M10
namespace Q
open PySem L2 D
variable{f:Addr}{A:Around}{H:Hp}{c:List (Option Bool)}{ns:List Int}{l:List Nat}{ws:List W}{N cnt k m n q:Nat}{K:Fg}{s:Shared}{mg:Str->Option Value}{α:Type}{cdv:Value}{T:W}{E:XK}{Z:Zt}
seal DE DF DT DW DA DS DSs DTs DO DFm PE PT PW PA PS PSs PG PGs PI PF PTs PC OpR UnR IxR CallR TruR MtR MtM SlR PO
theorem us1{P:List α->Prop}(h:∀x0,P [x0]):∀us:List α,us.length=1->P us
 |[x0],_=>h x0
theorem us2{P:List α->Prop}(h:∀x0 x1,P [x0,x1]):∀us:List α,us.length=2->P us
 |[x0,x1],_=>h x0 x1
theorem us3{P:List α->Prop}(h:∀x0 x1 x2,P [x0,x1,x2]):∀us:List α,us.length=3->P us
 |[x0,x1,x2],_=>h x0 x1 x2
theorem us4{P:List α->Prop}(h:∀x0 x1 x2 x3,P [x0,x1,x2,x3]):∀us:List α,us.length=4->P us
 |[x0,x1,x2,x3],_=>h x0 x1 x2 x3
theorem us5{P:List α->Prop}(h:∀x0 x1 x2 x3 x4,P [x0,x1,x2,x3,x4]):∀us:List α,us.length=5->P us
 |[x0,x1,x2,x3,x4],_=>h x0 x1 x2 x3 x4
def top(i:Nat):Stmt:=PySem.Challenge.pw_circuits_k22_least_covers.main.body.getD i (.Pass ⟨0,0,0,0⟩)
structure Blt(P:Program)(w:World)(K:Fg)(mg:Str->Option Value):Prop where
 b_all:mg "all"=none
 b_any:mg "any"=none
 b_enumerate:mg "enumerate"=none
 b_int:mg "int"=none
 b_isinstance:mg "isinstance"=none
 b_len:mg "len"=none
 b_list:mg "list"=none
 b_min:mg "min"=none
 b_range:mg "range"=none
 b_reversed:mg "reversed"=none
 b_sorted:mg "sorted"=none
 b_tuple:mg "tuple"=none
 b_zip:mg "zip"=none
 t_SIGNS:∃d,mg "SIGNS"=some (.ref d)/\SignK w K d
structure Adr where
 CircuitError:Addr
 NoRow:Addr
 NoTable:Addr
 MOST_PLACES_tables:Value
 MOST_PLACES_covers:Value
variable{a:Adr}
structure Exs(K:Fg)(mg:Str->Option Value)(a:Adr):Prop where
 z:True
 m_CircuitError:mg "CircuitError"=some (.ref a.CircuitError)
 m_NoRow:mg "NoRow"=some (.ref a.NoRow)
 m_NoTable:mg "NoTable"=some (.ref a.NoTable)
 m_MOST_PLACES_tables:mg "MOST_PLACES_tables"=some a.MOST_PLACES_tables
 m_MOST_PLACES_covers:mg "MOST_PLACES_covers"=some a.MOST_PLACES_covers
 g_MOST_PLACES_tables:conIn K (.int 10) a.MOST_PLACES_tables=true
 g_MOST_PLACES_covers:conIn K (.int 4) a.MOST_PLACES_covers=true
 e_NoRow:excIn K a.NoRow a.CircuitError=true
 e_NoTable:excIn K a.NoTable a.CircuitError=true
 c_NoRow:excClsIn K a.NoRow=true
 x_NoRow_CircuitError:exmOne K (.ref a.NoRow) (.ref a.CircuitError)=some true
 k_NoRow_NoTable:kitOne K (.ref a.NoRow) (.ref a.NoTable)=some false
 c_NoTable:excClsIn K a.NoTable=true
 x_NoTable_CircuitError:exmOne K (.ref a.NoTable) (.ref a.CircuitError)=some true
 k_NoTable_NoTable:kitOne K (.ref a.NoTable) (.ref a.NoTable)=some true
 t_NoneType_tuple:kitOne K (.type "NoneType") (.type "tuple")=some false
 t_bool_tuple:kitOne K (.type "bool") (.type "tuple")=some false
 t_int_tuple:kitOne K (.type "int") (.type "tuple")=some false
 t_str_tuple:kitOne K (.type "str") (.type "tuple")=some false
 t_tuple_tuple:kitOne K (.type "tuple") (.type "tuple")=some true
 t_list_tuple:kitOne K (.type "list") (.type "tuple")=some false
 t_NoneType_list:kitOne K (.type "NoneType") (.type "list")=some false
 t_bool_list:kitOne K (.type "bool") (.type "list")=some false
 t_int_list:kitOne K (.type "int") (.type "list")=some false
 t_str_list:kitOne K (.type "str") (.type "list")=some false
 t_tuple_list:kitOne K (.type "tuple") (.type "list")=some false
 t_list_list:kitOne K (.type "list") (.type "list")=some true
noncomputable abbrev q34:Nat:=0
noncomputable abbrev q2m:Nat:=1
noncomputable abbrev q3l:Nat:=2
noncomputable abbrev q35:Nat:=3
noncomputable abbrev q22:Nat:=4
noncomputable abbrev q2a:Nat:=5
noncomputable abbrev q26:Nat:=6
noncomputable abbrev q1i:Nat:=7
noncomputable abbrev q5i:Nat:=8
noncomputable abbrev q2o:Nat:=9
noncomputable abbrev q27:Nat:=10
noncomputable abbrev q3m:Nat:=11
noncomputable abbrev q2i:Nat:=12
noncomputable abbrev q2j:Nat:=13
noncomputable abbrev q1w:Nat:=14
noncomputable abbrev q01:Nat:=15
noncomputable abbrev q2e:Nat:=16
noncomputable abbrev q18:Nat:=17
noncomputable abbrev q4r:Nat:=18
noncomputable abbrev q3n:Nat:=19
noncomputable abbrev q1m:Nat:=20
noncomputable abbrev q0t:Nat:=21
noncomputable abbrev q1j:Nat:=22
noncomputable abbrev q2b:Nat:=23
noncomputable abbrev q1n:Nat:=24
noncomputable abbrev q1f:Nat:=25
noncomputable abbrev q28:Nat:=26
noncomputable abbrev q0u:Nat:=27
noncomputable abbrev q2p:Nat:=28
noncomputable abbrev q1t:Nat:=29
noncomputable abbrev q04:Nat:=30
noncomputable abbrev q1o:Nat:=31
noncomputable abbrev q5s:Nat:=32
noncomputable abbrev q29:Stmt:=top 5
theorem sc_row_of:FnScope ["number", "many", "truths", "rest", "step"] ["number", "many"] (defScope q29):=⟨rfl,rfl,rfl,by decide +kernel,rfl,by decide +kernel,by decide +kernel⟩
noncomputable abbrev q1x:Stmt:=top 6
theorem sc_rows_many:FnScope ["many", "count", "place"] ["many"] (defScope q1x):=⟨rfl,rfl,rfl,by decide +kernel,rfl,by decide +kernel,by decide +kernel⟩
noncomputable abbrev q14:Stmt:=top 7
theorem x6q:FnScope ["many"] ["many"] (defScope q14):=⟨rfl,rfl,rfl,by decide +kernel,rfl,by decide +kernel,by decide +kernel⟩
noncomputable abbrev q2f:Stmt:=top 10
theorem x85:FnScope ["cube", "row"] ["cube", "row"] (defScope q2f):=⟨rfl,rfl,rfl,by decide +kernel,rfl,by decide +kernel,by decide +kernel⟩
noncomputable abbrev q2g:Stmt:=top 11
theorem x86:FnScope ["cube"] ["cube"] (defScope q2g):=⟨rfl,rfl,rfl,by decide +kernel,rfl,by decide +kernel,by decide +kernel⟩
noncomputable abbrev q1q:Stmt:=top 12
theorem x5g:FnScope ["cube"] ["cube"] (defScope q1q):=⟨rfl,rfl,rfl,by decide +kernel,rfl,by decide +kernel,by decide +kernel⟩
noncomputable abbrev q1y:Stmt:=top 15
theorem sc_places_of:FnScope ["table", "many"] ["table"] (defScope q1y):=⟨rfl,rfl,rfl,by decide +kernel,rfl,by decide +kernel,by decide +kernel⟩
noncomputable abbrev q1k:Stmt:=top 18
theorem sc_wish_places:FnScope ["wish", "many"] ["wish"] (defScope q1k):=⟨rfl,rfl,rfl,by decide +kernel,rfl,by decide +kernel,by decide +kernel⟩
noncomputable abbrev q36:Stmt:=top 19
theorem y87:FnScope ["cube", "wish"] ["cube", "wish"] (defScope q36):=⟨rfl,rfl,rfl,by decide +kernel,rfl,by decide +kernel,by decide +kernel⟩
noncomputable abbrev q2q:Stmt:=top 20
theorem y1y:FnScope ["wish"] ["wish"] (defScope q2q):=⟨rfl,rfl,rfl,by decide +kernel,rfl,by decide +kernel,by decide +kernel⟩
noncomputable abbrev q1z:Stmt:=top 21
theorem sc_all_cubes:FnScope ["many", "cubes", "place", "longer", "cube"] ["many"] (defScope q1z):=⟨rfl,rfl,rfl,by decide +kernel,rfl,by decide +kernel,by decide +kernel⟩
noncomputable abbrev q1s:Stmt:=top 22
theorem x6r:FnScope ["cube", "wish"] ["cube", "wish"] (defScope q1s):=⟨rfl,rfl,rfl,by decide +kernel,rfl,by decide +kernel,by decide +kernel⟩
noncomputable abbrev q09:Stmt:=top 23
theorem x14:FnScope ["cube"] ["cube"] (defScope q09):=⟨rfl,rfl,rfl,by decide +kernel,rfl,by decide +kernel,by decide +kernel⟩
noncomputable abbrev q1a:Stmt:=top 24
theorem x15:FnScope ["wish"] ["wish"] (defScope q1a):=⟨rfl,rfl,rfl,by decide +kernel,rfl,by decide +kernel,by decide +kernel⟩
noncomputable abbrev q1r:Stmt:=top 25
theorem x5h:FnScope ["numbers", "taken"] ["numbers", "taken"] (defScope q1r):=⟨rfl,rfl,rfl,by decide +kernel,rfl,by decide +kernel,by decide +kernel⟩
noncomputable abbrev q1l:Stmt:=top 27
theorem sc_least_cover:FnScope ["wish", "reaches", "wished", "count", "tree", "found"] ["wish"] (defScope q1l):=⟨rfl,rfl,rfl,by decide +kernel,rfl,by decide +kernel,by decide +kernel⟩
noncomputable abbrev q1g:Stmt:=top 28
theorem x30:FnScope ["wish"] ["wish"] (defScope q1g):=⟨rfl,rfl,rfl,by decide +kernel,rfl,by decide +kernel,by decide +kernel⟩
noncomputable abbrev q3w:Stmt:=top 29
theorem sc_tried:FnScope ["reaches", "left", "count", "number", "branches", "prime", "rows", "found"] ["reaches", "left", "count"] (defScope q3w):=⟨rfl,rfl,rfl,by decide +kernel,rfl,by decide +kernel,by decide +kernel⟩
noncomputable abbrev q2k:Stmt:=top 30
theorem y1z:FnScope ["reaches", "left"] ["reaches", "left"] (defScope q2k):=⟨rfl,rfl,rfl,by decide +kernel,rfl,by decide +kernel,by decide +kernel⟩
noncomputable abbrev q2r:Stmt:=top 31
theorem y10:FnScope ["reaches", "number"] ["reaches", "number"] (defScope q2r):=⟨rfl,rfl,rfl,by decide +kernel,rfl,by decide +kernel,by decide +kernel⟩
noncomputable abbrev q1b:Stmt:=top 33
theorem x1b:FnScope ["_law_script", "_law_k"] ["_law_script", "_law_k"] (defScope q1b):=⟨rfl,rfl,rfl,by decide +kernel,rfl,by decide +kernel,by decide +kernel⟩
noncomputable abbrev q2c:Stmt:=top 34
theorem sc__law_way:FnScope ["_law_script", "_law_k", "_law_many", "_law_mark_here"] ["_law_script", "_law_k", "_law_many"] (defScope q2c):=⟨rfl,rfl,rfl,by decide +kernel,rfl,by decide +kernel,by decide +kernel⟩
noncomputable abbrev q10:Stmt:=top 35
theorem sc__law_mark:FnScope ["_law_script", "_law_k", "_law_mark_here"] ["_law_script", "_law_k"] (defScope q10):=⟨rfl,rfl,rfl,by decide +kernel,rfl,by decide +kernel,by decide +kernel⟩
noncomputable abbrev q1c:Stmt:=top 36
theorem sc__law_rows:FnScope ["_law_cube", "_law_found", "_law_wished"] ["_law_cube"] (defScope q1c):=⟨rfl,rfl,rfl,by decide +kernel,rfl,by decide +kernel,by decide +kernel⟩
noncomputable abbrev q06:Stmt:=top 37
theorem sc__law_wish_by:FnScope ["_law_script", "_law_many", "_law_menus", "_law_menu", "_law_some"] ["_law_script", "_law_many"] (defScope q06):=⟨rfl,rfl,rfl,by decide +kernel,rfl,by decide +kernel,by decide +kernel⟩
noncomputable abbrev q02:Stmt:=top 38
theorem sc__law_odd_wish:FnScope ["_law_script", "_law_size"] ["_law_script"] (defScope q02):=⟨rfl,rfl,rfl,by decide +kernel,rfl,by decide +kernel,by decide +kernel⟩
noncomputable abbrev q11:Stmt:=top 39
theorem sc__law_fits:FnScope ["_law_cube", "_law_wish", "_law_number"] ["_law_cube", "_law_wish"] (defScope q11):=⟨rfl,rfl,rfl,by decide +kernel,rfl,by decide +kernel,by decide +kernel⟩
noncomputable abbrev q07:Stmt:=top 40
theorem sc__law_covered:FnScope ["_law_cover", "_law_wish", "_law_inside", "_law_cube"] ["_law_cover", "_law_wish"] (defScope q07):=⟨rfl,rfl,rfl,by decide +kernel,rfl,by decide +kernel,by decide +kernel⟩
noncomputable abbrev q1h:Stmt:=top 41
theorem sc__law_grown:FnScope ["_law_wish", "_law_number", "_law_many", "_law_mark_here", "_law_cube", "_law_k", "_law_at", "_law_wider"] ["_law_wish", "_law_number", "_law_many", "_law_mark_here"] (defScope q1h):=⟨rfl,rfl,rfl,by decide +kernel,rfl,by decide +kernel,by decide +kernel⟩
noncomputable abbrev q08:Stmt:=top 42
theorem sc__law_subsets:FnScope ["_law_listed", "_law_count", "_law_found", "_law_prime"] ["_law_listed", "_law_count"] (defScope q08):=⟨rfl,rfl,rfl,by decide +kernel,rfl,by decide +kernel,by decide +kernel⟩
noncomputable abbrev q0x:Stmt:=top 43
theorem sc__law_none_fewer:FnScope ["_law_wish", "_law_listed", "_law_count", "_law_script", "_law_many", "_law_wished", "_law_some", "_law_k"] ["_law_wish", "_law_listed", "_law_count", "_law_script", "_law_many"] (defScope q0x):=⟨rfl,rfl,rfl,by decide +kernel,rfl,by decide +kernel,by decide +kernel⟩
noncomputable abbrev q1d:Stmt:=top 44
theorem sc__law_refused:FnScope ["_law_wish", "e"] ["_law_wish"] (defScope q1d):=⟨rfl,rfl,rfl,by decide +kernel,rfl,by decide +kernel,by decide +kernel⟩
noncomputable abbrev q31:Stmt:=top 45
theorem sc_law:FnScope ["_law_script", "_law_many", "_law_wish", "_law_listed", "_law_handed", "_law_found", "_law_cover"] ["_law_script"] (defScope q31):=⟨rfl,rfl,rfl,by decide +kernel,rfl,by decide +kernel,by decide +kernel⟩
noncomputable abbrev q7k:Expr:=(kwAt 0 (stVal (stAt 0 q2k)))
noncomputable abbrev q5t:Lm:=⟨("rarest"++".<locals>.")++"<lambda>", lamParams q7k,lamBody q7k,lamScope q7k,["reaches"]⟩
noncomputable abbrev q1u:Nat:=33
def lams:Nat->Option Lm
 |33=>some q5t
 |_=>none
theorem x31:lams 33=some q5t:=rfl
def q4a(K:Fg)(a:Adr)(r:Nat->List W->FR):Den W:=
 (dFn len1 (dCons (dCall (r q3n) (dCons (dVar 1) (dCons (dVar 0) dNil))) dNil))
def q7l(K:Fg)(a:Adr)(r:Nat->List W->FR):List S->SR:=
 (dSeq (dApp 2 (dCons (dOp eq2 (dOp modW (dVar 3) (dC (.int 2))) (dC (.int 1))) dNil))
  (dSet 3 (dOp fdivW (dVar 3) (dC (.int 2)))))
def q57(K:Fg)(a:Adr)(r:Nat->List W->FR):List S->SR:=
 (dSeq (dSetO 2 (dLst dNil))
  (dSeq (dSet 3 (dVar 0))
  (dSeq (dForR 4 rng1 (dCons (dVar 1) dNil)
  (q7l K a r))
  (dSeq (dIfS (dTest (dOp ne2 (dVar 3) (dC (.int 0))))
  (dRaise a.NoRow (dCons (dC (.str "no row of so many places has that number")) dNil))
  dNx)
  (dRet (dUn tuprevW (dVar 2)))))))
def q5l(K:Fg)(a:Adr)(r:Nat->List W->FR):List S->SR:=
 (dSet 1 (dOp mulW (dC (.int 2)) (dVar 1)))
def q4i(K:Fg)(a:Adr)(r:Nat->List W->FR):List S->SR:=
 (dSeq (dSet 1 (dC (.int 1)))
  (dSeq (dForR 2 rng1 (dCons (dVar 0) dNil)
  (q5l K a r))
  (dRet (dVar 1))))
def q8r(K:Fg)(a:Adr)(r:Nat->List W->FR):Den W:=
 (dCall (r q34) (dCons (dVar 0) (dCons (dVar 1) dNil)))
def q4z(K:Fg)(a:Adr)(r:Nat->List W->FR):List S->SR:=
 (dRetF (dCompR rng1 [0] (dCons (dCall (r q2m) (dCons (dVar 0) dNil)) dNil) dYes (q8r K a r)))
def q6y(K:Fg)(a:Adr)(r:Nat->List W->FR):Den W:=
 (dOrV (dOp isW (dVar 0) (dC .non)) (dOp eq2 (dVar 0) (dVar 1)))
def q5j(K:Fg)(a:Adr)(r:Nat->List W->FR):List S->SR:=
 (dSeq (dIfS (dTest (dOp ne2 (dFn len1 (dCons (dVar 0) dNil)) (dFn len1 (dCons (dVar 1) dNil))))
  (dRet (dC (.bl false)))
  dNx)
  (dRet (dFn all1 (dCons (dFz (dCompP [] (srcZ (dCons (dVar 0) (dCons (dVar 1) dNil))) dYes (q6y K a r))) dNil))))
def q9o(K:Fg)(a:Adr)(r:Nat->List W->FR):Den W:=
 (dVar 0)
def q9p(K:Fg)(a:Adr)(r:Nat->List W->FR):Den Bool:=
 (dTru (dCall (r q35) (dCons (dVar 2) (dCons (dVar 1) dNil))))
def q5k(K:Fg)(a:Adr)(r:Nat->List W->FR):List S->SR:=
 (dRetF (dCompP [0] (srcE (dCons (dCall (r q3l) (dCons (dFn len1 (dCons (dVar 0) dNil)) dNil)) dNil)) (q9p K a r) (q9o K a r)))
def q7p(K:Fg)(a:Adr)(r:Nat->List W->FR):Den W:=
 (dUn sgnW (dVar 0))
def q4j(K:Fg)(a:Adr)(r:Nat->List W->FR):List S->SR:=
 (dRet (dMeth "str" joinW (dC (.str "")) (dCons (dFz (dComp [] (dVar 0) dYes (q7p K a r))) dNil)))
def q5m(K:Fg)(a:Adr)(r:Nat->List W->FR):List S->SR:=
 (dIfS (dTest (dOp eq2 (dFn len1 (dCons (dVar 0) dNil)) (dCall (r q2m) (dCons (dVar 1) dNil))))
  (dRet (dVar 1))
  dNx)
def q4k(K:Fg)(a:Adr)(r:Nat->List W->FR):List S->SR:=
 (dSeq (dForR 1 rng1 (dCons (dOp addX (dC (.int 10)) (dC (.int 1))) dNil)
  (q5m K a r))
  (dRaise a.NoTable (dCons (dC (.str "no table has that length")) dNil)))
def q2w(K:Fg)(a:Adr)(r:Nat->List W->FR):List S->SR:=
 (dSeq (dSet 1 (dCall (r q26) (dCons (dVar 0) dNil)))
  (dSeq (dIfS (dTest (dOp gtW (dVar 1) (dC (.int 4))))
  (dRaise a.NoTable (dCons (dC (.str "no wish has that length")) dNil))
  dNx)
  (dRet (dVar 1))))
def x5i(K:Fg)(a:Adr)(r:Nat->List W->FR):Den W:=
 (dOp nisW (dOp ixW (dVar 1) (dVar 0)) (dC (.bl false)))
def q8s(K:Fg)(a:Adr)(r:Nat->List W->FR):List S->SR:=
 (dSeq (dIfS (dTest (dOp ne2 (dCall (r q1i) (dCons (dVar 1) dNil)) (dFn len1 (dCons (dVar 0) dNil))))
  (dRet (dC (.bl false)))
  dNx)
  (dRet (dFn all1 (dCons (dFz (dComp [1] (dCall (r q22) (dCons (dVar 0) dNil)) dYes (x5i K a r))) dNil))))
def x1c(K:Fg)(a:Adr)(r:Nat->List W->FR):Den W:=
 (dVar 0)
def x1d(K:Fg)(a:Adr)(r:Nat->List W->FR):Den Bool:=
 (dTru (dCall (r q3m) (dCons (dVar 0) (dCons (dVar 1) dNil))))
def q5b(K:Fg)(a:Adr)(r:Nat->List W->FR):List S->SR:=
 (dRetF (dComp [0] (dCall (r q27) (dCons (dCall (r q1i) (dCons (dVar 0) dNil)) dNil)) (x1d K a r) (x1c K a r)))
def q4p(K:Fg)(a:Adr)(r:Nat->List W->FR):List S->SR:=
 (dExt 3 (dCons (dFz (dLst (dCons (dOp addX (dVar 4) (dTup (dCons (dC .non) dNil))) (dCons (dOp addX (dVar 4) (dTup (dCons (dC (.bl false)) dNil))) (dCons (dOp addX (dVar 4) (dTup (dCons (dC (.bl true)) dNil))) dNil))))) dNil))
def q5n(K:Fg)(a:Adr)(r:Nat->List W->FR):List S->SR:=
 (dSeq (dSetO 3 (dLst dNil))
  (dSeq (dFor 4 (dVar 1)
  (q4p K a r))
  (dSet 1 (dVar 3))))
def q4l(K:Fg)(a:Adr)(r:Nat->List W->FR):List S->SR:=
 (dSeq (dSet 1 (dFz (dLst (dCons (dTup dNil) dNil))))
  (dSeq (dForR 2 rng1 (dCons (dVar 0) dNil)
  (q5n K a r))
  (dRet (dVar 1))))
def q8t(K:Fg)(a:Adr)(r:Nat->List W->FR):Den W:=
 (dCall (r q5i) (dCons (dVar 0) (dCons (dVar 1) dNil)))
def q8u(K:Fg)(a:Adr)(r:Nat->List W->FR):Den W:=
 (dOp isW (dOp ixW (dVar 1) (dVar 0)) (dC (.bl true)))
def q40(K:Fg)(a:Adr)(r:Nat->List W->FR):List S->SR:=
 (dSeq (dIfS (dNot (dTru (dCall (r q5i) (dCons (dVar 0) (dCons (dVar 1) dNil)))))
  (dRet (dC (.bl false)))
  dNx)
  (dSeq (dIfS (dNot (dTru (dFn any1 (dCons (dFz (dComp [1] (dCall (r q22) (dCons (dVar 0) dNil)) dYes (q8u K a r))) dNil))))
  (dRet (dC (.bl false)))
  dNx)
  (dRet (dNotV (dFn any1 (dCons (dFz (dComp [1] (dCall (r q2i) (dCons (dVar 0) dNil)) dYes (q8t K a r))) dNil))))))
def q6l(K:Fg)(a:Adr)(r:Nat->List W->FR):Den W:=
 (dOp addX (dOp addX (dSl (dVar 1) dNoPart (dPart (dVar 0))) (dTup (dCons (dC .non) dNil))) (dSl (dVar 1) (dPart (dOp addX (dVar 0) (dC (.int 1)))) dNoPart))
def q6m(K:Fg)(a:Adr)(r:Nat->List W->FR):Den Bool:=
 (dTest (dOp nisW (dOp ixW (dVar 1) (dVar 0)) (dC .non)))
def q3q(K:Fg)(a:Adr)(r:Nat->List W->FR):List S->SR:=
 (dRetF (dCompR rng1 [0] (dCons (dFn len1 (dCons (dVar 0) dNil)) dNil) (q6m K a r) (q6l K a r)))
def q6n(K:Fg)(a:Adr)(r:Nat->List W->FR):Den W:=
 (dVar 0)
def q6o(K:Fg)(a:Adr)(r:Nat->List W->FR):Den Bool:=
 (dTest (dOp isW (dVar 1) (dC (.bl true))))
def q3r(K:Fg)(a:Adr)(r:Nat->List W->FR):List S->SR:=
 (dSeq (dDrop (dCall (r q1i) (dCons (dVar 0) dNil)))
  (dRetF (dCompP [] (srcE (dCons (dVar 0) dNil)) (q6o K a r) (q6n K a r))))
def q7q(K:Fg)(a:Adr)(r:Nat->List W->FR):Den W:=
 (dVar 0)
def q7r(K:Fg)(a:Adr)(r:Nat->List W->FR):Den Bool:=
 (dTest (dOp ninW (dVar 0) (dVar 1)))
def q4m(K:Fg)(a:Adr)(r:Nat->List W->FR):List S->SR:=
 (dRetF (dComp [1] (dVar 0) (q7r K a r) (q7q K a r)))
def q23(K:Fg)(a:Adr)(r:Nat->List W->FR):Den Bool:=
 (dTest (dOp eq2 (dOp ixW (dVar 5) (dC (.int 0))) (dC (.str "tree"))))
def q32(K:Fg)(a:Adr)(r:Nat->List W->FR):List S->SR:=
 (dSeq (dSet 4 (dOp ixW (dVar 5) (dC (.int 1))))
  (dSeq (dSet 3 (dOp addX (dVar 3) (dC (.int 1))))
  (dSet 5 (dCall (r q18) (dCons (dVar 1) (dCons (dVar 2) (dCons (dVar 3) dNil)))))))
def q2x(K:Fg)(a:Adr)(r:Nat->List W->FR):List S->SR:=
 (dSeq (dSet 1 (dCall (r q2e) (dCons (dVar 0) dNil)))
  (dSeq (dSet 2 (dCall (r q2j) (dCons (dVar 0) dNil)))
  (dSeq (dSet 3 (dC (.int 0)))
  (dSeq (dSet 4 (dC .non))
  (dSeq (dSet 5 (dCall (r q18) (dCons (dVar 1) (dCons (dVar 2) (dCons (dVar 3) dNil)))))
  (dSeq (whileD (q23 K a r)
  (q32 K a r) 1000000)
  (dRetTF (dSrtK (r q2a) (dOp ixW (dVar 5) (dC (.int 1)))) 4)))))))
def q66(K:Fg)(a:Adr)(r:Nat->List W->FR):Den W:=
 (dTup (dCons (dVar 0) (dCons (dCall (r q22) (dCons (dVar 0) dNil)) dNil)))
def q3c(K:Fg)(a:Adr)(r:Nat->List W->FR):List S->SR:=
 (dRetF (dComp [] (dCall (r q2o) (dCons (dVar 0) dNil)) dYes (q66 K a r)))
def q3i(K:Fg)(a:Adr)(r:Nat->List W->FR):List S->SR:=
 (dSeq (dSet 7 (dCall (r q18) (dCons (dVar 0) (dCons (dCall (r q1w) (dCons (dVar 1) (dCons (dVar 6) dNil))) (dCons (dOp subW (dVar 2) (dC (.int 1))) dNil)))))
  (dSeq (dIfS (dTest (dOp eq2 (dOp ixW (dVar 7) (dC (.int 0))) (dC (.str "cover"))))
  (dRet (dTup (dCons (dC (.str "cover")) (dCons (dOp addX (dFz (dLst (dCons (dVar 5) dNil))) (dOp ixW (dVar 7) (dC (.int 1)))) dNil))))
  dNx)
  (dApp 4 (dCons (dTup (dCons (dVar 5) (dCons (dOp ixW (dVar 7) (dC (.int 1))) dNil))) dNil))))
def q5c(K:Fg)(a:Adr)(r:Nat->List W->FR):List S->SR:=
 (dSeq (dIfS (dTest (dOp eq2 (dFn len1 (dCons (dVar 1) dNil)) (dC (.int 0))))
  (dRet (dTup (dCons (dC (.str "cover")) (dCons (dFz (dLst dNil)) dNil))))
  dNx)
  (dSeq (dSet 3 (dCall (r q4r) (dCons (dVar 0) (dCons (dVar 1) dNil))))
  (dSeq (dIfS (dTest (dOp eq2 (dVar 2) (dC (.int 0))))
  (dRet (dTup (dCons (dC (.str "tree")) (dCons (dTup (dCons (dVar 3) (dCons (dTup dNil) dNil))) dNil))))
  dNx)
  (dSeq (dSetO 4 (dLst dNil))
  (dSeq (dForP 5 6 (srcP (dCall (r q3n) (dCons (dVar 0) (dCons (dVar 3) dNil))))
  (q3i K a r))
  (dRet (dTup (dCons (dC (.str "tree")) (dCons (dTup (dCons (dVar 3) (dCons (dFn tup1 (dCons (dVar 4) dNil)) dNil))) dNil)))))))))
def q58(K:Fg)(a:Adr)(r:Nat->List W->FR):List S->SR:=
 (dRet (dMinK r 33 [0] (dVar 1)))
def x1e(K:Fg)(a:Adr)(r:Nat->List W->FR):Den W:=
 (dVar 0)
def x1f(K:Fg)(a:Adr)(r:Nat->List W->FR):Den Bool:=
 (dTest (dOp inW (dVar 1) (dOp ixW (dVar 0) (dC (.int 1)))))
def q59(K:Fg)(a:Adr)(r:Nat->List W->FR):List S->SR:=
 (dRetF (dComp [1] (dVar 0) (x1f K a r) (x1e K a r)))
def q3d(K:Fg)(a:Adr)(r:Nat->List W->FR):List S->SR:=
 (dSeq (dIfS (dTest (dOp ltW (dVar 1) (dFn len1 (dCons (dVar 0) dNil))))
  (dRet (dOp ixW (dVar 0) (dVar 1)))
  dNx)
  (dRet (dC (.int 0))))
def q41(K:Fg)(a:Adr)(r:Nat->List W->FR):List S->SR:=
 (dSeq (dSet 3 (dOp modW (dOp addX (dOp addX (dOp mulW (dCall (r q1m) (dCons (dVar 0) (dCons (dVar 1) dNil))) (dC (.int 48271))) (dOp mulW (dC (.int 7919)) (dFn len1 (dCons (dVar 0) dNil)))) (dOp mulW (dC (.int 104729)) (dVar 1))) (dC (.int 2147483647))))
  (dRet (dOp modW (dOp modW (dOp mulW (dVar 3) (dVar 3)) (dC (.int 2147483647))) (dVar 2))))
def q4n(K:Fg)(a:Adr)(r:Nat->List W->FR):List S->SR:=
 (dSeq (dSet 2 (dOp addX (dOp addX (dOp mulW (dCall (r q1m) (dCons (dVar 0) (dCons (dOp addX (dC (.int 4)) (dVar 1)) dNil))) (dC (.int 40692))) (dOp mulW (dOp mulW (dCall (r q1m) (dCons (dVar 0) (dCons (dC (.int 3)) dNil))) (dC (.int 48271))) (dOp addX (dVar 1) (dC (.int 1))))) (dOp mulW (dC (.int 7919)) (dVar 1))))
  (dRet (dOp modW (dOp mulB (dVar 2) (dVar 2)) (dC (.int 2147483399)))))
def q7s(K:Fg)(a:Adr)(r:Nat->List W->FR):Den W:=
 (dOp mulW (dC (.int 2)) (dVar 0))
def q7t(K:Fg)(a:Adr)(r:Nat->List W->FR):Den W:=
 (dOp addX (dOp mulW (dC (.int 2)) (dVar 0)) (dC (.int 1)))
def q7u(K:Fg)(a:Adr)(r:Nat->List W->FR):Den W:=
 (dOp addX (dOp mulW (dC (.int 2)) (dVar 0)) (dFn int1 (dCons (dVar 1) dNil)))
def q2y(K:Fg)(a:Adr)(r:Nat->List W->FR):List S->SR:=
 (dIfS (dTest (dOp isW (dVar 2) (dC .non)))
  (dSet 1 (dOp addX (dFz (dComp [] (dVar 1) dYes (q7s K a r))) (dFz (dComp [] (dVar 1) dYes (q7t K a r)))))
  (dSet 1 (dFz (dComp [2] (dVar 1) dYes (q7u K a r)))))
def q3x(K:Fg)(a:Adr)(r:Nat->List W->FR):List S->SR:=
 (dSeq (dSet 1 (dFz (dLst (dCons (dC (.int 0)) dNil))))
  (dSeq (dFor 2 (dVar 0)
  (q2y K a r))
  (dRet (dFn sorted1 (dCons (dVar 1) dNil)))))
def q2s(K:Fg)(a:Adr)(r:Nat->List W->FR):Den W:=
 (dOp ixW (dVar 2) (dOp modW (dCall (r q1j) (dCons (dVar 1) (dCons (dVar 0) dNil))) (dFn len1 (dCons (dVar 2) dNil))))
def q3e(K:Fg)(a:Adr)(r:Nat->List W->FR):List S->SR:=
 (dSeq (dSet 2 (dFz (dLst (dCons (dFz (dLst (dCons (dC (.bl false)) (dCons (dC (.bl true)) (dCons (dC .non) dNil))))) (dCons (dFz (dLst (dCons (dC (.bl false)) (dCons (dC (.bl true)) (dCons (dC (.bl true)) dNil))))) (dCons (dFz (dLst (dCons (dC (.bl false)) (dCons (dC (.bl false)) (dCons (dC (.bl true)) (dCons (dC .non) dNil)))))) (dCons (dFz (dLst (dCons (dC (.bl true)) (dCons (dC (.bl true)) (dCons (dC .non) (dCons (dC (.bl false)) (dCons (dC (.bl true)) dNil))))))) dNil)))))))
  (dSeq (dSet 2 (dOp addX (dVar 2) (dFz (dLst (dCons (dFz (dLst (dCons (dC (.bl false)) (dCons (dC (.bl true)) dNil)))) (dCons (dFz (dLst (dCons (dC (.bl false)) (dCons (dC (.bl true)) dNil)))) (dCons (dFz (dLst (dCons (dC (.bl false)) (dCons (dC .non) (dCons (dC (.bl true)) dNil))))) (dCons (dFz (dLst (dCons (dC (.bl true)) (dCons (dC (.bl false)) (dCons (dC (.bl false)) (dCons (dC (.bl false)) dNil)))))) dNil))))))))
  (dSeq (dSet 3 (dOp ixW (dVar 2) (dCall (r q0t) (dCons (dVar 0) (dCons (dC (.int 1)) (dCons (dC (.int 8)) dNil))))))
  (dSeq (dSet 4 (dCall (r q0t) (dCons (dVar 0) (dCons (dC (.int 2)) (dCons (dC (.int 20)) dNil)))))
  (dSeq (dIfS (dTest (dOp ltW (dVar 4) (dC (.int 3))))
  (dSet 3 (dOp ixW (dFz (dLst (dCons (dFz (dLst (dCons (dC (.bl true)) dNil))) (dCons (dFz (dLst (dCons (dC (.bl false)) dNil))) (dCons (dFz (dLst (dCons (dC .non) dNil))) dNil))))) (dVar 4)))
  dNx)
  (dRetF (dCompR rng1 [0,3] (dCons (dOp ixW (dFz (dLst (dCons (dC (.int 1)) (dCons (dC (.int 2)) (dCons (dC (.int 4)) (dCons (dC (.int 8)) (dCons (dC (.int 16)) dNil))))))) (dVar 1)) dNil) dYes (q2s K a r))))))))
def q4e(K:Fg)(a:Adr)(r:Nat->List W->FR):Den W:=
 (dOp ixW (dFz (dLst (dCons (dC (.bl true)) (dCons (dC (.bl false)) (dCons (dC .non) dNil))))) (dOp modW (dCall (r q1j) (dCons (dVar 1) (dCons (dVar 0) dNil))) (dC (.int 3))))
def q24(K:Fg)(a:Adr)(r:Nat->List W->FR):List S->SR:=
 (dSeq (dSet 1 (dOp ixW (dFz (dLst (dCons (dC (.int 0)) (dCons (dC (.int 3)) (dCons (dC (.int 5)) (dCons (dC (.int 6)) (dCons (dC (.int 7)) (dCons (dC (.int 9)) (dCons (dC (.int 12)) (dCons (dC (.int 15)) (dCons (dC (.int 17)) (dCons (dC (.int 24)) (dCons (dC (.int 31)) (dCons (dC (.int 32)) (dCons (dC (.int 64)) dNil))))))))))))))) (dCall (r q0t) (dCons (dVar 0) (dCons (dC (.int 2)) (dCons (dC (.int 13)) dNil))))))
  (dRetF (dCompR rng1 [0] (dCons (dVar 1) dNil) dYes (q4e K a r))))
def q3s(K:Fg)(a:Adr)(r:Nat->List W->FR):List S->SR:=
 (dIfS (dTest (dOp isW (dOp ixW (dVar 1) (dVar 2)) (dC (.bl false))))
  (dRet (dC (.bl false)))
  dNx)
def q4o(K:Fg)(a:Adr)(r:Nat->List W->FR):List S->SR:=
 (dSeq (dFor 2 (dCall (r q2b) (dCons (dVar 0) dNil))
  (q3s K a r))
  (dRet (dC (.bl true))))
def q6a(K:Fg)(a:Adr)(r:Nat->List W->FR):Den W:=
 (dVar 0)
def q6b(K:Fg)(a:Adr)(r:Nat->List W->FR):Den Bool:=
 (dAnd (dTest (dOp isW (dOp ixW (dVar 1) (dVar 0)) (dC (.bl true)))) (dTest (dOp ninW (dVar 0) (dVar 2))))
def q3o(K:Fg)(a:Adr)(r:Nat->List W->FR):List S->SR:=
 (dSet 2 (dOp addX (dVar 2) (dCall (r q2b) (dCons (dVar 3) dNil))))
def q3f(K:Fg)(a:Adr)(r:Nat->List W->FR):List S->SR:=
 (dSeq (dSet 2 (dFz (dLst dNil)))
  (dSeq (dFor 3 (dVar 0)
  (q3o K a r))
  (dRet (dOp eq2 (dFz (dCompR rng1 [1,2] (dCons (dFn len1 (dCons (dVar 1) dNil)) dNil) (q6b K a r) (q6a K a r))) (dFz (dLst dNil))))))
def q4b(K:Fg)(a:Adr)(r:Nat->List W->FR):List S->SR:=
 (dSeq (dSet 6 (dOp modW (dOp addX (dVar 3) (dOp mulW (dVar 5) (dOp ixW (dFz (dLst (dCons (dC (.int 1)) (dCons (dOp subW (dVar 2) (dC (.int 1))) dNil)))) (dOp modW (dOp fdivW (dVar 3) (dC (.int 4))) (dC (.int 2)))))) (dVar 2)))
  (dSeq (dSet 7 (dOp addX (dOp addX (dSl (dVar 4) dNoPart (dPart (dVar 6))) (dFz (dLst (dCons (dC .non) dNil)))) (dSl (dVar 4) (dPart (dOp addX (dVar 6) (dC (.int 1)))) dNoPart)))
  (dIfS (dTru (dCall (r q28) (dCons (dVar 7) (dCons (dVar 0) dNil))))
  (dSet 4 (dVar 7))
  dNx)))
def q4c(K:Fg)(a:Adr)(r:Nat->List W->FR):Den W:=
 (dOp eq2 (dOp modW (dOp fdivW (dVar 1) (dOp ixW (dFz (dLst (dCons (dC (.int 1)) (dCons (dC (.int 2)) (dCons (dC (.int 4)) (dCons (dC (.int 8)) (dCons (dC (.int 16)) dNil))))))) (dOp subW (dOp subW (dVar 2) (dC (.int 1))) (dVar 0)))) (dC (.int 2))) (dC (.int 1)))
def q37(K:Fg)(a:Adr)(r:Nat->List W->FR):List S->SR:=
 (dSeq (dSet 4 (dFz (dCompR rng1 [1,2] (dCons (dVar 2) dNil) dYes (q4c K a r))))
  (dSeq (dForR 5 rng1 (dCons (dVar 2) dNil)
  (q4b K a r))
  (dRet (dFn tup1 (dCons (dVar 4) dNil)))))
def q4s(K:Fg)(a:Adr)(r:Nat->List W->FR):Den W:=
 (dOp addX (dVar 0) (dFz (dLst (dCons (dVar 2) dNil))))
def q4t(K:Fg)(a:Adr)(r:Nat->List W->FR):Den Bool:=
 (dTest (dOp ltW (dFn len1 (dCons (dVar 0) dNil)) (dVar 1)))
def q3p(K:Fg)(a:Adr)(r:Nat->List W->FR):List S->SR:=
 (dSet 2 (dOp addX (dVar 2) (dFz (dComp [1,3] (dVar 2) (q4t K a r) (q4s K a r)))))
def q3g(K:Fg)(a:Adr)(r:Nat->List W->FR):List S->SR:=
 (dSeq (dSet 2 (dFz (dLst (dCons (dFz (dLst dNil)) dNil))))
  (dSeq (dFor 3 (dVar 0)
  (q3p K a r))
  (dRet (dVar 2))))
def q17(K:Fg)(a:Adr)(r:Nat->List W->FR):List S->SR:=
 (dIfS (dTru (dBorrow (dCall (r q0u) (dCons (dVar 6) (dCons (dVar 0) dNil)))))
  (dRet (dC (.bl false)))
  dNx)
def q2u(K:Fg)(a:Adr)(r:Nat->List W->FR):List S->SR:=
 (dApp 6 (dCons (dCall (r q2p) (dCons (dVar 0) (dCons (dOp ixW (dVar 5) (dOp modW (dCall (r q1j) (dCons (dVar 3) (dCons (dOp addX (dC (.int 20)) (dVar 7)) dNil))) (dFn len1 (dCons (dVar 5) dNil)))) (dCons (dVar 4) (dCons (dCall (r q1j) (dCons (dVar 3) (dCons (dOp addX (dC (.int 40)) (dVar 7)) dNil))) dNil))))) dNil))
def q3z(K:Fg)(a:Adr)(r:Nat->List W->FR):Den W:=
 (dVar 0)
def q30(K:Fg)(a:Adr)(r:Nat->List W->FR):Den Bool:=
 (dTest (dOp isW (dOp ixW (dVar 1) (dVar 0)) (dC (.bl true))))
def q2l(K:Fg)(a:Adr)(r:Nat->List W->FR):List S->SR:=
 (dSeq (dSet 5 (dFz (dCompR rng1 [0] (dCons (dFn len1 (dCons (dVar 0) dNil)) dNil) (q30 K a r) (q3z K a r))))
  (dSeq (dSetO 6 (dLst dNil))
  (dSeq (dForR 7 rng1 (dCons (dVar 2) dNil)
  (q2u K a r))
  (dSeq (dIfS (dTru (dBorrow (dCall (r q0u) (dCons (dVar 6) (dCons (dVar 0) dNil)))))
  (dRet (dC (.bl false)))
  dNx)
  (dSeq (dIfS (dTest (dOp ltW (dFn len1 (dCons (dVar 1) dNil)) (dC (.int 7))))
  (dFor 6 (dCall (r q1t) (dCons (dVar 1) (dCons (dVar 2) dNil)))
  (q17 K a r))
  dNx)
  (dRet (dC (.bl true))))))))
def q3h(K:Fg)(a:Adr)(r:Nat->List W->FR):List S->SR:=
 (dSeq (dTry K a.CircuitError 1 2
  (dDrop (dCall (r q01) (dCons (dVar 0) dNil)))
  (dRet (dIsi K (.ref a.NoTable) (dVar 1))))
  (dRet (dC (.bl false))))
def q9c(K:Fg)(a:Adr)(r:Nat->List W->FR):Den W:=
 (dVar 0)
def q9d(K:Fg)(a:Adr)(r:Nat->List W->FR):Den Bool:=
 (dTest (dOp inL (dVar 0) (dVar 1)))
def q5w(K:Fg)(a:Adr)(r:Nat->List W->FR):Den W:=
 (dOp ninW (dVar 0) (dTup (dCons (dCall (r q0t) (dCons (dVar 1) (dCons (dC (.int 2)) (dCons (dC (.int 8)) dNil)))) (dCons (dOp subW (dC (.int 7)) (dCall (r q0t) (dCons (dVar 1) (dCons (dC (.int 2)) (dCons (dC (.int 8)) dNil))))) dNil))))
def x1g(K:Fg)(a:Adr)(r:Nat->List W->FR):List S->SR:=
 (dSeq (dIfS (dTest (dOp eq2 (dOp fdivW (dCall (r q0t) (dCons (dVar 0) (dCons (dC (.int 0)) (dCons (dC (.int 40)) dNil)))) (dC (.int 5))) (dC (.int 1))))
  (dRet (dCall (r q1o) (dCons (dCall (r q1f) (dCons (dVar 0) dNil)) dNil)))
  dNx)
  (dSeq (dSet 1 (dCall (r q0t) (dCons (dVar 0) (dCons (dC (.int 0)) (dCons (dC (.int 5)) dNil)))))
  (dSeq (dSet 2 (dCall (r q1n) (dCons (dVar 0) (dCons (dVar 1) dNil))))
  (dSeq (dIfS (dTest (dOp eq2 (dCall (r q0t) (dCons (dVar 0) (dCons (dC (.int 3)) (dCons (dC (.int 6)) dNil)))) (dC (.int 1))))
  (dSeq (dSet 1 (dC (.int 3)))
  (dSet 2 (dFz (dCompR rng1 [0] (dCons (dC (.int 8)) dNil) dYes (q5w K a r)))))
  dNx)
  (dSeq (dSet 3 (dCall (r q2o) (dCons (dVar 2) dNil)))
  (dSeq (dSetO 4 (dList (dCons (dVar 2) dNil)))
  (dSeq (dSetTL 5 (r q01) (dCons (dVar 4) dNil))
  (dSeq (dIfS (dOr (dNot (dTru (dBorrow (dIsi K (.type "tuple") (dVar 5))))) (dOr (dBorrowT (dTest (dOp ne2 (dFn len1 (dCons (dVar 5) dNil)) (dC (.int 2))))) (dOr (dNot (dTru (dBorrow (dIsi K (.type "list") (dOp ixW (dVar 5) (dC (.int 0))))))) (dBorrowT (dTest (dOp ne2 (dVar 4) (dVar 2)))))))
  (dRet (dC (.bl false)))
  dNx)
  (dSeq (dSet 6 (dFz (dLendF (dList (dCons (dOp ixW (dVar 5) (dC (.int 0))) dNil)))))
  (dSeq (dIfS (dOr (dTest (dOp ne2 (dVar 6) (dFz (dComp [6] (dVar 3) (q9d K a r) (q9c K a r))))) (dNot (dTru (dCall (r q0u) (dCons (dVar 6) (dCons (dVar 2) dNil))))))
  (dRet (dC (.bl false)))
  dNx)
  (dSeq (dAppTh 5)
  (dSeq (dMut0 4 fun _=>[])
  (dSeq (dIfS (dTest (dOp ne2 (dOp ixW (dCall (r q01) (dCons (dVar 2) dNil)) (dC (.int 0))) (dVar 6)))
  (dRet (dC (.bl false)))
  dNx)
  (dSeq (dIfS (dTest (dOp eq2 (dVar 6) (dFz (dLst dNil))))
  (dRet (dOp ninW (dC (.bl true)) (dVar 2)))
  dNx)
  (dRet (dCall (r q04) (dCons (dVar 2) (dCons (dVar 3) (dCons (dOp subW (dFn len1 (dCons (dVar 6) dNil)) (dC (.int 1))) (dCons (dVar 0) (dCons (dVar 1) dNil)))))))))))))))))))))
def body(K:Fg)(a:Adr)(r:Nat->List W->FR)(ws:List W):Nat->FR
 |0=>if ws.length=2 then(q57 K a r (init 5 ws)).fn else .no
 |1=>if ws.length=1 then(q4i K a r (init 3 ws)).fn else .no
 |2=>if ws.length=1 then(q4z K a r (init 1 ws)).fn else .no
 |3=>if ws.length=2 then(q5j K a r (init 2 ws)).fn else .no
 |4=>if ws.length=1 then(q5k K a r (init 1 ws)).fn else .no
 |5=>if ws.length=1 then(q4j K a r (init 1 ws)).fn else .no
 |6=>if ws.length=1 then(q4k K a r (init 2 ws)).fn else .no
 |7=>if ws.length=1 then(q2w K a r (init 2 ws)).fn else .no
 |8=>if ws.length=2 then(q8s K a r (init 2 ws)).fn else .no
 |9=>if ws.length=1 then(q5b K a r (init 1 ws)).fn else .no
 |10=>if ws.length=1 then(q4l K a r (init 5 ws)).fn else .no
 |11=>if ws.length=2 then(q40 K a r (init 2 ws)).fn else .no
 |12=>if ws.length=1 then(q3q K a r (init 1 ws)).fn else .no
 |13=>if ws.length=1 then(q3r K a r (init 1 ws)).fn else .no
 |14=>if ws.length=2 then(q4m K a r (init 2 ws)).fn else .no
 |15=>if ws.length=1 then(q2x K a r (init 6 ws)).fn else .no
 |16=>if ws.length=1 then(q3c K a r (init 1 ws)).fn else .no
 |17=>if ws.length=3 then(q5c K a r (init 8 ws)).fn else .no
 |18=>if ws.length=2 then(q58 K a r (init 2 ws)).fn else .no
 |19=>if ws.length=2 then(q59 K a r (init 2 ws)).fn else .no
 |20=>if ws.length=2 then(q3d K a r (init 2 ws)).fn else .no
 |21=>if ws.length=3 then(q41 K a r (init 4 ws)).fn else .no
 |22=>if ws.length=2 then(q4n K a r (init 3 ws)).fn else .no
 |23=>if ws.length=1 then(q3x K a r (init 3 ws)).fn else .no
 |24=>if ws.length=2 then(q3e K a r (init 5 ws)).fn else .no
 |25=>if ws.length=1 then(q24 K a r (init 2 ws)).fn else .no
 |26=>if ws.length=2 then(q4o K a r (init 3 ws)).fn else .no
 |27=>if ws.length=2 then(q3f K a r (init 4 ws)).fn else .no
 |28=>if ws.length=4 then(q37 K a r (init 8 ws)).fn else .no
 |29=>if ws.length=2 then(q3g K a r (init 4 ws)).fn else .no
 |30=>if ws.length=5 then(q2l K a r (init 8 ws)).fn else .no
 |31=>if ws.length=1 then(q3h K a r (init 2 ws)).fn else .no
 |32=>if ws.length=1 then(x1g K a r (init 7 ws)).fn else .no
 |33=>if ws.length=2 then exprFR (q4a K a r (ws.map .fr))else .no
 |_=>.no
def run(K:Fg)(a:Adr):Nat->Nat->List W->FR
 |0,_,_=>.no
 |n+1,i,ws=>body K a (run K a n) ws i
theorem x1h:run K a (n+1) q34 ws=if ws.length=2 then(q57 K a (run K a n) (init 5 ws)).fn else .no:=rfl
theorem q7v:run K a (n+1) q2m ws=if ws.length=1 then(q4i K a (run K a n) (init 3 ws)).fn else .no:=rfl
theorem q8v:run K a (n+1) q3l ws=if ws.length=1 then(q4z K a (run K a n) (init 1 ws)).fn else .no:=rfl
theorem q9q:run K a (n+1) q35 ws=if ws.length=2 then(q5j K a (run K a n) (init 2 ws)).fn else .no:=rfl
theorem q9r:run K a (n+1) q22 ws=if ws.length=1 then(q5k K a (run K a n) (init 1 ws)).fn else .no:=rfl
theorem q7w:run K a (n+1) q2a ws=if ws.length=1 then(q4j K a (run K a n) (init 1 ws)).fn else .no:=rfl
theorem q7x:run K a (n+1) q26 ws=if ws.length=1 then(q4k K a (run K a n) (init 2 ws)).fn else .no:=rfl
theorem q42:run K a (n+1) q1i ws=if ws.length=1 then(q2w K a (run K a n) (init 2 ws)).fn else .no:=rfl
theorem x5j:run K a (n+1) q5i ws=if ws.length=2 then(q8s K a (run K a n) (init 2 ws)).fn else .no:=rfl
theorem q7m:run K a (n+1) q2o ws=if ws.length=1 then(q5b K a (run K a n) (init 1 ws)).fn else .no:=rfl
theorem q7y:run K a (n+1) q27 ws=if ws.length=1 then(q4l K a (run K a n) (init 5 ws)).fn else .no:=rfl
theorem q8w:run K a (n+1) q3m ws=if ws.length=2 then(q40 K a (run K a n) (init 2 ws)).fn else .no:=rfl
theorem q6p:run K a (n+1) q2i ws=if ws.length=1 then(q3q K a (run K a n) (init 1 ws)).fn else .no:=rfl
theorem q6q:run K a (n+1) q2j ws=if ws.length=1 then(q3r K a (run K a n) (init 1 ws)).fn else .no:=rfl
theorem q7z:run K a (n+1) q1w ws=if ws.length=2 then(q4m K a (run K a n) (init 2 ws)).fn else .no:=rfl
theorem q43:run K a (n+1) q01 ws=if ws.length=1 then(q2x K a (run K a n) (init 6 ws)).fn else .no:=rfl
theorem q5d:run K a (n+1) q2e ws=if ws.length=1 then(q3c K a (run K a n) (init 1 ws)).fn else .no:=rfl
theorem q6r:run K a (n+1) q18 ws=if ws.length=3 then(q5c K a (run K a n) (init 8 ws)).fn else .no:=rfl
theorem x1i:run K a (n+1) q4r ws=if ws.length=2 then(q58 K a (run K a n) (init 2 ws)).fn else .no:=rfl
theorem x1j:run K a (n+1) q3n ws=if ws.length=2 then(q59 K a (run K a n) (init 2 ws)).fn else .no:=rfl
theorem q6c:run K a (n+1) q1m ws=if ws.length=2 then(q3d K a (run K a n) (init 2 ws)).fn else .no:=rfl
theorem q8x:run K a (n+1) q0t ws=if ws.length=3 then(q41 K a (run K a n) (init 4 ws)).fn else .no:=rfl
theorem q70:run K a (n+1) q1j ws=if ws.length=2 then(q4n K a (run K a n) (init 3 ws)).fn else .no:=rfl
theorem q5o:run K a (n+1) q2b ws=if ws.length=1 then(q3x K a (run K a n) (init 3 ws)).fn else .no:=rfl
theorem q6d:run K a (n+1) q1n ws=if ws.length=2 then(q3e K a (run K a n) (init 5 ws)).fn else .no:=rfl
theorem q5p:run K a (n+1) q1f ws=if ws.length=1 then(q24 K a (run K a n) (init 2 ws)).fn else .no:=rfl
theorem q71:run K a (n+1) q28 ws=if ws.length=2 then(q4o K a (run K a n) (init 3 ws)).fn else .no:=rfl
theorem q6e:run K a (n+1) q0u ws=if ws.length=2 then(q3f K a (run K a n) (init 4 ws)).fn else .no:=rfl
theorem q67:run K a (n+1) q2p ws=if ws.length=4 then(q37 K a (run K a n) (init 8 ws)).fn else .no:=rfl
theorem q6f:run K a (n+1) q1t ws=if ws.length=2 then(q3g K a (run K a n) (init 4 ws)).fn else .no:=rfl
theorem q46:run K a (n+1) q04 ws=if ws.length=5 then(q2l K a (run K a n) (init 8 ws)).fn else .no:=rfl
theorem q6g:run K a (n+1) q1o ws=if ws.length=1 then(q3h K a (run K a n) (init 2 ws)).fn else .no:=rfl
theorem x7x:run K a (n+1) q5s ws=if ws.length=1 then(x1g K a (run K a n) (init 7 ws)).fn else .no:=rfl
theorem q4u:run K a (n+1) q1u ws=if ws.length=2 then exprFR (q4a K a (run K a n) (ws.map .fr))else .no:=rfl
section
variable{P:Program}{w:World}{base:Heap}
structure Mks(K:Fg)(mg:Str->Option Value):Prop where
 rarest:∀f oc od fd sl,mg "rarest"=some (.ref f)->K.lookup f=some ⟨oc,od,.func fd,sl⟩->MakK K "rarest" fd.code
structure Ats(K:Fg)(mg:Str->Option Value):Prop where
 row_of:At K mg "row_of" q29 ["number", "many"]
 rows_many:At K mg "rows_many" q1x ["many"]
 all_rows:At K mg "all_rows" q14 ["many"]
 in_cube:At K mg "in_cube" q2f ["cube", "row"]
 rows_in:At K mg "rows_in" q2g ["cube"]
 cube_text:At K mg "cube_text" q1q ["cube"]
 places_of:At K mg "places_of" q1y ["table"]
 wish_places:At K mg "wish_places" q1k ["wish"]
 fits:At K mg "fits" q36 ["cube", "wish"]
 primes:At K mg "primes" q2q ["wish"]
 all_cubes:At K mg "all_cubes" q1z ["many"]
 is_prime:At K mg "is_prime" q1s ["cube", "wish"]
 wider_cubes:At K mg "wider_cubes" q09 ["cube"]
 wished_rows:At K mg "wished_rows" q1a ["wish"]
 rows_left:At K mg "rows_left" q1r ["numbers", "taken"]
 least_cover:At K mg "least_cover" q1l ["wish"]
 reaches_of:At K mg "reaches_of" q1g ["wish"]
 tried:At K mg "tried" q3w ["reaches", "left", "count"]
 rarest:At K mg "rarest" q2k ["reaches", "left"]
 having:At K mg "having" q2r ["reaches", "number"]
 _law_cell_at:At K mg "_law_cell_at" q1b ["_law_script", "_law_k"]
 _law_way:At K mg "_law_way" q2c ["_law_script", "_law_k", "_law_many"]
 _law_mark:At K mg "_law_mark" q10 ["_law_script", "_law_k"]
 _law_rows:At K mg "_law_rows" q1c ["_law_cube"]
 _law_wish_by:At K mg "_law_wish_by" q06 ["_law_script", "_law_many"]
 _law_odd_wish:At K mg "_law_odd_wish" q02 ["_law_script"]
 _law_fits:At K mg "_law_fits" q11 ["_law_cube", "_law_wish"]
 _law_covered:At K mg "_law_covered" q07 ["_law_cover", "_law_wish"]
 _law_grown:At K mg "_law_grown" q1h ["_law_wish", "_law_number", "_law_many", "_law_mark_here"]
 _law_subsets:At K mg "_law_subsets" q08 ["_law_listed", "_law_count"]
 _law_none_fewer:At K mg "_law_none_fewer" q0x ["_law_wish", "_law_listed", "_law_count", "_law_script", "_law_many"]
 _law_refused:At K mg "_law_refused" q1d ["_law_wish"]
 law:At K mg "law" q31 ["_law_script"]
structure Cals(P:Program)(w:World)(K:Fg)(mg:Str->Option Value)(base:Heap)(a:Adr)(n:Nat):Prop where
 row_of:Cal P w K mg base n "row_of" ["number", "many"] (spF K (run K a n q34))
 rows_many:Cal P w K mg base n "rows_many" ["many"] (spF K (run K a n q2m))
 all_rows:Cal P w K mg base n "all_rows" ["many"] (spF K (run K a n q3l))
 in_cube:Cal P w K mg base n "in_cube" ["cube", "row"] (spF K (run K a n q35))
 rows_in:Cal P w K mg base n "rows_in" ["cube"] (spF K (run K a n q22))
 cube_text:Cal P w K mg base n "cube_text" ["cube"] (spF K (run K a n q2a))
 places_of:Cal P w K mg base n "places_of" ["table"] (spF K (run K a n q26))
 wish_places:Cal P w K mg base n "wish_places" ["wish"] (spF K (run K a n q1i))
 fits:Cal P w K mg base n "fits" ["cube", "wish"] (spF K (run K a n q5i))
 primes:Cal P w K mg base n "primes" ["wish"] (spF K (run K a n q2o))
 all_cubes:Cal P w K mg base n "all_cubes" ["many"] (spF K (run K a n q27))
 is_prime:Cal P w K mg base n "is_prime" ["cube", "wish"] (spF K (run K a n q3m))
 wider_cubes:Cal P w K mg base n "wider_cubes" ["cube"] (spF K (run K a n q2i))
 wished_rows:Cal P w K mg base n "wished_rows" ["wish"] (spF K (run K a n q2j))
 rows_left:Cal P w K mg base n "rows_left" ["numbers", "taken"] (spF K (run K a n q1w))
 least_cover:Cal P w K mg base (n+2) "least_cover" ["wish"] (spF K (run K a n q01))
 reaches_of:Cal P w K mg base n "reaches_of" ["wish"] (spF K (run K a n q2e))
 tried:Cal P w K mg base (n+1) "tried" ["reaches", "left", "count"] (spF K (run K a n q18))
 rarest:Cal P w K mg base (n+1) "rarest" ["reaches", "left"] (spF K (run K a n q4r))
 having:Cal P w K mg base n "having" ["reaches", "number"] (spF K (run K a n q3n))
 _law_cell_at:Cal P w K mg base n "_law_cell_at" ["_law_script", "_law_k"] (spF K (run K a n q1m))
 _law_way:Cal P w K mg base n "_law_way" ["_law_script", "_law_k", "_law_many"] (spF K (run K a n q0t))
 _law_mark:Cal P w K mg base n "_law_mark" ["_law_script", "_law_k"] (spF K (run K a n q1j))
 _law_rows:Cal P w K mg base n "_law_rows" ["_law_cube"] (spF K (run K a n q2b))
 _law_wish_by:Cal P w K mg base n "_law_wish_by" ["_law_script", "_law_many"] (spF K (run K a n q1n))
 _law_odd_wish:Cal P w K mg base n "_law_odd_wish" ["_law_script"] (spF K (run K a n q1f))
 _law_fits:Cal P w K mg base n "_law_fits" ["_law_cube", "_law_wish"] (spF K (run K a n q28))
 _law_covered:Cal P w K mg base n "_law_covered" ["_law_cover", "_law_wish"] (spF K (run K a n q0u))
 _law_grown:Cal P w K mg base n "_law_grown" ["_law_wish", "_law_number", "_law_many", "_law_mark_here"] (spF K (run K a n q2p))
 _law_subsets:Cal P w K mg base n "_law_subsets" ["_law_listed", "_law_count"] (spF K (run K a n q1t))
 _law_none_fewer:Cal P w K mg base n "_law_none_fewer" ["_law_wish", "_law_listed", "_law_count", "_law_script", "_law_many"] (spF K (run K a n q04))
 _law_refused:Cal P w K mg base (n+2) "_law_refused" ["_law_wish"] (spF K (run K a n q1o))
 law:Cal P w K mg base (n+2) "law" ["_law_script"] (spF K (run K a n q5s))
 lam:FnV P w K mg base (CX1 P w) n (spV K lams (run K a n))
structure CalsH(P:Program)(w:World)(K:Fg)(mg:Str->Option Value)(base:Heap)(a:Adr)(n:Nat):Prop where
 z:True
theorem y5e(B:Blt P w K mg)(M:Exs K mg a)(C:Cals P w K mg base a n)(CH:CalsH P w K mg base a n)(BM:BMain base mg)(MK:Mks K mg){outer:List Env}(hr:Room n (A.deeper (PyProof.Rows.envOfC "row_of" (defScope q29) s.heap.objs.size f cdv))):
  DSs Z (cxOf (CX1 P w) P w K mg base ["number", "many", "truths", "rest", "step"] "row_of" (defScope q29) f cdv A outer s H E) (fun _=>E) (defBody q29) (q57 K a (run K a n)):=
 (q0e (q8j 2 sc_row_of.nd (q0r q0b))
  (q0e (q0p 3 sc_row_of.nd (dv 0))
  (q0e (q5v 4 sc_row_of.nd PassesOwn.leaving rfl B.b_range (q0a (dv 1) q0b)
  (q0e (x4r 2 (q0a (x4c (q00 hr) (q33 (dv 3) q0d) q0d) q0b))
  (q0f (q0p 3 sc_row_of.nd (q89 (dv 3) q0d)))))
  (q0e (q1v (q7g (q00 hr) (dv 3) q0d)
  (q0f (q97 rais1 M.e_NoRow M.m_NoRow rfl (q0a q4g q0b)))
  q05)
  (q0f (q0o (y0t rfl B.b_tuple B.b_reversed (dv 2))))))))
theorem x5k(h:run K a (n+1) q34 ws≠.no):ws.length=2/\(q57 K a (run K a n) (init 5 ws)).fn=run K a (n+1) q34 ws:=by
 rw[x1h]at h |-;split at h
 ·rename_i hl;rw[if_pos hl];exact⟨hl,rfl⟩
 ·exact absurd rfl h
theorem y11(B:Blt P w K mg)(M:Exs K mg a)(C:Cals P w K mg base a n)(CH:CalsH P w K mg base a n)(BM:BMain base mg)(MK:Mks K mg)(A:Ats K mg):Cal P w K mg base (n+1) "row_of" ["number", "many"] (spF K (run K a (n+1) q34)):=
 con A.row_of sc_row_of (fun ws hw=>(x5k hw).1) fun ws hw f cdv A outer s H E Z hr=>⟨_,y5e B M C CH BM MK hr,(x5k hw).2⟩
theorem x6s(B:Blt P w K mg)(M:Exs K mg a)(C:Cals P w K mg base a n)(CH:CalsH P w K mg base a n)(BM:BMain base mg)(MK:Mks K mg){outer:List Env}(hr:Room n (A.deeper (PyProof.Rows.envOfC "rows_many" (defScope q1x) s.heap.objs.size f cdv))):
  DSs Z (cxOf (CX1 P w) P w K mg base ["many", "count", "place"] "rows_many" (defScope q1x) f cdv A outer s H E) (fun _=>E) (defBody q1x) (q4i K a (run K a n)):=
 (q0e (q0p 1 sc_rows_many.nd q0d)
  (q0e (q5v 2 sc_rows_many.nd PassesOwn.leaving rfl B.b_range (q0a (dv 0) q0b)
  (q0f (q0p 1 sc_rows_many.nd (q3b q0d (dv 1)))))
  (q0f (q0o (dv 1)))))
theorem q9s(h:run K a (n+1) q2m ws≠.no):ws.length=1/\(q4i K a (run K a n) (init 3 ws)).fn=run K a (n+1) q2m ws:=by
 rw[q7v]at h |-;split at h
 ·rename_i hl;rw[if_pos hl];exact⟨hl,rfl⟩
 ·exact absurd rfl h
theorem x5l(B:Blt P w K mg)(M:Exs K mg a)(C:Cals P w K mg base a n)(CH:CalsH P w K mg base a n)(BM:BMain base mg)(MK:Mks K mg)(A:Ats K mg):Cal P w K mg base (n+1) "rows_many" ["many"] (spF K (run K a (n+1) q2m)):=
 con A.rows_many sc_rows_many (fun ws hw=>(q9s hw).1) fun ws hw f cdv A outer s H E Z hr=>⟨_,x6s B M C CH BM MK hr,(q9s hw).2⟩
theorem x87(B:Blt P w K mg)(M:Exs K mg a)(C:Cals P w K mg base a n)(CH:CalsH P w K mg base a n)(BM:BMain base mg)(MK:Mks K mg){outer:List Env}(hr:Room n (A.deeper (PyProof.Rows.envOfC "all_rows" (defScope q14) s.heap.objs.size f cdv))):
  DSs Z (cxOf (CX1 P w) P w K mg base ["many"] "all_rows" (defScope q14) f cdv A outer s H E) (fun _=>E) (defBody q14) (q4z K a (run K a n)):=
 (q0f (q3t (q55 (x:="number") (Nf:=["many"]) (js:=[0]) (sc:=defScope q14) (N:=["many"]) rfl B.b_range (q0a (q0l C.rows_many hr pass1 (q0a (dv 0) q0b)) q0b) (by decide +kernel)
   (fun _ _ _ _ _ _=>q2h)
   (fun _ _ _ _ _ _=>(q0l C.row_of hr passE (q0a (dv 0) (q0a (dv 1) q0b))))
   (fun _ _ _ _ _=>q1e 0 (show(["number", "many"]:List Str).Nodup by decide +kernel)))))
theorem x1k(h:run K a (n+1) q3l ws≠.no):ws.length=1/\(q4z K a (run K a n) (init 1 ws)).fn=run K a (n+1) q3l ws:=by
 rw[q8v]at h |-;split at h
 ·rename_i hl;rw[if_pos hl];exact⟨hl,rfl⟩
 ·exact absurd rfl h
theorem x6t(B:Blt P w K mg)(M:Exs K mg a)(C:Cals P w K mg base a n)(CH:CalsH P w K mg base a n)(BM:BMain base mg)(MK:Mks K mg)(A:Ats K mg):Cal P w K mg base (n+1) "all_rows" ["many"] (spF K (run K a (n+1) q3l)):=
 con A.all_rows x6q (fun ws hw=>(x1k hw).1) fun ws hw f cdv A outer s H E Z hr=>⟨_,x87 B M C CH BM MK hr,(x1k hw).2⟩
theorem y12(B:Blt P w K mg)(M:Exs K mg a)(C:Cals P w K mg base a n)(CH:CalsH P w K mg base a n)(BM:BMain base mg)(MK:Mks K mg){outer:List Env}(hr:Room n (A.deeper (PyProof.Rows.envOfC "in_cube" (defScope q2f) s.heap.objs.size f cdv))):
  DSs Z (cxOf (CX1 P w) P w K mg base ["cube", "row"] "in_cube" (defScope q2f) f cdv A outer s H E) (fun _=>E) (defBody q2f) (q5j K a (run K a n)):=
 (q0e (q1v (q7g (q00 hr) (q16 B.b_len (q0a (dv 0) q0b)) (q16 B.b_len (q0a (dv 1) q0b)))
  (q0f (q0o q0n))
  q05)
  (q0f (q0o (y0u rfl B.b_all (q0a (q0s (x0d (x:="wanted") (y:="truth") (Nf:=[]) (js:=[]) (sc:=defScope q2f) (N:=["cube", "row"]) rfl (z2t B.b_zip (q0a (dv 0) (q0a (dv 1) q0b))) (by decide +kernel)
   (fun _ _ _ _ _ _=>q2h)
   (fun _ _ _ _ _ _=>(z3l (y54 (dv 0) q3a) (z0o (x4c (q00 hr) (dv 0) (dv 1)))))
   (fun _ _ _ _ _=>x42 (show(["wanted", "truth"]:List Str).Nodup by decide +kernel) rfl))) q0b)))))
theorem x3f(h:run K a (n+1) q35 ws≠.no):ws.length=2/\(q5j K a (run K a n) (init 2 ws)).fn=run K a (n+1) q35 ws:=by
 rw[q9q]at h |-;split at h
 ·rename_i hl;rw[if_pos hl];exact⟨hl,rfl⟩
 ·exact absurd rfl h
theorem x88(B:Blt P w K mg)(M:Exs K mg a)(C:Cals P w K mg base a n)(CH:CalsH P w K mg base a n)(BM:BMain base mg)(MK:Mks K mg)(A:Ats K mg):Cal P w K mg base (n+1) "in_cube" ["cube", "row"] (spF K (run K a (n+1) q35)):=
 con A.in_cube x85 (fun ws hw=>(x3f hw).1) fun ws hw f cdv A outer s H E Z hr=>⟨_,y12 B M C CH BM MK hr,(x3f hw).2⟩
theorem y13(B:Blt P w K mg)(M:Exs K mg a)(C:Cals P w K mg base a n)(CH:CalsH P w K mg base a n)(BM:BMain base mg)(MK:Mks K mg){outer:List Env}(hr:Room n (A.deeper (PyProof.Rows.envOfC "rows_in" (defScope q2g) s.heap.objs.size f cdv))):
  DSs Z (cxOf (CX1 P w) P w K mg base ["cube"] "rows_in" (defScope q2g) f cdv A outer s H E) (fun _=>E) (defBody q2g) (q5k K a (run K a n)):=
 (q0f (q3t (x0d (x:="number") (y:="row") (Nf:=["cube"]) (js:=[0]) (sc:=defScope q2g) (N:=["cube"]) rfl (x7q B.b_enumerate (q0a (q0l C.all_rows hr pass1 (q0a (q16 B.b_len (q0a (dv 0) q0b)) q0b)) q0b)) (by decide +kernel)
   (fun _ _ _ _ _ _=>(q3u (q4h (q0l C.in_cube hr passE (q0a (dv 2) (q0a (dv 1) q0b))))))
   (fun _ _ _ _ _ _=>(dv 0))
   (fun _ _ _ _ _=>x42 (show(["number", "row", "cube"]:List Str).Nodup by decide +kernel) rfl))))
theorem x3g(h:run K a (n+1) q22 ws≠.no):ws.length=1/\(q5k K a (run K a n) (init 1 ws)).fn=run K a (n+1) q22 ws:=by
 rw[q9r]at h |-;split at h
 ·rename_i hl;rw[if_pos hl];exact⟨hl,rfl⟩
 ·exact absurd rfl h
theorem x89(B:Blt P w K mg)(M:Exs K mg a)(C:Cals P w K mg base a n)(CH:CalsH P w K mg base a n)(BM:BMain base mg)(MK:Mks K mg)(A:Ats K mg):Cal P w K mg base (n+1) "rows_in" ["cube"] (spF K (run K a (n+1) q22)):=
 con A.rows_in x86 (fun ws hw=>(x3g hw).1) fun ws hw f cdv A outer s H E Z hr=>⟨_,y13 B M C CH BM MK hr,(x3g hw).2⟩
theorem x6u(B:Blt P w K mg)(M:Exs K mg a)(C:Cals P w K mg base a n)(CH:CalsH P w K mg base a n)(BM:BMain base mg)(MK:Mks K mg){outer:List Env}(hr:Room n (A.deeper (PyProof.Rows.envOfC "cube_text" (defScope q1q) s.heap.objs.size f cdv))):
  DSs Z (cxOf (CX1 P w) P w K mg base ["cube"] "cube_text" (defScope q1q) f cdv A outer s H E) (fun _=>E) (defBody q1q) (q4j K a (run K a n)):=
 (q0f (q0o (y77 q4g (q0a (q0s (q2v (x:="truth") (Nf:=[]) (js:=[]) (sc:=defScope q1q) (N:=["cube"]) rfl (dv 0) (by decide +kernel)
   (fun _ _ _ _ _ _=>q2h)
   (fun _ _ _ _ _ _=>(z20 B.t_SIGNS (dv 0)))
   (fun _ _ _ _ _=>q1e 0 (show(["truth"]:List Str).Nodup by decide +kernel)))) q0b))))
theorem q9t(h:run K a (n+1) q2a ws≠.no):ws.length=1/\(q4j K a (run K a n) (init 1 ws)).fn=run K a (n+1) q2a ws:=by
 rw[q7w]at h |-;split at h
 ·rename_i hl;rw[if_pos hl];exact⟨hl,rfl⟩
 ·exact absurd rfl h
theorem x5m(B:Blt P w K mg)(M:Exs K mg a)(C:Cals P w K mg base a n)(CH:CalsH P w K mg base a n)(BM:BMain base mg)(MK:Mks K mg)(A:Ats K mg):Cal P w K mg base (n+1) "cube_text" ["cube"] (spF K (run K a (n+1) q2a)):=
 con A.cube_text x5g (fun ws hw=>(q9t hw).1) fun ws hw f cdv A outer s H E Z hr=>⟨_,x6u B M C CH BM MK hr,(q9t hw).2⟩
theorem x6v(B:Blt P w K mg)(M:Exs K mg a)(C:Cals P w K mg base a n)(CH:CalsH P w K mg base a n)(BM:BMain base mg)(MK:Mks K mg){outer:List Env}(hr:Room n (A.deeper (PyProof.Rows.envOfC "places_of" (defScope q1y) s.heap.objs.size f cdv))):
  DSs Z (cxOf (CX1 P w) P w K mg base ["table", "many"] "places_of" (defScope q1y) f cdv A outer s H E) (fun _=>E) (defBody q1y) (q4k K a (run K a n)):=
 (q0e (q5v 1 sc_places_of.nd PassesOwn.leaving rfl B.b_range (q0a (q0y (y0x M.m_MOST_PLACES_tables M.g_MOST_PLACES_tables) q0d) q0b)
  (q0f (q1v (q6j (q00 hr) (q16 B.b_len (q0a (dv 0) q0b)) (q0l C.rows_many hr pass1 (q0a (dv 1) q0b)))
  (q0f (q0o (dv 1)))
  q05)))
  (q0f (q97 rais1 M.e_NoTable M.m_NoTable rfl (q0a q4g q0b))))
theorem q9u(h:run K a (n+1) q26 ws≠.no):ws.length=1/\(q4k K a (run K a n) (init 2 ws)).fn=run K a (n+1) q26 ws:=by
 rw[q7x]at h |-;split at h
 ·rename_i hl;rw[if_pos hl];exact⟨hl,rfl⟩
 ·exact absurd rfl h
theorem x5n(B:Blt P w K mg)(M:Exs K mg a)(C:Cals P w K mg base a n)(CH:CalsH P w K mg base a n)(BM:BMain base mg)(MK:Mks K mg)(A:Ats K mg):Cal P w K mg base (n+1) "places_of" ["table"] (spF K (run K a (n+1) q26)):=
 con A.places_of sc_places_of (fun ws hw=>(q9u hw).1) fun ws hw f cdv A outer s H E Z hr=>⟨_,x6v B M C CH BM MK hr,(q9u hw).2⟩
theorem x32(B:Blt P w K mg)(M:Exs K mg a)(C:Cals P w K mg base a n)(CH:CalsH P w K mg base a n)(BM:BMain base mg)(MK:Mks K mg){outer:List Env}(hr:Room n (A.deeper (PyProof.Rows.envOfC "wish_places" (defScope q1k) s.heap.objs.size f cdv))):
  DSs Z (cxOf (CX1 P w) P w K mg base ["wish", "many"] "wish_places" (defScope q1k) f cdv A outer s H E) (fun _=>E) (defBody q1k) (q2w K a (run K a n)):=
 (q0e (q0p 1 sc_wish_places.nd (q0l C.places_of hr pass1 (q0a (dv 0) q0b)))
  (q0e (q1v (z3s (dv 1) (y0x M.m_MOST_PLACES_covers M.g_MOST_PLACES_covers))
  (q0f (q97 rais1 M.e_NoTable M.m_NoTable rfl (q0a q4g q0b)))
  q05)
  (q0f (q0o (dv 1)))))
theorem q72(h:run K a (n+1) q1i ws≠.no):ws.length=1/\(q2w K a (run K a n) (init 2 ws)).fn=run K a (n+1) q1i ws:=by
 rw[q42]at h |-;split at h
 ·rename_i hl;rw[if_pos hl];exact⟨hl,rfl⟩
 ·exact absurd rfl h
theorem x16(B:Blt P w K mg)(M:Exs K mg a)(C:Cals P w K mg base a n)(CH:CalsH P w K mg base a n)(BM:BMain base mg)(MK:Mks K mg)(A:Ats K mg):Cal P w K mg base (n+1) "wish_places" ["wish"] (spF K (run K a (n+1) q1i)):=
 con A.wish_places sc_wish_places (fun ws hw=>(q72 hw).1) fun ws hw f cdv A outer s H E Z hr=>⟨_,x32 B M C CH BM MK hr,(q72 hw).2⟩
theorem z24(B:Blt P w K mg)(M:Exs K mg a)(C:Cals P w K mg base a n)(CH:CalsH P w K mg base a n)(BM:BMain base mg)(MK:Mks K mg){outer:List Env}(hr:Room n (A.deeper (PyProof.Rows.envOfC "fits" (defScope q36) s.heap.objs.size f cdv))):
  DSs Z (cxOf (CX1 P w) P w K mg base ["cube", "wish"] "fits" (defScope q36) f cdv A outer s H E) (fun _=>E) (defBody q36) (q8s K a (run K a n)):=
 (q0e (q1v (q7g (q00 hr) (q0l C.wish_places hr pass1 (q0a (dv 1) q0b)) (q16 B.b_len (q0a (dv 0) q0b)))
  (q0f (q0o q0n))
  q05)
  (q0f (q0o (y0u rfl B.b_all (q0a (q0s (q2v (x:="number") (Nf:=["wish"]) (js:=[1]) (sc:=defScope q36) (N:=["cube", "wish"]) rfl (q0l C.rows_in hr pass1 (q0a (dv 0) q0b)) (by decide +kernel)
   (fun _ _ _ _ _ _=>q2h)
   (fun _ _ _ _ _ _=>(z0y (q1p (dv 1) (dv 0)) q0n))
   (fun _ _ _ _ _=>q1e 0 (show(["number", "wish"]:List Str).Nodup by decide +kernel)))) q0b)))))
theorem y14(h:run K a (n+1) q5i ws≠.no):ws.length=2/\(q8s K a (run K a n) (init 2 ws)).fn=run K a (n+1) q5i ws:=by
 rw[x5j]at h |-;split at h
 ·rename_i hl;rw[if_pos hl];exact⟨hl,rfl⟩
 ·exact absurd rfl h
theorem y88(B:Blt P w K mg)(M:Exs K mg a)(C:Cals P w K mg base a n)(CH:CalsH P w K mg base a n)(BM:BMain base mg)(MK:Mks K mg)(A:Ats K mg):Cal P w K mg base (n+1) "fits" ["cube", "wish"] (spF K (run K a (n+1) q5i)):=
 con A.fits y87 (fun ws hw=>(y14 hw).1) fun ws hw f cdv A outer s H E Z hr=>⟨_,z24 B M C CH BM MK hr,(y14 hw).2⟩
theorem y5f(B:Blt P w K mg)(M:Exs K mg a)(C:Cals P w K mg base a n)(CH:CalsH P w K mg base a n)(BM:BMain base mg)(MK:Mks K mg){outer:List Env}(hr:Room n (A.deeper (PyProof.Rows.envOfC "primes" (defScope q2q) s.heap.objs.size f cdv))):
  DSs Z (cxOf (CX1 P w) P w K mg base ["wish"] "primes" (defScope q2q) f cdv A outer s H E) (fun _=>E) (defBody q2q) (q5b K a (run K a n)):=
 (q0f (q3t (q2v (x:="cube") (Nf:=["wish"]) (js:=[0]) (sc:=defScope q2q) (N:=["wish"]) rfl (q0l C.all_cubes hr pass1 (q0a (q0l C.wish_places hr pass1 (q0a (dv 0) q0b)) q0b)) (by decide +kernel)
   (fun _ _ _ _ _ _=>(q3u (q4h (q0l C.is_prime hr passE (q0a (dv 0) (q0a (dv 1) q0b))))))
   (fun _ _ _ _ _ _=>(dv 0))
   (fun _ _ _ _ _=>q1e 0 (show(["cube", "wish"]:List Str).Nodup by decide +kernel)))))
theorem x5o(h:run K a (n+1) q2o ws≠.no):ws.length=1/\(q5b K a (run K a n) (init 1 ws)).fn=run K a (n+1) q2o ws:=by
 rw[q7m]at h |-;split at h
 ·rename_i hl;rw[if_pos hl];exact⟨hl,rfl⟩
 ·exact absurd rfl h
theorem y15(B:Blt P w K mg)(M:Exs K mg a)(C:Cals P w K mg base a n)(CH:CalsH P w K mg base a n)(BM:BMain base mg)(MK:Mks K mg)(A:Ats K mg):Cal P w K mg base (n+1) "primes" ["wish"] (spF K (run K a (n+1) q2o)):=
 con A.primes y1y (fun ws hw=>(x5o hw).1) fun ws hw f cdv A outer s H E Z hr=>⟨_,y5f B M C CH BM MK hr,(x5o hw).2⟩
theorem x6w(B:Blt P w K mg)(M:Exs K mg a)(C:Cals P w K mg base a n)(CH:CalsH P w K mg base a n)(BM:BMain base mg)(MK:Mks K mg){outer:List Env}(hr:Room n (A.deeper (PyProof.Rows.envOfC "all_cubes" (defScope q1z) s.heap.objs.size f cdv))):
  DSs Z (cxOf (CX1 P w) P w K mg base ["many", "cubes", "place", "longer", "cube"] "all_cubes" (defScope q1z) f cdv A outer s H E) (fun _=>E) (defBody q1z) (q4l K a (run K a n)):=
 (q0e (q0p 1 sc_all_cubes.nd (q0s (q0r (q0a (q2n q0b) q0b))))
  (q0e (q5v 2 sc_all_cubes.nd PassesOwn.leaving rfl B.b_range (q0a (dv 0) q0b)
  (q0e (q8j 3 sc_all_cubes.nd (q0r q0b))
  (q0e (q63 4 sc_all_cubes.nd PassesOwn.leaving rfl (dv 1)
  (q0f (z2j 3 (q0a (q0s (q0r (q0a (q0y (dv 4) (q2n (q0a q3a q0b))) (q0a (q0y (dv 4) (q2n (q0a q0n q0b))) (q0a (q0y (dv 4) (q2n (q0a q0n q0b))) q0b))))) q0b))))
  (q0f (q0p 1 sc_all_cubes.nd (dv 3))))))
  (q0f (q0o (dv 1)))))
theorem q9v(h:run K a (n+1) q27 ws≠.no):ws.length=1/\(q4l K a (run K a n) (init 5 ws)).fn=run K a (n+1) q27 ws:=by
 rw[q7y]at h |-;split at h
 ·rename_i hl;rw[if_pos hl];exact⟨hl,rfl⟩
 ·exact absurd rfl h
theorem x5p(B:Blt P w K mg)(M:Exs K mg a)(C:Cals P w K mg base a n)(CH:CalsH P w K mg base a n)(BM:BMain base mg)(MK:Mks K mg)(A:Ats K mg):Cal P w K mg base (n+1) "all_cubes" ["many"] (spF K (run K a (n+1) q27)):=
 con A.all_cubes sc_all_cubes (fun ws hw=>(q9v hw).1) fun ws hw f cdv A outer s H E Z hr=>⟨_,x6w B M C CH BM MK hr,(q9v hw).2⟩
theorem x9a(B:Blt P w K mg)(M:Exs K mg a)(C:Cals P w K mg base a n)(CH:CalsH P w K mg base a n)(BM:BMain base mg)(MK:Mks K mg){outer:List Env}(hr:Room n (A.deeper (PyProof.Rows.envOfC "is_prime" (defScope q1s) s.heap.objs.size f cdv))):
  DSs Z (cxOf (CX1 P w) P w K mg base ["cube", "wish"] "is_prime" (defScope q1s) f cdv A outer s H E) (fun _=>E) (defBody q1s) (q40 K a (run K a n)):=
 (q0e (q1v (q8i (q4h (q0l C.fits hr pass1 (q0a (dv 0) (q0a (dv 1) q0b)))))
  (q0f (q0o q0n))
  q05)
  (q0e (q1v (q8i (q4h (y1i rfl B.b_any (q0a (q0s (q2v (x:="number") (Nf:=["wish"]) (js:=[1]) (sc:=defScope q1s) (N:=["cube", "wish"]) rfl (q0l C.rows_in hr pass1 (q0a (dv 0) q0b)) (by decide +kernel)
   (fun _ _ _ _ _ _=>q2h)
   (fun _ _ _ _ _ _=>(y54 (q1p (dv 1) (dv 0)) q0n))
   (fun _ _ _ _ _=>q1e 0 (show(["number", "wish"]:List Str).Nodup by decide +kernel)))) q0b))))
  (q0f (q0o q0n))
  q05)
  (q0f (q0o (z0p (y1i rfl B.b_any (q0a (q0s (q2v (x:="wider") (Nf:=["wish"]) (js:=[1]) (sc:=defScope q1s) (N:=["cube", "wish"]) rfl (q0l C.wider_cubes hr pass1 (q0a (dv 0) q0b)) (by decide +kernel)
   (fun _ _ _ _ _ _=>q2h)
   (fun _ _ _ _ _ _=>(q0l C.fits hr passE (q0a (dv 0) (q0a (dv 1) q0b))))
   (fun _ _ _ _ _=>q1e 0 (show(["wider", "wish"]:List Str).Nodup by decide +kernel)))) q0b)))))))
theorem x1l(h:run K a (n+1) q3m ws≠.no):ws.length=2/\(q40 K a (run K a n) (init 2 ws)).fn=run K a (n+1) q3m ws:=by
 rw[q8w]at h |-;split at h
 ·rename_i hl;rw[if_pos hl];exact⟨hl,rfl⟩
 ·exact absurd rfl h
theorem x6x(B:Blt P w K mg)(M:Exs K mg a)(C:Cals P w K mg base a n)(CH:CalsH P w K mg base a n)(BM:BMain base mg)(MK:Mks K mg)(A:Ats K mg):Cal P w K mg base (n+1) "is_prime" ["cube", "wish"] (spF K (run K a (n+1) q3m)):=
 con A.is_prime x6r (fun ws hw=>(x1l hw).1) fun ws hw f cdv A outer s H E Z hr=>⟨_,x9a B M C CH BM MK hr,(x1l hw).2⟩
theorem x33(B:Blt P w K mg)(M:Exs K mg a)(C:Cals P w K mg base a n)(CH:CalsH P w K mg base a n)(BM:BMain base mg)(MK:Mks K mg){outer:List Env}(hr:Room n (A.deeper (PyProof.Rows.envOfC "wider_cubes" (defScope q09) s.heap.objs.size f cdv))):
  DSs Z (cxOf (CX1 P w) P w K mg base ["cube"] "wider_cubes" (defScope q09) f cdv A outer s H E) (fun _=>E) (defBody q09) (q3q K a (run K a n)):=
 (q0f (q3t (q55 (x:="place") (Nf:=["cube"]) (js:=[0]) (sc:=defScope q09) (N:=["cube"]) rfl B.b_range (q0a (q16 B.b_len (q0a (dv 0) q0b)) q0b) (by decide +kernel)
   (fun _ _ _ _ _ _=>(q3u (z0z (q1p (dv 1) (dv 0)) q3a)))
   (fun _ _ _ _ _ _=>(q0y (q0y (q7h (dv 1) q9a (q9b (dv 0))) (q2n (q0a q3a q0b))) (q7h (dv 1) (q9b (q0y (dv 0) q0d)) q9a)))
   (fun _ _ _ _ _=>q1e 0 (show(["place", "cube"]:List Str).Nodup by decide +kernel)))))
theorem q73(h:run K a (n+1) q2i ws≠.no):ws.length=1/\(q3q K a (run K a n) (init 1 ws)).fn=run K a (n+1) q2i ws:=by
 rw[q6p]at h |-;split at h
 ·rename_i hl;rw[if_pos hl];exact⟨hl,rfl⟩
 ·exact absurd rfl h
theorem x17(B:Blt P w K mg)(M:Exs K mg a)(C:Cals P w K mg base a n)(CH:CalsH P w K mg base a n)(BM:BMain base mg)(MK:Mks K mg)(A:Ats K mg):Cal P w K mg base (n+1) "wider_cubes" ["cube"] (spF K (run K a (n+1) q2i)):=
 con A.wider_cubes x14 (fun ws hw=>(q73 hw).1) fun ws hw f cdv A outer s H E Z hr=>⟨_,x33 B M C CH BM MK hr,(q73 hw).2⟩
theorem x34(B:Blt P w K mg)(M:Exs K mg a)(C:Cals P w K mg base a n)(CH:CalsH P w K mg base a n)(BM:BMain base mg)(MK:Mks K mg){outer:List Env}(hr:Room n (A.deeper (PyProof.Rows.envOfC "wished_rows" (defScope q1a) s.heap.objs.size f cdv))):
  DSs Z (cxOf (CX1 P w) P w K mg base ["wish"] "wished_rows" (defScope q1a) f cdv A outer s H E) (fun _=>E) (defBody q1a) (q3r K a (run K a n)):=
 (q0e (x7h (q0l C.wish_places hr pass1 (q0a (dv 0) q0b)))
  (q0f (q3t (x0d (x:="number") (y:="wanted") (Nf:=[]) (js:=[]) (sc:=defScope q1a) (N:=["wish"]) rfl (x7q B.b_enumerate (q0a (dv 0) q0b)) (by decide +kernel)
   (fun _ _ _ _ _ _=>(q3u (x03 (dv 1) q0n)))
   (fun _ _ _ _ _ _=>(dv 0))
   (fun _ _ _ _ _=>x42 (show(["number", "wanted"]:List Str).Nodup by decide +kernel) rfl)))))
theorem q74(h:run K a (n+1) q2j ws≠.no):ws.length=1/\(q3r K a (run K a n) (init 1 ws)).fn=run K a (n+1) q2j ws:=by
 rw[q6q]at h |-;split at h
 ·rename_i hl;rw[if_pos hl];exact⟨hl,rfl⟩
 ·exact absurd rfl h
theorem x18(B:Blt P w K mg)(M:Exs K mg a)(C:Cals P w K mg base a n)(CH:CalsH P w K mg base a n)(BM:BMain base mg)(MK:Mks K mg)(A:Ats K mg):Cal P w K mg base (n+1) "wished_rows" ["wish"] (spF K (run K a (n+1) q2j)):=
 con A.wished_rows x15 (fun ws hw=>(q74 hw).1) fun ws hw f cdv A outer s H E Z hr=>⟨_,x34 B M C CH BM MK hr,(q74 hw).2⟩
theorem x6y(B:Blt P w K mg)(M:Exs K mg a)(C:Cals P w K mg base a n)(CH:CalsH P w K mg base a n)(BM:BMain base mg)(MK:Mks K mg){outer:List Env}(hr:Room n (A.deeper (PyProof.Rows.envOfC "rows_left" (defScope q1r) s.heap.objs.size f cdv))):
  DSs Z (cxOf (CX1 P w) P w K mg base ["numbers", "taken"] "rows_left" (defScope q1r) f cdv A outer s H E) (fun _=>E) (defBody q1r) (q4m K a (run K a n)):=
 (q0f (q3t (q2v (x:="number") (Nf:=["taken"]) (js:=[1]) (sc:=defScope q1r) (N:=["numbers", "taken"]) rfl (dv 0) (by decide +kernel)
   (fun _ _ _ _ _ _=>(q3u (y0s (q00 hr) (dv 0) (dv 1))))
   (fun _ _ _ _ _ _=>(dv 0))
   (fun _ _ _ _ _=>q1e 0 (show(["number", "taken"]:List Str).Nodup by decide +kernel)))))
theorem q9w(h:run K a (n+1) q1w ws≠.no):ws.length=2/\(q4m K a (run K a n) (init 2 ws)).fn=run K a (n+1) q1w ws:=by
 rw[q7z]at h |-;split at h
 ·rename_i hl;rw[if_pos hl];exact⟨hl,rfl⟩
 ·exact absurd rfl h
theorem x5q(B:Blt P w K mg)(M:Exs K mg a)(C:Cals P w K mg base a n)(CH:CalsH P w K mg base a n)(BM:BMain base mg)(MK:Mks K mg)(A:Ats K mg):Cal P w K mg base (n+1) "rows_left" ["numbers", "taken"] (spF K (run K a (n+1) q1w)):=
 con A.rows_left x5h (fun ws hw=>(q9w hw).1) fun ws hw f cdv A outer s H E Z hr=>⟨_,x6y B M C CH BM MK hr,(q9w hw).2⟩
theorem x35(B:Blt P w K mg)(M:Exs K mg a)(C:Cals P w K mg base a n)(CH:CalsH P w K mg base a n)(BM:BMain base mg)(MK:Mks K mg){outer:List Env}(hr:Room (n+2) (A.deeper (PyProof.Rows.envOfC "least_cover" (defScope q1l) s.heap.objs.size f cdv)))(hz:Z.H=H/\Z.io=[]):
  DSs Z (cxOf (CX1 P w) P w K mg base ["wish", "reaches", "wished", "count", "tree", "found"] "least_cover" (defScope q1l) f cdv A outer s H E) (fun _=>E) (defBody q1l) (q2x K a (run K a n)):=
 (q0e (q0p 1 sc_least_cover.nd (q0l C.reaches_of (hr.mono (by omega)) pass1 (q0a (dv 0) q0b)))
  (q0e (q0p 2 sc_least_cover.nd (q0l C.wished_rows (hr.mono (by omega)) pass1 (q0a (dv 0) q0b)))
  (q0e (q0p 3 sc_least_cover.nd q0d)
  (q0e (q0p 4 sc_least_cover.nd q3a)
  (q0e (q0p 5 sc_least_cover.nd (q0l C.tried (hr.mono (by omega)) pass1 (q0a (dv 1) (q0a (dv 2) (q0a (dv 3) q0b)))))
  (q0e (y3e 1000000 PassesOwn.leaving (q6j (q00 hr) (q1p (dv 5) q0d) q4g)
  (q0e (q0p 4 sc_least_cover.nd (q1p (dv 5) q0d))
  (q0e (q0p 3 sc_least_cover.nd (q0y (dv 3) q0d))
  (q0f (q0p 5 sc_least_cover.nd (q0l C.tried (hr.mono (by omega)) pass1 (q0a (dv 1) (q0a (dv 2) (q0a (dv 3) q0b)))))))))
  (q0f (y44 4 hz.2 (y85 C.cube_text hr B.b_sorted (q1p (dv 5) q0d))))))))))
theorem q75(h:run K a (n+1) q01 ws≠.no):ws.length=1/\(q2x K a (run K a n) (init 6 ws)).fn=run K a (n+1) q01 ws:=by
 rw[q43]at h |-;split at h
 ·rename_i hl;rw[if_pos hl];exact⟨hl,rfl⟩
 ·exact absurd rfl h
theorem x19(B:Blt P w K mg)(M:Exs K mg a)(C:Cals P w K mg base a n)(CH:CalsH P w K mg base a n)(BM:BMain base mg)(MK:Mks K mg)(A:Ats K mg):Cal P w K mg base (n+3) "least_cover" ["wish"] (spF K (run K a (n+1) q01)):=
 conZ A.least_cover sc_least_cover (fun ws hw=>(q75 hw).1) fun ws hw f cdv A outer s H E Z hr hz=>⟨_,x35 B M C CH BM MK hr hz,(q75 hw).2⟩
theorem x5r(B:Blt P w K mg)(M:Exs K mg a)(C:Cals P w K mg base a n)(CH:CalsH P w K mg base a n)(BM:BMain base mg)(MK:Mks K mg){outer:List Env}(hr:Room n (A.deeper (PyProof.Rows.envOfC "reaches_of" (defScope q1g) s.heap.objs.size f cdv))):
  DSs Z (cxOf (CX1 P w) P w K mg base ["wish"] "reaches_of" (defScope q1g) f cdv A outer s H E) (fun _=>E) (defBody q1g) (q3c K a (run K a n)):=
 (q0f (q3t (q2v (x:="prime") (Nf:=[]) (js:=[]) (sc:=defScope q1g) (N:=["wish"]) rfl (q0l C.primes hr pass1 (q0a (dv 0) q0b)) (by decide +kernel)
   (fun _ _ _ _ _ _=>q2h)
   (fun _ _ _ _ _ _=>(q2n (q0a (dv 0) (q0a (q0l C.rows_in hr passE (q0a (dv 0) q0b)) q0b))))
   (fun _ _ _ _ _=>q1e 0 (show(["prime"]:List Str).Nodup by decide +kernel)))))
theorem q8y(h:run K a (n+1) q2e ws≠.no):ws.length=1/\(q3c K a (run K a n) (init 1 ws)).fn=run K a (n+1) q2e ws:=by
 rw[q5d]at h |-;split at h
 ·rename_i hl;rw[if_pos hl];exact⟨hl,rfl⟩
 ·exact absurd rfl h
theorem x36(B:Blt P w K mg)(M:Exs K mg a)(C:Cals P w K mg base a n)(CH:CalsH P w K mg base a n)(BM:BMain base mg)(MK:Mks K mg)(A:Ats K mg):Cal P w K mg base (n+1) "reaches_of" ["wish"] (spF K (run K a (n+1) q2e)):=
 con A.reaches_of x30 (fun ws hw=>(q8y hw).1) fun ws hw f cdv A outer s H E Z hr=>⟨_,x5r B M C CH BM MK hr,(q8y hw).2⟩
theorem y89(B:Blt P w K mg)(M:Exs K mg a)(C:Cals P w K mg base a n)(CH:CalsH P w K mg base a n)(BM:BMain base mg)(MK:Mks K mg){outer:List Env}(hr:Room (n+1) (A.deeper (PyProof.Rows.envOfC "tried" (defScope q3w) s.heap.objs.size f cdv))):
  DSs Z (cxOf (CX1 P w) P w K mg base ["reaches", "left", "count", "number", "branches", "prime", "rows", "found"] "tried" (defScope q3w) f cdv A outer s H E) (fun _=>E) (defBody q3w) (q5c K a (run K a n)):=
 (q0e (q1v (q6j (q00 hr) (q16 B.b_len (q0a (dv 1) q0b)) q0d)
  (q0f (q0o (q2n (q0a q4g (q0a (q0s (q0r q0b)) q0b)))))
  q05)
  (q0e (q0p 3 sc_tried.nd (q0l C.rarest hr pass1 (q0a (dv 0) (q0a (dv 1) q0b))))
  (q0e (q1v (q6j (q00 hr) (dv 2) q0d)
  (q0f (q0o (q2n (q0a q4g (q0a (q2n (q0a (dv 3) (q0a (q2n q0b) q0b))) q0b)))))
  q05)
  (q0e (q8j 4 sc_tried.nd (q0r q0b))
  (q0e (y8a 5 6 sc_tried.nd PassesOwn.leaving rfl (y32 (q0l C.having (hr.mono (by omega)) pass1 (q0a (dv 0) (q0a (dv 3) q0b))))
  (q0e (q0p 7 sc_tried.nd (q0l C.tried hr pass1 (q0a (dv 0) (q0a (q0l C.rows_left (hr.mono (by omega)) pass1 (q0a (dv 1) (q0a (dv 6) q0b))) (q0a (q64 (dv 2) q0d) q0b)))))
  (q0e (q1v (q6j (q00 hr) (q1p (dv 7) q0d) q4g)
  (q0f (q0o (q2n (q0a q4g (q0a (q0y (q0s (q0r (q0a (dv 5) q0b))) (q1p (dv 7) q0d)) q0b)))))
  q05)
  (q0f (x4r 4 (q0a (q2n (q0a (dv 5) (q0a (q1p (dv 7) q0d) q0b))) q0b))))))
  (q0f (q0o (q2n (q0a q4g (q0a (q2n (q0a (dv 3) (q0a (x4w B.b_tuple (q0a (dv 4) q0b)) q0b))) q0b))))))))))
theorem x7y(h:run K a (n+1) q18 ws≠.no):ws.length=3/\(q5c K a (run K a n) (init 8 ws)).fn=run K a (n+1) q18 ws:=by
 rw[q6r]at h |-;split at h
 ·rename_i hl;rw[if_pos hl];exact⟨hl,rfl⟩
 ·exact absurd rfl h
theorem y5g(B:Blt P w K mg)(M:Exs K mg a)(C:Cals P w K mg base a n)(CH:CalsH P w K mg base a n)(BM:BMain base mg)(MK:Mks K mg)(A:Ats K mg):Cal P w K mg base (n+2) "tried" ["reaches", "left", "count"] (spF K (run K a (n+1) q18)):=
 con A.tried sc_tried (fun ws hw=>(x7y hw).1) fun ws hw f cdv A outer s H E Z hr=>⟨_,y89 B M C CH BM MK hr,(x7y hw).2⟩
theorem y5h(B:Blt P w K mg)(M:Exs K mg a)(C:Cals P w K mg base a n)(CH:CalsH P w K mg base a n)(BM:BMain base mg)(MK:Mks K mg){outer:List Env}(hr:Room (n+1) (A.deeper (PyProof.Rows.envOfC "rarest" (defScope q2k) s.heap.objs.size f cdv)))(hmk:MakK K "rarest" cdv):
  DSs Z (cxOf (CX1 P w) P w K mg base ["reaches", "left"] "rarest" (defScope q2k) f cdv A outer s H E) (fun _=>E) (defBody q2k) (q58 K a (run K a n)):=
 (q0f (q0o (y8w 33 q5t C.lam hr rfl B.b_min (z45 hmk BM) (fun _=>rfl) (dv 1) x31 (sc:=defScope q2k) (N:=["reaches", "left"]) (nf:=["reaches"]) (by decide +kernel))))
theorem x5s(h:run K a (n+1) q4r ws≠.no):ws.length=2/\(q58 K a (run K a n) (init 2 ws)).fn=run K a (n+1) q4r ws:=by
 rw[x1i]at h |-;split at h
 ·rename_i hl;rw[if_pos hl];exact⟨hl,rfl⟩
 ·exact absurd rfl h
theorem y16(B:Blt P w K mg)(M:Exs K mg a)(C:Cals P w K mg base a n)(CH:CalsH P w K mg base a n)(BM:BMain base mg)(MK:Mks K mg)(A:Ats K mg):Cal P w K mg base (n+2) "rarest" ["reaches", "left"] (spF K (run K a (n+1) q4r)):=
 conM A.rarest MK.rarest y1z (fun ws hw=>(x5s hw).1) fun ws hw f cdv A outer s H E Z hr hmk=>⟨_,y5h B M C CH BM MK hr hmk,(x5s hw).2⟩
theorem y5i(B:Blt P w K mg)(M:Exs K mg a)(C:Cals P w K mg base a n)(CH:CalsH P w K mg base a n)(BM:BMain base mg)(MK:Mks K mg){outer:List Env}(hr:Room n (A.deeper (PyProof.Rows.envOfC "having" (defScope q2r) s.heap.objs.size f cdv))):
  DSs Z (cxOf (CX1 P w) P w K mg base ["reaches", "number"] "having" (defScope q2r) f cdv A outer s H E) (fun _=>E) (defBody q2r) (q59 K a (run K a n)):=
 (q0f (q3t (q2v (x:="reach") (Nf:=["number"]) (js:=[1]) (sc:=defScope q2r) (N:=["reaches", "number"]) rfl (dv 0) (by decide +kernel)
   (fun _ _ _ _ _ _=>(q3u (z41 (q00 hr) (dv 1) (q1p (dv 0) q0d))))
   (fun _ _ _ _ _ _=>(dv 0))
   (fun _ _ _ _ _=>q1e 0 (show(["reach", "number"]:List Str).Nodup by decide +kernel)))))
theorem x5t(h:run K a (n+1) q3n ws≠.no):ws.length=2/\(q59 K a (run K a n) (init 2 ws)).fn=run K a (n+1) q3n ws:=by
 rw[x1j]at h |-;split at h
 ·rename_i hl;rw[if_pos hl];exact⟨hl,rfl⟩
 ·exact absurd rfl h
theorem y17(B:Blt P w K mg)(M:Exs K mg a)(C:Cals P w K mg base a n)(CH:CalsH P w K mg base a n)(BM:BMain base mg)(MK:Mks K mg)(A:Ats K mg):Cal P w K mg base (n+1) "having" ["reaches", "number"] (spF K (run K a (n+1) q3n)):=
 con A.having y10 (fun ws hw=>(x5t hw).1) fun ws hw f cdv A outer s H E Z hr=>⟨_,y5i B M C CH BM MK hr,(x5t hw).2⟩
theorem x2a(B:Blt P w K mg)(M:Exs K mg a)(C:Cals P w K mg base a n)(CH:CalsH P w K mg base a n)(BM:BMain base mg)(MK:Mks K mg){outer:List Env}(hr:Room n (A.deeper (PyProof.Rows.envOfC "_law_cell_at" (defScope q1b) s.heap.objs.size f cdv))):
  DSs Z (cxOf (CX1 P w) P w K mg base ["_law_script", "_law_k"] "_law_cell_at" (defScope q1b) f cdv A outer s H E) (fun _=>E) (defBody q1b) (q3d K a (run K a n)):=
 (q0e (q1v (x4d (dv 1) (q16 B.b_len (q0a (dv 0) q0b)))
  (q0f (q0o (q1p (dv 0) (dv 1))))
  q05)
  (q0f (q0o q0d)))
theorem q68(h:run K a (n+1) q1m ws≠.no):ws.length=2/\(q3d K a (run K a n) (init 2 ws)).fn=run K a (n+1) q1m ws:=by
 rw[q6c]at h |-;split at h
 ·rename_i hl;rw[if_pos hl];exact⟨hl,rfl⟩
 ·exact absurd rfl h
theorem x1m(B:Blt P w K mg)(M:Exs K mg a)(C:Cals P w K mg base a n)(CH:CalsH P w K mg base a n)(BM:BMain base mg)(MK:Mks K mg)(A:Ats K mg):Cal P w K mg base (n+1) "_law_cell_at" ["_law_script", "_law_k"] (spF K (run K a (n+1) q1m)):=
 con A._law_cell_at x1b (fun ws hw=>(q68 hw).1) fun ws hw f cdv A outer s H E Z hr=>⟨_,x2a B M C CH BM MK hr,(q68 hw).2⟩
theorem x9b(B:Blt P w K mg)(M:Exs K mg a)(C:Cals P w K mg base a n)(CH:CalsH P w K mg base a n)(BM:BMain base mg)(MK:Mks K mg){outer:List Env}(hr:Room n (A.deeper (PyProof.Rows.envOfC "_law_way" (defScope q2c) s.heap.objs.size f cdv))):
  DSs Z (cxOf (CX1 P w) P w K mg base ["_law_script", "_law_k", "_law_many", "_law_mark_here"] "_law_way" (defScope q2c) f cdv A outer s H E) (fun _=>E) (defBody q2c) (q41 K a (run K a n)):=
 (q0e (q0p 3 sc__law_way.nd (q33 (q0y (q0y (q3b (q0l C._law_cell_at hr pass1 (q0a (dv 0) (q0a (dv 1) q0b))) q0d) (q3b q0d (q16 B.b_len (q0a (dv 0) q0b)))) (q3b q0d (dv 1))) q0d))
  (q0f (q0o (q33 (q33 (q3b (dv 3) (dv 3)) q0d) (dv 2)))))
theorem x1n(h:run K a (n+1) q0t ws≠.no):ws.length=3/\(q41 K a (run K a n) (init 4 ws)).fn=run K a (n+1) q0t ws:=by
 rw[q8x]at h |-;split at h
 ·rename_i hl;rw[if_pos hl];exact⟨hl,rfl⟩
 ·exact absurd rfl h
theorem x6z(B:Blt P w K mg)(M:Exs K mg a)(C:Cals P w K mg base a n)(CH:CalsH P w K mg base a n)(BM:BMain base mg)(MK:Mks K mg)(A:Ats K mg):Cal P w K mg base (n+1) "_law_way" ["_law_script", "_law_k", "_law_many"] (spF K (run K a (n+1) q0t)):=
 con A._law_way sc__law_way (fun ws hw=>(x1n hw).1) fun ws hw f cdv A outer s H E Z hr=>⟨_,x9b B M C CH BM MK hr,(x1n hw).2⟩
theorem x60(B:Blt P w K mg)(M:Exs K mg a)(C:Cals P w K mg base a n)(CH:CalsH P w K mg base a n)(BM:BMain base mg)(MK:Mks K mg){outer:List Env}(hr:Room n (A.deeper (PyProof.Rows.envOfC "_law_mark" (defScope q10) s.heap.objs.size f cdv))):
  DSs Z (cxOf (CX1 P w) P w K mg base ["_law_script", "_law_k", "_law_mark_here"] "_law_mark" (defScope q10) f cdv A outer s H E) (fun _=>E) (defBody q10) (q4n K a (run K a n)):=
 (q0e (q0p 2 sc__law_mark.nd (q0y (q0y (q3b (q0l C._law_cell_at hr pass1 (q0a (dv 0) (q0a (q0y q0d (dv 1)) q0b))) q0d) (q3b (q3b (q0l C._law_cell_at hr pass1 (q0a (dv 0) (q0a q0d q0b))) q0d) (q0y (dv 1) q0d))) (q3b q0d (dv 1))))
  (q0f (q0o (q33 (y80 (dv 2) (dv 2)) q0d))))
theorem q9x(h:run K a (n+1) q1j ws≠.no):ws.length=2/\(q4n K a (run K a n) (init 3 ws)).fn=run K a (n+1) q1j ws:=by
 rw[q70]at h |-;split at h
 ·rename_i hl;rw[if_pos hl];exact⟨hl,rfl⟩
 ·exact absurd rfl h
theorem x5u(B:Blt P w K mg)(M:Exs K mg a)(C:Cals P w K mg base a n)(CH:CalsH P w K mg base a n)(BM:BMain base mg)(MK:Mks K mg)(A:Ats K mg):Cal P w K mg base (n+1) "_law_mark" ["_law_script", "_law_k"] (spF K (run K a (n+1) q1j)):=
 con A._law_mark sc__law_mark (fun ws hw=>(q9x hw).1) fun ws hw f cdv A outer s H E Z hr=>⟨_,x60 B M C CH BM MK hr,(q9x hw).2⟩
theorem x61(B:Blt P w K mg)(M:Exs K mg a)(C:Cals P w K mg base a n)(CH:CalsH P w K mg base a n)(BM:BMain base mg)(MK:Mks K mg){outer:List Env}(hr:Room n (A.deeper (PyProof.Rows.envOfC "_law_rows" (defScope q1c) s.heap.objs.size f cdv))):
  DSs Z (cxOf (CX1 P w) P w K mg base ["_law_cube", "_law_found", "_law_wished"] "_law_rows" (defScope q1c) f cdv A outer s H E) (fun _=>E) (defBody q1c) (q3x K a (run K a n)):=
 (q0e (q0p 1 sc__law_rows.nd (q0s (q0r (q0a q0d q0b))))
  (q0e (q63 2 sc__law_rows.nd PassesOwn.leaving rfl (dv 0)
  (q0f (q1v (x03 (dv 2) q3a)
  (q0f (q0p 1 sc__law_rows.nd (q0y (q0s (q2v (x:="_law_k") (Nf:=[]) (js:=[]) (sc:=defScope q1c) (N:=["_law_cube", "_law_found", "_law_wished"]) rfl (dv 1) (by decide +kernel)
   (fun _ _ _ _ _ _=>q2h)
   (fun _ _ _ _ _ _=>(q3b q0d (dv 0)))
   (fun _ _ _ _ _=>q1e 0 (show(["_law_k"]:List Str).Nodup by decide +kernel)))) (q0s (q2v (x:="_law_k") (Nf:=[]) (js:=[]) (sc:=defScope q1c) (N:=["_law_cube", "_law_found", "_law_wished"]) rfl (dv 1) (by decide +kernel)
   (fun _ _ _ _ _ _=>q2h)
   (fun _ _ _ _ _ _=>(q0y (q3b q0d (dv 0)) q0d))
   (fun _ _ _ _ _=>q1e 0 (show(["_law_k"]:List Str).Nodup by decide +kernel)))))))
  (q0f (x8r 1 sc__law_rows.nd (x:="_law_k") (Nf:=["_law_wished"]) (js:=[2]) (sc:=defScope q1c) (N:=["_law_cube", "_law_found", "_law_wished"]) rfl (dv 1) (by decide +kernel)
   (fun _ _ _ _ _ _=>q2h)
   (fun _ _ _ _ _ _=>(q0y (q3b q0d (dv 0)) (y73 B.b_int (q0a (dv 1) q0b))))
   (fun _ _ _ _ _=>q1e 0 (show(["_law_k", "_law_wished"]:List Str).Nodup by decide +kernel)))))))
  (q0f (q0o (y1b rfl B.b_sorted (q0a (dv 1) q0b))))))
theorem q9y(h:run K a (n+1) q2b ws≠.no):ws.length=1/\(q3x K a (run K a n) (init 3 ws)).fn=run K a (n+1) q2b ws:=by
 rw[q5o]at h |-;split at h
 ·rename_i hl;rw[if_pos hl];exact⟨hl,rfl⟩
 ·exact absurd rfl h
theorem x5v(B:Blt P w K mg)(M:Exs K mg a)(C:Cals P w K mg base a n)(CH:CalsH P w K mg base a n)(BM:BMain base mg)(MK:Mks K mg)(A:Ats K mg):Cal P w K mg base (n+1) "_law_rows" ["_law_cube"] (spF K (run K a (n+1) q2b)):=
 con A._law_rows sc__law_rows (fun ws hw=>(q9y hw).1) fun ws hw f cdv A outer s H E Z hr=>⟨_,x61 B M C CH BM MK hr,(q9y hw).2⟩
theorem x2b(B:Blt P w K mg)(M:Exs K mg a)(C:Cals P w K mg base a n)(CH:CalsH P w K mg base a n)(BM:BMain base mg)(MK:Mks K mg){outer:List Env}(hr:Room n (A.deeper (PyProof.Rows.envOfC "_law_wish_by" (defScope q06) s.heap.objs.size f cdv))):
  DSs Z (cxOf (CX1 P w) P w K mg base ["_law_script", "_law_many", "_law_menus", "_law_menu", "_law_some"] "_law_wish_by" (defScope q06) f cdv A outer s H E) (fun _=>E) (defBody q06) (q3e K a (run K a n)):=
 (q0e (q0p 2 sc__law_wish_by.nd (q0s (q0r (q0a (q0s (q0r (q0a q0n (q0a q0n (q0a q3a q0b))))) (q0a (q0s (q0r (q0a q0n (q0a q0n (q0a q0n q0b))))) (q0a (q0s (q0r (q0a q0n (q0a q0n (q0a q0n (q0a q3a q0b)))))) (q0a (q0s (q0r (q0a q0n (q0a q0n (q0a q3a (q0a q0n (q0a q0n q0b))))))) q0b)))))))
  (q0e (q0p 2 sc__law_wish_by.nd (q0y (dv 2) (q0s (q0r (q0a (q0s (q0r (q0a q0n (q0a q0n q0b)))) (q0a (q0s (q0r (q0a q0n (q0a q0n q0b)))) (q0a (q0s (q0r (q0a q0n (q0a q3a (q0a q0n q0b))))) (q0a (q0s (q0r (q0a q0n (q0a q0n (q0a q0n (q0a q0n q0b)))))) q0b))))))))
  (q0e (q0p 3 sc__law_wish_by.nd (q1p (dv 2) (q0l C._law_way hr pass1 (q0a (dv 0) (q0a q0d (q0a q0d q0b))))))
  (q0e (q0p 4 sc__law_wish_by.nd (q0l C._law_way hr pass1 (q0a (dv 0) (q0a q0d (q0a q0d q0b)))))
  (q0e (q1v (x4d (dv 4) q0d)
  (q0f (q0p 3 sc__law_wish_by.nd (q1p (q0s (q0r (q0a (q0s (q0r (q0a q0n q0b))) (q0a (q0s (q0r (q0a q0n q0b))) (q0a (q0s (q0r (q0a q3a q0b))) q0b))))) (dv 4))))
  q05)
  (q0f (q3t (q55 (x:="_law_k") (Nf:=["_law_script", "_law_menu"]) (js:=[0,3]) (sc:=defScope q06) (N:=["_law_script", "_law_many", "_law_menus", "_law_menu", "_law_some"]) rfl B.b_range (q0a (q1p (q0s (q0r (q0a q0d (q0a q0d (q0a q0d (q0a q0d (q0a q0d q0b))))))) (dv 1)) q0b) (by decide +kernel)
   (fun _ _ _ _ _ _=>q2h)
   (fun _ _ _ _ _ _=>(q1p (dv 2) (q33 (q0l C._law_mark hr passE (q0a (dv 1) (q0a (dv 0) q0b))) (q16 B.b_len (q0a (dv 2) q0b)))))
   (fun _ _ _ _ _=>q1e 0 (show(["_law_k", "_law_script", "_law_menu"]:List Str).Nodup by decide +kernel))))))))))
theorem q69(h:run K a (n+1) q1n ws≠.no):ws.length=2/\(q3e K a (run K a n) (init 5 ws)).fn=run K a (n+1) q1n ws:=by
 rw[q6d]at h |-;split at h
 ·rename_i hl;rw[if_pos hl];exact⟨hl,rfl⟩
 ·exact absurd rfl h
theorem x1o(B:Blt P w K mg)(M:Exs K mg a)(C:Cals P w K mg base a n)(CH:CalsH P w K mg base a n)(BM:BMain base mg)(MK:Mks K mg)(A:Ats K mg):Cal P w K mg base (n+1) "_law_wish_by" ["_law_script", "_law_many"] (spF K (run K a (n+1) q1n)):=
 con A._law_wish_by sc__law_wish_by (fun ws hw=>(q69 hw).1) fun ws hw f cdv A outer s H E Z hr=>⟨_,x2b B M C CH BM MK hr,(q69 hw).2⟩
theorem x1p(B:Blt P w K mg)(M:Exs K mg a)(C:Cals P w K mg base a n)(CH:CalsH P w K mg base a n)(BM:BMain base mg)(MK:Mks K mg){outer:List Env}(hr:Room n (A.deeper (PyProof.Rows.envOfC "_law_odd_wish" (defScope q02) s.heap.objs.size f cdv))):
  DSs Z (cxOf (CX1 P w) P w K mg base ["_law_script", "_law_size"] "_law_odd_wish" (defScope q02) f cdv A outer s H E) (fun _=>E) (defBody q02) (q24 K a (run K a n)):=
 (q0e (q0p 1 sc__law_odd_wish.nd (q1p (q0s (q0r (q0a q0d (q0a q0d (q0a q0d (q0a q0d (q0a q0d (q0a q0d (q0a q0d (q0a q0d (q0a q0d (q0a q0d (q0a q0d (q0a q0d (q0a q0d q0b))))))))))))))) (q0l C._law_way hr pass1 (q0a (dv 0) (q0a q0d (q0a q0d q0b))))))
  (q0f (q3t (q55 (x:="_law_k") (Nf:=["_law_script"]) (js:=[0]) (sc:=defScope q02) (N:=["_law_script", "_law_size"]) rfl B.b_range (q0a (dv 1) q0b) (by decide +kernel)
   (fun _ _ _ _ _ _=>q2h)
   (fun _ _ _ _ _ _=>(q1p (q0s (q0r (q0a q0n (q0a q0n (q0a q3a q0b))))) (q33 (q0l C._law_mark hr passE (q0a (dv 1) (q0a (dv 0) q0b))) q0d)))
   (fun _ _ _ _ _=>q1e 0 (show(["_law_k", "_law_script"]:List Str).Nodup by decide +kernel))))))
theorem q6s(h:run K a (n+1) q1f ws≠.no):ws.length=1/\(q24 K a (run K a n) (init 2 ws)).fn=run K a (n+1) q1f ws:=by
 rw[q5p]at h |-;split at h
 ·rename_i hl;rw[if_pos hl];exact⟨hl,rfl⟩
 ·exact absurd rfl h
theorem x0h(B:Blt P w K mg)(M:Exs K mg a)(C:Cals P w K mg base a n)(CH:CalsH P w K mg base a n)(BM:BMain base mg)(MK:Mks K mg)(A:Ats K mg):Cal P w K mg base (n+1) "_law_odd_wish" ["_law_script"] (spF K (run K a (n+1) q1f)):=
 con A._law_odd_wish sc__law_odd_wish (fun ws hw=>(q6s hw).1) fun ws hw f cdv A outer s H E Z hr=>⟨_,x1p B M C CH BM MK hr,(q6s hw).2⟩
theorem x62(B:Blt P w K mg)(M:Exs K mg a)(C:Cals P w K mg base a n)(CH:CalsH P w K mg base a n)(BM:BMain base mg)(MK:Mks K mg){outer:List Env}(hr:Room n (A.deeper (PyProof.Rows.envOfC "_law_fits" (defScope q11) s.heap.objs.size f cdv))):
  DSs Z (cxOf (CX1 P w) P w K mg base ["_law_cube", "_law_wish", "_law_number"] "_law_fits" (defScope q11) f cdv A outer s H E) (fun _=>E) (defBody q11) (q4o K a (run K a n)):=
 (q0e (q63 2 sc__law_fits.nd PassesOwn.leaving rfl (q0l C._law_rows hr pass1 (q0a (dv 0) q0b))
  (q0f (q1v (x03 (q1p (dv 1) (dv 2)) q0n)
  (q0f (q0o q0n))
  q05)))
  (q0f (q0o q0n)))
theorem q9z(h:run K a (n+1) q28 ws≠.no):ws.length=2/\(q4o K a (run K a n) (init 3 ws)).fn=run K a (n+1) q28 ws:=by
 rw[q71]at h |-;split at h
 ·rename_i hl;rw[if_pos hl];exact⟨hl,rfl⟩
 ·exact absurd rfl h
theorem x5w(B:Blt P w K mg)(M:Exs K mg a)(C:Cals P w K mg base a n)(CH:CalsH P w K mg base a n)(BM:BMain base mg)(MK:Mks K mg)(A:Ats K mg):Cal P w K mg base (n+1) "_law_fits" ["_law_cube", "_law_wish"] (spF K (run K a (n+1) q28)):=
 con A._law_fits sc__law_fits (fun ws hw=>(q9z hw).1) fun ws hw f cdv A outer s H E Z hr=>⟨_,x62 B M C CH BM MK hr,(q9z hw).2⟩
theorem x2c(B:Blt P w K mg)(M:Exs K mg a)(C:Cals P w K mg base a n)(CH:CalsH P w K mg base a n)(BM:BMain base mg)(MK:Mks K mg){outer:List Env}(hr:Room n (A.deeper (PyProof.Rows.envOfC "_law_covered" (defScope q07) s.heap.objs.size f cdv))):
  DSs Z (cxOf (CX1 P w) P w K mg base ["_law_cover", "_law_wish", "_law_inside", "_law_cube"] "_law_covered" (defScope q07) f cdv A outer s H E) (fun _=>E) (defBody q07) (q3f K a (run K a n)):=
 (q0e (q0p 2 sc__law_covered.nd (q0s (q0r q0b)))
  (q0e (q63 3 sc__law_covered.nd PassesOwn.leaving rfl (dv 0)
  (q0f (q0p 2 sc__law_covered.nd (q0y (dv 2) (q0l C._law_rows hr pass1 (q0a (dv 3) q0b))))))
  (q0f (q0o (x4c (q00 hr) (q0s (q55 (x:="_law_number") (Nf:=["_law_wish", "_law_inside"]) (js:=[1,2]) (sc:=defScope q07) (N:=["_law_cover", "_law_wish", "_law_inside", "_law_cube"]) rfl B.b_range (q0a (q16 B.b_len (q0a (dv 1) q0b)) q0b) (by decide +kernel)
   (fun _ _ _ _ _ _=>(q3u (dt_w (z0n (x03 (q1p (dv 1) (dv 0)) q0n) (y6v (y0s (q00 hr) (dv 0) (dv 2)))))))
   (fun _ _ _ _ _ _=>(dv 0))
   (fun _ _ _ _ _=>q1e 0 (show(["_law_number", "_law_wish", "_law_inside"]:List Str).Nodup by decide +kernel)))) (q0s (q0r q0b)))))))
theorem q7a(h:run K a (n+1) q0u ws≠.no):ws.length=2/\(q3f K a (run K a n) (init 4 ws)).fn=run K a (n+1) q0u ws:=by
 rw[q6e]at h |-;split at h
 ·rename_i hl;rw[if_pos hl];exact⟨hl,rfl⟩
 ·exact absurd rfl h
theorem x1q(B:Blt P w K mg)(M:Exs K mg a)(C:Cals P w K mg base a n)(CH:CalsH P w K mg base a n)(BM:BMain base mg)(MK:Mks K mg)(A:Ats K mg):Cal P w K mg base (n+1) "_law_covered" ["_law_cover", "_law_wish"] (spF K (run K a (n+1) q0u)):=
 con A._law_covered sc__law_covered (fun ws hw=>(q7a hw).1) fun ws hw f cdv A outer s H E Z hr=>⟨_,x2c B M C CH BM MK hr,(q7a hw).2⟩
theorem x5x(B:Blt P w K mg)(M:Exs K mg a)(C:Cals P w K mg base a n)(CH:CalsH P w K mg base a n)(BM:BMain base mg)(MK:Mks K mg){outer:List Env}(hr:Room n (A.deeper (PyProof.Rows.envOfC "_law_grown" (defScope q1h) s.heap.objs.size f cdv))):
  DSs Z (cxOf (CX1 P w) P w K mg base ["_law_wish", "_law_number", "_law_many", "_law_mark_here", "_law_cube", "_law_k", "_law_at", "_law_wider"] "_law_grown" (defScope q1h) f cdv A outer s H E) (fun _=>E) (defBody q1h) (q37 K a (run K a n)):=
 (q0e (q6v 4 sc__law_grown.nd (x:="_law_k") (Nf:=["_law_number", "_law_many"]) (js:=[1,2]) (sc:=defScope q1h) (N:=["_law_wish", "_law_number", "_law_many", "_law_mark_here", "_law_cube", "_law_k", "_law_at", "_law_wider"]) rfl B.b_range (q0a (dv 2) q0b) (by decide +kernel)
   (fun _ _ _ _ _ _=>q2h)
   (fun _ _ _ _ _ _=>(x4c (q00 hr) (q33 (q89 (dv 1) (q1p (q0s (q0r (q0a q0d (q0a q0d (q0a q0d (q0a q0d (q0a q0d q0b))))))) (q64 (q64 (dv 2) q0d) (dv 0)))) q0d) q0d))
   (fun _ _ _ _ _=>q1e 0 (show(["_law_k", "_law_number", "_law_many"]:List Str).Nodup by decide +kernel)))
  (q0e (q5v 5 sc__law_grown.nd PassesOwn.leaving rfl B.b_range (q0a (dv 2) q0b)
  (q0e (q0p 6 sc__law_grown.nd (q33 (q0y (dv 3) (q3b (dv 5) (q1p (q0s (q0r (q0a q0d (q0a (q64 (dv 2) q0d) q0b)))) (q33 (q89 (dv 3) q0d) q0d)))) (dv 2)))
  (q0e (q0p 7 sc__law_grown.nd (q0y (q0y (q7h (dv 4) q9a (q9b (dv 6))) (q0s (q0r (q0a q3a q0b)))) (q7h (dv 4) (q9b (q0y (dv 6) q0d)) q9a)))
  (q0f (q1v (q4h (q0l C._law_fits hr pass1 (q0a (dv 7) (q0a (dv 0) q0b))))
  (q0f (q0p 4 sc__law_grown.nd (dv 7)))
  q05)))))
  (q0f (q0o (x4w B.b_tuple (q0a (dv 4) q0b))))))
theorem q8z(h:run K a (n+1) q2p ws≠.no):ws.length=4/\(q37 K a (run K a n) (init 8 ws)).fn=run K a (n+1) q2p ws:=by
 rw[q67]at h |-;split at h
 ·rename_i hl;rw[if_pos hl];exact⟨hl,rfl⟩
 ·exact absurd rfl h
theorem x37(B:Blt P w K mg)(M:Exs K mg a)(C:Cals P w K mg base a n)(CH:CalsH P w K mg base a n)(BM:BMain base mg)(MK:Mks K mg)(A:Ats K mg):Cal P w K mg base (n+1) "_law_grown" ["_law_wish", "_law_number", "_law_many", "_law_mark_here"] (spF K (run K a (n+1) q2p)):=
 con A._law_grown sc__law_grown (fun ws hw=>(q8z hw).1) fun ws hw f cdv A outer s H E Z hr=>⟨_,x5x B M C CH BM MK hr,(q8z hw).2⟩
theorem x2d(B:Blt P w K mg)(M:Exs K mg a)(C:Cals P w K mg base a n)(CH:CalsH P w K mg base a n)(BM:BMain base mg)(MK:Mks K mg){outer:List Env}(hr:Room n (A.deeper (PyProof.Rows.envOfC "_law_subsets" (defScope q08) s.heap.objs.size f cdv))):
  DSs Z (cxOf (CX1 P w) P w K mg base ["_law_listed", "_law_count", "_law_found", "_law_prime"] "_law_subsets" (defScope q08) f cdv A outer s H E) (fun _=>E) (defBody q08) (q3g K a (run K a n)):=
 (q0e (q0p 2 sc__law_subsets.nd (q0s (q0r (q0a (q0s (q0r q0b)) q0b))))
  (q0e (q63 3 sc__law_subsets.nd PassesOwn.leaving rfl (dv 0)
  (q0f (q0p 2 sc__law_subsets.nd (q0y (dv 2) (q0s (q2v (x:="_law_some") (Nf:=["_law_count", "_law_prime"]) (js:=[1,3]) (sc:=defScope q08) (N:=["_law_listed", "_law_count", "_law_found", "_law_prime"]) rfl (dv 2) (by decide +kernel)
   (fun _ _ _ _ _ _=>(q3u (x4d (q16 B.b_len (q0a (dv 0) q0b)) (dv 1))))
   (fun _ _ _ _ _ _=>(q0y (dv 0) (q0s (q0r (q0a (dv 2) q0b)))))
   (fun _ _ _ _ _=>q1e 0 (show(["_law_some", "_law_count", "_law_prime"]:List Str).Nodup by decide +kernel))))))))
  (q0f (q0o (dv 2)))))
theorem q7b(h:run K a (n+1) q1t ws≠.no):ws.length=2/\(q3g K a (run K a n) (init 4 ws)).fn=run K a (n+1) q1t ws:=by
 rw[q6f]at h |-;split at h
 ·rename_i hl;rw[if_pos hl];exact⟨hl,rfl⟩
 ·exact absurd rfl h
theorem x1r(B:Blt P w K mg)(M:Exs K mg a)(C:Cals P w K mg base a n)(CH:CalsH P w K mg base a n)(BM:BMain base mg)(MK:Mks K mg)(A:Ats K mg):Cal P w K mg base (n+1) "_law_subsets" ["_law_listed", "_law_count"] (spF K (run K a (n+1) q1t)):=
 con A._law_subsets sc__law_subsets (fun ws hw=>(q7b hw).1) fun ws hw f cdv A outer s H E Z hr=>⟨_,x2d B M C CH BM MK hr,(q7b hw).2⟩
theorem q9i(B:Blt P w K mg)(M:Exs K mg a)(C:Cals P w K mg base a n)(CH:CalsH P w K mg base a n)(BM:BMain base mg)(MK:Mks K mg){outer:List Env}(hr:Room n (A.deeper (PyProof.Rows.envOfC "_law_none_fewer" (defScope q0x) s.heap.objs.size f cdv))):
  DSs Z (cxOf (CX1 P w) P w K mg base ["_law_wish", "_law_listed", "_law_count", "_law_script", "_law_many", "_law_wished", "_law_some", "_law_k"] "_law_none_fewer" (defScope q0x) f cdv A outer s H E) (fun _=>E) (defBody q0x) (q2l K a (run K a n)):=
 (q0e (q6v 5 sc__law_none_fewer.nd (x:="_law_number") (Nf:=["_law_wish"]) (js:=[0]) (sc:=defScope q0x) (N:=["_law_wish", "_law_listed", "_law_count", "_law_script", "_law_many", "_law_wished", "_law_some", "_law_k"]) rfl B.b_range (q0a (q16 B.b_len (q0a (dv 0) q0b)) q0b) (by decide +kernel)
   (fun _ _ _ _ _ _=>(q3u (x03 (q1p (dv 1) (dv 0)) q0n)))
   (fun _ _ _ _ _ _=>(dv 0))
   (fun _ _ _ _ _=>q1e 0 (show(["_law_number", "_law_wish"]:List Str).Nodup by decide +kernel)))
  (q0e (q8j 6 sc__law_none_fewer.nd (q0r q0b))
  (q0e (q5v 7 sc__law_none_fewer.nd PassesOwn.leaving rfl B.b_range (q0a (dv 2) q0b)
  (q0f (x4r 6 (q0a (q0l C._law_grown hr pass1 (q0a (dv 0) (q0a (q1p (dv 5) (q33 (q0l C._law_mark hr pass1 (q0a (dv 3) (q0a (q0y q0d (dv 7)) q0b))) (q16 B.b_len (q0a (dv 5) q0b)))) (q0a (dv 4) (q0a (q0l C._law_mark hr pass1 (q0a (dv 3) (q0a (q0y q0d (dv 7)) q0b))) q0b))))) q0b))))
  (q0e (q1v (q4h (q6k fun _=>(q0l C._law_covered hr pass1 (q0a (dv 6) (q0a (dv 0) q0b)))))
  (q0f (q0o q0n))
  q05)
  (q0e (q1v (x4d (q16 B.b_len (q0a (dv 1) q0b)) q0d)
  (q0f (q63 6 sc__law_none_fewer.nd PassesOwn.leaving rfl (q0l C._law_subsets hr pass1 (q0a (dv 1) (q0a (dv 2) q0b)))
  (q0f (q1v (q4h (q6k fun _=>(q0l C._law_covered hr pass1 (q0a (dv 6) (q0a (dv 0) q0b)))))
  (q0f (q0o q0n))
  q05))))
  q05)
  (q0f (q0o q0n)))))))
theorem q5q(h:run K a (n+1) q04 ws≠.no):ws.length=5/\(q2l K a (run K a n) (init 8 ws)).fn=run K a (n+1) q04 ws:=by
 rw[q46]at h |-;split at h
 ·rename_i hl;rw[if_pos hl];exact⟨hl,rfl⟩
 ·exact absurd rfl h
theorem q80(B:Blt P w K mg)(M:Exs K mg a)(C:Cals P w K mg base a n)(CH:CalsH P w K mg base a n)(BM:BMain base mg)(MK:Mks K mg)(A:Ats K mg):Cal P w K mg base (n+1) "_law_none_fewer" ["_law_wish", "_law_listed", "_law_count", "_law_script", "_law_many"] (spF K (run K a (n+1) q04)):=
 con A._law_none_fewer sc__law_none_fewer (fun ws hw=>(q5q hw).1) fun ws hw f cdv A outer s H E Z hr=>⟨_,q9i B M C CH BM MK hr,(q5q hw).2⟩
theorem x2e(B:Blt P w K mg)(M:Exs K mg a)(C:Cals P w K mg base a n)(CH:CalsH P w K mg base a n)(BM:BMain base mg)(MK:Mks K mg){outer:List Env}(hr:Room (n+2) (A.deeper (PyProof.Rows.envOfC "_law_refused" (defScope q1d) s.heap.objs.size f cdv))):
  DSs Z (cxOf (CX1 P w) P w K mg base ["_law_wish", "e"] "_law_refused" (defScope q1d) f cdv A outer s H E) (fun _=>E) (defBody q1d) (q3h K a (run K a n)):=
 (q0e (z0q M.m_CircuitError sc__law_refused.nd (i:=1) rfl rfl (fun EE pn xe hx1=>(q0f (x7h (q0l C.least_cover hr hx1 (q0a (dv 0) q0b)))))
  (fun e=>(q0f (q0o (x4v (c0:=.ref _) rfl (y61 M.m_NoTable) B.b_isinstance (dv 1))))))
  (q0f (q0o q0n)))
theorem q7c(h:run K a (n+1) q1o ws≠.no):ws.length=1/\(q3h K a (run K a n) (init 2 ws)).fn=run K a (n+1) q1o ws:=by
 rw[q6g]at h |-;split at h
 ·rename_i hl;rw[if_pos hl];exact⟨hl,rfl⟩
 ·exact absurd rfl h
theorem x1s(B:Blt P w K mg)(M:Exs K mg a)(C:Cals P w K mg base a n)(CH:CalsH P w K mg base a n)(BM:BMain base mg)(MK:Mks K mg)(A:Ats K mg):Cal P w K mg base (n+3) "_law_refused" ["_law_wish"] (spF K (run K a (n+1) q1o)):=
 con A._law_refused sc__law_refused (fun ws hw=>(q7c hw).1) fun ws hw f cdv A outer s H E Z hr=>⟨_,x2e B M C CH BM MK hr,(q7c hw).2⟩
theorem y56(B:Blt P w K mg)(M:Exs K mg a)(C:Cals P w K mg base a n)(CH:CalsH P w K mg base a n)(BM:BMain base mg)(MK:Mks K mg){outer:List Env}(hr:Room (n+2) (A.deeper (PyProof.Rows.envOfC "law" (defScope q31) s.heap.objs.size f cdv)))(hz:Z.H=H/\Z.io=[]):
  DSs Z (cxOf (CX1 P w) P w K mg base ["_law_script", "_law_many", "_law_wish", "_law_listed", "_law_handed", "_law_found", "_law_cover"] "law" (defScope q31) f cdv A outer s H E) (fun _=>E) (defBody q31) (x1g K a (run K a n)):=
 (q0e (q1v (q6j (q00 hr) (q89 (q0l C._law_way (hr.mono (by omega)) pass1 (q0a (dv 0) (q0a q0d (q0a q0d q0b)))) q0d) q0d)
  (q0f (q0o (q0l C._law_refused hr pass1 (q0a (q0l C._law_odd_wish (hr.mono (by omega)) pass1 (q0a (dv 0) q0b)) q0b))))
  q05)
  (q0e (q0p 1 sc_law.nd (q0l C._law_way (hr.mono (by omega)) pass1 (q0a (dv 0) (q0a q0d (q0a q0d q0b)))))
  (q0e (q0p 2 sc_law.nd (q0l C._law_wish_by (hr.mono (by omega)) pass1 (q0a (dv 0) (q0a (dv 1) q0b))))
  (q0e (q1v (q6j (q00 hr) (q0l C._law_way (hr.mono (by omega)) pass1 (q0a (dv 0) (q0a q0d (q0a q0d q0b)))) q0d)
  (q0e (q0p 1 sc_law.nd q0d)
  (q0f (q6v 2 sc_law.nd (x:="_law_k") (Nf:=["_law_script"]) (js:=[0]) (sc:=defScope q31) (N:=["_law_script", "_law_many", "_law_wish", "_law_listed", "_law_handed", "_law_found", "_law_cover"]) rfl B.b_range (q0a q0d q0b) (by decide +kernel)
   (fun _ _ _ _ _ _=>q2h)
   (fun _ _ _ _ _ _=>(y0r (q00 hr) (dv 0) (q2n (q0a (q0l C._law_way (hr.mono (by omega)) passE (q0a (dv 1) (q0a q0d (q0a q0d q0b)))) (q0a (q64 q0d (q0l C._law_way (hr.mono (by omega)) passE (q0a (dv 1) (q0a q0d (q0a q0d q0b))))) q0b)))))
   (fun _ _ _ _ _=>q1e 0 (show(["_law_k", "_law_script"]:List Str).Nodup by decide +kernel)))))
  q05)
  (q0e (q0p 3 sc_law.nd (q0l C.primes (hr.mono (by omega)) pass1 (q0a (dv 2) q0b)))
  (q0e (q8j 4 sc_law.nd (x7m B.b_list (q0a (dv 2) q0b)))
  (q0e (y45 5 hz.2 sc_law.nd C.least_cover hr pass1 (fun _=>(q0a (dv 4) q0b)))
  (q0e (q1v (dt_w (x4b (q8i (q4h (q6k fun _=>(x4v (c0:=.ty _) rfl (x7l PyProof.Rows.Boot.«tuple» B.b_tuple) B.b_isinstance (dv 5))))) (x4b (x28 fun _=>(q7g (q00 hr) (q16 B.b_len (q0a (dv 5) q0b)) q0d)) (x4b (q8i (q4h (q6k fun _=>(x4v (c0:=.ty _) rfl (x7l PyProof.Rows.Boot.«list» B.b_list) B.b_isinstance (q1p (dv 5) q0d))))) (x95 (x28 fun _=>(q7g (q00 hr) (dv 4) (dv 2))))))))
  (q0f (q0o q0n))
  q05)
  (q0e (q0p 6 sc_law.nd (q0s (y8q hz.2 fun _=>(x7m B.b_list (q0a (q1p (dv 5) q0d) q0b)))))
  (q0e (q1v (dt_w (x4b (q7g (q00 hr) (dv 6) (q0s (q2v (x:="_law_prime") (Nf:=["_law_cover"]) (js:=[6]) (sc:=defScope q31) (N:=["_law_script", "_law_many", "_law_wish", "_law_listed", "_law_handed", "_law_found", "_law_cover"]) rfl (dv 3) (by decide +kernel)
   (fun _ _ _ _ _ _=>(q3u (z23 (q00 hr) (dv 0) (dv 1))))
   (fun _ _ _ _ _ _=>(dv 0))
   (fun _ _ _ _ _=>q1e 0 (show(["_law_prime", "_law_cover"]:List Str).Nodup by decide +kernel))))) (x95 (q8i (q4h (q0l C._law_covered (hr.mono (by omega)) pass1 (q0a (dv 6) (q0a (dv 2) q0b))))))))
  (q0f (q0o q0n))
  q05)
  (q0e (y46 5 hz.1)
  (q0e (y4g 4)
  (q0e (q1v (q7g (q00 hr) (q1p (q0l C.least_cover hr pass1 (q0a (dv 2) q0b)) q0d) (dv 6))
  (q0f (q0o q0n))
  q05)
  (q0e (q1v (q6j (q00 hr) (dv 6) (q0s (q0r q0b)))
  (q0f (q0o (y0r (q00 hr) q0n (dv 2))))
  q05)
  (q0f (q0o (q0l C._law_none_fewer (hr.mono (by omega)) pass1 (q0a (dv 2) (q0a (dv 3) (q0a (q64 (q16 B.b_len (q0a (dv 6) q0b)) q0d) (q0a (dv 0) (q0a (dv 1) q0b))))))))))))))))))))))
theorem x4e(h:run K a (n+1) q5s ws≠.no):ws.length=1/\(x1g K a (run K a n) (init 7 ws)).fn=run K a (n+1) q5s ws:=by
 rw[x7x]at h |-;split at h
 ·rename_i hl;rw[if_pos hl];exact⟨hl,rfl⟩
 ·exact absurd rfl h
theorem z25(B:Blt P w K mg)(M:Exs K mg a)(C:Cals P w K mg base a n)(CH:CalsH P w K mg base a n)(BM:BMain base mg)(MK:Mks K mg)(A:Ats K mg):Cal P w K mg base (n+3) "law" ["_law_script"] (spF K (run K a (n+1) q5s)):=
 conZ A.law sc_law (fun ws hw=>(x4e hw).1) fun ws hw f cdv A outer s H E Z hr hz=>⟨_,y56 B M C CH BM MK hr hz,(x4e hw).2⟩
theorem allH(A:Ats K mg)(B:Blt P w K mg)(M:Exs K mg a):∀n,CalsH P w K mg base a n
 |0=>⟨trivial⟩
 |n+1=>⟨trivial⟩
theorem x5y(B:Blt P w K mg)(M:Exs K mg a)(C:Cals P w K mg base a n)(CH:CalsH P w K mg base a n):LamOk P w K mg base n q5t ["number"] (run K a (n+1) q1u) where
 sc:=⟨rfl,rfl,rfl,by decide +kernel,by decide +kernel,by decide +kernel,by decide +kernel⟩
 bind:=fun cl pm c' ctv=>us1 fun _=>rfl
 len:=fun ws h=>by
  rw[q4u]at h;split at h
  ·assumption
  ·exact absurd rfl h
 body:=fun ws h Z f cd cl A outer s H hr=>⟨q4a K a (run K a n),(q16 B.b_len (q0a (q0l C.having hr passE (q0a (dv 1) (q0a (dv 0) q0b))) q0b)),by
  rw[q4u]at h |-;split at h
  ·rename_i hl;rw[if_pos hl]
  ·exact absurd rfl h⟩
theorem okl(B:Blt P w K mg)(M:Exs K mg a)(C:Cals P w K mg base a n)(CH:CalsH P w K mg base a n):FnV P w K mg base (CX1 P w) (n+1) (spV K lams (run K a (n+1))):=z2x fun i l h=>by
 unfold lams at h;split at h
 ·cases h;exact⟨_,x5y B M C CH⟩
 ·cases h
theorem all(A:Ats K mg)(B:Blt P w K mg)(M:Exs K mg a)(BM:BMain base mg)(MK:Mks K mg):∀n,Cals P w K mg base a n
 |0=>⟨con0 A.row_of,con0 A.rows_many,con0 A.all_rows,con0 A.in_cube,con0 A.rows_in,con0 A.cube_text,con0 A.places_of,con0 A.wish_places,con0 A.fits,con0 A.primes,con0 A.all_cubes,con0 A.is_prime,con0 A.wider_cubes,con0 A.wished_rows,con0 A.rows_left,con0K A.least_cover,con0 A.reaches_of,con0K A.tried,con0K A.rarest,con0 A.having,con0 A._law_cell_at,con0 A._law_way,con0 A._law_mark,con0 A._law_rows,con0 A._law_wish_by,con0 A._law_odd_wish,con0 A._law_fits,con0 A._law_covered,con0 A._law_grown,con0 A._law_subsets,con0 A._law_none_fewer,con0K A._law_refused,con0K A.law,fnV0⟩
 |n+1=>⟨y11 B M (all A B M BM MK n) (allH A B M n) BM MK A,x5l B M (all A B M BM MK n) (allH A B M n) BM MK A,x6t B M (all A B M BM MK n) (allH A B M n) BM MK A,x88 B M (all A B M BM MK n) (allH A B M n) BM MK A,x89 B M (all A B M BM MK n) (allH A B M n) BM MK A,x5m B M (all A B M BM MK n) (allH A B M n) BM MK A,x5n B M (all A B M BM MK n) (allH A B M n) BM MK A,x16 B M (all A B M BM MK n) (allH A B M n) BM MK A,y88 B M (all A B M BM MK n) (allH A B M n) BM MK A,y15 B M (all A B M BM MK n) (allH A B M n) BM MK A,x5p B M (all A B M BM MK n) (allH A B M n) BM MK A,x6x B M (all A B M BM MK n) (allH A B M n) BM MK A,x17 B M (all A B M BM MK n) (allH A B M n) BM MK A,x18 B M (all A B M BM MK n) (allH A B M n) BM MK A,x5q B M (all A B M BM MK n) (allH A B M n) BM MK A,x19 B M (all A B M BM MK n) (allH A B M n) BM MK A,x36 B M (all A B M BM MK n) (allH A B M n) BM MK A,y5g B M (all A B M BM MK n) (allH A B M n) BM MK A,y16 B M (all A B M BM MK n) (allH A B M n) BM MK A,y17 B M (all A B M BM MK n) (allH A B M n) BM MK A,x1m B M (all A B M BM MK n) (allH A B M n) BM MK A,x6z B M (all A B M BM MK n) (allH A B M n) BM MK A,x5u B M (all A B M BM MK n) (allH A B M n) BM MK A,x5v B M (all A B M BM MK n) (allH A B M n) BM MK A,x1o B M (all A B M BM MK n) (allH A B M n) BM MK A,x0h B M (all A B M BM MK n) (allH A B M n) BM MK A,x5w B M (all A B M BM MK n) (allH A B M n) BM MK A,x1q B M (all A B M BM MK n) (allH A B M n) BM MK A,x37 B M (all A B M BM MK n) (allH A B M n) BM MK A,x1r B M (all A B M BM MK n) (allH A B M n) BM MK A,q80 B M (all A B M BM MK n) (allH A B M n) BM MK A,x1s B M (all A B M BM MK n) (allH A B M n) BM MK A,z25 B M (all A B M BM MK n) (allH A B M n) BM MK A,okl B M (all A B M BM MK n) (allH A B M n)⟩
theorem law_fn{fd:FuncData}(A:Ats K mg)(B:Blt P w K mg)(M:Exs K mg a)(BM:BMain base mg)(MK:Mks K mg)(F:Fun K "law" "law" q31 f fd)(n:Nat):FnOk P w K mg base (CX1 P w) (n+3) f fd ["_law_script"] (spF K (run K a (n+1) q5s)):=
 conFZ F sc_law (fun ws hw=>(x4e hw).1) fun ws hw cdv A' outer s H E Z hr hz=>⟨_,y56 B M (all A B M BM MK n) (allH A B M n) BM MK hr hz,(x4e hw).2⟩
end
theorem mk{l:PySem.W.OpenLaw}{w:World}{h:Heap}{fa:Addr}(X:K.In h)(G:h.Ns mainGlobals mg)(hfa:mg "law"=some (.ref fa))
  {f0:Addr}{od0 an0:Option Addr}{sl0:Array (Option Value)}{oc0 kV0 dc0 pm0 cd0 ct0:Value}
  {f1:Addr}{od1 an1:Option Addr}{sl1:Array (Option Value)}{oc1 kV1 dc1 pm1 cd1 ct1:Value}
  {f2:Addr}{od2 an2:Option Addr}{sl2:Array (Option Value)}{oc2 kV2 dc2 pm2 cd2 ct2:Value}
  {f3:Addr}{od3 an3:Option Addr}{sl3:Array (Option Value)}{oc3 kV3 dc3 pm3 cd3 ct3:Value}
  {f4:Addr}{od4 an4:Option Addr}{sl4:Array (Option Value)}{oc4 kV4 dc4 pm4 cd4 ct4:Value}
  {f5:Addr}{od5 an5:Option Addr}{sl5:Array (Option Value)}{oc5 kV5 dc5 pm5 cd5 ct5:Value}
  {f6:Addr}{od6 an6:Option Addr}{sl6:Array (Option Value)}{oc6 kV6 dc6 pm6 cd6 ct6:Value}
  {f7:Addr}{od7 an7:Option Addr}{sl7:Array (Option Value)}{oc7 kV7 dc7 pm7 cd7 ct7:Value}
  {f8:Addr}{od8 an8:Option Addr}{sl8:Array (Option Value)}{oc8 kV8 dc8 pm8 cd8 ct8:Value}
  {f9:Addr}{od9 an9:Option Addr}{sl9:Array (Option Value)}{oc9 kV9 dc9 pm9 cd9 ct9:Value}
  {f10:Addr}{od10 an10:Option Addr}{sl10:Array (Option Value)}{oc10 kV10 dc10 pm10 cd10 ct10:Value}
  {f11:Addr}{od11 an11:Option Addr}{sl11:Array (Option Value)}{oc11 kV11 dc11 pm11 cd11 ct11:Value}
  {f12:Addr}{od12 an12:Option Addr}{sl12:Array (Option Value)}{oc12 kV12 dc12 pm12 cd12 ct12:Value}
  {f13:Addr}{od13 an13:Option Addr}{sl13:Array (Option Value)}{oc13 kV13 dc13 pm13 cd13 ct13:Value}
  {f14:Addr}{od14 an14:Option Addr}{sl14:Array (Option Value)}{oc14 kV14 dc14 pm14 cd14 ct14:Value}
  {f15:Addr}{od15 an15:Option Addr}{sl15:Array (Option Value)}{oc15 kV15 dc15 pm15 cd15 ct15:Value}
  {f16:Addr}{od16 an16:Option Addr}{sl16:Array (Option Value)}{oc16 kV16 dc16 pm16 cd16 ct16:Value}
  {f17:Addr}{od17 an17:Option Addr}{sl17:Array (Option Value)}{oc17 kV17 dc17 pm17 cd17 ct17:Value}
  {f18:Addr}{od18 an18:Option Addr}{sl18:Array (Option Value)}{oc18 kV18 dc18 pm18 cd18 ct18:Value}
  {f19:Addr}{od19 an19:Option Addr}{sl19:Array (Option Value)}{oc19 kV19 dc19 pm19 cd19 ct19:Value}
  {f20:Addr}{od20 an20:Option Addr}{sl20:Array (Option Value)}{oc20 kV20 dc20 pm20 cd20 ct20:Value}
  {f21:Addr}{od21 an21:Option Addr}{sl21:Array (Option Value)}{oc21 kV21 dc21 pm21 cd21 ct21:Value}
  {f22:Addr}{od22 an22:Option Addr}{sl22:Array (Option Value)}{oc22 kV22 dc22 pm22 cd22 ct22:Value}
  {f23:Addr}{od23 an23:Option Addr}{sl23:Array (Option Value)}{oc23 kV23 dc23 pm23 cd23 ct23:Value}
  {f24:Addr}{od24 an24:Option Addr}{sl24:Array (Option Value)}{oc24 kV24 dc24 pm24 cd24 ct24:Value}
  {f25:Addr}{od25 an25:Option Addr}{sl25:Array (Option Value)}{oc25 kV25 dc25 pm25 cd25 ct25:Value}
  {f26:Addr}{od26 an26:Option Addr}{sl26:Array (Option Value)}{oc26 kV26 dc26 pm26 cd26 ct26:Value}
  {f27:Addr}{od27 an27:Option Addr}{sl27:Array (Option Value)}{oc27 kV27 dc27 pm27 cd27 ct27:Value}
  {f28:Addr}{od28 an28:Option Addr}{sl28:Array (Option Value)}{oc28 kV28 dc28 pm28 cd28 ct28:Value}
  {f29:Addr}{od29 an29:Option Addr}{sl29:Array (Option Value)}{oc29 kV29 dc29 pm29 cd29 ct29:Value}
  {f30:Addr}{od30 an30:Option Addr}{sl30:Array (Option Value)}{oc30 kV30 dc30 pm30 cd30 ct30:Value}
  {f31:Addr}{od31 an31:Option Addr}{sl31:Array (Option Value)}{oc31 kV31 dc31 pm31 cd31 ct31:Value}
  {f32:Addr}{od32 an32:Option Addr}{sl32:Array (Option Value)}{oc32 kV32 dc32 pm32 cd32 ct32:Value}
  {A_CircuitError:Addr}
  {A_NoRow:Addr}
  {A_NoTable:Addr}
  {A_MOST_PLACES_tables:Value}
  {A_MOST_PLACES_covers:Value}
  {cc18 PP18:Addr}
  {A_SIGNS:Addr}
  (a0:PySem.W.nsIn K mainGlobals "row_of"=some (some (.ref f0)))
  (l0:K.lookup f0=some ⟨oc0,od0,.func (PySem.W.fnOf "row_of" "row_of" (defArgs q29) (defBody q29) (defScope q29) .none kV0 dc0 pm0 an0 cd0 ct0),sl0⟩)
  (c0:PySem.W.codeIn K cd0 "row_of"=true)
  (k0:keepIn K (.ref f0)=true)
  (a1:PySem.W.nsIn K mainGlobals "rows_many"=some (some (.ref f1)))
  (l1:K.lookup f1=some ⟨oc1,od1,.func (PySem.W.fnOf "rows_many" "rows_many" (defArgs q1x) (defBody q1x) (defScope q1x) .none kV1 dc1 pm1 an1 cd1 ct1),sl1⟩)
  (c1:PySem.W.codeIn K cd1 "rows_many"=true)
  (k1:keepIn K (.ref f1)=true)
  (a2:PySem.W.nsIn K mainGlobals "all_rows"=some (some (.ref f2)))
  (l2:K.lookup f2=some ⟨oc2,od2,.func (PySem.W.fnOf "all_rows" "all_rows" (defArgs q14) (defBody q14) (defScope q14) .none kV2 dc2 pm2 an2 cd2 ct2),sl2⟩)
  (c2:PySem.W.codeIn K cd2 "all_rows"=true)
  (k2:keepIn K (.ref f2)=true)
  (a3:PySem.W.nsIn K mainGlobals "in_cube"=some (some (.ref f3)))
  (l3:K.lookup f3=some ⟨oc3,od3,.func (PySem.W.fnOf "in_cube" "in_cube" (defArgs q2f) (defBody q2f) (defScope q2f) .none kV3 dc3 pm3 an3 cd3 ct3),sl3⟩)
  (c3:PySem.W.codeIn K cd3 "in_cube"=true)
  (k3:keepIn K (.ref f3)=true)
  (a4:PySem.W.nsIn K mainGlobals "rows_in"=some (some (.ref f4)))
  (l4:K.lookup f4=some ⟨oc4,od4,.func (PySem.W.fnOf "rows_in" "rows_in" (defArgs q2g) (defBody q2g) (defScope q2g) .none kV4 dc4 pm4 an4 cd4 ct4),sl4⟩)
  (c4:PySem.W.codeIn K cd4 "rows_in"=true)
  (k4:keepIn K (.ref f4)=true)
  (a5:PySem.W.nsIn K mainGlobals "cube_text"=some (some (.ref f5)))
  (l5:K.lookup f5=some ⟨oc5,od5,.func (PySem.W.fnOf "cube_text" "cube_text" (defArgs q1q) (defBody q1q) (defScope q1q) .none kV5 dc5 pm5 an5 cd5 ct5),sl5⟩)
  (c5:PySem.W.codeIn K cd5 "cube_text"=true)
  (k5:keepIn K (.ref f5)=true)
  (a6:PySem.W.nsIn K mainGlobals "places_of"=some (some (.ref f6)))
  (l6:K.lookup f6=some ⟨oc6,od6,.func (PySem.W.fnOf "places_of" "places_of" (defArgs q1y) (defBody q1y) (defScope q1y) .none kV6 dc6 pm6 an6 cd6 ct6),sl6⟩)
  (c6:PySem.W.codeIn K cd6 "places_of"=true)
  (k6:keepIn K (.ref f6)=true)
  (a7:PySem.W.nsIn K mainGlobals "wish_places"=some (some (.ref f7)))
  (l7:K.lookup f7=some ⟨oc7,od7,.func (PySem.W.fnOf "wish_places" "wish_places" (defArgs q1k) (defBody q1k) (defScope q1k) .none kV7 dc7 pm7 an7 cd7 ct7),sl7⟩)
  (c7:PySem.W.codeIn K cd7 "wish_places"=true)
  (k7:keepIn K (.ref f7)=true)
  (a8:PySem.W.nsIn K mainGlobals "fits"=some (some (.ref f8)))
  (l8:K.lookup f8=some ⟨oc8,od8,.func (PySem.W.fnOf "fits" "fits" (defArgs q36) (defBody q36) (defScope q36) .none kV8 dc8 pm8 an8 cd8 ct8),sl8⟩)
  (c8:PySem.W.codeIn K cd8 "fits"=true)
  (k8:keepIn K (.ref f8)=true)
  (a9:PySem.W.nsIn K mainGlobals "primes"=some (some (.ref f9)))
  (l9:K.lookup f9=some ⟨oc9,od9,.func (PySem.W.fnOf "primes" "primes" (defArgs q2q) (defBody q2q) (defScope q2q) .none kV9 dc9 pm9 an9 cd9 ct9),sl9⟩)
  (c9:PySem.W.codeIn K cd9 "primes"=true)
  (k9:keepIn K (.ref f9)=true)
  (a10:PySem.W.nsIn K mainGlobals "all_cubes"=some (some (.ref f10)))
  (l10:K.lookup f10=some ⟨oc10,od10,.func (PySem.W.fnOf "all_cubes" "all_cubes" (defArgs q1z) (defBody q1z) (defScope q1z) .none kV10 dc10 pm10 an10 cd10 ct10),sl10⟩)
  (c10:PySem.W.codeIn K cd10 "all_cubes"=true)
  (k10:keepIn K (.ref f10)=true)
  (a11:PySem.W.nsIn K mainGlobals "is_prime"=some (some (.ref f11)))
  (l11:K.lookup f11=some ⟨oc11,od11,.func (PySem.W.fnOf "is_prime" "is_prime" (defArgs q1s) (defBody q1s) (defScope q1s) .none kV11 dc11 pm11 an11 cd11 ct11),sl11⟩)
  (c11:PySem.W.codeIn K cd11 "is_prime"=true)
  (k11:keepIn K (.ref f11)=true)
  (a12:PySem.W.nsIn K mainGlobals "wider_cubes"=some (some (.ref f12)))
  (l12:K.lookup f12=some ⟨oc12,od12,.func (PySem.W.fnOf "wider_cubes" "wider_cubes" (defArgs q09) (defBody q09) (defScope q09) .none kV12 dc12 pm12 an12 cd12 ct12),sl12⟩)
  (c12:PySem.W.codeIn K cd12 "wider_cubes"=true)
  (k12:keepIn K (.ref f12)=true)
  (a13:PySem.W.nsIn K mainGlobals "wished_rows"=some (some (.ref f13)))
  (l13:K.lookup f13=some ⟨oc13,od13,.func (PySem.W.fnOf "wished_rows" "wished_rows" (defArgs q1a) (defBody q1a) (defScope q1a) .none kV13 dc13 pm13 an13 cd13 ct13),sl13⟩)
  (c13:PySem.W.codeIn K cd13 "wished_rows"=true)
  (k13:keepIn K (.ref f13)=true)
  (a14:PySem.W.nsIn K mainGlobals "rows_left"=some (some (.ref f14)))
  (l14:K.lookup f14=some ⟨oc14,od14,.func (PySem.W.fnOf "rows_left" "rows_left" (defArgs q1r) (defBody q1r) (defScope q1r) .none kV14 dc14 pm14 an14 cd14 ct14),sl14⟩)
  (c14:PySem.W.codeIn K cd14 "rows_left"=true)
  (k14:keepIn K (.ref f14)=true)
  (a15:PySem.W.nsIn K mainGlobals "least_cover"=some (some (.ref f15)))
  (l15:K.lookup f15=some ⟨oc15,od15,.func (PySem.W.fnOf "least_cover" "least_cover" (defArgs q1l) (defBody q1l) (defScope q1l) .none kV15 dc15 pm15 an15 cd15 ct15),sl15⟩)
  (c15:PySem.W.codeIn K cd15 "least_cover"=true)
  (k15:keepIn K (.ref f15)=true)
  (a16:PySem.W.nsIn K mainGlobals "reaches_of"=some (some (.ref f16)))
  (l16:K.lookup f16=some ⟨oc16,od16,.func (PySem.W.fnOf "reaches_of" "reaches_of" (defArgs q1g) (defBody q1g) (defScope q1g) .none kV16 dc16 pm16 an16 cd16 ct16),sl16⟩)
  (c16:PySem.W.codeIn K cd16 "reaches_of"=true)
  (k16:keepIn K (.ref f16)=true)
  (a17:PySem.W.nsIn K mainGlobals "tried"=some (some (.ref f17)))
  (l17:K.lookup f17=some ⟨oc17,od17,.func (PySem.W.fnOf "tried" "tried" (defArgs q3w) (defBody q3w) (defScope q3w) .none kV17 dc17 pm17 an17 cd17 ct17),sl17⟩)
  (c17:PySem.W.codeIn K cd17 "tried"=true)
  (k17:keepIn K (.ref f17)=true)
  (a18:PySem.W.nsIn K mainGlobals "rarest"=some (some (.ref f18)))
  (l18:K.lookup f18=some ⟨oc18,od18,.func (PySem.W.fnOf "rarest" "rarest" (defArgs q2k) (defBody q2k) (defScope q2k) .none kV18 dc18 pm18 an18 cd18 ct18),sl18⟩)
  (c18:PySem.W.codeIn K cd18 "rarest"=true)
  (k18:keepIn K (.ref f18)=true)
  (a19:PySem.W.nsIn K mainGlobals "having"=some (some (.ref f19)))
  (l19:K.lookup f19=some ⟨oc19,od19,.func (PySem.W.fnOf "having" "having" (defArgs q2r) (defBody q2r) (defScope q2r) .none kV19 dc19 pm19 an19 cd19 ct19),sl19⟩)
  (c19:PySem.W.codeIn K cd19 "having"=true)
  (k19:keepIn K (.ref f19)=true)
  (a20:PySem.W.nsIn K mainGlobals "_law_cell_at"=some (some (.ref f20)))
  (l20:K.lookup f20=some ⟨oc20,od20,.func (PySem.W.fnOf "_law_cell_at" "_law_cell_at" (defArgs q1b) (defBody q1b) (defScope q1b) .none kV20 dc20 pm20 an20 cd20 ct20),sl20⟩)
  (c20:PySem.W.codeIn K cd20 "_law_cell_at"=true)
  (k20:keepIn K (.ref f20)=true)
  (a21:PySem.W.nsIn K mainGlobals "_law_way"=some (some (.ref f21)))
  (l21:K.lookup f21=some ⟨oc21,od21,.func (PySem.W.fnOf "_law_way" "_law_way" (defArgs q2c) (defBody q2c) (defScope q2c) .none kV21 dc21 pm21 an21 cd21 ct21),sl21⟩)
  (c21:PySem.W.codeIn K cd21 "_law_way"=true)
  (k21:keepIn K (.ref f21)=true)
  (a22:PySem.W.nsIn K mainGlobals "_law_mark"=some (some (.ref f22)))
  (l22:K.lookup f22=some ⟨oc22,od22,.func (PySem.W.fnOf "_law_mark" "_law_mark" (defArgs q10) (defBody q10) (defScope q10) .none kV22 dc22 pm22 an22 cd22 ct22),sl22⟩)
  (c22:PySem.W.codeIn K cd22 "_law_mark"=true)
  (k22:keepIn K (.ref f22)=true)
  (a23:PySem.W.nsIn K mainGlobals "_law_rows"=some (some (.ref f23)))
  (l23:K.lookup f23=some ⟨oc23,od23,.func (PySem.W.fnOf "_law_rows" "_law_rows" (defArgs q1c) (defBody q1c) (defScope q1c) .none kV23 dc23 pm23 an23 cd23 ct23),sl23⟩)
  (c23:PySem.W.codeIn K cd23 "_law_rows"=true)
  (k23:keepIn K (.ref f23)=true)
  (a24:PySem.W.nsIn K mainGlobals "_law_wish_by"=some (some (.ref f24)))
  (l24:K.lookup f24=some ⟨oc24,od24,.func (PySem.W.fnOf "_law_wish_by" "_law_wish_by" (defArgs q06) (defBody q06) (defScope q06) .none kV24 dc24 pm24 an24 cd24 ct24),sl24⟩)
  (c24:PySem.W.codeIn K cd24 "_law_wish_by"=true)
  (k24:keepIn K (.ref f24)=true)
  (a25:PySem.W.nsIn K mainGlobals "_law_odd_wish"=some (some (.ref f25)))
  (l25:K.lookup f25=some ⟨oc25,od25,.func (PySem.W.fnOf "_law_odd_wish" "_law_odd_wish" (defArgs q02) (defBody q02) (defScope q02) .none kV25 dc25 pm25 an25 cd25 ct25),sl25⟩)
  (c25:PySem.W.codeIn K cd25 "_law_odd_wish"=true)
  (k25:keepIn K (.ref f25)=true)
  (a26:PySem.W.nsIn K mainGlobals "_law_fits"=some (some (.ref f26)))
  (l26:K.lookup f26=some ⟨oc26,od26,.func (PySem.W.fnOf "_law_fits" "_law_fits" (defArgs q11) (defBody q11) (defScope q11) .none kV26 dc26 pm26 an26 cd26 ct26),sl26⟩)
  (c26:PySem.W.codeIn K cd26 "_law_fits"=true)
  (k26:keepIn K (.ref f26)=true)
  (a27:PySem.W.nsIn K mainGlobals "_law_covered"=some (some (.ref f27)))
  (l27:K.lookup f27=some ⟨oc27,od27,.func (PySem.W.fnOf "_law_covered" "_law_covered" (defArgs q07) (defBody q07) (defScope q07) .none kV27 dc27 pm27 an27 cd27 ct27),sl27⟩)
  (c27:PySem.W.codeIn K cd27 "_law_covered"=true)
  (k27:keepIn K (.ref f27)=true)
  (a28:PySem.W.nsIn K mainGlobals "_law_grown"=some (some (.ref f28)))
  (l28:K.lookup f28=some ⟨oc28,od28,.func (PySem.W.fnOf "_law_grown" "_law_grown" (defArgs q1h) (defBody q1h) (defScope q1h) .none kV28 dc28 pm28 an28 cd28 ct28),sl28⟩)
  (c28:PySem.W.codeIn K cd28 "_law_grown"=true)
  (k28:keepIn K (.ref f28)=true)
  (a29:PySem.W.nsIn K mainGlobals "_law_subsets"=some (some (.ref f29)))
  (l29:K.lookup f29=some ⟨oc29,od29,.func (PySem.W.fnOf "_law_subsets" "_law_subsets" (defArgs q08) (defBody q08) (defScope q08) .none kV29 dc29 pm29 an29 cd29 ct29),sl29⟩)
  (c29:PySem.W.codeIn K cd29 "_law_subsets"=true)
  (k29:keepIn K (.ref f29)=true)
  (a30:PySem.W.nsIn K mainGlobals "_law_none_fewer"=some (some (.ref f30)))
  (l30:K.lookup f30=some ⟨oc30,od30,.func (PySem.W.fnOf "_law_none_fewer" "_law_none_fewer" (defArgs q0x) (defBody q0x) (defScope q0x) .none kV30 dc30 pm30 an30 cd30 ct30),sl30⟩)
  (c30:PySem.W.codeIn K cd30 "_law_none_fewer"=true)
  (k30:keepIn K (.ref f30)=true)
  (a31:PySem.W.nsIn K mainGlobals "_law_refused"=some (some (.ref f31)))
  (l31:K.lookup f31=some ⟨oc31,od31,.func (PySem.W.fnOf "_law_refused" "_law_refused" (defArgs q1d) (defBody q1d) (defScope q1d) .none kV31 dc31 pm31 an31 cd31 ct31),sl31⟩)
  (c31:PySem.W.codeIn K cd31 "_law_refused"=true)
  (k31:keepIn K (.ref f31)=true)
  (a32:PySem.W.nsIn K mainGlobals "law"=some (some (.ref f32)))
  (l32:K.lookup f32=some ⟨oc32,od32,.func (PySem.W.fnOf "law" "law" (defArgs q31) (defBody q31) (defScope q31) .none kV32 dc32 pm32 an32 cd32 ct32),sl32⟩)
  (c32:PySem.W.codeIn K cd32 "law"=true)
  (k32:keepIn K (.ref f32)=true)
  (v18:cd18=.ref cc18)
  (h18:codeHdIn K cc18 PP18=true)
  (m18:(mainGlobals,markO PP18 (("rarest"++".<locals>.")++"<lambda>"))∈K)
  (n_CircuitError:PySem.W.nsIn K mainGlobals "CircuitError"=some (some (.ref A_CircuitError)))
  (n_NoRow:PySem.W.nsIn K mainGlobals "NoRow"=some (some (.ref A_NoRow)))
  (n_NoTable:PySem.W.nsIn K mainGlobals "NoTable"=some (some (.ref A_NoTable)))
  (n_MOST_PLACES_tables:PySem.W.nsIn K mainGlobals "MOST_PLACES_tables"=some (some A_MOST_PLACES_tables))
  (n_MOST_PLACES_covers:PySem.W.nsIn K mainGlobals "MOST_PLACES_covers"=some (some A_MOST_PLACES_covers))
  (n_SIGNS:PySem.W.nsIn K mainGlobals "SIGNS"=some (some (.ref A_SIGNS)))
  (tab_SIGNS:SignK w K A_SIGNS)
  (z_all:PySem.W.nsIn K mainGlobals "all"=some none)
  (z_any:PySem.W.nsIn K mainGlobals "any"=some none)
  (z_enumerate:PySem.W.nsIn K mainGlobals "enumerate"=some none)
  (z_int:PySem.W.nsIn K mainGlobals "int"=some none)
  (z_isinstance:PySem.W.nsIn K mainGlobals "isinstance"=some none)
  (z_len:PySem.W.nsIn K mainGlobals "len"=some none)
  (z_list:PySem.W.nsIn K mainGlobals "list"=some none)
  (z_min:PySem.W.nsIn K mainGlobals "min"=some none)
  (z_range:PySem.W.nsIn K mainGlobals "range"=some none)
  (z_reversed:PySem.W.nsIn K mainGlobals "reversed"=some none)
  (z_sorted:PySem.W.nsIn K mainGlobals "sorted"=some none)
  (z_tuple:PySem.W.nsIn K mainGlobals "tuple"=some none)
  (z_zip:PySem.W.nsIn K mainGlobals "zip"=some none)
  (g_MOST_PLACES_tables:conIn K (.int 10) A_MOST_PLACES_tables=true)
  (g_MOST_PLACES_covers:conIn K (.int 4) A_MOST_PLACES_covers=true)
  (e_NoRow:excIn K A_NoRow A_CircuitError=true)
  (e_NoTable:excIn K A_NoTable A_CircuitError=true)
  (c_NoRow:excClsIn K A_NoRow=true)
  (x_NoRow_CircuitError:exmOne K (.ref A_NoRow) (.ref A_CircuitError)=some true)
  (k_NoRow_NoTable:kitOne K (.ref A_NoRow) (.ref A_NoTable)=some false)
  (c_NoTable:excClsIn K A_NoTable=true)
  (x_NoTable_CircuitError:exmOne K (.ref A_NoTable) (.ref A_CircuitError)=some true)
  (k_NoTable_NoTable:kitOne K (.ref A_NoTable) (.ref A_NoTable)=some true)
  (t_NoneType_tuple:kitOne K (.type "NoneType") (.type "tuple")=some false)
  (t_bool_tuple:kitOne K (.type "bool") (.type "tuple")=some false)
  (t_int_tuple:kitOne K (.type "int") (.type "tuple")=some false)
  (t_str_tuple:kitOne K (.type "str") (.type "tuple")=some false)
  (t_tuple_tuple:kitOne K (.type "tuple") (.type "tuple")=some true)
  (t_list_tuple:kitOne K (.type "list") (.type "tuple")=some false)
  (t_NoneType_list:kitOne K (.type "NoneType") (.type "list")=some false)
  (t_bool_list:kitOne K (.type "bool") (.type "list")=some false)
  (t_int_list:kitOne K (.type "int") (.type "list")=some false)
  (t_str_list:kitOne K (.type "str") (.type "list")=some false)
  (t_tuple_list:kitOne K (.type "tuple") (.type "list")=some false)
  (t_list_list:kitOne K (.type "list") (.type "list")=some true)
  (n:Nat)(hL:∀a:Adr,Exs K mg a->∀ns:List Int,Fit ns->run K a (n+1) q5s [.lst (ns.map .int)]=.ok (.fr (.bl true))):
  ∃fd:FuncData,(∀(s:Shared)(v:Value),BindsTo s fd ⟨[v],[]⟩ [("_law_script", v)])/\∀base:Heap,K.In base->base.Ns mainGlobals mg->BMain base mg->FnOk l.prog w K mg base (CX1 l.prog w) (n+3) fa fd ["_law_script"] (spLawB K):=by
 have e:=hfa.symm.trans (mg_of X G a32);cases e
 have A:Ats K mg:=⟨⟨⟨_,_,q0j (st:=q29) l0 c0 k0,mg_of X G a0,(q0j (st:=q29) l0 c0 k0).binds (ps:=["number", "many"]) fun _ _ _ _ _ _=>us2 fun _ _=>rfl⟩⟩,
  ⟨⟨_,_,q0j (st:=q1x) l1 c1 k1,mg_of X G a1,(q0j (st:=q1x) l1 c1 k1).binds (ps:=["many"]) fun _ _ _ _ _ _=>us1 fun _=>rfl⟩⟩,
  ⟨⟨_,_,q0j (st:=q14) l2 c2 k2,mg_of X G a2,(q0j (st:=q14) l2 c2 k2).binds (ps:=["many"]) fun _ _ _ _ _ _=>us1 fun _=>rfl⟩⟩,
  ⟨⟨_,_,q0j (st:=q2f) l3 c3 k3,mg_of X G a3,(q0j (st:=q2f) l3 c3 k3).binds (ps:=["cube", "row"]) fun _ _ _ _ _ _=>us2 fun _ _=>rfl⟩⟩,
  ⟨⟨_,_,q0j (st:=q2g) l4 c4 k4,mg_of X G a4,(q0j (st:=q2g) l4 c4 k4).binds (ps:=["cube"]) fun _ _ _ _ _ _=>us1 fun _=>rfl⟩⟩,
  ⟨⟨_,_,q0j (st:=q1q) l5 c5 k5,mg_of X G a5,(q0j (st:=q1q) l5 c5 k5).binds (ps:=["cube"]) fun _ _ _ _ _ _=>us1 fun _=>rfl⟩⟩,
  ⟨⟨_,_,q0j (st:=q1y) l6 c6 k6,mg_of X G a6,(q0j (st:=q1y) l6 c6 k6).binds (ps:=["table"]) fun _ _ _ _ _ _=>us1 fun _=>rfl⟩⟩,
  ⟨⟨_,_,q0j (st:=q1k) l7 c7 k7,mg_of X G a7,(q0j (st:=q1k) l7 c7 k7).binds (ps:=["wish"]) fun _ _ _ _ _ _=>us1 fun _=>rfl⟩⟩,
  ⟨⟨_,_,q0j (st:=q36) l8 c8 k8,mg_of X G a8,(q0j (st:=q36) l8 c8 k8).binds (ps:=["cube", "wish"]) fun _ _ _ _ _ _=>us2 fun _ _=>rfl⟩⟩,
  ⟨⟨_,_,q0j (st:=q2q) l9 c9 k9,mg_of X G a9,(q0j (st:=q2q) l9 c9 k9).binds (ps:=["wish"]) fun _ _ _ _ _ _=>us1 fun _=>rfl⟩⟩,
  ⟨⟨_,_,q0j (st:=q1z) l10 c10 k10,mg_of X G a10,(q0j (st:=q1z) l10 c10 k10).binds (ps:=["many"]) fun _ _ _ _ _ _=>us1 fun _=>rfl⟩⟩,
  ⟨⟨_,_,q0j (st:=q1s) l11 c11 k11,mg_of X G a11,(q0j (st:=q1s) l11 c11 k11).binds (ps:=["cube", "wish"]) fun _ _ _ _ _ _=>us2 fun _ _=>rfl⟩⟩,
  ⟨⟨_,_,q0j (st:=q09) l12 c12 k12,mg_of X G a12,(q0j (st:=q09) l12 c12 k12).binds (ps:=["cube"]) fun _ _ _ _ _ _=>us1 fun _=>rfl⟩⟩,
  ⟨⟨_,_,q0j (st:=q1a) l13 c13 k13,mg_of X G a13,(q0j (st:=q1a) l13 c13 k13).binds (ps:=["wish"]) fun _ _ _ _ _ _=>us1 fun _=>rfl⟩⟩,
  ⟨⟨_,_,q0j (st:=q1r) l14 c14 k14,mg_of X G a14,(q0j (st:=q1r) l14 c14 k14).binds (ps:=["numbers", "taken"]) fun _ _ _ _ _ _=>us2 fun _ _=>rfl⟩⟩,
  ⟨⟨_,_,q0j (st:=q1l) l15 c15 k15,mg_of X G a15,(q0j (st:=q1l) l15 c15 k15).binds (ps:=["wish"]) fun _ _ _ _ _ _=>us1 fun _=>rfl⟩⟩,
  ⟨⟨_,_,q0j (st:=q1g) l16 c16 k16,mg_of X G a16,(q0j (st:=q1g) l16 c16 k16).binds (ps:=["wish"]) fun _ _ _ _ _ _=>us1 fun _=>rfl⟩⟩,
  ⟨⟨_,_,q0j (st:=q3w) l17 c17 k17,mg_of X G a17,(q0j (st:=q3w) l17 c17 k17).binds (ps:=["reaches", "left", "count"]) fun _ _ _ _ _ _=>us3 fun _ _ _=>rfl⟩⟩,
  ⟨⟨_,_,q0j (st:=q2k) l18 c18 k18,mg_of X G a18,(q0j (st:=q2k) l18 c18 k18).binds (ps:=["reaches", "left"]) fun _ _ _ _ _ _=>us2 fun _ _=>rfl⟩⟩,
  ⟨⟨_,_,q0j (st:=q2r) l19 c19 k19,mg_of X G a19,(q0j (st:=q2r) l19 c19 k19).binds (ps:=["reaches", "number"]) fun _ _ _ _ _ _=>us2 fun _ _=>rfl⟩⟩,
  ⟨⟨_,_,q0j (st:=q1b) l20 c20 k20,mg_of X G a20,(q0j (st:=q1b) l20 c20 k20).binds (ps:=["_law_script", "_law_k"]) fun _ _ _ _ _ _=>us2 fun _ _=>rfl⟩⟩,
  ⟨⟨_,_,q0j (st:=q2c) l21 c21 k21,mg_of X G a21,(q0j (st:=q2c) l21 c21 k21).binds (ps:=["_law_script", "_law_k", "_law_many"]) fun _ _ _ _ _ _=>us3 fun _ _ _=>rfl⟩⟩,
  ⟨⟨_,_,q0j (st:=q10) l22 c22 k22,mg_of X G a22,(q0j (st:=q10) l22 c22 k22).binds (ps:=["_law_script", "_law_k"]) fun _ _ _ _ _ _=>us2 fun _ _=>rfl⟩⟩,
  ⟨⟨_,_,q0j (st:=q1c) l23 c23 k23,mg_of X G a23,(q0j (st:=q1c) l23 c23 k23).binds (ps:=["_law_cube"]) fun _ _ _ _ _ _=>us1 fun _=>rfl⟩⟩,
  ⟨⟨_,_,q0j (st:=q06) l24 c24 k24,mg_of X G a24,(q0j (st:=q06) l24 c24 k24).binds (ps:=["_law_script", "_law_many"]) fun _ _ _ _ _ _=>us2 fun _ _=>rfl⟩⟩,
  ⟨⟨_,_,q0j (st:=q02) l25 c25 k25,mg_of X G a25,(q0j (st:=q02) l25 c25 k25).binds (ps:=["_law_script"]) fun _ _ _ _ _ _=>us1 fun _=>rfl⟩⟩,
  ⟨⟨_,_,q0j (st:=q11) l26 c26 k26,mg_of X G a26,(q0j (st:=q11) l26 c26 k26).binds (ps:=["_law_cube", "_law_wish"]) fun _ _ _ _ _ _=>us2 fun _ _=>rfl⟩⟩,
  ⟨⟨_,_,q0j (st:=q07) l27 c27 k27,mg_of X G a27,(q0j (st:=q07) l27 c27 k27).binds (ps:=["_law_cover", "_law_wish"]) fun _ _ _ _ _ _=>us2 fun _ _=>rfl⟩⟩,
  ⟨⟨_,_,q0j (st:=q1h) l28 c28 k28,mg_of X G a28,(q0j (st:=q1h) l28 c28 k28).binds (ps:=["_law_wish", "_law_number", "_law_many", "_law_mark_here"]) fun _ _ _ _ _ _=>us4 fun _ _ _ _=>rfl⟩⟩,
  ⟨⟨_,_,q0j (st:=q08) l29 c29 k29,mg_of X G a29,(q0j (st:=q08) l29 c29 k29).binds (ps:=["_law_listed", "_law_count"]) fun _ _ _ _ _ _=>us2 fun _ _=>rfl⟩⟩,
  ⟨⟨_,_,q0j (st:=q0x) l30 c30 k30,mg_of X G a30,(q0j (st:=q0x) l30 c30 k30).binds (ps:=["_law_wish", "_law_listed", "_law_count", "_law_script", "_law_many"]) fun _ _ _ _ _ _=>us5 fun _ _ _ _ _=>rfl⟩⟩,
  ⟨⟨_,_,q0j (st:=q1d) l31 c31 k31,mg_of X G a31,(q0j (st:=q1d) l31 c31 k31).binds (ps:=["_law_wish"]) fun _ _ _ _ _ _=>us1 fun _=>rfl⟩⟩,
  ⟨⟨_,_,q0j (st:=q31) l32 c32 k32,mg_of X G a32,(q0j (st:=q31) l32 c32 k32).binds (ps:=["_law_script"]) fun _ _ _ _ _ _=>us1 fun _=>rfl⟩⟩⟩
 have B:Blt l.prog w K mg:=⟨mg_none_of X G z_all,mg_none_of X G z_any,mg_none_of X G z_enumerate,mg_none_of X G z_int,mg_none_of X G z_isinstance,mg_none_of X G z_len,mg_none_of X G z_list,mg_none_of X G z_min,mg_none_of X G z_range,mg_none_of X G z_reversed,mg_none_of X G z_sorted,mg_none_of X G z_tuple,mg_none_of X G z_zip,⟨A_SIGNS,mg_of X G n_SIGNS,tab_SIGNS⟩⟩;have M:Exs K mg ⟨A_CircuitError,A_NoRow,A_NoTable,A_MOST_PLACES_tables,A_MOST_PLACES_covers⟩:=⟨trivial,mg_of X G n_CircuitError,mg_of X G n_NoRow,mg_of X G n_NoTable,mg_of X G n_MOST_PLACES_tables,mg_of X G n_MOST_PLACES_covers,g_MOST_PLACES_tables,g_MOST_PLACES_covers,e_NoRow,e_NoTable,c_NoRow,x_NoRow_CircuitError,k_NoRow_NoTable,c_NoTable,x_NoTable_CircuitError,k_NoTable_NoTable,t_NoneType_tuple,t_bool_tuple,t_int_tuple,t_str_tuple,t_tuple_tuple,t_list_tuple,t_NoneType_list,t_bool_list,t_int_list,t_str_list,t_tuple_list,t_list_list⟩
 have MK:Mks K mg:=⟨fun f oc od fd sl e1 e2=>by
  have z:=(mg_of X G a18).symm.trans e1;cases z;rw[l18]at e2;cases e2;exact⟨cc18,PP18,_,v18,h18,m18⟩⟩
 exact⟨_,fun s v=>.of_eq rfl,fun base _ _ BM=>(law_fn A B M BM MK (q0j (st:=q31) l32 c32 k32) n).imp fun vs H Q E q=>y1r (hL _ M) q⟩
local macro_rules | `(tactic| walk_at "den") => do
 let l:=(("y47 y48 y49 y1w y5a y1l y4v y4u y8r y1j y4p y4q y4r y4s y3j y8k y8l y8m y8n y4l y1g y1h y1c x80 y1d y1e x81 x82 x83 x6o y4j y1f y4k y8i y8j y8h y4h z2u y4c y4d y4e y4f y3w y3x y0y y78 y0z y00 y3y z2k y3z y30 y01 y79 z2l z2m z2n y8c y33 y34 y35 y36 y37 y38 y04 z2o y8d z2p x8z y39 y4a z04 z05 z06 z07 z08 z09 z1a y66 y62 y63 y64 y3i y0h z02 z03 y65 z3t z3u z3v z3w z1b x8t x8u y0i z1c z1d y69 dC_s z3x z3y y7a y7b z1e z1f z3z z1g y7c z1h z1i z30 y7d z1j z1k y7e z1l z1m z31 z32 y7f z33 y7g z1n y7h z1o z1p y7i y7j y7k y3m y7l y7m y3n y0j y3o y0k z1q y7n y0l q3v y7o y7p x7n y7q y7r y3p z34 z1u z1v z35 z36 y3q z37 y0m y7s y3r z1w z1x z1y z1z z10 y7w y7x y7y y7z y3s x8v x8w y0n y3t y0o y70 y3u z12 z13 z14 z15 z16 y71 z17 z38 z39 z4a z4b z4c z4d z4e z4f z4g z4h z4i z4j z4k z4l z4m z18 z19 z2a z2b z2c z2d z2e ix_t ix_l z4n z4o z4p z4q z4r z4s z4t z4u z4v z4w z4x z4y z4z sc_i sc_b sc_s sc_n sl_l at0 at1 at2 z2f rng1 rng2 init Option.map_some Option.bind_some List.map_cons List.map_nil List.length_cons List.length_nil List.replicate_succ List.replicate_zero List.cons_append List.nil_append List.getElem?_cons_zero List.getElem?_cons_succ List.set_cons_zero List.set_cons_succ if_true if_false decide_eq_true_eq reduceIte Bool.false_eq_true ite_true ite_false Nat.reduceSub Nat.reduceAdd Nat.reduceLeDiff Nat.zero_add Nat.le_refl Int.reduceLT Int.reduceLE Int.reduceNeg true_and and_true true_or or_true false_and and_false false_or or_false not_true_eq_false not_false_eq_true decide_true decide_false Bool.not_true Bool.not_false String.reduceEq Nat.reduceEqDiff y3v z42 z43 Int.reduceToNat Int.reducePow Nat.reduceLT cast0 cast1 Int.reduceEq Int.reduceMod Int.reduceDiv Int.reduceAdd Int.reduceSub Int.reduceMul y3l y4y z2y y4z y40 y41 y1s y67 y68 z1r z1s z1t y3k y8v y84".splitOn " ").map fun s=>Lean.mkIdent s.toName).toArray
 `(tactic| try simp only [$[$l:ident],*])
section
theorem x0i(n:Nat)(ns:List Int){k:Int}(hk:0<=k):run K a (n+1) q1m [.lst (ns.map .int),.int k]=.ok (.fr (.int (ns.getD k.toNat 0))):=by
 rw[q6c];unfold q3d;walk_at "den"
 by_cases h:k<ns.length
 ·rw[if_pos (by simpa using h),x4y hk]
  have e:(ns.map W.int)[k.toNat]?=some (.int (ns.getD k.toNat 0)):=by
   have:k.toNat<ns.length:=by omega
   simp[List.getD,this]
  rw[e];walk_at "den"
 ·rw[if_neg (by simpa using h)]
  have:ns.getD k.toNat 0=0:=by
   have:¬k.toNat<ns.length:=by omega
   simp[List.getD,this]
  rw[this]
theorem x3h{i:Nat}{b:List S->SR}(st:S->List S)(p:W->Bool)(rt:W->S):∀(ws:List W)(z:S),(∀w∈ws,∀z,(p w=true->∃e',b ((st z).set i (.fr w))=.rt (rt w) e')/\(p w=false->∃z',b ((st z).set i (.fr w))=.nx (st z'))) ->
  (∀w,ws.find? p=some w->∃e',forD i b ws (st z)=.rt (rt w) e')/\(ws.find? p=none->∃z',forD i b ws (st z)=.nx (st z'))
 |[],z,h=>⟨fun w q=>by simp at q,fun _=>⟨z,rfl⟩⟩
 |w::ws,z,h=>by
  obtain⟨h1,h2⟩:=h w (by simp) z;cases q:p w with
  |true=>
   obtain⟨e',h3⟩:=h1 q;refine⟨fun u hu=>?_,fun hu=>?_⟩
   ·rw[w4f q]at hu;cases hu;exact⟨e',by rw[q25,h3,x7n]⟩
   ·rw[w4f q]at hu;cases hu
  |false=>
   obtain⟨z',h3⟩:=h2 q;have ih:=x3h st p rt ws z' fun u hu=>h u (by simp[hu])
   rw[List.find?_cons_of_neg (by simp[q]),q25,h3,q3v];exact ih
theorem q76(n:Nat)(m:Int)(h0:0<=m)(h1:m<1000):run K a (n+1) q2m [.int m]=.ok (.fr (.int (2^m.toNat))):=by
 rw[q7v];unfold q4i;walk_at "den";rw[if_pos (q2z (by omega) (by omega))];walk_at "den"
 obtain⟨e',h2,z,rfl⟩:=q4y (b:=q5l K a (run K a n)) (i:=2) (lo:=0) (hi:=m) m.toNat (by omega) (fun j e=>∃z,e=[.fr (.int m),.fr (.int (2^j)),z]) [.fr (.int m),.fr (.int 1),.no] ⟨_,rfl⟩ (by
  rintro j e hj ⟨z,rfl⟩;unfold q5l;walk_at "den";exact⟨_,rfl,_,by rw[w3s,w5j]⟩)
 rw[h2];walk_at "den"
def lg(n:Nat):Option Nat:=(List.range 11).find? fun m=>decide (2^m=n)
theorem y9a(h:lg n=some m):m<=10/\n=2^m:=by
 unfold lg at h;have h1:=List.find?_some h;have h2:=List.mem_of_find?_eq_some h;simp at h1 h2;omega
def placesR(a:Adr):Option Nat->FR
 |some m=>.ok (.fr (.int m))
 |none=>.ex (.ref a.NoTable)
theorem q77(n:Nat)(ws:List W):run K a (n+2) q26 [.lst ws]=placesR a (lg ws.length):=by
 rw[q7x];unfold q4k;walk_at "den";rw[if_pos (q2z (by omega) (by omega))];walk_at "den";have e:rangeW 0 11=(List.range 11).map fun(k:Nat)=>W.int (0+(k:Int)):=rfl
 have h:=x3h (i:=1) (b:=q5m K a (run K a (n+1))) (fun z=>[.fr (.lst ws),z]) (fun w=>match w with|.int k=>decide ((ws.length:Int)=2^k.toNat)|_=>false) (fun w=>.fr w) (rangeW 0 11) .no (by
  intro w hw z;rw[e]at hw;obtain⟨k,hk,rfl⟩:=w1f.mp hw;rw[w0x]at hk;unfold q5m;walk_at "den";rw[q76 n _ (by omega) (by omega)];walk_at "den";constructor
  ·intro hp;have hp:(ws.length:Int)=2^(0+(k:Int)).toNat:=by simpa using hp
   rw[if_pos hp];exact⟨_,rfl⟩
  ·intro hp;have hp:¬(ws.length:Int)=2^(0+(k:Int)).toNat:=by simpa using hp
   rw[if_neg hp];exact⟨_,rfl⟩)
 have e2:(rangeW 0 11).find? (fun w=>match w with|.int k=>decide ((ws.length:Int)=2^k.toNat)|_=>false)=(lg ws.length).map fun(k:Nat)=>W.int (0+(k:Int)):=by
  rw[e,List.find?_map];unfold lg;congr 2;funext k
  simp only[Function.comp];rw[show(0+(k:Int)).toNat=k by omega]
  have:((ws.length:Int)=2^k)↔2^k=ws.length:=by
   constructor
   ·intro h;exact_mod_cast h.symm
   ·intro h;exact_mod_cast h.symm
  simp only[this]
 rw[e2]at h;cases q:lg ws.length with
 |some m=>
  rw[q]at h;obtain⟨e',h1⟩:=h.1 _ rfl;rw[h1];walk_at "den";simp[placesR]
 |none=>
  rw[q]at h;obtain⟨z',h1⟩:=h.2 rfl;rw[h1];walk_at "den";rfl
open M10
theorem y9b(n:Nat)(i m:Int)(h0:0<=m)(h1:m<1000)(hi:i.natAbs<2^1000):run K a (n+1) q34 [.int i,.int m]=if rest m.toNat i=0 then .ok (.fr (.tup ((bits m.toNat i).reverse.map .bl)))else .ex (.ref a.NoRow):=by
 rw[x1h];unfold q57;walk_at "den";rw[if_pos (q2z (by omega) (by omega))];walk_at "den"
 obtain⟨e',h2,z,rfl⟩:=q4y (b:=q7l K a (run K a n)) (i:=4) (lo:=0) (hi:=m) m.toNat (by omega) (fun j e=>∃z,e=[.fr (.int i),.fr (.int m),.own none ((bits j i).map .bl),.fr (.int (rest j i)),z]) [.fr (.int i),.fr (.int m),.own none [],.fr (.int i),.no] ⟨_,rfl⟩ (by
  rintro j e hj ⟨z,rfl⟩;unfold q7l;walk_at "den";rw[if_pos (by rw[w0a,q5a];omega)];walk_at "den";exact⟨_,rfl,_,by rw[x3c,x3d,w1j];rfl⟩)
 rw[h2];walk_at "den"
 by_cases hr:rest m.toNat i=0
 ·rw[if_pos hr];simp only[hr];walk_at "den";rw[List.map_reverse]
 ·rw[if_neg hr];simp only[hr];walk_at "den"
theorem x5z:∀(m:Nat)(n:Int)(j:Nat),j<m->(bits m n)[j]?=some (decide (n / 2^j%2=1))
 |0,n,j,h=>by omega
 |m+1,n,0,h=>by simp[bits]
 |m+1,n,j+1,h=>by
  rw[bits,w0e,x5z m (n / 2) j (by omega)];rw[Int.ediv_ediv_of_nonneg (by decide),w3s,w5j (2^j) 2]
theorem small2{i:Int}(h1:0<=i)(h2:i<100000):i.natAbs<2^1000:=by
 have h:(2:Nat)^20<=2^1000:=w1a (by decide) (by decide);have:(2:Nat)^20=1048576:=by decide
 omega
def rowB(m:Nat)(k:Nat):List Bool:=(bits m (k:Int)).reverse
theorem q2t(m k:Nat):(rowB m k).length=m:=by unfold rowB;rw[w3p,q5a]
theorem y9c(n:Nat)(hk:k<2^m)(hm:m<=10):run K a (n+1) q34 [.int (k:Int),.int (m:Int)]=.ok (.fr (.tup ((rowB m k).map .bl))):=by
 have h10:(2:Nat)^m<=2^10:=w1a (by decide) hm;have h1024:(2:Nat)^10=1024:=by decide
 have hk2:(k:Int)<2^m:=by exact_mod_cast hk
 rw[y9b n k m (by omega) (by omega) (small2 (by omega) (by omega)),if_pos (x3e (by omega) (by simpa using hk2))];rw[w1p];rfl
theorem q5x(m:Nat):(2:Int)^m=((2^m:Nat):Int):=by exact_mod_cast rfl
theorem q3j(q:Nat):rangeW 0 (q:Int)=(List.range q).map fun k=>W.int ((k:Nat):Int):=by
 unfold rangeW;rw[w5g,w1p];apply w4v;intro k _;rw[Int.zero_add]
theorem x50(n:Nat)(hm:m<=10):run K a (n+2) q3l [.int (m:Int)]=.ok (.own none ((List.range (2^m)).map fun k=>W.tup ((rowB m k).map .bl))):=by
 have h10:(2:Nat)^m<=2^10:=w1a (by decide) hm;have h1024:(2:Nat)^10=1024:=by decide
 have hp0:0<(2:Nat)^m:=w4w (by decide);rw[q8v];unfold q4z;walk_at "den";rw[q76 n m (by omega) (by omega)];walk_at "den";rw[w1p,q5x,if_pos (q2z (by omega) (by omega))];walk_at "den";rw[if_pos (by rw[q20];omega)];simp only[frz1,pj1,w0e,w0k];rw[q3j,D.x4x (g:=fun w=>match w with|.int k=>W.tup ((rowB m k.toNat).map .bl)|w=>w)]
 ·walk_at "den";rw[w2h];rfl
 ·intro w hw;obtain⟨k,hk,rfl⟩:=w1f.mp hw;rw[w0x]at hk;unfold q8r;walk_at "den";rw[y9c n hk hm];walk_at "den";exact⟨_,rfl⟩
def eo:Option Bool->W
 |none=>.non
 |some b=>.bl b
def mt:List (Option Bool)->List Bool->Bool
 |o::c,b::r=>(o==none||o==some b)&&mt c r
 |_,_=>true
def rin(c:List (Option Bool)):List Nat:=(List.range (2^c.length)).filter fun k=>mt c (rowB c.length k)
theorem q3y{cc:Den Bool}{d:Den W}{pe:List S}{α:Type}{q:α->Bool}{g:α->W}{en:α->W}:∀(xs:List α),(∀x∈xs,∃e1,cc (.fr (en x)::pe)=.ok (q x) e1/\(q x=true->∃e2,d e1=.ok (g x) e2))->compD cc d pe (xs.map en)=some ((xs.filter q).map g)
 |[],_=>rfl
 |x::xs,h=>by
  obtain⟨e1,h1,h2⟩:=h x (by simp);have ih:=q3y (cc:=cc) (d:=d) (pe:=pe) (q:=q) (g:=g) (en:=en) xs fun u hu=>h u (by simp[hu])
  rw[w0n,x22,h1,ih];cases hq:q x with
  |true=>
   obtain⟨e2,h3⟩:=h2 hq;simp only[hq,h3,w2m,if_true];rfl
  |false=>simp[hq,w2m]
theorem q4d{d:Den W}{pe:List S}{g:α->W}{en:α->W}(xs:List α)(h:∀x∈xs,∃e2,d (.fr (en x)::pe)=.ok (g x) e2):compD dYes d pe (xs.map en)=some (xs.map g):=by
 rw[q3y (cc:=dYes) (q:=fun _=>true) (g:=g) xs fun x hx=>⟨_,rfl,fun _=>h x hx⟩,List.filter_eq_self.mpr fun _ _=>rfl]
theorem pow10(hm:m<=10):2^m<=1024:=w0m (w1a (by decide) hm) (by decide)
theorem q90(r0:Nat->List W->FR):∀(c:List (Option Bool))(r:List Bool),compP dYes (q6y K a r0) [] ((c.map eo).zip (r.map .bl))=some (((c.zip r).map fun p=>(p.1==none||p.1==some p.2)).map .bl)
 |[],_=>rfl
 |_::_,[]=>rfl
 |o::c,b::r=>by
  have ih:=q90 r0 c r;simp only[w0n,w5d];rw[x07,ih];unfold q6y;cases o with
  |none=>
   simp only[eo];walk_at "den";rfl
  |some d=>
   simp only[eo];walk_at "den";cases d<;>cases b<;>rfl
theorem y18:∀(c:List (Option Bool))(r:List Bool),((c.zip r).map fun p=>(p.1==none||p.1==some p.2)).all id=mt c r
 |[],_=>by cases ‹List Bool›<;>rfl
 |_::_,[]=>rfl
 |o::c,b::r=>by
  simp only[w5d,w0n,w2j,id,mt];rw[y18 c r]
theorem x63(n:Nat){r:List Bool}(h:c.length=r.length)(hl:r.length<=1000):run K a (n+1) q35 [.tup (c.map eo),.tup (r.map .bl)]=.ok (.fr (.bl (mt c r))):=by
 rw[q9q];unfold q5j;walk_at "den";simp only[w0a,h];walk_at "den";rw[if_pos (by simp[List.length_zip];omega),q90];walk_at "den";rw[y55];walk_at "den";rw[y18]
theorem x3i{f:Nat->W}:∀(N j:Nat),enumL j ((List.range' j N).map f)=(List.range' j N).map fun(k:Nat)=>(W.int ((k:Nat):Int),f k)
 |0,_=>rfl
 |N+1,j=>by
  rw[List.range'_succ,w0n,w0n,<- x3i N (j+1)];rfl
theorem q91{f:Nat->W}(N:Nat):enumL 0 ((List.range N).map f)=(List.range N).map fun(k:Nat)=>(W.int ((k:Nat):Int),f k):=by
 rw[List.range_eq_range'];exact x3i N 0
theorem x0j{cc:Den Bool}{d:Den W}{pe:List S}{α:Type}{q:α->Bool}{g:α->W}{en:α->W×W}:∀(xs:List α),(∀x∈xs,∃e1,cc (.fr (en x).1::.fr (en x).2::pe)=.ok (q x) e1/\(q x=true->∃e2,d e1=.ok (g x) e2))->compP cc d pe (xs.map en)=some ((xs.filter q).map g)
 |[],_=>rfl
 |x::xs,h=>by
  obtain⟨e1,h1,h2⟩:=h x (by simp);have ih:=x0j (cc:=cc) (d:=d) (pe:=pe) (q:=q) (g:=g) (en:=en) xs fun u hu=>h u (by simp[hu])
  rw[w0n,x07,h1,ih];cases hq:q x with
  |true=>
   obtain⟨e2,h3⟩:=h2 hq;simp only[hq,h3,w2m,if_true];rfl
  |false=>simp[hq,w2m]
theorem q6z(n:Nat)(hc:c.length<=10):run K a (n+3) q22 [.tup (c.map eo)]=.ok (.own none ((rin c).map fun(k:Nat)=>W.int (k:Int))):=by
 have h10:=pow10 hc;rw[q9r];unfold q5k;walk_at "den";rw[w0a,x50 n hc];walk_at "den";rw[q91,if_pos (by rw[w0a,w2b];omega)];simp only[frz1,pj1,w0e,w0k];rw[x0j (q:=fun k=>mt c (rowB c.length k)) (g:=fun(k:Nat)=>W.int (k:Int))]
 ·walk_at "den";rfl
 ·intro k hk;unfold q9p q9o;walk_at "den";rw[x63 (n+1) (by rw[q2t]) (by rw[q2t];omega)];walk_at "den";exact⟨_,rfl,fun _=>⟨_,rfl⟩⟩
theorem rin_mem:k∈rin c↔k<2^c.length/\mt c (rowB c.length k)=true:=by
 unfold rin;rw[w0w,w0x]
theorem x7z(c:List (Option Bool)):(rin c).length<=2^c.length:=by
 unfold rin;refine w0m (w1h _ _) ?_;rw[w2b];exact w0g _
theorem z26(h:m<=10):lg (2^m)=some m:=by
 have:m=0\/m=1\/m=2\/m=3\/m=4\/m=5\/m=6\/m=7\/m=8\/m=9\/m=10:=by omega
 rcases this with h|h|h|h|h|h|h|h|h|h|h<;>(subst h;decide)
theorem x2f(n:Nat)(hw:ws.length=2^m)(hm:m<=4):run K a (n+3) q1i [.lst ws]=.ok (.fr (.int m)):=by
 rw[q42];unfold q2w;walk_at "den";rw[q77 n,hw,z26 (by omega)];unfold placesR;walk_at "den";rw[if_neg (by omega)]
theorem y9d(n:Nat)(hw:∀m,m<=4->ws.length≠2^m):run K a (n+3) q1i [.lst ws]=.ex (.ref a.NoTable):=by
 rw[q42];unfold q2w;walk_at "den";rw[q77 n];cases h:lg ws.length with
 |none=>rfl
 |some m=>
  have h1:=y9a h;have h2:¬m<=4:=fun q=>hw m q h1.2
  unfold placesR;walk_at "den";rw[if_pos (by omega)]
def fitB(c w:List (Option Bool)):Bool:=(rin c).all fun k=>w.getD k none != some false
theorem y19(o:Option Bool):nisW (eo o) (.bl false)=some (.bl (o != some false)):=by
 cases o with
 |none=>rfl
 |some b=>cases b<;>rfl
theorem q9e{w:List (Option Bool)}(h:k<w.length):atI (w.map eo) (k:Int)=some (eo (w.getD k none)):=by
 refine q5u ?_;simp[List.getD,h]
theorem x51(n:Nat){w:List (Option Bool)}(hw:w.length=2^c.length)(hc:c.length<=4):run K a (n+4) q5i [.tup (c.map eo),.lst (w.map eo)]=.ok (.fr (.bl (fitB c w))):=by
 have h10:=pow10 (show c.length<=10 by omega);rw[x5j];unfold q8s;walk_at "den";rw[x2f n (by rw[w0a];exact hw) hc];walk_at "den";simp only[w0a];walk_at "den";rw[q6z n (by omega)];walk_at "den";rw[if_pos (by rw[w0a];have:=x7z c;omega)];simp only[frz1,pj1,w0e,w0k];rw[q4d (g:=fun k=>W.bl (w.getD k none != some false))]
 ·walk_at "den";have e:(rin c).map (fun k=>W.bl (w.getD k none != some false))=((rin c).map fun k=>w.getD k none != some false).map .bl:=by rw[w2h];rfl
  rw[e,y55];walk_at "den";unfold fitB;rw[w5h];rfl
 ·intro k hk;have h1:=rin_mem.mp hk;unfold x5i;walk_at "den";rw[q9e (by omega)];walk_at "den";rw[y19];exact⟨_,rfl⟩
theorem q5e(n:Nat)(ns:List Int){k m:Int}(hk:0<=k)(hk2:k<=1000000)(hm:0<m):∃v,run K a (n+2) q0t [.lst (ns.map .int),.int k,.int m]=.ok (.fr (.int v))/\0<=v/\v<m:=by
 rw[q8x];unfold q41;walk_at "den";rw[x0i n ns hk];walk_at "den";generalize hx:((ns.getD k.toNat 0*48271+7919*((ns.map W.int).length:Int)+104729*k)%2147483647)=x;have h1:0<=x:=by rw[<- hx];exact w3a _ (by decide)
 have h2:x<2147483647:=by rw[<- hx];exact w2p _ (by decide)
 rw[if_pos (.inl ⟨by omega,by omega⟩),if_pos hm];exact⟨_,rfl,w3a _ (by omega),w2p _ hm⟩
theorem x3j(hf:Fit ns)(i:Nat):Builtin.Int.intBits (ns.getD i 0)<=1048576:=by
 rw[List.getD_eq_getElem?_getD];cases h:ns[i]? with
 |none=>exact w1c _
 |some x=>exact hf.2 x (w0y h)
theorem q7n(hf:Fit ns)(n:Nat){k:Int}(hk:0<=k)(hk2:k<=1000000):∃v,run K a (n+2) q1j [.lst (ns.map .int),.int k]=.ok (.fr (.int v)):=by
 rw[q70];unfold q4n;walk_at "den";rw[x0i n ns (show(0:Int)<=4+k by omega)];walk_at "den";rw[x0i n ns (show(0:Int)<=3 by decide)];walk_at "den";rw[if_pos (.inr ⟨by omega,by omega⟩)];generalize hx:(ns.getD (4+k).toNat 0*40692+ns.getD 3 0*48271*(k+1)+7919*k)=x
 have hb:Builtin.Int.intBits x<=67108864:=by
  rw[<- hx];exact w0m (PyProof.Rows.bits_add (PyProof.Rows.bits_add (PyProof.Rows.bits_mul (x3j hf _) (PySem.intBits_le_64 (by omega) (by omega))) (PyProof.Rows.bits_mul (PyProof.Rows.bits_mul (x3j hf _) (PySem.intBits_le_64 (by omega) (by omega))) (PySem.intBits_le_64 (by omega) (by omega)))) (PyProof.Rows.bits_mul (PySem.intBits_le_64 (by omega) (by omega)) (PySem.intBits_le_64 (by omega) (by omega)))) (by decide)
 rw[y81 hb hb (by decide)];walk_at "den";exact⟨_,rfl⟩
theorem x70{l:List (Option Bool)}(h:l≠[])(v:Int):∃o,atI (l.map eo) (v%((l.map eo).length:Int))=some (eo o):=by
 have hp:0<l.length:=w4x.mpr h;have h1:=w3a v (show((l.map eo).length:Int)≠0 by rw[w0a];omega);have h2:=w2p v (show(0:Int)<((l.map eo).length:Int) by rw[w0a];omega);rw[w0a]at h2;rw[x4y h1];refine⟨l.getD (v%((l.map eo).length:Int)).toNat none,?_⟩;rw[w0a]at h1 |-
 have h3:(v%(l.length:Int)).toNat<l.length:=by omega
 simp[List.getD,h3]
theorem x2g{d:Den W}{pe:List S}(h:∀w∈ws,∃o e2,d (.fr w::pe)=.ok (eo o) e2):∃os:List (Option Bool),compD dYes d pe ws=some (os.map eo)/\os.length=ws.length:=by
 induction ws with
 |nil=>exact⟨[],rfl,rfl⟩
 |cons w ws ih=>
  obtain⟨os,h1,h2⟩:=ih fun u hu=>h u (by simp[hu])
  obtain⟨o,e2,h3⟩:=h w (by simp);refine⟨o::os,?_,by simp[h2]⟩;rw[x22];simp only[y0n,h3,h1];rfl
theorem x52(ls:List (List (Option Bool)))(h:∀l∈ls,l≠[]){v:Int}(h0:0<=v)(h1:v<ls.length):∃l,l≠[]/\atI (ls.map fun l=>W.lst (l.map eo)) v=some (.lst (l.map eo)):=by
 have h2:v.toNat<ls.length:=by omega
 refine⟨ls[v.toNat],h _ (w1w h2),?_⟩;rw[x4y h0];simp[h2]
theorem x0k{m:Nat}(hm:m<=4)(hq:2^m=q):atI [W.int 1,W.int 2,W.int 4,W.int 8,W.int 16] (m:Int)=some (.int (q:Int)):=by
 subst hq;have:m=0\/m=1\/m=2\/m=3\/m=4:=by omega
 rcases this with h|h|h|h|h<;>(subst h;rfl)
theorem wishE(n:Nat)(hf:Fit ns){l:List (Option Bool)}(hl:l≠[])(hk:k<=100000):∃o e2,q2s K a (run K a (n+2)) [.fr (.int (k:Int)),.fr (.lst (ns.map .int)),.fr (.lst (l.map eo))]=.ok (eo o) e2:=by
 unfold q2s;walk_at "den";obtain⟨v,h⟩:=q7n (K:=K) (a:=a) hf n (k:=(k:Int)) (by omega) (by omega);rw[h];walk_at "den";have hp:0<l.length:=w4x.mpr hl;rw[if_pos (by rw[w0a];omega)];walk_at "den";obtain⟨o,ho⟩:=x70 hl v;rw[ho];walk_at "den";exact⟨o,_,rfl⟩
theorem x3k(n:Nat)(hf:Fit ns){l:List (Option Bool)}(hl:l≠[])(hq:q<=100):∃w:List (Option Bool),compD dYes (q2s K a (run K a (n+2))) [.fr (.lst (ns.map .int)),.fr (.lst (l.map eo))] (rangeW 0 (q:Int))=some (w.map eo)/\w.length=q:=by
 rw[q3j]
 obtain⟨os,h1,h2⟩:=x2g (d:=q2s K a (run K a (n+2))) (pe:=[.fr (.lst (ns.map .int)),.fr (.lst (l.map eo))]) (ws:=(List.range q).map fun k=>W.int ((k:Nat):Int)) (by
  intro w hw;obtain⟨k,hk,rfl⟩:=w1f.mp hw;rw[w0x]at hk;exact wishE n hf hl (by omega))
 exact⟨os,h1,by rw[h2,w0a,w2b]⟩
theorem x9c(hf:Fit ns)(n:Nat)(hm:m<=4):∃w:List (Option Bool),run K a (n+3) q1n [.lst (ns.map .int),.int (m:Int)]=.ok (.own none (w.map eo))/\w.length=2^m:=by
 have h16:2^m<=16:=w0m (w1a (by decide) hm) (by decide);obtain⟨q,hq⟩:∃q,2^m=q:=⟨_,rfl⟩;rw[hq]at h16 |-
 rw[q6d];unfold q3e;walk_at "den";obtain⟨v1,h1,b1,c1⟩:=q5e (K:=K) (a:=a) n ns (k:=1) (m:=8) (by decide) (by decide) (by decide);obtain⟨v2,h2,b2,c2⟩:=q5e (K:=K) (a:=a) n ns (k:=2) (m:=20) (by decide) (by decide) (by decide);rw[h1];walk_at "den";obtain⟨l1,hl1,e1⟩:=x52 [[some false,some true,none],[some false,some true,some true],[some false,some false,some true,none],[some true,some true,none,some false,some true],[some false,some true],[some false,some true],[some false,none,some true],[some true,some false,some false,some false]] (by decide) b1 c1;simp only[w0n,w1s,eo]at e1;rw[e1];walk_at "den";rw[h2];walk_at "den"
 by_cases h3:v2<3
 ·rw[if_pos h3];obtain⟨l2,hl2,e2⟩:=x52 [[some true],[some false],[none]] (by decide) b2 h3;simp only[w0n,w1s,eo]at e2;rw[e2];walk_at "den";rw[x0k hm hq];walk_at "den";rw[if_pos (q2z (by omega) (by omega))];walk_at "den";rw[if_pos (by rw[q20];omega)];simp only[frz1,pj1,w0e,w0k];obtain⟨w,hw,hwl⟩:=x3k (K:=K) (a:=a) n hf hl2 (q:=q) (by omega);rw[hw];exact⟨w,rfl,hwl⟩
 ·rw[if_neg h3];walk_at "den";rw[x0k hm hq];walk_at "den";rw[if_pos (q2z (by omega) (by omega))];walk_at "den";rw[if_pos (by rw[q20];omega)];simp only[frz1,pj1,w0e,w0k];obtain⟨w,hw,hwl⟩:=x3k (K:=K) (a:=a) n hf hl1 (q:=q) (by omega);rw[hw];exact⟨w,rfl,hwl⟩
open M10
def lrF:List (Option Bool)->List Int->List Int
 |[],l=>l
 |none::c,l=>lrF c (l.map (fun x=>2*x)++l.map (fun x=>2*x+1))
 |some b::c,l=>lrF c (l.map fun x=>2*x+b2 b)
theorem q7d:∀(c:List (Option Bool))(l:List Int),(lrF c l).length<=l.length*2^c.length
 |[],l=>by simp[lrF]
 |none::c,l=>by
  refine w0m (q7d c _) ?_;rw[w0p,w0a,w0a,w0q,w3i,w4l (2^c.length) 2,<- w5e];exact w4o _ (by omega)
 |some b::c,l=>by
  refine w0m (q7d c _) ?_;rw[w0a,w0q,w3i];exact w3q _ (by omega)
theorem x2h:∀(c:List (Option Bool))(l:List Int)(x:Int),x∈lrF c l↔∃y∈l,∃r:List Bool,r.length=c.length/\mt c r=true/\x=numG y r
 |[],l,x=>by
  constructor
  ·intro h;exact⟨x,h,[],rfl,rfl,rfl⟩
  ·rintro⟨y,hy,r,hr,_,rfl⟩;have:r=[]:=w3b.mp hr;subst this;exact hy
 |none::c,l,x=>by
  show x∈lrF c _↔_;rw[x2h c];constructor
  ·rintro⟨y,hy,r,hr,hm,rfl⟩;rcases w1r.mp hy with h|h
   ·obtain⟨z,hz,rfl⟩:=w1f.mp h;exact⟨z,hz,false::r,by simp[hr],by simpa [mt]using hm,by simp[numG]⟩
   ·obtain⟨z,hz,rfl⟩:=w1f.mp h;exact⟨z,hz,true::r,by simp[hr],by simpa [mt]using hm,by simp[numG]⟩
  ·rintro⟨y,hy,r,hr,hm,rfl⟩;cases r with
   |nil=>simp at hr
   |cons b r=>
    refine⟨2*y+b2 b,?_,r,by simpa using hr,by simpa [mt]using hm,by simp[numG,b2]⟩;cases b with
    |false=>exact w2g _ (w1f.mpr ⟨y,hy,by simp[b2]⟩)
    |true=>exact w0i _ (w1f.mpr ⟨y,hy,by simp[b2]⟩)
 |some d::c,l,x=>by
  show x∈lrF c _↔_;rw[x2h c];constructor
  ·rintro⟨y,hy,r,hr,hm,rfl⟩;obtain⟨z,hz,rfl⟩:=w1f.mp hy;exact⟨z,hz,d::r,by simp[hr],by simpa [mt]using hm,by simp[numG,b2]⟩
  ·rintro⟨y,hy,r,hr,hm,rfl⟩;cases r with
   |nil=>simp at hr
   |cons b r=>
    have h2:(d=b)/\mt c r=true:=by simpa [mt]using hm
    obtain⟨rfl,h3⟩:=h2;exact⟨2*y+b2 d,w1f.mpr ⟨y,hy,rfl⟩,r,by simpa using hr,h3,by simp[numG,b2]⟩
theorem y2a(c:List (Option Bool))(x:Int):x∈lrF c [0]↔∃k∈rin c,x=((k:Nat):Int):=by
 rw[x2h];constructor
 ·rintro⟨y,hy,r,hr,hm,rfl⟩;obtain rfl:y=0:=by simpa using hy
  have hb:=x1a r;have e:((num r).toNat:Int)=num r:=w4y hb.1;refine⟨(num r).toNat,rin_mem.mpr ⟨?_,?_⟩,e.symm⟩
  ·have h2:((num r).toNat:Int)<((2^r.length:Nat):Int):=by rw[e,<- q5x];exact hb.2
   rw[<- hr]
   exact_mod_cast h2
  ·unfold rowB;rw[e,<- hr,y5d];exact hm
 ·rintro⟨k,hk,rfl⟩;obtain⟨h1,h2⟩:=rin_mem.mp hk;refine⟨0,by simp,rowB c.length k,q2t _ _,h2,?_⟩;have h3:(k:Int)<2^c.length:=by rw[q5x];exact_mod_cast h1
  exact(x0g (by omega) h3).symm
theorem q44(r0:Nat->List W->FR)(cu:W):∀(c:List (Option Bool))(l:List Int)(z:S),l.length*2^c.length<=1000->∃z',forD 2 (q2y K a r0) (c.map eo) [.fr cu,.fr (.lst (l.map .int)),z]=.nx [.fr cu,.fr (.lst ((lrF c l).map .int)),z']
 |[],l,z,_=>⟨z,rfl⟩
 |none::c,l,z,h=>by
  rw[w0q,w3i,w4l (2^c.length) 2,<- w5e]at h;have hp:0<2^c.length:=w4w (by decide);have hl:l.length*2<=1000:=w0m (w4a _ hp) h;obtain⟨z',ih⟩:=q44 r0 cu c (l.map (fun x=>2*x)++l.map (fun x=>2*x+1)) (.fr .non) (by rw[w0p,w0a,w0a,<- Nat.mul_two];exact h)
  refine⟨z',?_⟩;rw[w0n,q25]
  have e1:q2y K a r0 [.fr cu,.fr (.lst (l.map .int)),.fr .non]=.nx [.fr cu,.fr (.lst ((l.map (fun x=>2*x)++l.map (fun x=>2*x+1)).map .int)),.fr .non]:=by
   unfold q2y;walk_at "den";rw[if_pos (by rw[w0a];omega),q4d (g:=fun x=>W.int (2*x))]
   ·walk_at "den";rw[q4d (g:=fun x=>W.int (2*x+1))]
    ·walk_at "den";rw[if_pos (by simp only[w0a];omega)];walk_at "den";simp[Function.comp_def];omega
    ·intro x _;unfold q7t;walk_at "den";exact⟨_,rfl⟩
   ·intro x _;unfold q7s;walk_at "den";exact⟨_,rfl⟩
  simp only[eo,w1u,w1v];rw[e1,q3v];exact ih
 |some b::c,l,z,h=>by
  rw[w0q,w3i]at h;have hp:0<2^c.length:=w4w (by decide);have hl:l.length*2^c.length<=1000:=w0m (w3q _ (by omega)) h;have hl2:l.length<=1000:=w0m (w4a _ hp) hl;obtain⟨z',ih⟩:=q44 r0 cu c (l.map fun x=>2*x+b2 b) (.fr (.bl b)) (by rw[w0a];exact hl)
  refine⟨z',?_⟩;rw[w0n,q25]
  have e1:q2y K a r0 [.fr cu,.fr (.lst (l.map .int)),.fr (.bl b)]=.nx [.fr cu,.fr (.lst ((l.map fun x=>2*x+b2 b).map .int)),.fr (.bl b)]:=by
   unfold q2y;walk_at "den";rw[if_pos (by rw[w0a];omega)];simp only[frz1,pj1,w0e,w0k];rw[q4d (g:=fun x=>W.int (2*x+b2 b))]
   ·walk_at "den";simp[Function.comp_def]
   ·intro x _;unfold q7u;walk_at "den";exact⟨_,rfl⟩
  simp only[eo,w1u,w1v];rw[e1,q3v];exact ih
theorem x64(n:Nat)(hc:c.length<=5):run K a (n+1) q2b [.tup (c.map eo)]=.ok (.fr (.lst ((sortI (lrF c [0])).map .int))):=by
 have h32:2^c.length<=32:=w0m (w1a (by decide) hc) (by decide);have hl:=q7d c [0];simp only[w0q,w2d]at hl;rw[q5o];unfold q3x;walk_at "den";obtain⟨z',h⟩:=q44 (K:=K) (a:=a) (run K a n) (.tup (c.map eo)) c [0] .no (by simp;omega);simp only[w0n,w1s]at h;rw[h];walk_at "den";rw[x47 (by omega)];walk_at "den"
theorem x1t(r0:Nat->List W->FR)(cu:W)(w:List (Option Bool)):∀(xs:List Int)(z:S),(∀x∈xs,0<=x/\x<w.length) ->
  ((xs.any fun x=>w.getD x.toNat none==some false)=true->∃e',forD 2 (q3s K a r0) (xs.map .int) [.fr cu,.fr (.lst (w.map eo)),z]=.rt (.fr (.bl false)) e') /\
  ((xs.any fun x=>w.getD x.toNat none==some false)=false->∃z',forD 2 (q3s K a r0) (xs.map .int) [.fr cu,.fr (.lst (w.map eo)),z]=.nx [.fr cu,.fr (.lst (w.map eo)),z'])
 |[],z,_=>⟨fun h=>by simp at h,fun _=>⟨z,rfl⟩⟩
 |x::xs,z,h=>by
  obtain⟨h1,h2⟩:=h x (by simp);have ih:=x1t r0 cu w xs (.fr (.int x)) fun u hu=>h u (by simp[hu])
  have e:atI (w.map eo) x=some (eo (w.getD x.toNat none)):=by
   have:=q9e (w:=w) (k:=x.toNat) (by omega)
   rwa [w4y h1]at this
  have eb:q3s K a r0 [.fr cu,.fr (.lst (w.map eo)),.fr (.int x)]=if(w.getD x.toNat none==some false)=true then .rt (.fr (.bl false)) [.fr cu,.fr (.lst (w.map eo)),.fr (.int x)]else .nx [.fr cu,.fr (.lst (w.map eo)),.fr (.int x)]:=by
   unfold q3s;walk_at "den";rw[e];walk_at "den";cases w.getD x.toNat none with
   |none=>rfl
   |some b=>cases b<;>rfl
  rw[w0n,q25];simp only[w1u,w1v];rw[eb,w2t];cases hb:(w.getD x.toNat none==some false)with
  |true=>
   rw[if_pos rfl];exact⟨fun _=>⟨_,rfl⟩,fun q=>by simp at q⟩
  |false=>
   rw[if_neg (by decide),q3v,Bool.false_or];exact ih
theorem x65(hf:Fit ns)(n:Nat):∃w:List (Option Bool),run K a (n+3) q1f [.lst (ns.map .int)]=.ok (.own none (w.map eo))/\∀m,m<=4->w.length≠2^m:=by
 rw[q5p];unfold q24;walk_at "den";obtain⟨v1,h1,b1,c1⟩:=q5e (K:=K) (a:=a) n ns (k:=2) (m:=13) (by decide) (by decide) (by decide);rw[h1];walk_at "den"
 have hs:∃q:Nat,atI [W.int 0,W.int 3,W.int 5,W.int 6,W.int 7,W.int 9,W.int 12,W.int 15,W.int 17,W.int 24,W.int 31,W.int 32,W.int 64] v1=some (.int (q:Int))/\q<=64/\∀m,m<=4->q≠2^m:=by
  have:v1=0\/v1=1\/v1=2\/v1=3\/v1=4\/v1=5\/v1=6\/v1=7\/v1=8\/v1=9\/v1=10\/v1=11\/v1=12:=by omega
  rcases this with h|h|h|h|h|h|h|h|h|h|h|h|h<;>subst h
  ·exact⟨0,rfl,by decide,by decide⟩
  ·exact⟨3,rfl,by decide,by decide⟩
  ·exact⟨5,rfl,by decide,by decide⟩
  ·exact⟨6,rfl,by decide,by decide⟩
  ·exact⟨7,rfl,by decide,by decide⟩
  ·exact⟨9,rfl,by decide,by decide⟩
  ·exact⟨12,rfl,by decide,by decide⟩
  ·exact⟨15,rfl,by decide,by decide⟩
  ·exact⟨17,rfl,by decide,by decide⟩
  ·exact⟨24,rfl,by decide,by decide⟩
  ·exact⟨31,rfl,by decide,by decide⟩
  ·exact⟨32,rfl,by decide,by decide⟩
  ·exact⟨64,rfl,by decide,by decide⟩
 obtain⟨q,hq,hq2,hq3⟩:=hs;rw[hq];walk_at "den";rw[if_pos (q2z (by omega) (by omega))];walk_at "den";rw[if_pos (by rw[q20];omega)];simp only[frz1,pj1,w0e,w0k];rw[q3j]
 obtain⟨os,h3,h4⟩:=x2g (d:=q4e K a (run K a (n+2))) (pe:=[.fr (.lst (ns.map .int))]) (ws:=(List.range q).map fun k=>W.int ((k:Nat):Int)) (by
  intro w hw;obtain⟨k,hk,rfl⟩:=w1f.mp hw;rw[w0x]at hk;unfold q4e;walk_at "den";obtain⟨v,h⟩:=q7n (K:=K) (a:=a) hf n (k:=(k:Int)) (by omega) (by omega);rw[h];walk_at "den";obtain⟨o,ho⟩:=x70 (l:=[some true,some false,none]) (by decide) v;simp only[w0n,w1s,eo,w0q,w2d]at ho;have e3:((0+1+1+1:Nat):Int)=3:=rfl;rw[e3]at ho;rw[ho];exact⟨o,_,rfl⟩)
 rw[h3];refine⟨os,rfl,?_⟩;rw[h4,w0a,w2b];exact hq3
theorem z27(o:Option Bool):eqW (eo o) (eo o)=some true:=by
 cases o with
 |none=>rfl
 |some b=>simp[eo,eqW]
theorem x2i:∀(w:List (Option Bool)),eqWs (w.map eo) (w.map eo)=some true
 |[]=>rfl
 |o::w=>by
  show(match eqW (eo o) (eo o),eqWs (w.map eo) (w.map eo)with|some x,some y=>some (x&&y)|_,_=>none)=_;rw[z27,x2i w];rfl
theorem x0l:∀(w:List (Option Bool)),depWs (w.map eo)=0
 |[]=>rfl
 |o::w=>by
  show max (depW (eo o)) (depWs (w.map eo))=0;rw[x0l w];cases o<;>rfl
theorem y9e(w:List (Option Bool)):ne2 (.lst (w.map eo)) (.lst (w.map eo))=some (.bl false):=by
 unfold ne2;rw[if_pos (by simp only[depW,x0l];omega)];simp[eqW,x2i]
def encU(c:List (Option Bool)):W:=.tup (c.map eo)
def up3(c:List (Option Bool)):List (List (Option Bool)):=[c++[none],c++[some false],c++[some true]]
def cubesF:Nat->List (List (Option Bool))
 |0=>[[]]
 |m+1=>(cubesF m).flatMap up3
theorem q45:∀m,(cubesF m).length=3^m
 |0=>rfl
 |m+1=>by
  show((cubesF m).flatMap up3).length=_;rw[List.length_flatMap]
  have:∀l:List (List (Option Bool)),(l.map fun c=>(up3 c).length).sum=3*l.length:=by
   intro l
   induction l with
   |nil=>rfl
   |cons c l ih=>rw[w0n,List.sum_cons,ih,w0q];show 3+3*l.length=_;omega
  rw[this,q45 m,w3i,w4l]
theorem q2d:∀(m:Nat)(c:List (Option Bool)),c∈cubesF m↔c.length=m
 |0,c=>by
  show c∈[[]]↔_;rw[w1g];exact w3b.symm
 |m+1,c=>by
  show c∈(cubesF m).flatMap up3↔_;rw[List.mem_flatMap];constructor
  ·rintro⟨d,hd,h⟩;have:=(q2d m d).mp hd;simp only[up3,w0j,w1d,or_false]at h;rcases h with rfl|rfl|rfl<;>simp[this]
  ·intro h;rcases List.eq_nil_or_concat c with rfl|⟨d,o,rfl⟩
   ·simp at h
   ·rw[List.concat_eq_append]at h |-
    refine⟨d,(q2d m d).mpr (by simpa using h),?_⟩;cases o with
    |none=>simp[up3]
    |some b=>cases b<;>simp[up3]
theorem y5j{d:List (Option Bool)}{o p:Option Bool}(h:c++[o]=d++[p]):c=d/\o=p:=by
 have:=List.append_inj' h rfl;exact⟨this.1,by simpa using this.2⟩
theorem q81:∀m,(cubesF m).Nodup
 |0=>by decide
 |m+1=>by
  show((cubesF m).flatMap up3).Nodup;rw[w3r,w4m];refine⟨fun c _=>?_,(w3r.mp (q81 m)).imp fun {c d} hne x hx y hy e=>?_⟩
  ·simp[up3]
  ·simp only[up3,w0j,w1d,or_false]at hx hy;subst e;rcases hx with rfl|rfl|rfl<;>rcases hy with h|h|h<;>exact hne (y5j h).1
theorem y9f(c:List (Option Bool)):(up3 c).map encU=[.tup (c.map eo++[.non]),.tup (c.map eo++[.bl false]),.tup (c.map eo++[.bl true])]:=by
 simp[up3,encU,eo]
theorem x53(r0:Nat->List W->FR)(x0 x1 x2:S):∀(cs acc:List (List (Option Bool)))(z:S),(∀c∈cs,c.length<=10)->acc.length+3*cs.length<=1000 ->
  ∃z',forD 4 (q4p K a r0) (cs.map encU) [x0,x1,x2,.own none (acc.map encU),z]=.nx [x0,x1,x2,.own none ((acc++cs.flatMap up3).map encU),z']
 |[],acc,z,_,_=>⟨z,by simp[forD]⟩
 |c::cs,acc,z,hc,hl=>by
  have h1:=hc c (by simp);rw[w0q]at hl;obtain⟨z',ih⟩:=x53 r0 x0 x1 x2 cs (acc++up3 c) (.fr (encU c)) (fun d h=>hc d (by simp[h])) (by rw[w0p];show acc.length+3+_<=_;omega)
  refine⟨z',?_⟩;rw[w0n,q25]
  have e1:q4p K a r0 [x0,x1,x2,.own none (acc.map encU),.fr (encU c)]=.nx [x0,x1,x2,.own none ((acc++up3 c).map encU),.fr (encU c)]:=by
   unfold q4p encU;walk_at "den";have l1:(c.map eo).length<=16777215:=by rw[w0a];omega
   have l2:(acc.map fun c=>W.tup (c.map eo)).length<=16777213:=by rw[w0a];omega
   simp only[l1,l2,if_true];rw[w1j,show(up3 c).map (fun c=>W.tup (c.map eo))=(up3 c).map encU from rfl,y9f]
  simp only[w1u,w1v];rw[e1,q3v,ih,List.flatMap_cons,w2v]
theorem q6t(h:m<=4):3^m<=81:=w0m (w1a (by decide) h) (by decide)
theorem x38(n:Nat)(hm:m<=4):run K a (n+1) q27 [.int (m:Int)]=.ok (.fr (.lst ((cubesF m).map encU))):=by
 rw[q7y];unfold q4l;walk_at "den";rw[if_pos (q2z (by omega) (by omega))];walk_at "den"
 obtain⟨e',h5,z2,z3,z4,rfl⟩:=q4y (b:=q5n K a (run K a n)) (i:=2) (lo:=0) (hi:=(m:Int)) m (by omega) (fun j e=>∃(z2 z3 z4:S),e=[.fr (.int (m:Int)),.fr (.lst ((cubesF j).map encU)),z2,z3,z4]) [.fr (.int (m:Int)),.fr (.lst [.tup []]),.no,.no,.no] ⟨_,_,_,rfl⟩ (by
  rintro j e hj ⟨z2,z3,z4,rfl⟩;unfold q5n;walk_at "den";obtain⟨z',h⟩:=x53 (K:=K) (a:=a) (run K a n) (.fr (.int (m:Int))) (.fr (.lst ((cubesF j).map encU))) (.fr (.int (0+(j:Int)))) (cubesF j) [] z4 (fun c h=>by rw[(q2d j c).mp h];omega) (by rw[q45];have:=q6t (show j<=4 by omega);simp only[w2d];omega)
  simp only[w1s,w4j]at h;rw[h];walk_at "den";exact⟨_,rfl,_,_,_,rfl⟩)
 rw[h5];walk_at "den"
open M10
def wide(c:List (Option Bool))(k:Nat):List (Option Bool):=c.take k++none::c.drop (k+1)
theorem q5f(h:k<c.length):(wide c k).length=c.length:=by
 unfold wide;simp;omega
def tru(c w:List (Option Bool)):Bool:=(rin c).any fun k=>w.getD k none==some true
def wid(c:List (Option Bool)):List (List (Option Bool)):=((List.range c.length).filter fun k=>c.getD k none != none).map (wide c)
def prB(c w:List (Option Bool)):Bool:=fitB c w&&(tru c w&&!((wid c).any fun d=>fitB d w))
theorem y9g(o:Option Bool):nisW (eo o) .non=some (.bl (o != none)):=by
 cases o with
 |none=>rfl
 |some b=>rfl
theorem q9f(o:Option Bool):isW (eo o) (.bl true)=some (.bl (o==some true)):=by
 cases o with
 |none=>rfl
 |some b=>cases b<;>rfl
theorem x54{xs:List W}(h:k<=xs.length):cutW xs none (some (k:Int))=xs.take k:=by
 unfold cutW;rw[HT.sIx_none,HT.sIx_nat,Nat.min_eq_left h];simp
theorem x0m{xs:List W}(h:k<=xs.length):cutW xs (some (k:Int)) none=xs.drop k:=by
 unfold cutW;rw[HT.sIx_none,HT.sIx_nat,Nat.min_eq_left h];exact List.take_of_length_le (by simp)
theorem z48(h:k<c.length):slW (.tup (c.map eo)) none (some (k:Int))=some (.tup ((c.take k).map eo)):=by
 show(if ¬(HT.sIx (c.map eo).length 0 none=0/\HT.sIx (c.map eo).length (c.map eo).length (some (k:Int))=(c.map eo).length)then some (W.tup (cutW (c.map eo) none (some (k:Int))))else none)=_;rw[HT.sIx_nat,if_pos (by rw[w0a];omega),x54 (by rw[w0a];omega),List.map_take]
theorem y9h(h:k<c.length):slW (.tup (c.map eo)) (some ((k:Int)+1)) none=some (.tup ((c.drop (k+1)).map eo)):=by
 rw[show(k:Int)+1=((k+1:Nat):Int)from rfl];show(if ¬(HT.sIx (c.map eo).length 0 (some ((k+1:Nat):Int))=0/\HT.sIx (c.map eo).length (c.map eo).length none=(c.map eo).length)then some (W.tup (cutW (c.map eo) (some ((k+1:Nat):Int)) none))else none)=_;rw[HT.sIx_nat,if_pos (by rw[w0a];omega),x0m (by rw[w0a];omega),List.map_drop]
theorem y5k(c:List (Option Bool))(k:Nat):(c.take k).map eo++[W.non]++(c.drop (k+1)).map eo=(wide c k).map eo:=by
 unfold wide;simp[eo]
theorem y2b(n:Nat)(hc:c.length<=10):run K a (n+1) q2i [.tup (c.map eo)]=.ok (.own none ((wid c).map encU)):=by
 rw[q6p];unfold q3q;walk_at "den";rw[w0a,if_pos (q2z (by omega) (by omega))];walk_at "den";rw[if_pos (by rw[q20];omega)];simp only[frz1,pj1,w0e,w0k];rw[q3j,q3y (q:=fun k=>c.getD k none != none) (g:=fun k=>encU (wide c k)) (en:=fun k=>W.int ((k:Nat):Int)) (List.range c.length)]
 ·unfold wid;rw[w2h];rfl
 ·intro k hk;rw[w0x]at hk;unfold q6m q6l;walk_at "den";rw[q9e hk];walk_at "den";rw[y9g];walk_at "den";refine⟨_,rfl,fun _=>?_⟩
  walk_at "den";rw[z48 hk];walk_at "den";rw[if_pos (by rw[w0a,w2k];omega)];walk_at "den";rw[y9h hk];walk_at "den";rw[if_pos (by simp only[w0p,w0a,w2k,w2l,w0q,w2d];omega)];rw[y5k];exact⟨_,rfl⟩
theorem y9i{d:List (Option Bool)}(h:d∈wid c):d.length=c.length:=by
 unfold wid at h;obtain⟨k,hk,rfl⟩:=w1f.mp h;have:=(w0w.mp hk).1;rw[w0x]at this;exact q5f this
theorem y2c(bs:List Bool):any1 [.lst (bs.map .bl)]=some (.bl (bs.any id)):=z44
theorem y9j(c:List (Option Bool)):(wid c).length<=c.length:=by
 unfold wid;rw[w0a];refine w0m (w1h _ _) ?_;rw[w2b];exact w0g _
theorem x55(n:Nat){w:List (Option Bool)}(hw:w.length=2^c.length)(hc:c.length<=4):run K a (n+5) q3m [.tup (c.map eo),.lst (w.map eo)]=.ok (.fr (.bl (prB c w))):=by
 have h10:=pow10 (show c.length<=10 by omega);have hr:=x7z c;have hwl:=y9j c;rw[q8w];unfold q40;walk_at "den";rw[x51 n hw hc];unfold prB;cases hf:fitB c w with
 |false=>walk_at "den";rfl
 |true=>
  walk_at "den";rw[q6z (n+1) (by omega)];walk_at "den";rw[if_pos (by rw[w0a];omega)];simp only[frz1,pj1,w0e,w0k];rw[q4d (g:=fun k=>W.bl (w.getD k none==some true))]
  ·walk_at "den";have e:(rin c).map (fun k=>W.bl (w.getD k none==some true))=((rin c).map fun k=>w.getD k none==some true).map .bl:=by rw[w2h];rfl
   rw[e,y2c];walk_at "den";have e2:((rin c).map fun k=>w.getD k none==some true).any id=tru c w:=by unfold tru;rw[w5i];rfl
   rw[e2];cases ht:tru c w with
   |false=>walk_at "den";rfl
   |true=>
    walk_at "den";rw[y2b (n+3) (by omega)];walk_at "den";rw[if_pos (by rw[w0a];omega)];simp only[frz1,pj1,w0e,w0k];rw[q4d (g:=fun d=>W.bl (fitB d w)) (en:=encU)]
    ·walk_at "den";have e3:(wid c).map (fun d=>W.bl (fitB d w))=((wid c).map fun d=>fitB d w).map .bl:=by rw[w2h];rfl
     rw[e3,y2c];walk_at "den";rw[w5i];rfl
    ·intro d hd;have hl:=y9i hd;unfold q8t encU;walk_at "den";rw[x51 n (by rw[hl];exact hw) (by omega)];exact⟨_,rfl⟩
  ·intro k hk;have h1:=rin_mem.mp hk;unfold q8u;walk_at "den";rw[q9e (by omega)];walk_at "den";rw[q9f];exact⟨_,rfl⟩
theorem x1u(n:Nat){w:List (Option Bool)}(hw:w.length=2^m)(hm:m<=4):run K a (n+6) q2o [.lst (w.map eo)]=.ok (.own none (((cubesF m).filter fun c=>prB c w).map encU)):=by
 have h81:=q6t hm;have hl:=q45 m;rw[q7m];unfold q5b;walk_at "den";rw[x2f (n+2) (by rw[w0a];exact hw) hm];walk_at "den";rw[x38 (n+4) hm];walk_at "den";rw[if_pos (by rw[w0a];omega)];simp only[frz1,pj1,w0e,w0k];rw[q3y (q:=fun c=>prB c w) (g:=encU) (en:=encU) (cubesF m)]
 ·rfl
 ·intro c hc;have h1:=(q2d m c).mp hc;unfold x1d x1c encU;walk_at "den";rw[x55 n (by rw[h1];exact hw) (by omega)];walk_at "den";exact⟨_,rfl,fun _=>⟨_,rfl⟩⟩
theorem y2d(n:Nat)(hw:∀m,m<=4->ws.length≠2^m):run K a (n+6) q2o [.lst ws]=.ex (.ref a.NoTable):=by
 rw[q7m];unfold q5b;walk_at "den";rw[y9d (n+2) hw];walk_at "den"
theorem y2e:∀cs:List (List (Option Bool)),flatWs (cs.map encU)=true:=by
 have h:∀c:List (Option Bool),flatWs (c.map eo)=true:=by
  intro c
  induction c with
  |nil=>rfl
  |cons o c ih=>
   show(flatW (eo o)&&flatWs (c.map eo))=true;rw[ih];cases o<;>rfl
 intro cs
 induction cs with
 |nil=>rfl
 |cons c cs ih=>
  show(flatWs (c.map eo)&&flatWs (cs.map encU))=true;rw[ih,h];rfl
theorem x71:∀c:List (Option Bool),flatWs (c.map eo)=true
 |[]=>rfl
 |o::c=>by
  show(flatW (eo o)&&flatWs (c.map eo))=true;rw[x71 c];cases o<;>rfl
theorem y2f:∀(cs:List (List (Option Bool))),eqWs (cs.map encU) (cs.map encU)=some true
 |[]=>rfl
 |c::cs=>by
  show(match eqW (encU c) (encU c),eqWs (cs.map encU) (cs.map encU)with|some x,some y=>some (x&&y)|_,_=>none)=_;rw[y2f cs,show eqW (encU c) (encU c)=some true from by unfold encU;simp[eqW,x2i]];rfl
theorem q9g:∀(cs:List (List (Option Bool))),depWs (cs.map encU)<=1
 |[]=>w1c _
 |c::cs=>by
  show max (depW (encU c)) (depWs (cs.map encU))<=1;have:=q9g cs;have e:depW (encU c)=1:=by unfold encU;simp only[depW,x0l]
  omega
theorem x56(cs:List (List (Option Bool))):ne2 (.lst (cs.map encU)) (.lst (cs.map encU))=some (.bl false):=by
 have h:=q9g cs;unfold ne2;rw[if_pos (by simp only[depW];omega)];simp[eqW,y2f]
open M10
theorem x57(n:Nat)(hc:c.length<=5):run K a (n+1) q2b [.lst (c.map eo)]=.ok (.fr (.lst ((sortI (lrF c [0])).map .int))):=by
 have h32:2^c.length<=32:=w0m (w1a (by decide) hc) (by decide);have hl:=q7d c [0];simp only[w0q,w2d]at hl;rw[q5o];unfold q3x;walk_at "den";obtain⟨z',h⟩:=q44 (K:=K) (a:=a) (run K a n) (.lst (c.map eo)) c [0] .no (by simp;omega);simp only[w0n,w1s]at h;rw[h];walk_at "den";rw[x47 (by omega)];walk_at "den"
theorem x9d(n:Nat){w:List (Option Bool)}(hw:w.length=2^c.length)(hc:c.length<=5):run K a (n+2) q28 [.lst (c.map eo),.lst (w.map eo)]=.ok (.fr (.bl (fitB c w))):=by
 rw[q71];unfold q4o;walk_at "den";rw[x57 n hc];walk_at "den";have hm:∀x,x∈sortI (lrF c [0])↔∃k∈rin c,x=((k:Nat):Int):=fun x=>by rw[(q39 _).mem_iff,y2a]
 obtain⟨h1,h2⟩:=x1t (K:=K) (a:=a) (run K a (n+1)) (.lst (c.map eo)) w (sortI (lrF c [0])) .no (fun x hx=>by
  obtain⟨k,hk,rfl⟩:=(hm x).mp hx;have:=(rin_mem.mp hk).1;omega)
 have e:fitB c w=!((sortI (lrF c [0])).any fun x=>w.getD x.toNat none==some false):=by
  apply w1i.mpr;unfold fitB;rw[w0z,w3w,<- Bool.not_eq_true,w1x];constructor
  ·rintro q ⟨x,hx,h⟩;obtain⟨k,hk,rfl⟩:=(hm x).mp hx;have:=q k hk;rw[w1p]at h;simp at h this;exact this h
  ·intro q k hk;have:=fun h=>q ⟨(k:Int),(hm _).mpr ⟨k,hk,rfl⟩,h⟩
   rw[w1p]at this
   simpa using this
 rw[e];cases hb:((sortI (lrF c [0])).any fun x=>w.getD x.toNat none==some false)with
 |true=>
  obtain⟨e',h3⟩:=h1 hb;rw[h3];rfl
 |false=>
  obtain⟨z',h3⟩:=h2 hb;rw[h3];walk_at "den"
def nI(k:Nat):W:=.int (k:Int)
def wr(w:List (Option Bool)):List Nat:=(List.range w.length).filter fun k=>w.getD k none==some true
theorem x2j:∀ts:List Nat,(ts.map nI).all scalW=true
 |[]=>rfl
 |_::ts=>by rw[w0n,w2j,x2j ts];rfl
theorem y2g(k:Nat):∀ts:List Nat,((ts.map nI).any fun y=>eqS y (.int (k:Int)))=ts.contains k
 |[]=>rfl
 |t::ts=>by
  rw[w0n,w2t,y2g k ts,w3c];congr 1;show(((t:Int)==(k:Int)):Bool)=(k==t);apply w1i.mpr;simp only[beq_iff_eq];omega
theorem z28(k:Nat)(ts:List Nat):ninW (nI k) (.lst (ts.map nI))=some (.bl (!ts.contains k)):=by
 show(if scalW (.int (k:Int))=true/\(ts.map nI).all scalW=true then some (W.bl (!(ts.map nI).any fun y=>eqS y (.int (k:Int))))else none)=_
 rw[if_pos ⟨rfl,x2j ts⟩,y2g]
theorem x39(n:Nat){ns ts:List Nat}(h:ns.length<=2000):run K a (n+1) q1w [.lst (ns.map nI),.lst (ts.map nI)]=.ok (.own none ((ns.filter fun k=>!ts.contains k).map nI)):=by
 rw[q7z];unfold q4m;walk_at "den";rw[if_pos (by rw[w0a];omega)];simp only[frz1,pj1,w0e,w0k];rw[q3y (q:=fun k=>!ts.contains k) (g:=nI) (en:=nI) ns]
 ·rfl
 ·intro k _;unfold q7r q7q;walk_at "den";rw[z28];walk_at "den";exact⟨_,rfl,fun _=>⟨_,rfl⟩⟩
theorem y9k(w:List (Option Bool)):enumL 0 (w.map eo)=(List.range w.length).map fun(k:Nat)=>(W.int ((k:Nat):Int),eo (w.getD k none)):=by
 have e:w.map eo=(List.range w.length).map fun k=>eo (w.getD k none):=by
  apply w3e;intro k
  by_cases h:k<w.length
  ·simp[w4z h,h,List.getD]
  ·simp[h,Nat.le_of_not_lt h]
 rw[e,q91]
theorem x9e(n:Nat){w:List (Option Bool)}(hw:w.length=2^m)(hm:m<=4):run K a (n+4) q2j [.lst (w.map eo)]=.ok (.own none ((wr w).map nI)):=by
 have h10:=pow10 (show m<=10 by omega);rw[q6q];unfold q3r;walk_at "den";rw[x2f n (by rw[w0a];exact hw) hm];walk_at "den";rw[y9k,if_pos (by rw[w0a,w2b];omega)];rw[x0j (q:=fun k=>w.getD k none==some true) (g:=nI)]
 ·rfl
 ·intro k hk;unfold q6o q6n;walk_at "den";rw[q9f];walk_at "den";exact⟨_,rfl,fun _=>⟨_,rfl⟩⟩
def rst:List (List (Option Bool))->List Nat->List Nat
 |[],l=>l
 |c::cs,l=>rst cs (l.filter fun k=>!(rin c).contains k)
theorem z29(w:List (Option Bool)):(wr w).length<=w.length:=by
 unfold wr;refine w0m (w1h _ _) ?_;rw[w2b];exact w0g _
theorem q9h:∀(cs:List (List (Option Bool)))(l:List Nat)(k:Nat),k∈rst cs l↔k∈l/\∀c∈cs,k∉rin c
 |[],l,k=>by simp[rst]
 |c::cs,l,k=>by
  show k∈rst cs _↔_;rw[q9h cs,w0w];simp;constructor
  ·rintro⟨⟨h1,h2⟩,h3⟩;exact⟨h1,h2,h3⟩
  ·rintro⟨h1,h2,h3⟩;exact⟨⟨h1,h2⟩,h3⟩
noncomputable abbrev Cb:=List (Option Bool)
def inI(n:Int)(l:List Nat):Bool:=l.any fun k=>decide ((k:Int)=n)
def rch(c:Cb):W:=.tup [encU c,.lst ((rin c).map nI)]
def hv(P:List Cb)(n:Int):List Cb:=P.filter fun c=>inI n (rin c)
def lf(l:List Nat)(c:Cb):List Nat:=l.filter fun k=>!(rin c).contains k
theorem x72(n:Int):∀ts:List Nat,((ts.map nI).any fun y=>eqS y (.int n))=inI n ts
 |[]=>rfl
 |t::ts=>by
  show(eqS (.int (t:Int)) (.int n)||(ts.map nI).any fun y=>eqS y (.int n))=(decide ((t:Int)=n)||inI n ts)
  rw[x72 n ts];congr 1
theorem z3a(n:Int)(ts:List Nat):inW (.int n) (.lst (ts.map nI))=some (.bl (inI n ts)):=by
 show(if scalW (.int n)=true/\(ts.map nI).all scalW=true then some (W.bl ((ts.map nI).any fun y=>eqS y (.int n)))else none)=_
 rw[if_pos ⟨rfl,x2j ts⟩,x72]
theorem x1v(n:Nat){P:List Cb}(hP:P.length<=1000)(x:Int):run K a (n+1) q3n [.lst (P.map rch),.int x]=.ok (.own none ((hv P x).map rch)):=by
 rw[x1j];unfold q59;walk_at "den"
 rw[w0a,if_pos (by omega),q3y (q:=fun c=>inI x (rin c)) (g:=rch) (en:=rch) P fun c _=>by
  simp only[pjS,frzs,frz1,pj1,w0n,w1s,List.foldl_cons,List.foldl_nil,w0e,w0k];refine⟨[.fr (rch c),.fr (.int x)],?_,fun _=>⟨[.fr (rch c),.fr (.int x)],?_⟩⟩
  ·unfold x1f;walk_at "den";rw[show ixW (rch c) (.int 1)=some (.lst ((rin c).map nI))from rfl];walk_at "den";rw[z3a];walk_at "den"
  ·unfold x1e;walk_at "den"]
 walk_at "den";rfl
theorem x66(n:Nat){w:Cb}(hw:w.length=2^m)(hm:m<=4):run K a (n+7) q2e [.lst (w.map eo)]=.ok (.own none (((cubesF m).filter fun c=>prB c w).map rch)):=by
 have hl:((cubesF m).filter fun c=>prB c w).length<=81:=by
  have:=w1h (fun c=>prB c w) (cubesF m)
  rw[q45]at this;have:=q6t hm;omega
 have hc:∀c∈(cubesF m).filter fun c=>prB c w,c.length=m:=fun c h=>(q2d m c).mp (w0w.mp h).1
 have pr:=x1u (K:=K) (a:=a) n hw hm;rw[q5d];unfold q3c;walk_at "den";rw[pr];walk_at "den";generalize (cubesF m).filter (fun c=>prB c w)=P at hl hc
 rw[w0a,if_pos (by omega),q4d (g:=rch) (en:=encU) P fun c h=>by
  unfold q66 encU;walk_at "den";rw[q6z (n+3) (c:=c) (by rw[hc c h];omega)];walk_at "den";exact⟨_,rfl⟩]
 walk_at "den"
theorem y5l(l:List Nat)(c:Cb):(lf l c).length<=l.length:=w1h _ _
theorem y9l(k:Nat)(l:List Nat):inI (k:Int) l=l.contains k:=by
 unfold inI;rw[w1i,w1x,w3j];constructor
 ·rintro⟨j,hj,e⟩;have e:=of_decide_eq_true e;have:j=k:=by omega
  exact this ▸ hj
 ·exact fun h=>⟨k,h,decide_eq_true rfl⟩
theorem z3b{xs:List W}(h:depWs xs<=100):eq2 (.lst xs) (.lst [])=some (.bl xs.isEmpty):=by
 unfold eq2;rw[if_pos (show depW (.lst xs)<=150 by show depWs xs+1<=150;omega)];cases xs<;>rfl
theorem x58:∀x c:Cb,eqWs (x.map eo) (c.map eo)=some (decide (x=c))
 |[],[]=>rfl
 |[],_::_=>rfl
 |_::_,[]=>rfl
 |o::x,p::c=>by
  show(match eqW (eo o) (eo p),eqWs (x.map eo) (c.map eo)with|some a,some b=>some (a&&b)|_,_=>none)=_
  have e:eqW (eo o) (eo p)=some (decide (o=p)):=by
   cases o with
   |none=>cases p<;>rfl
   |some a=>cases p with
    |none=>rfl
    |some b=>cases a<;>cases b<;>rfl
  rw[e,x58 x c];simp
def Pm(w:Cb)(m:Nat):List Cb:=(cubesF m).filter fun c=>prB c w
theorem x4f(w:Cb)(hm:m<=4):(Pm w m).length<=81/\∀c∈Pm w m,c.length=m:=by
 refine⟨?_,fun c h=>(q2d m c).mp (w0w.mp h).1⟩
 have:=w1h (fun c=>prB c w) (cubesF m)
 rw[q45]at this;have:=q6t hm;exact w0m ‹_› this
def tx(cs:List Nat):Str:=⟨cs.toArray⟩
theorem y9m(cs:List Nat):(tx cs).cps.toList=cs:=by simp[tx]
theorem y2h(as bs:List Nat):tx as++tx bs=tx (as++bs):=by
 show Str.mk (as.toArray++bs.toArray)=_;simp[tx]
theorem y9n:("":Str)=tx []:=by decide +kernel
theorem x73:∀cs:List Nat,Str.join "" (cs.map fun c=>tx [c])=tx cs
 |[]=>rfl
 |[c]=>rfl
 |c::d::cs=>by
  show tx [c]++""++Str.join "" ((d::cs).map fun c=>tx [c])=_
  rw[x73 (d::cs),y9n,y2h,y2h];rfl
theorem y5m(cs:List Nat):Txt.join "" (cs.map fun c=>tx [c])=tx cs:=(StrLaws.glued_eq_join _ _).trans (x73 cs)
theorem x74:∀xs:List Str,strsW (xs.map .str)=some xs
 |[]=>rfl
 |x::xs=>by
  show(strsW (xs.map W.str)).map (x::·)=_;rw[x74 xs];rfl
theorem y5n(c:List (Option Bool)):strsW (c.map fun o=>.str (sgn o))=some (c.map sgn):=by
 have:=x74 (c.map sgn)
 rwa [w2h]at this
theorem y9o(o:Option Bool):(sgn o).length=1:=by
 cases o with
 |none=>rfl
 |some b=>cases b<;>rfl
theorem x75:∀c:List (Option Bool),((c.map sgn).map fun x=>x.length).sum=c.length
 |[]=>rfl
 |o::c=>by
  rw[w0n,w0n,List.sum_cons,x75 c,y9o];simp;omega
theorem y5o(c:List (Option Bool))(h:c.length<=1000):joinW (.str "") [.lst (c.map fun o=>.str (sgn o))]=some (.str (Txt.join "" (c.map sgn))):=by
 show(match strsW (c.map fun o=>W.str (sgn o))with
   |some ys=>if joinOk "" ys=true then some (W.str (Txt.join "" ys))else none
   |none=>none)=_
 rw[y5n];show(if joinOk "" (c.map sgn)=true then some (W.str (Txt.join "" (c.map sgn)))else none)=_;rw[if_pos];unfold joinOk;rw[x75,w0a];have:("":Str).length=0:=rfl;rw[this,Nat.mul_zero,Nat.ble_eq];omega
theorem y5p(n:Nat)(h:c.length<=1000):run K a (n+1) q2a [.tup (c.map eo)]=.ok (.fr (.str (Txt.join "" (c.map sgn)))):=by
 rw[q7w];unfold q4j;walk_at "den"
 rw[if_pos (by rw[w0a];omega),q4d (g:=fun o=>W.str (sgn o)) c fun o _=>⟨[.fr (eo o)],by
  unfold q7p;walk_at "den";rw[show sgnW (eo o)=some (.str (sgn o))from by cases o<;>rfl];walk_at "den"⟩]
 walk_at "den";rw[y5o c h];walk_at "den"
def keyn(P:List Cb)(k:Nat):Nat:=(hv P (k:Int)).length
def rarF(P:List Cb):Nat->List Nat->Nat
 |b,[]=>b
 |b,k::l=>if keyn P k<keyn P b then rarF P k l else rarF P b l
def rar(P:List Cb):List Nat->Nat
 |[]=>0
 |k::l=>rarF P k l
theorem x0n(P:List Cb):∀(l:List Nat)(b:Nat),rarF P b l=b\/rarF P b l∈l
 |[],b=>.inl rfl
 |k::l,b=>by
  unfold rarF;split
  ·rcases x0n P l k with h|h
   ·exact .inr (by rw[h];exact w0h)
   ·exact .inr (w0f _ h)
  ·rcases x0n P l b with h|h
   ·exact .inl h
   ·exact .inr (w0f _ h)
theorem x76(P:List Cb)(k:Nat)(l:List Nat):rar P (k::l)∈k::l:=by
 rcases x0n P l k with h|h
 ·exact w0j.mpr (.inl h)
 ·exact w0f _ h
def brF(go:Cb->List Cb ⊕ W)(num:Nat):List Cb->List W->List Cb ⊕ W
 |[],acc=>.inr (.tup [nI num,.tup acc])
 |c::cs,acc=>match go c with
  |.inl d=>.inl (c::d)
  |.inr t=>brF go num cs (acc++[.tup [encU c,t]])
def tryF(P:List Cb):Nat->List Nat->List Cb ⊕ W
 |_,[]=>.inl []
 |0,k::l=>.inr (.tup [nI (rar P (k::l)),.tup []])
 |n+1,k::l=>brF (fun c=>tryF P n (lf (k::l) c)) (rar P (k::l)) (hv P (rar P (k::l):Int)) []
def encRs:List Cb ⊕ W->W
 |.inl cs=>.tup [.str "cover", .lst (cs.map encU)]
 |.inr t=>.tup [.str "tree", t]
def Cov(cs:List Cb)(l:List Nat):Prop:=∀k∈l,∃c∈cs,k∈rin c
theorem lf_mem{c:Cb}:k∈lf l c↔k∈l/\k∉rin c:=by
 unfold lf;rw[w0w];simp
theorem hv_mem{P:List Cb}{c:Cb}:c∈hv P (k:Int)↔c∈P/\k∈rin c:=by
 unfold hv;rw[w0w,y9l];simp
theorem x77{go:Cb->List Cb ⊕ W}{num:Nat}:∀{cs:List Cb}{acc:List W}{t:W},brF go num cs acc=.inr t->∀c∈cs,∃u,go c=.inr u
 |[],_,_,_,_,h=>nomatch h
 |c::cs,acc,t,e,d,h=>by
  unfold brF at e;cases q:go c with
  |inl x=>rw[q]at e;cases e
  |inr u=>
   rw[q]at e;rcases w0j.mp h with rfl|h
   ·exact⟨u,q⟩
   ·exact x77 e d h
theorem x78{go:Cb->List Cb ⊕ W}{num:Nat}:∀{cs:List Cb}{acc:List W}{x:List Cb},brF go num cs acc=.inl x->∃c∈cs,∃d,go c=.inl d/\x=c::d
 |[],_,_,e=>by cases e
 |c::cs,acc,x,e=>by
  unfold brF at e;cases q:go c with
  |inl d=>rw[q]at e;exact⟨c,w0h,d,q,(Sum.inl.inj e).symm⟩
  |inr u=>
   rw[q]at e;obtain⟨c',h,r⟩:=x78 e;exact⟨c',w0f _ h,r⟩
theorem q6u(P:List Cb):∀(n:Nat)(l:List Nat)(t:W),tryF P n l=.inr t->∀cs:List Cb,(∀c∈cs,c∈P)->cs.length<=n->¬Cov cs l
 |n,[],t,e=>by unfold tryF at e;cases e
 |0,k::l,t,_=>fun cs _ hl hc=>by
  obtain⟨c,h,_⟩:=hc k w0h;cases cs with
  |nil=>cases h
  |cons x y=>simp at hl
 |n+1,k::l,t,e=>fun cs hP hl hc=>by
  unfold tryF at e;obtain⟨c,h1,h2⟩:=hc _ (x76 P k l);obtain⟨u,hu⟩:=x77 e c (hv_mem.mpr ⟨hP c h1,h2⟩);refine q6u P n _ u hu (cs.erase c) (fun d hd=>hP d (List.mem_of_mem_erase hd)) (by rw[List.length_erase_of_mem h1];omega) fun j hj=>?_
  obtain⟨h3,h4⟩:=lf_mem.mp hj;obtain⟨d,h5,h6⟩:=hc j h3;exact⟨d,(List.mem_erase_of_ne fun z=>by subst z;exact h4 h6).mpr h5,h6⟩
theorem q6h(P:List Cb):∀(n:Nat)(l:List Nat)(cs:List Cb),tryF P n l=.inl cs->(∀c∈cs,c∈P/\∃k∈l,k∈rin c)/\cs.length<=n/\Cov cs l/\cs.Nodup
 |n,[],cs,e=>by
  unfold tryF at e;cases Sum.inl.inj e;exact⟨fun _ h=>(by cases h),w1c _,fun _ h=>(by cases h),List.nodup_nil⟩
 |0,k::l,cs,e=>by unfold tryF at e;cases e
 |n+1,k::l,cs,e=>by
  unfold tryF at e;obtain⟨c,h1,d,h2,rfl⟩:=x78 e;obtain⟨hc1,hc2⟩:=hv_mem.mp h1;obtain⟨a1,a2,a3,a4⟩:=q6h P n _ d h2;refine⟨fun x hx=>?_,by rw[w0q];omega,fun j hj=>?_,w2c.mpr ⟨fun z=>?_,a4⟩⟩
  ·rcases w0j.mp hx with rfl|hx
   ·exact⟨hc1,_,x76 P k l,hc2⟩
   ·obtain⟨b1,i,b2,b3⟩:=a1 x hx;exact⟨b1,i,(lf_mem.mp b2).1,b3⟩
  ·by_cases h:j∈rin c
   ·exact⟨c,w0h,h⟩
   ·obtain⟨x,b1,b2⟩:=a3 j (lf_mem.mpr ⟨hj,h⟩);exact⟨x,w0f _ b1,b2⟩
  ·obtain⟨_,i,b2,b3⟩:=a1 c z;exact(lf_mem.mp b2).2 b3
theorem x59(P:List Cb):∀(l:List Nat),(∀k∈l,∃c∈P,k∈rin c)->∃cs:List Cb,(∀c∈cs,c∈P)/\cs.length<=l.length/\Cov cs l
 |[],_=>⟨[],fun _ h=>(by cases h),w0g _,fun _ h=>(by cases h)⟩
 |k::l,h=>by
  obtain⟨cs,h1,h2,h3⟩:=x59 P l fun j hj=>h j (w0f _ hj)
  obtain⟨c,hc,hk⟩:=h k w0h;refine⟨c::cs,fun d hd=>?_,by simp;omega,fun j hj=>?_⟩
  ·rcases w0j.mp hd with rfl|hd
   ·exact hc
   ·exact h1 d hd
  ·rcases w0j.mp hj with rfl|hj
   ·exact⟨c,w0h,hk⟩
   ·obtain⟨d,d1,d2⟩:=h3 j hj;exact⟨d,w0f _ d1,d2⟩
theorem x3l{β:Type}(f:Nat->α ⊕ β):∀(n:Nat),(∃x,f n=.inl x)->∃d,d<=n/\(∃x,f d=.inl x)/\∀i,i<d->∃t,f i=.inr t
 |0,h=>⟨0,w0g _,h,fun i hi=>absurd hi (Nat.not_lt_zero _)⟩
 |n+1,h=>by
  by_cases z:∃i,i<=n/\∃x,f i=.inl x
  ·obtain⟨i,h1,h2⟩:=z;obtain⟨d,d1,d2,d3⟩:=x3l f i h2;exact⟨d,by omega,d2,d3⟩
  ·refine⟨n+1,w0g _,h,fun i hi=>?_⟩
   cases q:f i with
   |inl x=>exact(z ⟨i,by omega,x,q⟩).elim
   |inr t=>exact⟨t,rfl⟩
termination_by n=>n
structure LC(P:List Cb)(l:List Nat)(N:Nat)(cs:List Cb)(T:W):Prop where
 cov:tryF P N l=.inl cs
 non:N=0->T=.non
 tree:∀n,N=n+1->tryF P n l=.inr T
theorem LC.len{P:List Cb}{cs:List Cb}(h:LC P l N cs T):cs.length=N:=by
 obtain⟨a1,a2,a3,_⟩:=q6h P N l cs h.cov;cases N with
 |zero=>omega
 |succ n=>
  have:=q6u P n l T (h.tree n rfl) cs (fun c hc=>(a1 c hc).1)
  by_cases z:cs.length<=n
  ·exact(this z a3).elim
  ·omega
theorem LC.least{P:List Cb}{cs:List Cb}(h:LC P l N cs T){ds:List Cb}(hd:∀c∈ds,c∈P)(hl:ds.length<N):¬Cov ds l:=by
 cases N with
 |zero=>omega
 |succ n=>exact q6u P n l T (h.tree n rfl) ds hd (by omega)
theorem y9p{P:List Cb}(h:∀k∈l,∃c∈P,k∈rin c):∃d,d<=l.length/\(∃x,tryF P d l=.inl x)/\∀i,i<d->∃t,tryF P i l=.inr t:=by
 refine x3l (fun n=>tryF P n l) l.length ?_
 obtain⟨cs,h1,h2,h3⟩:=x59 P l h;cases q:tryF P l.length l with
 |inl x=>exact⟨x,rfl⟩
 |inr t=>exact(q6u P _ l t q cs h1 h2 h3).elim
def nn(c:Cb):Nat:=(c.filter fun o=>o==none).length
theorem x79:∀{c:Cb}{r:List Bool}{j:Nat},mt c r=true->mt (wide c j) r=true\/c.length<=j
 |[],r,j,_=>.inr (w1c _)
 |o::c,[],j,_=>.inl (by cases j<;>rfl)
 |o::c,b::r,0,h=>by
  have h:((o==none||o==some b)&&mt c r)=true:=h;rw[w0o]at h;refine .inl ?_;show((none==(none:Option Bool)||none==some b)&&mt c r)=true;rw[h.2];rfl
 |o::c,b::r,j+1,h=>by
  have h:((o==none||o==some b)&&mt c r)=true:=h;rw[w0o]at h;rcases x79 (j:=j) h.2 with z|z
  ·refine .inl ?_;show((o==none||o==some b)&&mt (wide c j) r)=true;rw[h.1,z];rfl
  ·exact .inr (by simp;exact z)
theorem x8a:∀{c:Cb}{j:Nat},(c.getD j none != none)=true->nn (wide c j)=nn c+1
 |[],j,h=>by simp at h
 |o::c,0,h=>by
  have h:(o != none)=true:=h;cases o with
  |none=>cases h
  |some b=>rfl
 |o::c,j+1,h=>by
  have ih:=x8a (c:=c) (j:=j) h;show((o::wide c j).filter fun o=>o==none).length=((o::c).filter fun o=>o==none).length+1
  rw[w2m,w2m];unfold nn at ih;split
  ·rw[w0q,w0q,ih]
  ·exact ih
theorem z49(c:Cb):nn c<=c.length:=w1h _ _
theorem q7o{w:Cb}(hk:w.getD k none=some true):∀(f:Nat)(c:Cb),c.length<=nn c+f->fitB c w=true->k∈rin c->∃d:Cb,d.length=c.length/\prB d w=true/\k∈rin d/\∀i∈rin c,i∈rin d
 |f,c,hf,h1,h2=>by
  by_cases ha:(wid c).any (fun d=>fitB d w)=true
  ·obtain⟨d,d1,d2⟩:=w1x.mp ha;obtain⟨j,j1,rfl⟩:=w1f.mp d1;obtain⟨j2,j3⟩:=w0w.mp j1;have hjl:=w0x.mp j2;have hnn:=x8a j3;have hle:=z49 (wide c j);rw[q5f hjl]at hle
   have hsub:∀i∈rin c,i∈rin (wide c j):=fun i hi=>by
    obtain⟨a1,a2⟩:=rin_mem.mp hi;refine rin_mem.mpr ⟨by rw[q5f hjl];exact a1,?_⟩;rw[q5f hjl];rcases x79 (j:=j) a2 with z|z
    ·exact z
    ·omega
   cases f with
   |zero=>omega
   |succ f=>
    obtain⟨d,e1,e2,e3,e4⟩:=q7o hk f (wide c j) (by rw[q5f hjl];omega) d2 (hsub k h2);exact⟨d,by rw[e1,q5f hjl],e2,e3,fun i hi=>e4 i (hsub i hi)⟩
  ·refine⟨c,rfl,?_,h2,fun i hi=>hi⟩
   have ht:tru c w=true:=w1x.mpr ⟨k,h2,by rw[hk];rfl⟩;unfold prB;rw[h1,ht,w1k.mpr ha];rfl
theorem x2k:∀r s:List Bool,r.length=s.length->(mt (r.map some) s=true↔r=s)
 |[],[],_=>⟨fun _=>rfl,fun _=>rfl⟩
 |a::r,b::s,h=>by
  have ih:=x2k r s (by simpa using h);show((some a==none||some a==some b)&&mt (r.map some) s)=true↔_;rw[w0o,ih];simp
theorem x8b{j:Nat}(hk:k<2^m)(hj:j<2^m)(h:rowB m k=rowB m j):k=j:=by
 have a1:num (rowB m k)=(k:Int):=x0g (by omega) (by rw[q5x];exact_mod_cast hk);have a2:num (rowB m j)=(j:Int):=x0g (by omega) (by rw[q5x];exact_mod_cast hj);rw[h,a2]at a1;omega
theorem y2i{w:Cb}(hw:w.length=2^m)(hk:k∈wr w):∃c∈Pm w m,k∈rin c:=by
 obtain⟨h1,h2⟩:=w0w.mp hk;have hlt:k<2^m:=by rw[<- hw];exact w0x.mp h1
 have h2:w.getD k none=some true:=by simpa using h2
 have hl:((rowB m k).map some).length=m:=by rw[w0a,q2t]
 have hin:∀i,i∈rin ((rowB m k).map some)↔i=k:=fun i=>by
  rw[rin_mem,hl,x2k _ _ (by rw[q2t,q2t])];exact⟨fun⟨a1,a2⟩=>(x8b hlt a1 a2).symm,fun e=>by subst e;exact⟨hlt,rfl⟩⟩
 have hf:fitB ((rowB m k).map some) w=true:=w0z.mpr fun i hi=>by
  rw[(hin i).mp hi,h2];rfl
 obtain⟨d,e1,e2,e3,_⟩:=q7o h2 m _ (by rw[hl];omega) hf ((hin k).mpr rfl);exact⟨d,w0w.mpr ⟨(q2d m d).mpr (by rw[e1,hl]),e2⟩,e3⟩
theorem x3m:∀l:List Nat,noFns (l.map nI)=true
 |[]=>rfl
 |_::l=>x3m l
theorem x0o:∀c:Cb,noFns (c.map eo)=true
 |[]=>rfl
 |none::c=>x0o c
 |some _::c=>x0o c
theorem x3n:∀P:List Cb,noFns (P.map rch)=true
 |[]=>rfl
 |c::P=>by
  show((noFns (c.map eo)&&(noFns ((rin c).map nI)&&true))&&noFns (P.map rch))=true;rw[x0o,x3m,x3n P];rfl
theorem y5q(n:Nat){P:List Cb}(hP:P.length<=1000)(k:Nat):run K a (n+2) q1u [.int (k:Int),.lst (P.map rch)]=.ok (.fr (.int (keyn P k:Int))):=by
 have hh:=x1v (K:=K) (a:=a) n hP (k:Int);rw[q4u,if_pos (show[W.int (k:Int),.lst (P.map rch)].length=2 from rfl)];unfold q4a;generalize run K a (n+1)=r at hh |-
 simp only[w0n,w1s];walk_at "den";rw[hh];walk_at "den";rw[w0a];rfl
theorem x8c:∀l:List Nat,intsW (l.map nI)=some (l.map fun(k:Nat)=>(k:Int))
 |[]=>rfl
 |k::l=>by
  show(intsW (l.map nI)).map ((k:Int)::·)=_;rw[x8c l];rfl
theorem q82{P:List Cb}{F:Int->Option Int}(hF:∀k:Nat,F (k:Int)=some (keyn P k:Int)):∀(l:List Nat)(b:Nat),minGo F (l.map fun(k:Nat)=>(k:Int)) (some ((b:Int),(keyn P b:Int)))=some (rarF P b l:Int)
 |[],b=>rfl
 |k::l,b=>by
  show(match F (k:Int)with
   |some n=>minGo F (l.map fun(k:Nat)=>(k:Int)) (bestU (some ((b:Int),(keyn P b:Int))) (k:Int) n)
   |none=>none)=_
  rw[hF];show minGo F (l.map fun(k:Nat)=>(k:Int)) (if(keyn P k:Int)<(keyn P b:Int)then some ((k:Int),(keyn P k:Int))else some ((b:Int),(keyn P b:Int)))=some ((if keyn P k<keyn P b then rarF P k l else rarF P b l:Nat):Int)
  by_cases h:keyn P k<keyn P b
  ·rw[if_pos (by omega),if_pos h,q82 hF l k]
  ·rw[if_neg (by omega),if_neg h,q82 hF l b]
theorem x1w(n:Nat){P:List Cb}(hP:P.length<=1000)(k:Nat)(l:List Nat):run K a (n+3) q4r [.lst (P.map rch),.lst ((k::l).map nI)]=.ok (.fr (nI (rar P (k::l)))):=by
 have lr:=fun k=>y5q (K:=K) (a:=a) n hP k
 rw[x1i];unfold q58;generalize run K a (n+2)=r at lr |-
 walk_at "den";show SR.fn (R.stm (minK r q1u _ (.lst ((k::l).map nI)) (some [.lst (P.map rch)])) _)=_;unfold minK;simp only[x8c];rw[if_pos (show noFns [W.lst (P.map rch)]=true by show(noFns (P.map rch)&&true)=true;rw[x3n];rfl)];have hF:∀j:Nat,keyI1 (r q1u [.int (j:Int),.lst (P.map rch)])=some (keyn P j:Int):=fun j=>by rw[lr j];rfl
 have e:minGo (fun i=>keyI1 (r q1u [.int i,.lst (P.map rch)])) ((k::l).map fun(k:Nat)=>(k:Int)) none=some (rar P (k::l):Int):=by
  show(match keyI1 (r q1u [.int (k:Int),.lst (P.map rch)])with
   |some n=>minGo (fun i=>keyI1 (r q1u [.int i,.lst (P.map rch)])) (l.map fun(k:Nat)=>(k:Int)) (bestU none (k:Int) n)
   |none=>none)=_
  rw[hF k];exact q82 hF l k
 rw[e];rfl
def envY(P:List Cb)(l:List Nat)(cnt num:Nat)(acc:List W)(z5 z6 z7:S):List S:=[.fr (.lst (P.map rch)),.fr (.lst (l.map nI)),.fr (.int ((cnt+1:Nat):Int)),.fr (nI num),.own none acc,z5,z6,z7]
def trT(P:List Cb)(l:List Nat)(cnt num:Nat)(acc:List W)(c:Cb):List Cb ⊕ W->SR
 |.inl d=>.rt (.fr (encRs (.inl (c::d)))) (envY P l cnt num acc (.fr (encU c)) (.fr (.lst ((rin c).map nI))) (.fr (encRs (.inl d))))
 |.inr t=>.nx (envY P l cnt num (acc++[.tup [encU c,t]]) (.fr (encU c)) (.fr (.lst ((rin c).map nI))) (.fr (encRs (.inr t))))
theorem x9f(r:Nat->List W->FR){P:List Cb}{num:Nat}{g:List Cb ⊕ W}{c:Cb}(h1:r q1w [.lst (l.map nI),.lst ((rin c).map nI)]=.ok (.own none ((lf l c).map nI)))
  (h2:r q18 [.lst (P.map rch),.lst ((lf l c).map nI),.int (cnt:Int)]=.ok (.fr (encRs g)))(hg:∀d,g=.inl d->d.length<=1000)(acc:List W)(ha:acc.length<=1000)(z7:S):
  q3i K a r (envY P l cnt num acc (.fr (encU c)) (.fr (.lst ((rin c).map nI))) z7)=trT P l cnt num acc c g:=by
 unfold q3i envY;walk_at "den";rw[h1];walk_at "den";rw[show((cnt+1:Nat):Int)-1=(cnt:Int) by omega,h2];walk_at "den";cases g with
 |inl d=>
  have:=hg d rfl;unfold trT envY encRs;walk_at "den";rw[w0a,if_pos (by omega)];walk_at "den"
  first|done|rfl
 |inr t=>
  unfold trT envY encRs;walk_at "den";rw[if_pos (by omega)]
theorem x1x(r:Nat->List W->FR){P:List Cb}{num:Nat}{go:Cb->List Cb ⊕ W}(h1:∀c∈P,r q1w [.lst (l.map nI),.lst ((rin c).map nI)]=.ok (.own none ((lf l c).map nI)))
  (h2:∀c∈P,r q18 [.lst (P.map rch),.lst ((lf l c).map nI),.int (cnt:Int)]=.ok (.fr (encRs (go c))))(hg:∀c d,go c=.inl d->d.length<=1000):∀(cs:List Cb)(acc:List W)(z5 z6 z7:S),(∀c∈cs,c∈P)->acc.length+cs.length<=1000 ->
  (∃d e,brF go num cs acc=.inl d/\forP 5 6 (q3i K a r) (cs.map fun c=>(encU c,.lst ((rin c).map nI))) (envY P l cnt num acc z5 z6 z7)=.rt (.fr (encRs (.inl d))) e) \/
  ∃acc' z5' z6' z7',acc'.length<=1000/\brF go num cs acc=.inr (.tup [nI num,.tup acc'])/\forP 5 6 (q3i K a r) (cs.map fun c=>(encU c,.lst ((rin c).map nI))) (envY P l cnt num acc z5 z6 z7)=.nx (envY P l cnt num acc' z5' z6' z7')
 |[],acc,z5,z6,z7,_,hl=>.inr ⟨acc,z5,z6,z7,by simpa using hl,rfl,rfl⟩
 |c::cs,acc,z5,z6,z7,hc,hl=>by
  simp only[w0q]at hl;have hcP:=hc c w0h;have e:=x9f (K:=K) (a:=a) r (num:=num) (h1 c hcP) (h2 c hcP) (hg c) acc (by omega) z7;have u:∀x,q3i K a r (envY P l cnt num acc (.fr (encU c)) (.fr (.lst ((rin c).map nI))) z7)=x->forP 5 6 (q3i K a r) ((c::cs).map fun c=>(encU c,.lst ((rin c).map nI))) (envY P l cnt num acc z5 z6 z7)=x.turnT (forP 5 6 (q3i K a r) (cs.map fun c=>(encU c,.lst ((rin c).map nI)))):=fun x h=>by rw[<- h];rfl
  rw[u _ e];unfold brF;cases q:go c with
  |inl d=>exact .inl ⟨_,_,rfl,rfl⟩
  |inr t=>exact x1x r h1 h2 hg cs (acc++[.tup [encU c,t]]) _ _ _ (fun d hd=>hc d (w0f _ hd)) (by rw[w0p];simp;omega)
theorem x6a:∀cs:List Cb,pairsW (cs.map rch)=some (cs.map fun c=>(encU c,.lst ((rin c).map nI)))
 |[]=>rfl
 |c::cs=>by
  show(pairsW (cs.map rch)).map ((encU c,.lst ((rin c).map nI))::·)=_;rw[x6a cs];rfl
theorem x9g{P:List Cb}{d:List Cb}(hn:n<=1000)(h:tryF P n l=.inl d):d.length<=1000:=w0m (q6h P n l d h).2.1 hn
theorem x3o{P:List Cb}(hP:P.length<=81):∀(cnt n:Nat)(l:List Nat),l.length<=100->cnt<=100->run K a (n+cnt+4) q18 [.lst (P.map rch),.lst (l.map nI),.int (cnt:Int)]=.ok (.fr (encRs (tryF P cnt l)))
 |cnt,n,[],_,_=>by
  rw[q6r];unfold q5c tryF encRs;walk_at "den"
 |0,n,k::l,_,_=>by
  have rr:=x1w (K:=K) (a:=a) n (P:=P) (by omega) k l;rw[q6r];unfold q5c tryF encRs;generalize run K a (n+0+3)=r at rr |-
  have e1:dFn len1 (dCons (dVar 1) dNil) (init 8 [.lst (P.map rch),.lst ((k::l).map nI),.int ((0:Nat):Int)])=.ok (.int ((l.length+1:Nat):Int)) (init 8 [.lst (P.map rch),.lst ((k::l).map nI),.int ((0:Nat):Int)]):=by
   unfold init;walk_at "den";rw[w0a]
  walk_at "den";rw[w0a,if_neg (by omega)];rw[w0n]at rr;rw[rr];walk_at "den"
 |cnt+1,n,k::l,hl,hcnt=>by
  have rr:=x1w (K:=K) (a:=a) (n+cnt+1) (P:=P) (by omega) k l;have hh:=x1v (K:=K) (a:=a) (n+cnt+3) (P:=P) (by omega) (rar P (k::l):Int);have h1:∀c∈P,run K a (n+cnt+4) q1w [.lst ((k::l).map nI),.lst ((rin c).map nI)]=.ok (.own none ((lf (k::l) c).map nI)):=fun c _=>x39 (K:=K) (a:=a) (n+cnt+3) (by omega)
  have h2:∀c∈P,run K a (n+cnt+4) q18 [.lst (P.map rch),.lst ((lf (k::l) c).map nI),.int (cnt:Int)]=.ok (.fr (encRs (tryF P cnt (lf (k::l) c)))):=fun c _=>x3o hP cnt n _ (w0m (y5l _ c) hl) (by omega)
  have lp:=x1x (K:=K) (a:=a) (run K a (n+cnt+4)) (num:=rar P (k::l)) h1 h2 (fun c d h=>x9g (by omega) h) (hv P (rar P (k::l):Int)) [] .no .no .no (fun c hc=>(hv_mem.mp hc).1) (by
   have:(hv P (rar P (k::l):Int)).length<=P.length:=w1h _ _;simp;omega)
  rw[show n+(cnt+1)+4=n+cnt+4+1 by omega,q6r];unfold q5c tryF;rw[show n+cnt+1+3=n+cnt+4 by omega]at rr;generalize run K a (n+cnt+4)=r at rr hh lp |-
  unfold envY at lp;rw[w0n]at rr lp |-
  walk_at "den";rw[w0a,if_neg (by omega),rr];walk_at "den";rw[if_neg (show ¬(((cnt+1:Nat):Int)=0) by omega)];rw[show r q3n [.lst (P.map rch),nI (rar P (k::l))]=_ from hh];walk_at "den";rw[x6a];walk_at "den";rcases lp with⟨d,e,b1,b2⟩|⟨acc',z5,z6,z7,b0,b1,b2⟩
  ·rw[b2,b1];rfl
  ·rw[b2,b1];unfold encRs;walk_at "den"
def sc:Option Bool->Nat
 |none=>45
 |some false=>48
 |some true=>49
theorem z3c(o:Option Bool):sgn o=tx [sc o]:=by
 cases o with
 |none=>decide +kernel
 |some b=>cases b<;>decide +kernel
theorem join_list(c:Cb):(Txt.join "" (c.map sgn)).cps.toList=c.map sc:=by
 rw[show c.map sgn=(c.map sc).map fun c=>tx [c] by rw[w2h];exact w4v fun o _=>z3c o,y5m,y9m]
theorem x6b{u v:List Nat}(h:u<v):∀x:List Nat,x++u<x++v
 |[]=>h
 |a::x=>w2s.mpr (.inr ⟨rfl,x6b h x⟩)
theorem y2j:∀{x y:List Nat}(u v:List Nat),x.length=y.length->x<y->x++u<y++v
 |[],[],_,_,_,h=>(w4r _ h).elim
 |a::x,b::y,u,v,hl,h=>by
  rcases w2s.mp h with h|⟨e,h⟩
  ·exact w2s.mpr (.inl h)
  ·exact w2s.mpr (.inr ⟨e,y2j u v (by simpa using hl) h⟩)
theorem x3p:∀m,(cubesF m).Pairwise fun c d=>c.map sc<d.map sc
 |0=>List.pairwise_singleton _ _
 |m+1=>by
  show((cubesF m).flatMap up3).Pairwise _;rw[w4m];refine⟨fun c _=>?_,?_⟩
  ·unfold up3;simp only[w1t,w0j,w1d,or_false,w1j,List.Pairwise.nil,and_true];refine⟨fun x hx=>?_,fun x hx=>?_,fun _ h=>(by cases h)⟩
   ·rcases hx with rfl|rfl<;>(rw[w1j];exact x6b (by decide) _)
   ·subst hx;rw[w1j];exact x6b (by decide) _
  ·refine List.Pairwise.imp_of_mem (fun {c d} hc hd h x hx y hy=>?_) (x3p m)
   have lc:=(q2d m c).mp hc;have ld:=(q2d m d).mp hd;simp only[up3,w0j,w1d,or_false]at hx hy;rcases hx with rfl|rfl|rfl<;>rcases hy with rfl|rfl|rfl<;>(rw[w1j,w1j];exact y2j _ _ (by rw[w0a,w0a,lc,ld]) h)
def txtU(c:Cb):Str:=Txt.join "" (c.map sgn)
theorem y2k{F:List W->FR}(hF:∀c:Cb,c.length<=1000->F [encU c]=.ok (.fr (.str (txtU c)))):∀cs:List Cb,(∀c∈cs,c.length<=1000)->keysW F (cs.map encU)=some (cs.map txtU)
 |[],_=>rfl
 |c::cs,h=>by
  show(match str1R (F [encU c]),keysW F (cs.map encU)with
   |some n,some ns=>some (n::ns)
   |_,_=>none)=_
  rw[hF c (h c w0h),y2k hF cs fun d hd=>h d (w0f _ hd)]
  rfl
def srtU(P cs:List Cb):List Cb:=P.filter fun c=>cs.contains c
theorem x9h(w:Cb)(m:Nat)(cs:List Cb):(srtU (Pm w m) cs).Nodup:=List.Pairwise.filter _ (List.Pairwise.filter _ (q81 m))
theorem srtU_mem{P cs:List Cb}{c:Cb}:c∈srtU P cs↔c∈P/\c∈cs:=by
 unfold srtU;rw[w0w];simp
theorem x3q{w:Cb}{cs:List Cb}(h1:∀c∈cs,c∈Pm w m)(h2:cs.Nodup):(srtU (Pm w m) cs).Perm cs:=
 (List.perm_ext_iff_of_nodup (x9h w m cs) h2).mpr fun c=>srtU_mem.trans ⟨fun h=>h.2,fun h=>⟨h1 c h,h⟩⟩
theorem y9q{F:List W->FR}(hF:∀c:Cb,c.length<=1000->F [encU c]=.ok (.fr (.str (txtU c)))){w:Cb}(hm:m<=4){cs:List Cb}(h1:∀c∈cs,c∈Pm w m)(h2:cs.Nodup)(h3:cs.length<64):srtK F (.lst (cs.map encU))=some ((srtU (Pm w m) cs).map encU):=by
 have hlen:∀c∈cs,c.length<=1000:=fun c hc=>by rw[(x4f w hm).2 c (h1 c hc)];omega
 show(if(cs.map encU).length<64 then(keysW F (cs.map encU)).bind fun ns=>srtW ns (cs.map encU)else none)=_
 rw[w0a,if_pos h3,y2k hF cs hlen];show srtW (cs.map txtU) (cs.map encU)=_
 have hz:(cs.map txtU).zip (cs.map encU)=cs.map fun c=>(txtU c,encU c):=by
  rw[List.zip_map',]
 have pm:=x3q h1 h2;rw[y82 (zs:=(srtU (Pm w m) cs).map fun c=>(txtU c,encU c)) (by rw[w0a,w0a]) (by rw[hz];exact pm.map _) ?_,w2h]
 ·rfl
 ·refine w3x.mpr (List.Pairwise.imp (fun {c d} h=>?_) (List.Pairwise.filter _ (List.Pairwise.filter _ (x3p m))))
  show(txtU c).cps.toList<(txtU d).cps.toList;unfold txtU;rw[join_list,join_list];exact h
theorem y5r{w:Cb}{cs:List Cb}(h1:∀c∈cs,c∈Pm w m)(h2:cs.Nodup):(srtU (Pm w m) cs).length=cs.length:=by
 have pm:=x3q h1 h2;exact pm.length_eq
theorem x6c(R:Nat->List W->FR){P:List Cb}(A:W)(hR:∀cnt:Nat,cnt<=100->R q18 [.lst (P.map rch),.lst (l.map nI),.int (cnt:Int)]=.ok (.fr (encRs (tryF P cnt l)))):∀(d j fuel:Nat)(T:W),(∃x,tryF P (j+d) l=.inl x)->(∀i,i<d->∃t,tryF P (j+i) l=.inr t)->j+d<=100->d<fuel ->
  ∃T',(d=0->T'=T)/\(∀e,d=e+1->tryF P (j+e) l=.inr T')/\whileD (q23 K a R) (q32 K a R) fuel [.fr A,.fr (.lst (P.map rch)),.fr (.lst (l.map nI)),.fr (.int (j:Int)),.fr T,.fr (encRs (tryF P j l))]=.nx [.fr A,.fr (.lst (P.map rch)),.fr (.lst (l.map nI)),.fr (.int ((j+d:Nat):Int)),.fr T',.fr (encRs (tryF P (j+d) l))]
 |0,j,fuel+1,T,h1,_,_,_=>by
  obtain⟨x,hx⟩:=h1;refine⟨T,fun _=>rfl,fun e he=>by omega,?_⟩
  simp only[w5k]at hx |-
  rw[x7o,hx,show encRs (.inl x)=.tup [.str "cover", .lst (x.map encU)]from rfl];unfold q23;walk_at "den"
 |d+1,j,fuel+1,T,h1,h2,h3,h4=>by
  obtain⟨t,ht⟩:=h2 0 (by omega);rw[w5k]at ht;have e1:j+(d+1)=j+1+d:=by omega
  rw[e1]at h1 |-
  obtain⟨T',a1,a2,a3⟩:=x6c R A hR d (j+1) fuel t h1 (fun i hi=>by
   obtain⟨u,hu⟩:=h2 (i+1) (by omega);exact⟨u,by rw[show j+1+i=j+(i+1) by omega];exact hu⟩) (by omega) (by omega)
  refine⟨T',fun z=>by omega,fun e he=>?_,?_⟩
  ·cases e with
   |zero=>
    have:d=0:=by omega
    rw[a1 this,w5k];exact ht
   |succ e=>
    have:=a2 e (by omega);rw[show j+(e+1)=j+1+e by omega];exact this
  ·rw[<- a3,x7o,ht];have hr:=hR (j+1) (by omega)
   have ew:q23 K a R [.fr A,.fr (.lst (P.map rch)),.fr (.lst (l.map nI)),.fr (.int (j:Int)),.fr T,.fr (encRs (.inr t))]=.ok true [.fr A,.fr (.lst (P.map rch)),.fr (.lst (l.map nI)),.fr (.int (j:Int)),.fr T,.fr (encRs (.inr t))]:=by
    unfold q23 encRs;walk_at "den"
   have el:q32 K a R [.fr A,.fr (.lst (P.map rch)),.fr (.lst (l.map nI)),.fr (.int (j:Int)),.fr T,.fr (encRs (.inr t))]=.nx [.fr A,.fr (.lst (P.map rch)),.fr (.lst (l.map nI)),.fr (.int ((j+1:Nat):Int)),.fr t,.fr (encRs (tryF P (j+1) l))]:=by
    unfold q32;rw[show encRs (.inr t)=.tup [.str "tree", t]from rfl];walk_at "den";rw[show(j:Int)+1=((j+1:Nat):Int) by omega,hr];walk_at "den"
   rw[ew,y0h,if_pos rfl,el];rfl
theorem x9i(n:Nat){w:Cb}(hw:w.length=2^m)(hm:m<=4):∃N cs T,N<=16/\LC (Pm w m) (wr w) N cs T/\run K a (n+120) q01 [.lst (w.map eo)]=.ok (.thr [] ((srtU (Pm w m) cs).map encU) [T]):=by
 have h16:(wr w).length<=16:=by
  have:=z29 w;have:2^m<=16:=w0m (w1a (by decide) hm) (by decide);omega
 have hP:=(x4f w hm).1;obtain⟨N,hN,⟨cs,hcs⟩,ht⟩:=y9p (P:=Pm w m) (l:=wr w) fun k hk=>y2i hw hk
 have rr:=x66 (K:=K) (a:=a) (n+112) hw hm;have wi:=x9e (K:=K) (a:=a) (n+115) hw hm
 have tr:∀cnt:Nat,cnt<=100->run K a (n+119) q18 [.lst ((Pm w m).map rch),.lst ((wr w).map nI),.int (cnt:Int)]=.ok (.fr (encRs (tryF (Pm w m) cnt (wr w)))):=fun cnt hc=>by
  have:=x3o (K:=K) (a:=a) hP cnt (n+115-cnt) (wr w) (by omega) hc
  rwa [show n+115-cnt+cnt+4=n+119 by omega]at this
 have tx:∀c:Cb,c.length<=1000->run K a (n+119) q2a [encU c]=.ok (.fr (.str (txtU c))):=fun c hc=>y5p (K:=K) (a:=a) (n+118) hc
 obtain⟨T,a1,a2,a3⟩:=x6c (K:=K) (a:=a) (run K a (n+119)) (.lst (w.map eo)) tr N 0 1000000 .non (by rw[w2x];exact⟨cs,hcs⟩) (fun i hi=>by rw[w2x];exact ht i hi) (by omega) (by omega)
 rw[w2x]at a3;have L:LC (Pm w m) (wr w) N cs T:=⟨hcs,a1,fun e he=>by have:=a2 e he;rwa [w2x]at this⟩
 obtain⟨b1,b2,b3,b4⟩:=q6h _ _ _ _ hcs;refine⟨N,cs,T,by omega,L,?_⟩;have sr:=y9q (F:=run K a (n+119) q2a) tx hm (fun c hc=>(b1 c hc).1) b4 (by omega)
 rw[q43];unfold q2x;rw[show n+112+7=n+119 by omega]at rr;rw[show n+115+4=n+119 by omega]at wi;have t0:=tr 0 (by omega);generalize run K a (n+119)=r at rr wi t0 a3 sr |-
 walk_at "den";rw[rr];walk_at "den";rw[wi];walk_at "den";rw[show r q18 [.lst (((cubesF m).filter fun c=>prB c w).map rch),.lst ((wr w).map nI),.int 0]=_ from t0]
 walk_at "den";rw[show((cubesF m).filter fun c=>prB c w)=Pm w m from rfl,show(0:Int)=((0:Nat):Int)from rfl,a3,hcs]
 rw[show encRs (.inl cs)=.tup [.str "cover", .lst (cs.map encU)]from rfl];walk_at "den";rw[sr];walk_at "den"
open M10
def inF:List (List (Option Bool))->List Int->List Int
 |[],l=>l
 |c::cs,l=>inF cs (l++sortI (lrF c [0]))
theorem y9r(hc:c.length=m)(hm:m<=4):(sortI (lrF c [0])).length<=16:=by
 have h16:2^c.length<=16:=w0m (w1a (by decide) (by omega)) (by decide:2^4<=16);have hl:=q7d c [0];rw[(q39 _).length_eq];simp only[w0q,w2d]at hl;omega
theorem x8d:∀(cs:List (List (Option Bool)))(l:List Int)(k:Nat),((k:Nat):Int)∈inF cs l↔(k:Int)∈l\/∃c∈cs,k∈rin c
 |[],l,k=>by simp[inF]
 |c::cs,l,k=>by
  show(k:Int)∈inF cs _↔_
  have e:(k:Int)∈sortI (lrF c [0])↔k∈rin c:=by
   rw[(q39 _).mem_iff,y2a];constructor
   ·rintro⟨j,hj,e⟩;obtain rfl:k=j:=by omega
    exact hj
   ·exact fun h=>⟨k,h,rfl⟩
  rw[x8d cs,w1r,e];simp;constructor
  ·rintro((h|h)|h)
   ·exact .inl h
   ·exact .inr (.inl h)
   ·exact .inr (.inr h)
  ·rintro(h|h|h)
   ·exact .inl (.inl h)
   ·exact .inl (.inr h)
   ·exact .inr h
theorem x3r:∀ts:List Int,(ts.map W.int).all scalW=true
 |[]=>rfl
 |_::ts=>by rw[w0n,w2j,x3r ts];rfl
theorem x6d(k:Int):∀ts:List Int,((ts.map W.int).any fun y=>eqS y (.int k))=ts.contains k
 |[]=>rfl
 |t::ts=>by
  rw[w0n,w2t,x6d k ts,w3c];congr 1;show((t==k):Bool)=(k==t);apply w1i.mpr;simp only[beq_iff_eq];omega
theorem y5s(k:Int)(ts:List Int):ninW (.int k) (.lst (ts.map .int))=some (.bl (!ts.contains k)):=by
 show(if scalW (.int k)=true/\(ts.map W.int).all scalW=true then some (W.bl (!(ts.map W.int).any fun y=>eqS y (.int k)))else none)=_
 rw[if_pos ⟨rfl,x3r ts⟩,x6d]
theorem x6e:∀l:List Nat,depWs (l.map nI)=0
 |[]=>rfl
 |x::l=>by
  show max (depW (nI x)) (depWs (l.map nI))=0;rw[x6e l];rfl
theorem y9s(l:List Nat):eq2 (.lst (l.map nI)) (.lst [])=some (.bl l.isEmpty):=by
 cases l with
 |nil=>rfl
 |cons x xs=>
  unfold eq2;rw[if_pos (by simp only[depW,x6e,depWs];omega)];rfl
theorem widen(h:q<c.length):cutW (c.map eo) none (some (q:Int))++[W.non]++cutW (c.map eo) (some ((q:Int)+1)) none=(c.take q++none::c.drop (q+1)).map eo:=by
 rw[x54 (by rw[w0a];omega),show(q:Int)+1=((q+1:Nat):Int)from rfl,x0m (by rw[w0a];omega)];simp[List.map_take,List.map_drop,eo]
theorem q83(h:q<c.length):(c.take q++none::c.drop (q+1)).length=c.length:=by
 simp;omega
theorem x6f{go:Cb->List Cb ⊕ W}{num:Nat}:∀{cs:List Cb}{acc:List W}{t:W},brF go num cs acc=.inr t->∃us:List W,us.length=cs.length/\(∀(i:Nat) c,cs[i]?=some c->∃u,go c=.inr u/\us[i]?=some (.tup [encU c,u]))/\t=.tup [nI num,.tup (acc++us)]
 |[],acc,t,e=>⟨[],rfl,fun i c h=>by simp at h,by rw[w1l];exact(Sum.inr.inj e).symm⟩
 |c::cs,acc,t,e=>by
  unfold brF at e;cases q:go c with
  |inl x=>rw[q]at e;cases e
  |inr u=>
   rw[q]at e;obtain⟨us,h1,h2,h3⟩:=x6f e;refine⟨.tup [encU c,u]::us,by simp[h1],fun i d h=>?_,by rw[h3,w2v];rfl⟩
   cases i with
   |zero=>cases h;exact⟨u,q,rfl⟩
   |succ i=>exact h2 i d h
open M10
theorem x8e{j:Nat}(hj:j<m):(rowB m k)[j]?=some (decide ((k:Int) / 2^(m-1-j)%2=1)):=by
 unfold rowB;rw[w4i (by rw[q5a];exact hj),q5a,x5z _ _ _ (by omega)]
theorem y2l{J:Int}(h0:0<=J)(h1:J<=1000):-18446744073709551616<J/\J<18446744073709551616:=⟨by omega,by omega⟩
theorem grown0(r:Nat->List W->FR)(hm:m<=4)(k:Nat):compD dYes (q4c K a r) [.fr (.int (k:Int)),.fr (.int (m:Int))] ((List.range m).map fun k=>W.int ((k:Nat):Int))=some (((rowB m k).map some).map eo):=by
 have h3:compD dYes (q4c K a r) [.fr (.int (k:Int)),.fr (.int (m:Int))] ((List.range m).map fun k=>W.int ((k:Nat):Int))=some ((List.range m).map fun j=>eo (((rowB m k).map some).getD j none)):=by
  refine q4d (g:=fun j=>eo (((rowB m k).map some).getD j none)) (List.range m) fun j hj=>?_
  rw[w0x]at hj;refine⟨[.fr (.int (j:Int)),.fr (.int (k:Int)),.fr (.int (m:Int))],?_⟩;unfold q4c;walk_at "den";rw[show(m:Int)-1-(j:Int)=((m-1-j:Nat):Int) by omega,x0k (m:=m-1-j) (by omega) rfl];walk_at "den";have hp:0<2^(m-1-j):=w4w (by decide);have hp2:2^(m-1-j)<=16:=w0m (w1a (by decide) (by omega)) (by decide:2^4<=16)
  have eg:((rowB m k).map some).getD j none=some (decide ((k:Int) / ((2^(m-1-j):Nat):Int)%2=1)):=by
   show(((rowB m k).map some)[j]?).getD none=_;rw[w0v,x8e hj,<- q5x];rfl
  rw[eg];generalize 2^(m-1-j)=t at hp hp2;rw[if_pos ⟨by omega,by omega⟩];rfl
 have e0:(List.range m).map (fun j=>eo (((rowB m k).map some).getD j none))=(((rowB m k).map some)).map eo:=by
  apply w3e;intro j
  by_cases h:j<m
  ·rw[w0v,w0v,w4z h];show some (eo ((((rowB m k).map some)[j]?).getD none))=_;rw[w0v,x8e h];rfl
  ·rw[w1m (by simp;omega),w1m (by simp[q2t];omega)]
 rw[e0]at h3;exact h3
theorem x9j(n:Nat){w:Cb}(hw:w.length=2^m)(hm:m<=4)(hm0:(0:Int)<(m:Int))(k:Nat)(mk:Int){J:Int}(jb:-18446744073709551616<J/\J<18446744073709551616){c:Cb}(hcl:c.length=m)(hfit:fitB ((rowB m k).map some) w=true->fitB c w=true)(z6 z7:S):
  ∃e',q4b K a (run K a (n+2)) [.fr (.lst (w.map eo)),.fr (.int (k:Int)),.fr (.int (m:Int)),.fr (.int mk),.fr (.lst (c.map eo)),.fr (.int J),z6,z7]=.nx e'/\∃(c:Cb)(z5 z6 z7:S),e'=[.fr (.lst (w.map eo)),.fr (.int (k:Int)),.fr (.int (m:Int)),.fr (.int mk),.fr (.lst (c.map eo)),z5,z6,z7]/\c.length=m/\(fitB ((rowB m k).map some) w=true->fitB c w=true):=by
 obtain⟨st,hst⟩:∃st,atI [W.int 1,W.int ((m:Int)-1)] (mk / 4%2)=some (.int st):=by
  have:mk / 4%2=0\/mk / 4%2=1:=by omega
  rcases this with h|h<;>(rw[h];exact⟨_,rfl⟩)
 obtain⟨q,hq⟩:=w3d (w3a (mk+J*st) (show(m:Int)≠0 by omega))
 have hqm:q<c.length:=by
  have:=w2p (mk+J*st) hm0;omega
 have l1:(cutW (c.map eo) none (some (q:Int))).length<=m:=by rw[x54 (by rw[w0a];omega),w2k,w0a];omega
 have l2:(cutW (c.map eo) none (some (q:Int))++[W.non]).length+(cutW (c.map eo) (some ((q:Int)+1)) none).length<=100:=by
  rw[w0p,show(q:Int)+1=((q+1:Nat):Int)from rfl,x0m (by rw[w0a];omega),w2l,w0a,w2r];omega
 have lf:=x9d (K:=K) (a:=a) n (c:=c.take q++none::c.drop (q+1)) (w:=w) (by rw[q83 hqm,hcl];exact hw) (by rw[q83 hqm];omega);unfold q4b;generalize run K a (n+2)=r at lf |-
 walk_at "den";rw[hst];walk_at "den";rw[if_pos (.inl jb)];walk_at "den";rw[if_pos hm0];walk_at "den";rw[hq,if_pos (by omega)];walk_at "den";rw[if_pos (by omega)];walk_at "den";rw[widen hqm,lf];walk_at "den";cases hb:fitB (c.take q++none::c.drop (q+1)) w
 ·exact⟨_,rfl,c,_,_,_,rfl,hcl,hfit⟩
 ·exact⟨_,rfl,_,_,_,_,rfl,by rw[q83 hqm];exact hcl,fun _=>hb⟩
theorem y2m(n:Nat){w:Cb}(hw:w.length=2^m)(hm:m<=4)(k:Nat)(mk:Int):∃c:Cb,run K a (n+3) q2p [.lst (w.map eo),.int (k:Int),.int (m:Int),.int mk]=.ok (.fr (encU c))/\c.length=m/\(fitB ((rowB m k).map some) w=true->fitB c w=true):=by
 have h3:=grown0 (K:=K) (a:=a) (run K a (n+2)) hm k;rw[q67];unfold q37;walk_at "den";rw[if_pos (q2z (by omega) (by omega))];walk_at "den";rw[if_pos (by rw[q20];omega)];simp only[frz1,pj1,w0e,w0k];rw[q3j,h3];walk_at "den";rw[if_pos (q2z (by omega) (by omega))];walk_at "den"
 obtain⟨e',h5,c,z5,z6,z7,rfl,hcl,hfit⟩:=q4y (b:=q4b K a (run K a (n+2))) (i:=5) (lo:=0) (hi:=(m:Int)) m (by omega) (fun j e=>∃(c:Cb)(z5 z6 z7:S),e=[.fr (.lst (w.map eo)),.fr (.int (k:Int)),.fr (.int (m:Int)),.fr (.int mk),.fr (.lst (c.map eo)),z5,z6,z7]/\c.length=m/\(fitB ((rowB m k).map some) w=true->fitB c w=true)) [.fr (.lst (w.map eo)),.fr (.int (k:Int)),.fr (.int (m:Int)),.fr (.int mk),.fr (.lst (((rowB m k).map some).map eo)),.no,.no,.no] ⟨(rowB m k).map some,_,_,_,rfl,by rw[w0a,q2t],id⟩ (by
  rintro j e hj ⟨c,z5,z6,z7,rfl,hcl,hfit⟩;exact x9j (K:=K) (a:=a) n hw hm (by omega) k mk (y2l (by omega) (by omega)) hcl hfit z6 z7)
 rw[h5];walk_at "den";exact⟨c,rfl,hcl,hfit⟩
theorem fewer{w:Cb}{cs:List Cb}(L:LC (Pm w m) (wr w) N cs T){ds:List Cb}(hd:∀c∈ds,c.length=m)(hf:∀c∈ds,fitB c w=true)(hl:ds.length<N):¬Cov ds (wr w):=by
 have key:∀ds:List Cb,(∀c∈ds,c.length=m)->(∀c∈ds,fitB c w=true)->∃es:List Cb,es.length<=ds.length/\(∀c∈es,c∈Pm w m)/\∀k∈wr w,(∃c∈ds,k∈rin c)->∃c∈es,k∈rin c:=by
  intro ds
  induction ds with
  |nil=>exact fun _ _=>⟨[],w0g _,fun _ h=>(by cases h),fun k _ ⟨c,h,_⟩=>(by cases h)⟩
  |cons d ds ih=>
   intro h1 h2;obtain⟨es,e1,e2,e3⟩:=ih (fun c h=>h1 c (w0f _ h)) fun c h=>h2 c (w0f _ h)
   by_cases z:∃k∈wr w,k∈rin d
   ·obtain⟨k,k1,k2⟩:=z;have hk:w.getD k none=some true:=by simpa using (w0w.mp k1).2
    obtain⟨p,p1,p2,_,p4⟩:=q7o hk d.length d (by omega) (h2 d w0h) k2;refine⟨p::es,by simp;omega,fun c hc=>?_,fun j hj ⟨c,c1,c2⟩=>?_⟩
    ·rcases w0j.mp hc with rfl|hc
     ·exact w0w.mpr ⟨(q2d m c).mpr (by rw[p1,h1 d w0h]),p2⟩
     ·exact e2 c hc
    ·rcases w0j.mp c1 with rfl|c1
     ·exact⟨p,w0h,p4 j c2⟩
     ·obtain⟨x,x1,x2⟩:=e3 j hj ⟨c,c1,c2⟩;exact⟨x,w0f _ x1,x2⟩
   ·refine⟨es,by simp;omega,e2,fun j hj ⟨c,c1,c2⟩=>?_⟩
    rcases w0j.mp c1 with rfl|c1
    ·exact(z ⟨j,hj,c2⟩).elim
    ·exact e3 j hj ⟨c,c1,c2⟩
 obtain⟨es,e1,e2,e3⟩:=key ds hd hf;exact fun h=>L.least e2 (by omega) fun k hk=>e3 k hk (h k hk)
theorem cov_rst{cs:List Cb}:(rst cs l).isEmpty=true↔Cov cs l:=by
 rw[w4e,w2i];constructor
 ·intro h k hk;have:=h k;rw[q9h]at this
  by_cases z:∃c∈cs,k∈rin c
  ·exact z
  ·exact(this ⟨hk,fun c hc hk=>z ⟨c,hc,hk⟩⟩).elim
 ·intro h k hk;obtain⟨h1,h2⟩:=(q9h cs l k).mp hk;obtain⟨c,c1,c2⟩:=h k h1;exact h2 c c1 c2
theorem y5t(w:Cb):((w.map eo).any fun y=>eqS y (.bl true))=w.contains (some true):=by
 induction w with
 |nil=>rfl
 |cons o w ih=>
  rw[w0n,w2t,ih,w3c];congr 1;cases o with
  |none=>rfl
  |some b=>cases b<;>rfl
theorem x2l:∀w:Cb,(w.map eo).all scalW=true
 |[]=>rfl
 |none::w=>x2l w
 |some _::w=>x2l w
theorem y5u(w:Cb):ninW (.bl true) (.lst (w.map eo))=some (.bl (!w.contains (some true))):=by
 show(if scalW (.bl true)=true/\(w.map eo).all scalW=true then some (W.bl (!(w.map eo).any fun y=>eqS y (.bl true)))else none)=_
 rw[if_pos ⟨rfl,x2l w⟩,y5t]
theorem z3d{w:Cb}(h:wr w=[]):w.contains (some true)=false:=by
 rw[w1k];intro z;have z:some true∈w:=by simpa using z
 obtain⟨k,hk,e⟩:=w1y.mp z;have:k∈wr w:=w0w.mpr ⟨w0x.mpr hk,by show(w[k]?.getD none==some true)=true;rw[w0b hk,e];rfl⟩;rw[h]at this;cases this
theorem try0{P:List Cb}{cs:List Cb}(h:tryF P 0 l=.inl cs):l=[]:=by
 cases l with
 |nil=>rfl
 |cons k l=>unfold tryF at h;cases h
theorem x3s(P:List Cb):∀(n:Nat)(l:List Nat)(t:W),tryF P n l=.inr t->flatW t=true
 |n,[],t,e=>by unfold tryF at e;cases e
 |0,k::l,t,e=>by unfold tryF at e;cases Sum.inr.inj e;rfl
 |n+1,k::l,t,e=>by
  unfold tryF at e;obtain⟨us,u1,u2,rfl⟩:=x6f e
  have key:∀ws:List W,(∀w∈ws,flatW w=true)->flatWs ws=true:=fun ws=>by
   induction ws with
   |nil=>exact fun _=>rfl
   |cons x xs ih=>
    intro h;show(flatW x&&flatWs xs)=true;rw[h x w0h,ih fun w hw=>h w (w0f _ hw)];rfl
  have hus:flatWs us=true:=key us fun w hw=>by
   obtain⟨i,hi,rfl⟩:=w1y.mp hw;have hi2:i<(hv P (rar P (k::l):Int)).length:=by rw[<- u1];exact hi
   obtain⟨u,g1,g2⟩:=u2 i _ (w0b hi2);rw[w0b hi]at g2;rw[Option.some.inj g2];show(flatWs ((hv P (rar P (k::l):Int))[i].map eo)&&(flatW u&&true))=true;rw[x71,x3s P n _ u g1];rfl
  rw[w4j];show(true&&(flatWs us&&true))=true;rw[hus];rfl
theorem LC.flat{P:List Cb}{cs:List Cb}(h:LC P l N cs T):flatWs [T]=true:=by
 cases N with
 |zero=>rw[h.non rfl];rfl
 |succ n=>show(flatW T&&true)=true;rw[x3s P n l T (h.tree n rfl)];rfl
theorem x9k(n:Nat)(hw:∀m,m<=4->ws.length≠2^m):run K a (n+7) q2e [.lst ws]=.ex (.ref a.NoTable):=by
 rw[q5d];unfold q3c;walk_at "den";rw[y2d n hw];walk_at "den"
theorem y5v(n:Nat)(hw:∀m,m<=4->ws.length≠2^m):run K a (n+8) q01 [.lst ws]=.ex (.ref a.NoTable):=by
 rw[q43];unfold q2x;walk_at "den";rw[x9k n hw];walk_at "den"
theorem x67(M:Exs K mg a)(n:Nat)(hw:∀m,m<=4->ws.length≠2^m):run K a (n+9) q1o [.lst ws]=.ok (.fr (.bl true)):=by
 rw[q6g];unfold q3h;walk_at "den";rw[y5v n hw];walk_at "den";rw[z11 M.x_NoTable_CircuitError];walk_at "den";rw[y7v M.c_NoTable M.k_NoTable_NoTable];walk_at "den"
theorem x3t(n:Nat)(hm:m<=4)(co W0:W):∀(cs:List Cb)(l:List Int)(z:S),(∀c∈cs,c.length=m)->l.length+16*cs.length<=100000 ->
  ∃z',forD 3 (q3o K a (run K a (n+1))) (cs.map encU) [.fr co,.fr W0,.fr (.lst (l.map .int)),z]=.nx [.fr co,.fr W0,.fr (.lst ((inF cs l).map .int)),z']
 |[],l,z,_,_=>⟨z,rfl⟩
 |c::cs,l,z,hc,hl=>by
  have h1:=hc c (by simp);have h16:=y9r h1 hm;rw[w0q]at hl;have ih:=x3t n hm co W0 cs (l++sortI (lrF c [0])) (.fr (encU c)) (fun c h=>hc c (by simp[h])) (by rw[w0p];omega)
  have lw:=x64 (K:=K) (a:=a) n (c:=c) (by omega)
  have eb:q3o K a (run K a (n+1)) [.fr co,.fr W0,.fr (.lst (l.map .int)),.fr (encU c)]=.nx [.fr co,.fr W0,.fr (.lst ((l++sortI (lrF c [0])).map .int)),.fr (encU c)]:=by
   unfold q3o encU;generalize run K a (n+1)=r at lw |-
   walk_at "den";rw[lw];walk_at "den";rw[if_pos (by simp only[w0a];omega)];walk_at "den";rw[w1j]
  rw[w0n,q25];simp only[w1u,w1v];rw[eb,q3v];exact ih
theorem x6g(n:Nat){w:Cb}(hw:w.length=2^m)(hm:m<=4){cs:List Cb}(hc:∀c∈cs,c.length=m)(hl:cs.length<=1000):run K a (n+2) q0u [.lst (cs.map encU),.lst (w.map eo)]=.ok (.fr (.bl (rst cs (wr w)).isEmpty)):=by
 have h10:=pow10 (show m<=10 by omega);obtain⟨z',h3⟩:=x3t (K:=K) (a:=a) n hm (.lst (cs.map encU)) (.lst (w.map eo)) cs [] .no hc (by simp only[w2d];omega);rw[q6e];unfold q3f;simp only[w1s]at h3;generalize run K a (n+1)=r at h3 |-
 walk_at "den";rw[h3];walk_at "den";rw[w0a,if_pos (q2z (by omega) (by omega))];walk_at "den";rw[if_pos (by rw[q20];omega)];simp only[frz1,pj1,w0e,w0k];rw[q3j,q3y (q:=fun k=>(w.getD k none==some true)&&!(inF cs []).contains ((k:Nat):Int)) (g:=nI) (en:=fun k=>W.int ((k:Nat):Int)) (List.range w.length)]
 ·walk_at "den";rw[y9s];walk_at "den"
  have e:(List.filter (fun(k:Nat)=>(w.getD k none==some true)&&!(inF cs []).contains ((k:Nat):Int)) (List.range w.length)).isEmpty=(rst cs (wr w)).isEmpty:=by
   apply w1i.mpr;rw[w4e,w4e,w2i,w2i];refine forall_congr' fun k=>not_congr ?_
   rw[q9h];unfold wr;rw[w0w,w0w,w0o,w3w,<- Bool.not_eq_true,w3j,x8d];simp;exact and_assoc.symm
  rw[e]
 ·intro k hk;rw[w0x]at hk;unfold q6b q6a;walk_at "den";rw[q9e hk];walk_at "den";rw[q9f];walk_at "den";cases hb:(w.getD k none==some true)with
  |false=>
   walk_at "den";exact⟨_,rfl,fun q=>by simp at q⟩
  |true=>
   walk_at "den";rw[y5s];walk_at "den";exact⟨_,rfl,fun _=>⟨_,rfl⟩⟩
def encD(d:List Cb):W:=.lst (d.map encU)
def subF(cnt:Nat):List Cb->List (List Cb)->List (List Cb)
 |[],l=>l
 |p::ps,l=>subF cnt ps (l++(l.filter fun d=>decide (d.length<cnt)).map fun d=>d++[p])
theorem x6h{P:List Cb}:∀(ps:List Cb)(l:List (List Cb)),(∀c∈ps,c∈P)->(∀d∈l,d.length<=cnt/\∀c∈d,c∈P)->∀d∈subF cnt ps l,d.length<=cnt/\∀c∈d,c∈P
 |[],l,_,h=>h
 |p::ps,l,hp,h=>by
  refine x6h ps _ (fun c hc=>hp c (w0f _ hc)) fun d hd=>?_
  rcases w1r.mp hd with hd|hd
  ·exact h d hd
  ·obtain⟨x,hx,rfl⟩:=w1f.mp hd;obtain⟨h1,h2⟩:=w0w.mp hx;have h2:=of_decide_eq_true h2;refine⟨by rw[w0p];simp;omega,fun c hc=>?_⟩
   rcases w1r.mp hc with hc|hc
   ·exact(h x h1).2 c hc
   ·rw[w1g.mp hc];exact hp p w0h
theorem x3u(r:Nat->List W->FR)(A:W)(hcnt:cnt<=100):∀(ps:List Cb)(l:List (List Cb))(z:S),l.length*2^ps.length<=1000->∃z',forD 3 (q3p K a r) (ps.map encU) [.fr A,.fr (.int (cnt:Int)),.fr (.lst (l.map encD)),z]=.nx [.fr A,.fr (.int (cnt:Int)),.fr (.lst ((subF cnt ps l).map encD)),z']
 |[],l,z,_=>⟨z,rfl⟩
 |p::ps,l,z,hl=>by
  have e2:2^(ps.length+1)=2*2^ps.length:=by rw[w3i,w4l]
  have hp:1<=2^ps.length:=Nat.one_le_two_pow;have hl':l.length*(2*2^ps.length)<=1000:=by rw[<- e2];exact hl
  have hll:l.length<=1000:=w0m (by have:=w3q l.length (show 1<=2*2^ps.length by omega);omega) hl';have hf:((l.filter fun d=>decide (d.length<cnt)).map fun d=>d++[p]).length<=l.length:=by rw[w0a];exact w1h _ _
  obtain⟨z',ih⟩:=x3u r A hcnt ps (l++(l.filter fun d=>decide (d.length<cnt)).map fun d=>d++[p]) (.fr (encU p)) (by
   rw[w0p];refine w0m (w4o _ (show l.length+_<=l.length*2 by omega)) ?_;rw[w5e];exact hl')
  have cm:compD (q4t K a r) (q4s K a r) [.fr (.int (cnt:Int)),.fr (encU p)] (l.map encD)=some (((l.filter fun d=>decide (d.length<cnt))).map fun d=>encD (d++[p])):=by
   refine q3y (q:=fun d=>decide (d.length<cnt)) (g:=fun d=>encD (d++[p])) (en:=encD) l fun d _=>?_
   refine⟨[.fr (encD d),.fr (.int (cnt:Int)),.fr (encU p)],?_,fun hd=>⟨[.fr (encD d),.fr (.int (cnt:Int)),.fr (encU p)],?_⟩⟩
   ·unfold q4t encD;walk_at "den";rw[w0a];congr 1;exact decide_eq_decide.mpr ⟨fun h=>by omega,fun h=>by omega⟩
   ·have hd:=of_decide_eq_true hd;unfold q4s encD;walk_at "den";rw[w0a,if_pos (by omega)];rw[w1j];rfl
  have eb:q3p K a r [.fr A,.fr (.int (cnt:Int)),.fr (.lst (l.map encD)),.fr (encU p)]=.nx [.fr A,.fr (.int (cnt:Int)),.fr (.lst ((l++(l.filter fun d=>decide (d.length<cnt)).map fun d=>d++[p]).map encD)),.fr (encU p)]:=by
   unfold q3p;walk_at "den";rw[w0a,if_pos (by omega)];simp only[frz1,pj1,w0e,w0k];rw[cm];walk_at "den";rw[w0a,w0a,if_pos (by rw[w0a]at hf;omega)];walk_at "den";rw[w1j,w2h];rfl
  refine⟨z',?_⟩;rw[w0n,q25];simp only[w1u,w1v];rw[eb,q3v];exact ih
theorem x68(n:Nat){ps:List Cb}(hp:ps.length<=6)(hc:cnt<=100):run K a (n+1) q1t [.lst (ps.map encU),.int (cnt:Int)]=.ok (.fr (.lst ((subF cnt ps [[]]).map encD))):=by
 obtain⟨z,h⟩:=x3u (K:=K) (a:=a) (run K a n) (.lst (ps.map encU)) hc ps [[]] .no (by
  have:2^ps.length<=64:=w0m (w1a (by decide) hp) (by decide);simp;omega)
 rw[q6f];unfold q3g;walk_at "den";rw[show[W.lst []]=[[]].map encD from rfl,h];walk_at "den"
theorem x8f(r:Nat->List W->FR){w:Cb}(x1 x2 x3 x4 x5 x7:S):∀(l:List (List Cb))(z:S),(∀d∈l,r q0u [encD d,.lst (w.map eo)]=.ok (.fr (.bl false)))->∃z',forD 6 (q17 K a r) (l.map encD) [.fr (.lst (w.map eo)),x1,x2,x3,x4,x5,z,x7]=.nx [.fr (.lst (w.map eo)),x1,x2,x3,x4,x5,z',x7]
 |[],z,_=>⟨z,rfl⟩
 |d::l,z,h=>by
  obtain⟨z',ih⟩:=x8f r x1 x2 x3 x4 x5 x7 l (.fr (encD d)) fun x hx=>h x (w0f _ hx)
  have hd:=h d w0h
  have eb:q17 K a r [.fr (.lst (w.map eo)),x1,x2,x3,x4,x5,.fr (encD d),x7]=.nx [.fr (.lst (w.map eo)),x1,x2,x3,x4,x5,.fr (encD d),x7]:=by
   unfold q17;walk_at "den";rw[hd];walk_at "den"
  refine⟨z',?_⟩;rw[w0n,q25];simp only[w1u,w1v];rw[eb,q3v];exact ih
theorem y9t{w:Cb}(hw:w.length=2^m)(hk:k∈wr w):fitB ((rowB m k).map some) w=true:=by
 obtain⟨h1,h2⟩:=w0w.mp hk;have hlt:k<2^m:=by rw[<- hw];exact w0x.mp h1
 have h2:w.getD k none=some true:=by simpa using h2
 have hl:((rowB m k).map some).length=m:=by rw[w0a,q2t]
 exact w0z.mpr fun i hi=>by
  obtain⟨a1,a2⟩:=rin_mem.mp hi;rw[hl]at a1 a2;rw[x2k _ _ (by rw[q2t,q2t])]at a2;rw[<- x8b hlt a1 a2,h2];rfl
theorem x6i(r:Nat->List W->FR)(w:Cb):compD (q30 K a r) (q3z K a r) [.fr (.lst (w.map eo))] ((List.range w.length).map fun k=>W.int ((k:Nat):Int))=some ((wr w).map nI):=by
 refine q3y (q:=fun k=>w.getD k none==some true) (g:=nI) (en:=fun k=>W.int ((k:Nat):Int)) (List.range w.length) fun k hk=>?_
 rw[w0x]at hk;refine⟨[.fr (.int (k:Int)),.fr (.lst (w.map eo))],?_,fun _=>⟨[.fr (.int (k:Int)),.fr (.lst (w.map eo))],?_⟩⟩
 ·unfold q30;walk_at "den";rw[q9e hk];walk_at "den";rw[q9f];walk_at "den"
 ·unfold q3z;walk_at "den";rfl
def envN(w:Cb)(P:List Cb)(cnt m:Nat)(ns:List Int)(cs:List Cb)(z7:S):List S:=[.fr (.lst (w.map eo)),.fr (.lst (P.map encU)),.fr (.int (cnt:Int)),.fr (.lst (ns.map .int)),.fr (.int (m:Int)),.fr (.lst ((wr w).map nI)),.own none (cs.map encU),z7]
theorem y9u(hf:Fit ns)(n:Nat){w:Cb}(hw:w.length=2^m)(hm:m<=4)(hne:0<(wr w).length)(P:List Cb)(cnt:Nat){cs:List Cb}(hl:cs.length<=100)(hk:k<=100):∃c:Cb,c.length=m/\fitB c w=true/\q2u K a (run K a (n+3)) (envN w P cnt m ns cs (.fr (.int (k:Int))))=.nx (envN w P cnt m ns (cs++[c]) (.fr (.int (k:Int)))):=by
 obtain⟨v1,h1⟩:=q7n (K:=K) (a:=a) hf (n+1) (k:=20+(k:Int)) (by omega) (by omega);obtain⟨v2,h2⟩:=q7n (K:=K) (a:=a) hf (n+1) (k:=40+(k:Int)) (by omega) (by omega);obtain⟨q,hq⟩:=w3d (w3a v1 (show((wr w).length:Int)≠0 by omega));have hq2:q<(wr w).length:=by have:=w2p v1 (show(0:Int)<((wr w).length:Int) by omega);omega
 obtain⟨num,hnum⟩:∃num,(wr w)[q]?=some num:=⟨_,w0b hq2⟩;have ha:atI ((wr w).map nI) (q:Int)=some (.int (num:Int)):=q5u (by rw[w0v,hnum];rfl);obtain⟨c,e1,e2,e3⟩:=y2m (K:=K) (a:=a) n hw hm num v2;have h1:run K a (n+3) q1j _=_:=h1;have h2:run K a (n+3) q1j _=_:=h2;refine⟨c,e2,e3 (y9t hw (w0y hnum)),?_⟩;unfold q2u envN;generalize run K a (n+3)=r at h1 h2 e1 |-
 walk_at "den";rw[h1];walk_at "den";rw[w0a,if_pos (by omega)];walk_at "den";rw[hq,ha];walk_at "den";rw[h2];walk_at "den";rw[e1];walk_at "den";rw[if_pos (by rw[w0a];omega)];rw[w1j];rfl
theorem x4a(hf:Fit ns)(n:Nat){w:Cb}(hw:w.length=2^m)(hm:m<=4)(hne:0<(wr w).length){c:Nat}(hc:c<=20){cs:List Cb}(L:LC (Pm w m) (wr w) (c+1) cs T):run K a (n+4) q04 [.lst (w.map eo),.lst ((Pm w m).map encU),.int (c:Int),.lst (ns.map .int),.int (m:Int)]=.ok (.fr (.bl true)):=by
 have h16:2^m<=16:=w0m (w1a (by decide) hm) (by decide);obtain⟨hP,hlen⟩:=x4f w hm
 obtain⟨e',h5,ds,z7,rfl,hl,hd⟩:=q4y (b:=q2u K a (run K a (n+3))) (i:=7) (lo:=0) (hi:=(c:Int)) c (by omega) (fun j e=>∃(ds:List Cb)(z7:S),e=envN w (Pm w m) c m ns ds z7/\ds.length=j/\∀d∈ds,d.length=m/\fitB d w=true) (envN w (Pm w m) c m ns [] .no) ⟨[],_,rfl,rfl,fun _ h=>(by cases h)⟩ (by
  rintro j e hj ⟨ds,z7,rfl,hl,hd⟩;rw[Int.zero_add];obtain⟨d,d1,d2,d3⟩:=y9u (K:=K) (a:=a) hf n hw hm hne (Pm w m) c (cs:=ds) (by omega) (k:=j) (by omega);refine⟨_,d3,ds++[d],_,rfl,by simp[hl],fun x hx=>?_⟩
  rcases w1r.mp hx with hx|hx
  ·exact hd x hx
  ·rw[w1g.mp hx];exact⟨d1,d2⟩)
 have cf:∀ds:List Cb,(∀d∈ds,d.length=m)->ds.length<=100->¬Cov ds (wr w)->run K a (n+3) q0u [encD ds,.lst (w.map eo)]=.ok (.fr (.bl false)):=fun ds h1 h2 h3=>by
  have:=x6g (K:=K) (a:=a) (n+1) hw hm h1 (by omega);rw[w1k.mpr fun z=>h3 (cov_rst.mp z)]at this
  exact this
 have c1:=cf ds (fun d h=>(hd d h).1) (by omega) (fewer L (fun d h=>(hd d h).1) (fun d h=>(hd d h).2) (by omega))
 have wc:=x6i (K:=K) (a:=a) (run K a (n+3)) w
 have lp:(Pm w m).length<=6->∀x1 x2 x3 x4 x5 z x7,∃z',forD 6 (q17 K a (run K a (n+3))) ((subF c (Pm w m) [[]]).map encD) [.fr (.lst (w.map eo)),x1,x2,x3,x4,x5,z,x7]=.nx [.fr (.lst (w.map eo)),x1,x2,x3,x4,x5,z',x7]:=fun _ x1 x2 x3 x4 x5 z x7=>x8f (K:=K) (a:=a) (run K a (n+3)) x1 x2 x3 x4 x5 x7 _ z fun d h=>by
  obtain⟨d1,d2⟩:=x6h (P:=Pm w m) (cnt:=c) (Pm w m) [[]] (fun c h=>h) (fun d h=>by rw[w1g.mp h];exact⟨w1c _,fun _ h=>(by cases h)⟩) d h
  exact cf d (fun x hx=>hlen x (d2 x hx)) (by omega) (L.least d2 (by omega))
 have sb:(Pm w m).length<=6->run K a (n+3) q1t [.lst ((Pm w m).map encU),.int (c:Int)]=.ok (.fr (.lst ((subF c (Pm w m) [[]]).map encD))):=fun h=>x68 (K:=K) (a:=a) (n+2) h (by omega)
 rw[q46];unfold q2l;generalize run K a (n+3)=r at wc h5 c1 lp sb |-
 walk_at "den";rw[w0a,if_pos (q2z (by omega) (by omega))];walk_at "den";rw[if_pos (by rw[q20];omega)];simp only[frz1,pj1,w0e,w0k];rw[q3j,wc];walk_at "den";rw[if_pos (q2z (by omega) (by omega))];walk_at "den";unfold envN at h5;rw[w1s]at h5;rw[h5];walk_at "den";rw[show r q0u [.lst (ds.map encU),.lst (w.map eo)]=_ from c1];walk_at "den";rw[w0a]
 by_cases h6:(Pm w m).length<=6
 ·rw[if_pos (by omega),sb h6];walk_at "den";obtain⟨z',hz⟩:=lp h6 (.fr (.lst ((Pm w m).map encU))) (.fr (.int (c:Int))) (.fr (.lst (ns.map .int))) (.fr (.int (m:Int))) (.fr (.lst ((wr w).map nI))) (.own none (ds.map encU)) z7;rw[hz];walk_at "den"
 ·rw[if_neg (by omega)];walk_at "den"
def cr22(K:Fg)(a:Adr)(r:Nat->List W->FR):List S->SR:=
 (dSeq (dSet 3 (dCall (r q2o) (dCons (dVar 2) dNil)))
  (dSeq (dSetO 4 (dList (dCons (dVar 2) dNil)))
  (dSeq (dSetTL 5 (r q01) (dCons (dVar 4) dNil))
  (dSeq (dIfS (dOr (dNot (dTru (dBorrow (dIsi K (.type "tuple") (dVar 5))))) (dOr (dBorrowT (dTest (dOp ne2 (dFn len1 (dCons (dVar 5) dNil)) (dC (.int 2))))) (dOr (dNot (dTru (dBorrow (dIsi K (.type "list") (dOp ixW (dVar 5) (dC (.int 0))))))) (dBorrowT (dTest (dOp ne2 (dVar 4) (dVar 2)))))))
  (dRet (dC (.bl false)))
  dNx)
  (dSeq (dSet 6 (dFz (dLendF (dList (dCons (dOp ixW (dVar 5) (dC (.int 0))) dNil)))))
  (dSeq (dIfS (dOr (dTest (dOp ne2 (dVar 6) (dFz (dComp [6] (dVar 3) (q9d K a r) (q9c K a r))))) (dNot (dTru (dCall (r q0u) (dCons (dVar 6) (dCons (dVar 2) dNil))))))
  (dRet (dC (.bl false)))
  dNx)
  (dSeq (dAppTh 5)
  (dSeq (dMut0 4 fun _=>[])
  (dSeq (dIfS (dTest (dOp ne2 (dOp ixW (dCall (r q01) (dCons (dVar 2) dNil)) (dC (.int 0))) (dVar 6)))
  (dRet (dC (.bl false)))
  dNx)
  (dSeq (dIfS (dTest (dOp eq2 (dVar 6) (dFz (dLst dNil))))
  (dRet (dOp ninW (dC (.bl true)) (dVar 2)))
  dNx)
  (dRet (dCall (r q04) (dCons (dVar 2) (dCons (dVar 3) (dCons (dOp subW (dFn len1 (dCons (dVar 6) dNil)) (dC (.int 1))) (dCons (dVar 0) (dCons (dVar 1) dNil)))))))))))))))))
theorem y5w(K:Fg)(a:Adr)(r:Nat->List W->FR):x1g K a r =
 (dSeq (dIfS (dTest (dOp eq2 (dOp fdivW (dCall (r q0t) (dCons (dVar 0) (dCons (dC (.int 0)) (dCons (dC (.int 40)) dNil)))) (dC (.int 5))) (dC (.int 1))))
  (dRet (dCall (r q1o) (dCons (dCall (r q1f) (dCons (dVar 0) dNil)) dNil)))
  dNx)
  (dSeq (dSet 1 (dCall (r q0t) (dCons (dVar 0) (dCons (dC (.int 0)) (dCons (dC (.int 5)) dNil)))))
  (dSeq (dSet 2 (dCall (r q1n) (dCons (dVar 0) (dCons (dVar 1) dNil))))
  (dSeq (dIfS (dTest (dOp eq2 (dCall (r q0t) (dCons (dVar 0) (dCons (dC (.int 3)) (dCons (dC (.int 6)) dNil)))) (dC (.int 1))))
  (dSeq (dSet 1 (dC (.int 3)))
  (dSet 2 (dFz (dCompR rng1 [0] (dCons (dC (.int 8)) dNil) dYes (q5w K a r)))))
  dNx)
  (cr22 K a r))))):=rfl
theorem y2n(c:Cb):∀cs:List Cb,inBW (encU c) (cs.map encU)=some (cs.contains c)
 |[]=>rfl
 |d::cs=>by
  show(match eqW (encU d) (encU c),inBW (encU c) (cs.map encU)with
   |some b,some c=>some (b||c)
   |_,_=>none)=_
  rw[y2n c cs,show eqW (encU d) (encU c)=some (decide (d=c))from x58 d c,w3c];show some (decide (d=c)||cs.contains c)=some ((c==d)||cs.contains c);congr 2
  by_cases h:d=c
  ·subst h;rw[decide_eq_true rfl,beq_self_eq_true]
  ·rw[decide_eq_false h,beq_eq_false_iff_ne.mpr fun z=>h z.symm]
theorem z5a(c:Cb)(cs:List Cb):inL (encU c) (.lst (cs.map encU))=some (.bl (cs.contains c)):=by
 show(if depWs (cs.map encU)<=148 then(inBW (encU c) (cs.map encU)).map W.bl else none)=_;rw[if_pos (w0m (q9g cs) (by decide)),y2n];rfl
theorem y2o(r:Nat->List W->FR)(P cs:List Cb):compD (q9d K a r) (q9c K a r) [.fr (.lst (cs.map encU))] (P.map encU)=some ((srtU P cs).map encU):=by
 refine q3y (q:=fun c=>cs.contains c) (g:=encU) (en:=encU) P fun c _=>?_
 refine⟨[.fr (encU c),.fr (.lst (cs.map encU))],?_,fun _=>⟨[.fr (encU c),.fr (.lst (cs.map encU))],?_⟩⟩
 ·unfold q9d;walk_at "den";rw[z5a];walk_at "den"
 ·unfold q9c;walk_at "den"
theorem y2p(P cs:List Cb):srtU P (srtU P cs)=srtU P cs:=by
 unfold srtU;refine List.filter_congr fun c hc=>?_
 apply w1i.mpr;simp only[w3j,w0w];exact⟨fun h=>h.2,fun h=>⟨hc,h⟩⟩
theorem x6j(M:Exs K mg a)(hF:Fit ns){w:Cb}(hw:w.length=2^m)(hm:m<=4):∃e',cr22 K a (run K a 148) [.fr (.lst (ns.map .int)),.fr (.int (m:Int)),.fr (.lst (w.map eo)),.no,.no,.no,.no]=.rt (.fr (.bl true)) e':=by
 obtain⟨N,cs,T,hN,L,lr⟩:=x9i (K:=K) (a:=a) 28 hw hm;have lr:run K a 148 q01 _=_:=lr;obtain⟨hP,hc⟩:=x4f w hm;obtain⟨b1,b2,b3,b4⟩:=q6h _ _ _ _ L.cov;have hcl:=L.len;have hfl:=L.flat;have sl:=y5r (fun c hc=>(b1 c hc).1) b4
 have sm:∀c∈srtU (Pm w m) cs,c∈Pm w m:=fun c h=>(srtU_mem.mp h).1
 have hlen:∀c∈srtU (Pm w m) cs,c.length=m:=fun c h=>hc c (sm c h)
 have cv:Cov (srtU (Pm w m) cs) (wr w):=fun k hk=>by
  obtain⟨c,c1,c2⟩:=b3 k hk;exact⟨c,srtU_mem.mpr ⟨(b1 c c1).1,c1⟩,c2⟩
 have pr:run K a 148 q2o [.lst (w.map eo)]=.ok (.own none ((Pm w m).map encU)):=x1u (K:=K) (a:=a) 142 hw hm;have cr:run K a 148 q0u [.lst ((srtU (Pm w m) cs).map encU),.lst (w.map eo)]=_:=x6g (K:=K) (a:=a) 146 hw hm hlen (by omega);rw[cov_rst.mpr cv]at cr;have em:=z3b (xs:=(srtU (Pm w m) cs).map encU) (w0m (q9g _) (by decide));have lc:=y2o (K:=K) (a:=a) (run K a 148) (Pm w m) (srtU (Pm w m) cs);rw[y2p]at lc
 have nf:∀c,N=c+1->run K a 148 q04 [.lst (w.map eo),.lst ((Pm w m).map encU),.int (c:Int),.lst (ns.map .int),.int (m:Int)]=.ok (.fr (.bl true)):=fun c e=>by
  subst e
  have hne:0<(wr w).length:=by
   cases q:wr w with
   |nil=>
    have:=L.tree c rfl;rw[q]at this;unfold tryF at this;cases this
   |cons x y=>simp
  exact x4a (K:=K) (a:=a) hF 144 hw hm hne (by omega) L
 have h0:N=0->w.contains (some true)=false/\srtU (Pm w m) cs=[]:=fun e=>by
  subst e;exact⟨z3d (try0 L.cov),w3b.mp (by omega)⟩
 clear L b1 b2 b3 b4 cv sm hlen
 generalize hC:srtU (Pm w m) cs=C at lr cr em lc h0 sl;generalize run K a 148=r at lr pr cr lc nf |-
 unfold cr22;walk_at "den";rw[pr];walk_at "den";rw[lr,y86 ⟨rfl,y2e C,hfl⟩];walk_at "den";rw[y7t M.t_tuple_tuple];walk_at "den";rw[y7u M.t_list_list];walk_at "den";rw[y9e];walk_at "den";rw[if_pos (y2e C)];walk_at "den";rw[if_neg (by decide),w0a,if_pos (by omega)];simp only[frz1,pj1,w0e,w0k];rw[lc];walk_at "den";rw[x56];walk_at "den";rw[cr];walk_at "den";rw[y5b (by rw[w0a];omega) (by rfl)];walk_at "den";rw[lr];walk_at "den";rw[x56];walk_at "den";rw[em];cases N with
 |zero=>
  obtain⟨z1,z2⟩:=h0 rfl;subst z2;simp only[w1s,List.isEmpty_nil];walk_at "den";rw[y5u,z1];exact⟨_,rfl⟩
 |succ c=>
  have e1:(C.map encU).isEmpty=false:=by
   cases C with
   |nil=>simp at sl;omega
   |cons x y=>rfl
  rw[e1];walk_at "den";rw[w0a,sl,hcl,show((c+1:Nat):Int)-1=(c:Int) by omega,nf c rfl];walk_at "den";exact⟨_,rfl⟩
theorem y5x(n:Nat)(ns:List Int):∃w:Cb,compD dYes (q5w K a (run K a (n+2))) [.fr (.lst (ns.map .int))] (rangeW 0 8)=some (w.map eo)/\w.length=8:=by
 obtain⟨v,h,_,_⟩:=q5e (K:=K) (a:=a) n ns (k:=2) (m:=8) (by omega) (by omega) (by omega);rw[show(8:Int)=((8:Nat):Int)from rfl,q3j]
 obtain⟨os,h1,h2⟩:=x2g (d:=q5w K a (run K a (n+2))) (pe:=[.fr (.lst (ns.map .int))]) (ws:=(List.range 8).map fun k=>W.int ((k:Nat):Int)) (by
  intro x hx;obtain⟨j,hj,rfl⟩:=w1f.mp hx;unfold q5w;walk_at "den";rw[h];walk_at "den";rw[h];walk_at "den";rw[show ninW (.int (j:Int)) (.tup [.int v,.int (7-v)])=some (.bl (!([W.int v,.int (7-v)].any fun y=>eqS y (.int (j:Int)))))from rfl]
  exact⟨some _,_,rfl⟩)
 exact⟨os,h1,by rw[h2];rfl⟩
theorem y5y(M:Exs K mg a)(ns:List Int)(hl:Fit ns):run K a 149 q5s [.lst (ns.map .int)]=.ok (.fr (.bl true)):=by
 obtain⟨v,w0,wv0,wv1⟩:=q5e (K:=K) (a:=a) 146 ns (k:=0) (m:=5) (by omega) (by omega) (by omega);obtain⟨m,rfl⟩:=w3d wv0;have hm:m<=4:=by omega
 obtain⟨v40,w40,_,_⟩:=q5e (K:=K) (a:=a) 146 ns (k:=0) (m:=40) (by omega) (by omega) (by omega);obtain⟨ow,o1,o2⟩:=x65 (K:=K) (a:=a) hl 145;have rf:=x67 (K:=K) (a:=a) M 139 (ws:=ow.map eo) (fun m hm=>by rw[w0a];exact o2 m hm)
 obtain⟨w,wb,hw⟩:=x9c (K:=K) (a:=a) hl 145 hm;obtain⟨v6,w6,_,_⟩:=q5e (K:=K) (a:=a) 146 ns (k:=3) (m:=6) (by omega) (by omega) (by omega);obtain⟨w2,oc,hw2⟩:=y5x (K:=K) (a:=a) 146 ns;obtain⟨e1,k1⟩:=x6j (K:=K) (a:=a) M hl hw hm;obtain⟨e2,k2⟩:=x6j (K:=K) (a:=a) M hl (w:=w2) (m:=3) (by rw[hw2]) (by omega);have w0:run K a 148 q0t [.lst (ns.map .int),.int 0,.int 5]=.ok (.fr (.int (m:Int))):=w0;have w40:run K a 148 q0t [.lst (ns.map .int),.int 0,.int 40]=.ok (.fr (.int v40)):=w40;have o1:run K a 148 q1f [.lst (ns.map .int)]=.ok (.own none (ow.map eo)):=o1;have rf:run K a 148 q1o [.lst (ow.map eo)]=.ok (.fr (.bl true)):=rf;have wb:run K a 148 q1n [.lst (ns.map .int),.int (m:Int)]=.ok (.own none (w.map eo)):=wb;have w6:run K a 148 q0t [.lst (ns.map .int),.int 3,.int 6]=.ok (.fr (.int v6)):=w6;have oc:compD dYes (q5w K a (run K a 148)) _ _=_:=oc;show run K a (148+1) q5s _=_;rw[x7x,y5w];generalize run K a 148=r at w0 w40 o1 rf wb w6 oc k1 k2 |-
 walk_at "den";rw[w40];walk_at "den"
 by_cases h40:v40 / 5=1
 ·rw[if_pos h40,o1];walk_at "den";rw[rf];walk_at "den"
 ·rw[if_neg h40,w0];walk_at "den";rw[wb];walk_at "den";rw[w6];walk_at "den"
  by_cases h:v6=1
  ·rw[if_pos h,if_pos (by decide)];walk_at "den";rw[if_pos (by decide)];simp only[frz1,pj1,w0e,w0k];rw[oc];walk_at "den";rw[show(3:Int)=((3:Nat):Int)from rfl,k2];rfl
  ·rw[if_neg h,k1];rfl
end
theorem walk{l:PySem.W.OpenLaw}{q:Program}{loose:List Str}{XP:(Str->Option Value)->Heap->Prop}{YP:World->Heap->Prop}{d:DefRec}{K:Params->Fg}{tabs:List (Addr×Str)}(hn:l.most=some 63)(hdf:d.params.defaults=[])
  (hY:∀(w:World)(h:Heap),YP w h->(K w.params).In h)(hT:∀(w:World)(h:Heap),YP w h->∀P∈tabs.map (·.1),h.get? P=some (tabObj #[]))
  (hG:∀w:World,((D.dropT (K w.params)).lookup mainGlobals).isSome=true)(hNM:∀w:World,noMark (K w.params)=true)(hd:tabs.all (fun p=>tabs.lookup p.1==some p.2)=true)
  (hK:∀w:World,tabs.all (fun p=>((D.dropT (K w.params)).lookup p.1).isNone)=true)(hc:∀w:World,∀p∈tabs,∃c,codeHdIn (K w.params) c p.1=true)
  (F:∀(w:World)(mg:Str->Option Value)(fa:Addr)(h:Heap),(D.markT (D.dropT (K w.params)) tabs).In h->h.Ns mainGlobals mg->mg d.name=some (.ref fa) ->
   ∃fd:FuncData,(∀(s:Shared)(u:Value),BindsTo s fd ⟨[u],[]⟩ [("_law_script", u)])/\∀base:Heap,(D.markT (D.dropT (K w.params)) tabs).In base->base.Ns mainGlobals mg->BMain base mg->FnOk l.prog w (D.markT (D.dropT (K w.params)) tabs) mg base (CX1 l.prog w) 151 fa fd ["_law_script"] (spLawB (D.markT (D.dropT (K w.params)) tabs))):
  PySem.W.WalkO q loose XP YP l.row.toRowW d [] (fun f vs=>PySem.call f vs):=
 L2.y1v (K:=fun p=>D.markT (D.dropT (K p)) tabs) (tabs:=tabs) (n:=63) (k:=151) (x:="_law_script") (CX:=fun w=>CX1 l.prog w) (sp:=fun w=>spLawB (D.markT (D.dropT (K w.params)) tabs)) hn (by decide) hdf ⟨rfl,by decide,by decide,rfl⟩ (fun w h Y=>D.in_m (hG w) (D.y4t (hY w h Y))) F (fun _ _ a ns hl hb hS=>⟨a,ns,rfl,hS,⟨hl,hb⟩,fun _=>rfl⟩) (fun _ _ _ _ _ z=>z01 z)
  (fun w=>D.x84 (D.x6p (hNM w)) hd) (fun w h Y=>D.y8s (hY w h Y) (hT w h Y) (hc w)) (fun w=>D.tabs_none (hG w) (hK w))
end Q
open PySem PySem.W PyProof.Rows
set_option maxRecDepth 100000 in
set_option maxHeartbeats 0 in
theorem PySem.Challenge.cw_circuits_k22_least_covers_holds : PySem.Challenge.rw_circuits_k22_least_covers.Holds := by
 w_on; o_law; k_head; (case hw => w_witness2)
 k_fill
 refine Q.walk (l := PySem.Challenge.rw_circuits_k22_least_covers) (tabs := [(158, ("rarest" ++ ".<locals>.") ++ "<lambda>")]) rfl rfl (fun w h Y => PySem.W.km_in_of Y) (fun w h Y => PySem.W.km_tabs_of Y) (fun w => by kernel_rfl) (fun w => by kernel_rfl) (by decide +kernel) (fun w => by kernel_rfl) (fun w => List.forall_mem_cons.mpr ⟨⟨162, by kernel_rfl⟩, fun _ h => nomatch h⟩) ?F
 case F =>
  intro w mg fa h KX G hmg;refine' Q.mk KX G hmg ?a0 ?l0 ?c0 ?k0 ?a1 ?l1 ?c1 ?k1 ?a2 ?l2 ?c2 ?k2 ?a3 ?l3 ?c3 ?k3 ?a4 ?l4 ?c4 ?k4 ?a5 ?l5 ?c5 ?k5 ?a6 ?l6 ?c6 ?k6 ?a7 ?l7 ?c7 ?k7 ?a8 ?l8 ?c8 ?k8 ?a9 ?l9 ?c9 ?k9 ?a10 ?l10 ?c10 ?k10 ?a11 ?l11 ?c11 ?k11 ?a12 ?l12 ?c12 ?k12 ?a13 ?l13 ?c13 ?k13 ?a14 ?l14 ?c14 ?k14 ?a15 ?l15 ?c15 ?k15 ?a16 ?l16 ?c16 ?k16 ?a17 ?l17 ?c17 ?k17 ?a18 ?l18 ?c18 ?k18 ?a19 ?l19 ?c19 ?k19 ?a20 ?l20 ?c20 ?k20 ?a21 ?l21 ?c21 ?k21 ?a22 ?l22 ?c22 ?k22 ?a23 ?l23 ?c23 ?k23 ?a24 ?l24 ?c24 ?k24 ?a25 ?l25 ?c25 ?k25 ?a26 ?l26 ?c26 ?k26 ?a27 ?l27 ?c27 ?k27 ?a28 ?l28 ?c28 ?k28 ?a29 ?l29 ?c29 ?k29 ?a30 ?l30 ?c30 ?k30 ?a31 ?l31 ?c31 ?k31 ?a32 ?l32 ?c32 ?k32 ?v18 ?h18 ?m18 ?n_CircuitError ?n_NoRow ?n_NoTable ?n_MOST_PLACES_tables ?n_MOST_PLACES_covers ?n_SIGNS ?tab_SIGNS ?z_all ?z_any ?z_enumerate ?z_int ?z_isinstance ?z_len ?z_list ?z_min ?z_range ?z_reversed ?z_sorted ?z_tuple ?z_zip ?g_MOST_PLACES_tables ?g_MOST_PLACES_covers ?e_NoRow ?e_NoTable ?c_NoRow ?x_NoRow_CircuitError ?k_NoRow_NoTable ?c_NoTable ?x_NoTable_CircuitError ?k_NoTable_NoTable ?t_NoneType_tuple ?t_bool_tuple ?t_int_tuple ?t_str_tuple ?t_tuple_tuple ?t_list_tuple ?t_NoneType_list ?t_bool_list ?t_int_list ?t_str_list ?t_tuple_list ?t_list_list 148 ?hL
  (case a0 => exact D.ns_m (D.q0g (by k_is) (by kernel_rfl)))
  (case l0 => exact D.q0q (D.q0i (by k_is) (by kernel_rfl)))
  (case c0 => exact D.q0v (D.q0k (by k_is) (by kernel_rfl)))
  (case k0 => exact D.q0w (by kernel_rfl))
  (case a1 => exact D.ns_m (D.q0g (by k_is) (by kernel_rfl)))
  (case l1 => exact D.q0q (D.q0i (by k_is) (by kernel_rfl)))
  (case c1 => exact D.q0v (D.q0k (by k_is) (by kernel_rfl)))
  (case k1 => exact D.q0w (by kernel_rfl))
  (case a2 => exact D.ns_m (D.q0g (by k_is) (by kernel_rfl)))
  (case l2 => exact D.q0q (D.q0i (by k_is) (by kernel_rfl)))
  (case c2 => exact D.q0v (D.q0k (by k_is) (by kernel_rfl)))
  (case k2 => exact D.q0w (by kernel_rfl))
  (case a3 => exact D.ns_m (D.q0g (by k_is) (by kernel_rfl)))
  (case l3 => exact D.q0q (D.q0i (by k_is) (by kernel_rfl)))
  (case c3 => exact D.q0v (D.q0k (by k_is) (by kernel_rfl)))
  (case k3 => exact D.q0w (by kernel_rfl))
  (case a4 => exact D.ns_m (D.q0g (by k_is) (by kernel_rfl)))
  (case l4 => exact D.q0q (D.q0i (by k_is) (by kernel_rfl)))
  (case c4 => exact D.q0v (D.q0k (by k_is) (by kernel_rfl)))
  (case k4 => exact D.q0w (by kernel_rfl))
  (case a5 => exact D.ns_m (D.q0g (by k_is) (by kernel_rfl)))
  (case l5 => exact D.q0q (D.q0i (by k_is) (by kernel_rfl)))
  (case c5 => exact D.q0v (D.q0k (by k_is) (by kernel_rfl)))
  (case k5 => exact D.q0w (by kernel_rfl))
  (case a6 => exact D.ns_m (D.q0g (by k_is) (by kernel_rfl)))
  (case l6 => exact D.q0q (D.q0i (by k_is) (by kernel_rfl)))
  (case c6 => exact D.q0v (D.q0k (by k_is) (by kernel_rfl)))
  (case k6 => exact D.q0w (by kernel_rfl))
  (case a7 => exact D.ns_m (D.q0g (by k_is) (by kernel_rfl)))
  (case l7 => exact D.q0q (D.q0i (by k_is) (by kernel_rfl)))
  (case c7 => exact D.q0v (D.q0k (by k_is) (by kernel_rfl)))
  (case k7 => exact D.q0w (by kernel_rfl))
  (case a8 => exact D.ns_m (D.q0g (by k_is) (by kernel_rfl)))
  (case l8 => exact D.q0q (D.q0i (by k_is) (by kernel_rfl)))
  (case c8 => exact D.q0v (D.q0k (by k_is) (by kernel_rfl)))
  (case k8 => exact D.q0w (by kernel_rfl))
  (case a9 => exact D.ns_m (D.q0g (by k_is) (by kernel_rfl)))
  (case l9 => exact D.q0q (D.q0i (by k_is) (by kernel_rfl)))
  (case c9 => exact D.q0v (D.q0k (by k_is) (by kernel_rfl)))
  (case k9 => exact D.q0w (by kernel_rfl))
  (case a10 => exact D.ns_m (D.q0g (by k_is) (by kernel_rfl)))
  (case l10 => exact D.q0q (D.q0i (by k_is) (by kernel_rfl)))
  (case c10 => exact D.q0v (D.q0k (by k_is) (by kernel_rfl)))
  (case k10 => exact D.q0w (by kernel_rfl))
  (case a11 => exact D.ns_m (D.q0g (by k_is) (by kernel_rfl)))
  (case l11 => exact D.q0q (D.q0i (by k_is) (by kernel_rfl)))
  (case c11 => exact D.q0v (D.q0k (by k_is) (by kernel_rfl)))
  (case k11 => exact D.q0w (by kernel_rfl))
  (case a12 => exact D.ns_m (D.q0g (by k_is) (by kernel_rfl)))
  (case l12 => exact D.q0q (D.q0i (by k_is) (by kernel_rfl)))
  (case c12 => exact D.q0v (D.q0k (by k_is) (by kernel_rfl)))
  (case k12 => exact D.q0w (by kernel_rfl))
  (case a13 => exact D.ns_m (D.q0g (by k_is) (by kernel_rfl)))
  (case l13 => exact D.q0q (D.q0i (by k_is) (by kernel_rfl)))
  (case c13 => exact D.q0v (D.q0k (by k_is) (by kernel_rfl)))
  (case k13 => exact D.q0w (by kernel_rfl))
  (case a14 => exact D.ns_m (D.q0g (by k_is) (by kernel_rfl)))
  (case l14 => exact D.q0q (D.q0i (by k_is) (by kernel_rfl)))
  (case c14 => exact D.q0v (D.q0k (by k_is) (by kernel_rfl)))
  (case k14 => exact D.q0w (by kernel_rfl))
  (case a15 => exact D.ns_m (D.q0g (by k_is) (by kernel_rfl)))
  (case l15 => exact D.q0q (D.q0i (by k_is) (by kernel_rfl)))
  (case c15 => exact D.q0v (D.q0k (by k_is) (by kernel_rfl)))
  (case k15 => exact D.q0w (by kernel_rfl))
  (case a16 => exact D.ns_m (D.q0g (by k_is) (by kernel_rfl)))
  (case l16 => exact D.q0q (D.q0i (by k_is) (by kernel_rfl)))
  (case c16 => exact D.q0v (D.q0k (by k_is) (by kernel_rfl)))
  (case k16 => exact D.q0w (by kernel_rfl))
  (case a17 => exact D.ns_m (D.q0g (by k_is) (by kernel_rfl)))
  (case l17 => exact D.q0q (D.q0i (by k_is) (by kernel_rfl)))
  (case c17 => exact D.q0v (D.q0k (by k_is) (by kernel_rfl)))
  (case k17 => exact D.q0w (by kernel_rfl))
  (case a18 => exact D.ns_m (D.q0g (by k_is) (by kernel_rfl)))
  (case l18 => exact D.q0q (D.q0i (by k_is) (by kernel_rfl)))
  (case c18 => exact D.q0v (D.q0k (by k_is) (by kernel_rfl)))
  (case k18 => exact D.q0w (by kernel_rfl))
  (case a19 => exact D.ns_m (D.q0g (by k_is) (by kernel_rfl)))
  (case l19 => exact D.q0q (D.q0i (by k_is) (by kernel_rfl)))
  (case c19 => exact D.q0v (D.q0k (by k_is) (by kernel_rfl)))
  (case k19 => exact D.q0w (by kernel_rfl))
  (case a20 => exact D.ns_m (D.q0g (by k_is) (by kernel_rfl)))
  (case l20 => exact D.q0q (D.q0i (by k_is) (by kernel_rfl)))
  (case c20 => exact D.q0v (D.q0k (by k_is) (by kernel_rfl)))
  (case k20 => exact D.q0w (by kernel_rfl))
  (case a21 => exact D.ns_m (D.q0g (by k_is) (by kernel_rfl)))
  (case l21 => exact D.q0q (D.q0i (by k_is) (by kernel_rfl)))
  (case c21 => exact D.q0v (D.q0k (by k_is) (by kernel_rfl)))
  (case k21 => exact D.q0w (by kernel_rfl))
  (case a22 => exact D.ns_m (D.q0g (by k_is) (by kernel_rfl)))
  (case l22 => exact D.q0q (D.q0i (by k_is) (by kernel_rfl)))
  (case c22 => exact D.q0v (D.q0k (by k_is) (by kernel_rfl)))
  (case k22 => exact D.q0w (by kernel_rfl))
  (case a23 => exact D.ns_m (D.q0g (by k_is) (by kernel_rfl)))
  (case l23 => exact D.q0q (D.q0i (by k_is) (by kernel_rfl)))
  (case c23 => exact D.q0v (D.q0k (by k_is) (by kernel_rfl)))
  (case k23 => exact D.q0w (by kernel_rfl))
  (case a24 => exact D.ns_m (D.q0g (by k_is) (by kernel_rfl)))
  (case l24 => exact D.q0q (D.q0i (by k_is) (by kernel_rfl)))
  (case c24 => exact D.q0v (D.q0k (by k_is) (by kernel_rfl)))
  (case k24 => exact D.q0w (by kernel_rfl))
  (case a25 => exact D.ns_m (D.q0g (by k_is) (by kernel_rfl)))
  (case l25 => exact D.q0q (D.q0i (by k_is) (by kernel_rfl)))
  (case c25 => exact D.q0v (D.q0k (by k_is) (by kernel_rfl)))
  (case k25 => exact D.q0w (by kernel_rfl))
  (case a26 => exact D.ns_m (D.q0g (by k_is) (by kernel_rfl)))
  (case l26 => exact D.q0q (D.q0i (by k_is) (by kernel_rfl)))
  (case c26 => exact D.q0v (D.q0k (by k_is) (by kernel_rfl)))
  (case k26 => exact D.q0w (by kernel_rfl))
  (case a27 => exact D.ns_m (D.q0g (by k_is) (by kernel_rfl)))
  (case l27 => exact D.q0q (D.q0i (by k_is) (by kernel_rfl)))
  (case c27 => exact D.q0v (D.q0k (by k_is) (by kernel_rfl)))
  (case k27 => exact D.q0w (by kernel_rfl))
  (case a28 => exact D.ns_m (D.q0g (by k_is) (by kernel_rfl)))
  (case l28 => exact D.q0q (D.q0i (by k_is) (by kernel_rfl)))
  (case c28 => exact D.q0v (D.q0k (by k_is) (by kernel_rfl)))
  (case k28 => exact D.q0w (by kernel_rfl))
  (case a29 => exact D.ns_m (D.q0g (by k_is) (by kernel_rfl)))
  (case l29 => exact D.q0q (D.q0i (by k_is) (by kernel_rfl)))
  (case c29 => exact D.q0v (D.q0k (by k_is) (by kernel_rfl)))
  (case k29 => exact D.q0w (by kernel_rfl))
  (case a30 => exact D.ns_m (D.q0g (by k_is) (by kernel_rfl)))
  (case l30 => exact D.q0q (D.q0i (by k_is) (by kernel_rfl)))
  (case c30 => exact D.q0v (D.q0k (by k_is) (by kernel_rfl)))
  (case k30 => exact D.q0w (by kernel_rfl))
  (case a31 => exact D.ns_m (D.q0g (by k_is) (by kernel_rfl)))
  (case l31 => exact D.q0q (D.q0i (by k_is) (by kernel_rfl)))
  (case c31 => exact D.q0v (D.q0k (by k_is) (by kernel_rfl)))
  (case k31 => exact D.q0w (by kernel_rfl))
  (case a32 => exact D.ns_m (D.q0g (by k_is) (by kernel_rfl)))
  (case l32 => exact D.q0q (D.q0i (by k_is) (by kernel_rfl)))
  (case c32 => exact D.q0v (D.q0k (by k_is) (by kernel_rfl)))
  (case k32 => exact D.q0w (by kernel_rfl))
  (case v18 => exact rfl)
  (case h18 => exact (show codeHdIn _ _ 158 = true by kernel_rfl))
  (case m18 => exact w0i _ (by simp))
  (case n_CircuitError => exact D.ns_m (D.q0g (by k_is) (by kernel_rfl)))
  (case n_NoRow => exact D.ns_m (D.q0g (by k_is) (by kernel_rfl)))
  (case n_NoTable => exact D.ns_m (D.q0g (by k_is) (by kernel_rfl)))
  (case n_MOST_PLACES_tables => exact D.ns_m (D.q0g (by k_is) (by kernel_rfl)))
  (case n_MOST_PLACES_covers => exact D.ns_m (D.q0g (by k_is) (by kernel_rfl)))
  (case n_SIGNS => exact D.ns_m (D.q0g (by k_is) (by kernel_rfl)))
  (case tab_SIGNS => exact ⟨⟨_, D.q0q (D.q0i (by k_is) (by kernel_rfl)), by kernel_rfl⟩⟩)
  (case z_all => exact D.ns_m (D.q0g (by k_is) (by kernel_rfl)))
  (case z_any => exact D.ns_m (D.q0g (by k_is) (by kernel_rfl)))
  (case z_enumerate => exact D.ns_m (D.q0g (by k_is) (by kernel_rfl)))
  (case z_int => exact D.ns_m (D.q0g (by k_is) (by kernel_rfl)))
  (case z_isinstance => exact D.ns_m (D.q0g (by k_is) (by kernel_rfl)))
  (case z_len => exact D.ns_m (D.q0g (by k_is) (by kernel_rfl)))
  (case z_list => exact D.ns_m (D.q0g (by k_is) (by kernel_rfl)))
  (case z_min => exact D.ns_m (D.q0g (by k_is) (by kernel_rfl)))
  (case z_range => exact D.ns_m (D.q0g (by k_is) (by kernel_rfl)))
  (case z_reversed => exact D.ns_m (D.q0g (by k_is) (by kernel_rfl)))
  (case z_sorted => exact D.ns_m (D.q0g (by k_is) (by kernel_rfl)))
  (case z_tuple => exact D.ns_m (D.q0g (by k_is) (by kernel_rfl)))
  (case z_zip => exact D.ns_m (D.q0g (by k_is) (by kernel_rfl)))
  (case g_MOST_PLACES_tables => kernel_rfl)
  (case g_MOST_PLACES_covers => kernel_rfl)
  (case e_NoRow => kernel_rfl)
  (case e_NoTable => kernel_rfl)
  (case c_NoRow => kernel_rfl)
  (case x_NoRow_CircuitError => kernel_rfl)
  (case k_NoRow_NoTable => kernel_rfl)
  (case c_NoTable => kernel_rfl)
  (case x_NoTable_CircuitError => kernel_rfl)
  (case k_NoTable_NoTable => kernel_rfl)
  (case t_NoneType_tuple => kernel_rfl)
  (case t_bool_tuple => kernel_rfl)
  (case t_int_tuple => kernel_rfl)
  (case t_str_tuple => kernel_rfl)
  (case t_tuple_tuple => kernel_rfl)
  (case t_list_tuple => kernel_rfl)
  (case t_NoneType_list => kernel_rfl)
  (case t_bool_list => kernel_rfl)
  (case t_int_list => kernel_rfl)
  (case t_str_list => kernel_rfl)
  (case t_tuple_list => kernel_rfl)
  (case t_list_list => kernel_rfl)
  (case hL => exact fun a M ns hl => Q.y5y M ns hl)
