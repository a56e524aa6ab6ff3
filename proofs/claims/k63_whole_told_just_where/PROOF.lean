import PyProof.Rows.All
import Wide.All
import OpenK.AllK
import Wide.FinOn
import PyProof.TupleKey
import PyProof.EqAt
import PyProof.EqKinds
import Wide.Seal
import Lean
import PyProof.TupleCall
import KE.KTryMore
import KE.KRevIter
import PyProof.CollectIter
import PyProof.ConsumeWalk
import PyProof.TupleOfStr
import KE.KIsAll
import PyProof.ExcArgs
import PyProof.ExcAttrAll.ValueError
import PyProof.CompUse
import PyProof.NeKinds
import PyProof.EnumIter
import PyProof.EnumFor
import PyProof.EnumMake
import PyProof.EnumStmt
import PyProof.ListMulRoad
import PyProof.ZipIter
import PyProof.TupleIter
import PyProof.Rows.SortWalk
import PyProof.SetKind
import PyProof.Rows.SetFrom
import PyProof.FactsAll.set_1
import KE.KDictSum
import PyProof.FactsAll.set_2
import PyProof.FactsAll.tuple_2
import PyProof.ReprRoads
import PyProof.Rows.SeqMore
import PyProof.ReprLen
import PyProof.WalkInts
import PyProof.SeqI3
import PyProof.Rows.TupIter
import PyProof.ListRange
import PyProof.SumWalk
import PyProof.DictIter
import PyProof.DictWalks
import PyProof.DictRoadsH
import PyProof.DictTruth
import KE.KDictList
import PyProof.Rows.TupDisplay
import PyProof.Draws
import PyProof.StrBlockI
import PyProof.StrLawsIn
import PyProof.StrOps2
import PyProof.ReprStr
import PyProof.ListNew
import PyProof.Rows.SortRev
import KE.KRevSl
import KE.RegMulBits
import PyProof.AttrMissHeap
import KE.KDictOf
import PySem.Challenge.RW_circuits_k63_whole_told_just_where
set_option Elab.async false
set_option linter.all false
set_option maxRecDepth 100000
set_option maxHeartbeats 1000000
local macro_rules | `(tactic| cases $h:ident) => `(tactic| first | (guard_hyp $h : _ = _; first | subst $h:ident | (injection $h:ident; done) | (injection $h:ident with z1 z2 z3; cases z1; cases z2; cases z3) | (injection $h:ident with z1 z2; cases z1; cases z2) | (injection $h:ident with z1; cases z1)) | cases ($h))
local macro_rules | `(tactic| omega) => `(tactic| first | with_reducible assumption | decide | with_reducible exact Nat.le_refl _ | with_reducible exact Nat.zero_le _ | lia)
set_option genSizeOf false
set_option genInjectivity false
set_option compiler.extract_closed false
local macro_rules | `(tactic| walk_at "1") => `(tactic| (first | exact Or.inl rfl | exact Or.inr (Or.inl rfl) | exact Or.inr (Or.inr rfl)))
local macro_rules | `(tactic| walk_at "2") => `(tactic| (first | exact .inl rfl | exact .inr rfl | assumption))
local macro_rules | `(tactic| walk_at "3") => `(tactic| (first | exact Or.inl rfl | exact Or.inr rfl))
open PySem.W (codeHdIn findIn keepIn kla_obj methodObj mroIn pyHash_slot specialIn tabObj)
def w0a:=@List.length_map
def w0b:=@List.getElem?_eq_some_iff
def w0c:=@Nat.le_refl
def w0d:=@List.mem_of_getElem?
def w0e:=@Option.map_eq_some_iff
def w0f:=@List.getElem?_set_ne
def w0g:=@List.map_append
def w0h:=@List.mem_append_right
def w0i:=@List.getElem?_set_self
def w0j:=@List.getElem?_eq_getElem
def w0k:=@List.mem_map
def w0l:=@Nat.le_trans
def w0m:=@List.mem_cons
def w0n:=@Nat.lt_of_lt_of_le
def w0o:=@Nat.ne_of_lt
def w0p:=@List.map_cons
def w0q:=@Nat.zero_le
def w0r:=@List.map_congr_left
def w0s:=@List.map_map
def w0t:=@List.mem_singleton
def w0u:=@List.all_eq_true
def w0v:=@Bool.and_eq_true
def w0w:=@Option.bind_eq_some_iff
def w0x:=@List.getElem?_cons_succ
def w0y:=@List.append_assoc
def w0z:=@List.getElem?_cons_zero
def w1a:=@List.mem_cons_of_mem
def w1b:=@Nat.pow_le_pow_right
def w1c:=@List.mem_range
def w1d:=@List.mem_append
def w1e:=@List.of_mem_zip
def w1f:=@Int.toNat_natCast
def w1g:=@List.length_cons
def w1h:=@List.getElem_mem
def w1i:=@List.take_succ_eq_append_getElem
def w1j:=@List.foldl_cons
def w1k:=@Bool.false_ne_true
def w1l:=@List.mem_append_left
def w1m:=@List.getElem?_append_right
def w1n:=@List.length_replicate
def w1o:=@List.length_append
def w1p:=@List.getElem?_append_left
def w1q:=@List.ext_getElem?
def w1r:=@List.nodup_cons
def w1s:=@Option.isSome_iff_exists
def w1t:=@List.reverse_cons
def w1u:=@List.getElem?_map
def w1v:=@List.append_nil
def w1w:=@Nat.zero_add
def w1x:=@List.replicate_succ
def w1y:=@List.getElem_of_mem
def w1z:=@List.mem_map_of_mem
def w2a:=@Int.mul_le_mul_of_nonneg_left
def w2b:=@Nat.mul_le_mul
def w2c:=@List.mem_cons_self
def w2d:=@Int.emod_lt_of_pos
def w2e:=@List.forIn_cons
def w2f:=@Int.emod_nonneg
def w2g:=@List.size_toArray
def w2h:=@List.drop_length
def w2i:=@List.map_nil
def w2j:=@List.eq_of_mem_replicate
def w2k:=@List.idxOf_lt_length_iff
def w2l:=@Bool.false_eq_true
def w2m:=@Nat.lt_irrefl
def w2n:=@List.mem_filterMap
def w2o:=@Bool.or_eq_true
def w2p:=@Bool.eq_iff_iff
def w2q:=@List.find?_cons
def w2r:=@Option.isSome_some
def w2s:=@List.take_of_length_le
def w2t:=@List.zipWith_cons_cons
def w2u:=@List.flatten_cons
def w2v:=@Nat.lt_succ_of_lt
def w2w:=@Option.isSome_map
def w2x:=@List.map_set
def w2y:=@List.not_mem_nil
def w2z:=@List.eq_nil_of_length_eq_zero
def w3a:=@List.forall_mem_cons
def w3b:=@List.all_cons
def w3c:=@Array.length_toList
def w3d:=@List.filter_eq_self
def w3e:=@Nat.ne_of_gt
def w3f:=@List.drop_eq_getElem_cons
def w3g:=@List.forIn_nil
def w3h:=@Bool.eq_false_iff
def w3i:=@Nat.not_lt
def w3j:=@List.cons_append
def w3k:=@Nat.le_of_eq
def w3l:=@List.nil_append
def w3m:=@List.getElem?_eq_none
def w3n:=@List.idxOf_cons
def w3o:=@List.mem_iff_getElem
def w3p:=@List.mem_of_mem_take
def w3q:=@List.getElem?_of_mem
def w3r:=@Array.toList_append
def w3s:=@Array.forIn_toList
def w3t:=@List.map_inj_right
def w3u:=@List.getElem_range
def w3v:=@Nat.lt_or_eq_of_le
def w3w:=@Nat.le_of_lt
def w3x:=@Nat.mul_comm
theorem jJ0(_:True:=by rfl):True:=trivial
def jJ:=jJ0._auto_1
theorem jK0(_:True:=by decide):True:=trivial
def jK:=jK0._auto_1
theorem jL0(_:True:=by walk_at "2"):True:=trivial
def jL:=jL0._auto_1
theorem jM0(_:True:=by walk_at "3"):True:=trivial
def jM:=jM0._auto_1
theorem jN0(_:True:=by walk_at "1"):True:=trivial
def jN:=jN0._auto_1
theorem jO0(_:True:=by grind):True:=trivial
def jO:=jO0._auto_1
abbrev Fg:=PySem.W.Frag
namespace PySem.W.Fast
theorem tw16279307411083642142:True:=trivial
theorem tw705988189124833464:True:=trivial
theorem tw8940666931251267026:True:=trivial
theorem tw3209163636231675399:True:=trivial
theorem tw13781173712626759267:True:=trivial
theorem tw10323169686666648147:True:=trivial
theorem tw7448341601238653583:True:=trivial
theorem tw18196754640193376801:True:=trivial
theorem tw15734172167353531664:True:=trivial
theorem tw13361536818555709353:True:=trivial
theorem tw14682825426893314340:True:=trivial
theorem tw11462010610056979086:True:=trivial
theorem tw2755315656827608932:True:=trivial
theorem tw15073191958023268901:True:=trivial
theorem tw16121907159746741712:True:=trivial
theorem tw3018149887214216446:True:=trivial
theorem tw4426806825561799370:True:=trivial
theorem tw1721191527956258690:True:=trivial
theorem tw6464712499318825009:True:=trivial
theorem tw13610288330262831517:True:=trivial
theorem tw16835298989719163744:True:=trivial
theorem tw15196896850302080223:True:=trivial
theorem tw10214784483239148841:True:=trivial
theorem tw5959501747331584812:True:=trivial
theorem tw538258114645608204:True:=trivial
theorem tw6806163682408724001:True:=trivial
theorem tw12267903493918673216:True:=trivial
theorem tw11716990528308742409:True:=trivial
theorem tw13218278133942134470:True:=trivial
theorem tw15623233430787627179:True:=trivial
theorem tw7040141734801628650:True:=trivial
theorem tw321374163633267118:True:=trivial
theorem tw11428464989218178160:True:=trivial
theorem tw1837993153799346473:True:=trivial
theorem tw16247195556567967:True:=trivial
theorem tw13429218182064417291:True:=trivial
theorem tw404678847808325061:True:=trivial
theorem tw12974382382753287547:True:=trivial
theorem tw3157682172407427537:True:=trivial
theorem tw7259601385486777023:True:=trivial
theorem tw14965616806275836904:True:=trivial
theorem tw13419561122985990949:True:=trivial
theorem tw13604075933961892741:True:=trivial
theorem tw4937978460935978797:True:=trivial
theorem tw10725292598488388832:True:=trivial
theorem tw3454476302038714446:True:=trivial
theorem tw7667278454947522254:True:=trivial
theorem tw4823700361753236513:True:=trivial
theorem tw16707682384223036381:True:=trivial
theorem tw7088021446400788132:True:=trivial
theorem tw1495011367849377184:True:=trivial
theorem tw3170821269627387:True:=trivial
theorem tw17865733950104591541:True:=trivial
theorem tw3893289580802429360:True:=trivial
theorem tw6485895409752142101:True:=trivial
theorem tw17416470168445976901:True:=trivial
theorem tw13121641301133233367:True:=trivial
theorem tw16690534870257534483:True:=trivial
theorem tw4219807248177277093:True:=trivial
theorem tw15415974307180761237:True:=trivial
end PySem.W.Fast
namespace L2
open PySem PySem.Spec PyProof.Rows
variable{a:Addr}{A:Around}{op:CmpOp}{c e tg:Expr}{fd:FuncData}{base h h':Heap}{pins:List (Addr×Obj)}{ch fp:List Addr}{es:List Expr}{N ps:List Str}{us:List Value}{i t':Nat}{p pos:Pos}{P prog:Program}{K:Fg}{s:Shared}{x:Str}{mg:Str->Option Value}{u:Value}{E:Value->Shared->Prop}{f:Value->Value->Sem Value}{w:World}
set_option genInjectivity true in
inductive Kx where
 |aG|bl (b:Bool)|int (i:Int)|str (x:Str)|tup (ks:List Kx)
inductive Sh where
 |ob|bl|int|str|tup (ss:List Sh)|many (s:Sh)
noncomputable instance:DecidableEq Kx:=λ_ _=>Classical.propDecidable _
mutual
noncomputable def Kx.depth:Kx->Nat
 |.tup ks=>Kx.cJ ks+1
 |_=>0
noncomputable def Kx.cJ:List Kx->Nat
 |[]=>0
 |k::ks=>max k.depth (Kx.cJ ks)
end
mutual
noncomputable def eN:Kx->Sh->Prop
 |.aG,.ob=>True
 |.bl _,.ob=>True
 |.bl _,.bl=>True
 |.int _,.int=>True
 |.str _,.str=>True
 |.tup ks,.tup ss=>qj ks ss
 |.tup ks,.many s=>mD ks s
 |_,_=>False
noncomputable def qj:List Kx->List Sh->Prop
 |[],[]=>True
 |k::ks,s::ss=>eN k s/\qj ks ss
 |_,_=>False
noncomputable def mD:List Kx->Sh->Prop
 |[],_=>True
 |k::ks,s=>eN k s/\mD ks s
end
mutual
noncomputable def o_(h:Heap):Kx->Value->Prop
 |.aG,v=>v=.none
 |.bl b,v=>v=.bool b
 |.int i,v=>∃t,v=.int i t
 |.str x,v=>∃t,v=.str x t
 |.tup ks,v=>∃a o items n,v=.ref a/\h.get? a=some o/\o.cls=.type "tuple" /\ o.data=.seq items n/\iG h ks items.toList
noncomputable def iG(h:Heap):List Kx->List Value->Prop
 |[],vs=>vs=[]
 |k::ks,vs=>∃v r,vs=v::r/\o_ h k v/\iG h ks r
end
mutual
theorem N4{h:Heap}:∀(k k':Kx){v:Value},o_ h k v->o_ h k' v->k=k'
 |.aG,k',v,x,y=>by
  cases(show v=.none from x);cases k' with
  |aG=>rfl
  |bl c=>cases(show Value.none=.bool c from y)
  |int i=>obtain⟨t,e⟩:=y;cases e
  |str i=>obtain⟨t,e⟩:=y;cases e
  |tup ks=>obtain⟨_,_,_,_,e,_⟩:=y;cases e
 |.bl b,k',v,x,y=>by
  cases(show v=.bool b from x);cases k' with
  |aG=>cases(show Value.bool b=.none from y)
  |bl c=>cases(show Value.bool b=.bool c from y);rfl
  |int i=>obtain⟨t,e⟩:=y;cases e
  |str i=>obtain⟨t,e⟩:=y;cases e
  |tup ks=>obtain⟨_,_,_,_,e,_⟩:=y;cases e
 |.int b,k',v,x,y=>by
  obtain⟨t,rfl⟩:=x;cases k' with
  |aG=>cases y
  |bl c=>cases y
  |int i=>obtain⟨t,e⟩:=y;cases e;rfl
  |str i=>obtain⟨t,e⟩:=y;cases e
  |tup ks=>obtain⟨_,_,_,_,e,_⟩:=y;cases e
 |.str b,k',v,x,y=>by
  obtain⟨t,rfl⟩:=x;cases k' with
  |aG=>cases y
  |bl c=>cases y
  |int i=>obtain⟨t,e⟩:=y;cases e
  |str i=>obtain⟨t,e⟩:=y;cases e;rfl
  |tup ks=>obtain⟨_,_,_,_,e,_⟩:=y;cases e
 |.tup ks,k',v,x,y=>by
  obtain⟨a,o,it,n,rfl,C,h2,h3,h4⟩:=x;cases k' with
  |aG=>cases y
  |bl c=>cases y
  |int i=>obtain⟨t,e⟩:=y;cases e
  |str i=>obtain⟨t,e⟩:=y;cases e
  |tup ks'=>
   obtain⟨a',o',Gb,n',e,g1,g2,g3,g4⟩:=y;cases e;rw[C]at g1;cases g1;rw[h3]at g3;injection g3 with e1 _
   subst e1;rw[Jb ks ks' h4 g4]
theorem Jb{h:Heap}:∀(ks ks':List Kx){vs:List Value},iG h ks vs->iG h ks' vs->ks=ks'
 |[],ks',vs,x,y=>by
  cases(show vs=[]from x);cases ks' with
  |nil=>rfl
  |cons k ks'=>obtain⟨v,r,e,_⟩:=y;cases e
 |k::ks,ks',vs,x,y=>by
  obtain⟨v,r,rfl,C,h2⟩:=x;cases ks' with
  |nil=>cases(show v::r=[]from y)
  |cons k' ks'=>
   obtain⟨v',r',e,g1,g2⟩:=y;cases e;rw[N4 k k' C g1,Jb ks ks' h2 g2]
end
mutual
theorem MP{h h':Heap}(hk:∀a o,h.get? a=some o->o.cls=.type "tuple"->(∃it n,o.data=.seq it n)->h'.get? a=some o):∀(k:Kx){v:Value},o_ h k v->o_ h' k v
 |.aG,v,x=>x
 |.bl b,v,x=>x
 |.int b,v,x=>x
 |.str b,v,x=>x
 |.tup ks,v,x=>by
  obtain⟨a,o,it,n,rfl,C,h2,h3,h4⟩:=x;exact⟨a,o,it,n,rfl,hk a o C h2 ⟨it,n,h3⟩,h2,h3,Mo hk ks h4⟩
theorem Mo{h h':Heap}(hk:∀a o,h.get? a=some o->o.cls=.type "tuple"->(∃it n,o.data=.seq it n)->h'.get? a=some o):∀(ks:List Kx){vs:List Value},iG h ks vs->iG h' ks vs
 |[],vs,x=>x
 |k::ks,vs,x=>by
  obtain⟨v,r,rfl,C,h2⟩:=x;exact⟨v,r,rfl,MP hk k C,Mo hk ks h2⟩
end
theorem iG.length:∀(ks:List Kx){vs:List Value},iG h ks vs->vs.length=ks.length
 |[],vs,x=>by cases(show vs=[]from x);rfl
 |k::ks,vs,x=>by
  obtain⟨v,r,rfl,C,h2⟩:=x;rw[w1g,w1g,iG.length ks h2]
mutual
noncomputable def oF(w:World):Kx->Int
 |.aG=>PySem.W.hashW w.params .none
 |.bl b=>reduceHash (if b=true then 1 else 0)
 |.int i=>hashInt i
 |.str x=>hashStr w x
 |.tup ks=>reduceHash (Builtin.Tuple.tupleHashOf (iR w ks))
noncomputable def iR(w:World):List Kx->List Int
 |[]=>[]
 |k::ks=>oF w k::iR w ks
end
mutual
noncomputable def lY:Kx->Nat
 |.tup ks=>jQ ks+1
 |_=>1
noncomputable def jQ:List Kx->Nat
 |[]=>0
 |k::ks=>lY k+jQ ks
end
mutual
theorem N5:∀(k:Kx)(v:Value)(A:Around)(s:Shared)(Q:Int->Shared->Prop),o_ s.heap k v->A.units+k.depth<cLine->Q (oF w k) {s with toks:=s.toks+lY k}->wpAny (model prog w) A (pyHash v) Q E s
 |.aG,v,A,s,Q,x,hu,h=>by
  cases(show v=.none from x);exact pyHash_slot (T:="NoneType") rfl F.slot_NoneType_hash F.entry_NoneType_hash (F.args_NoneType_hash_1 _) (beq_builtin_none _) (.inr (by omega)) (wpAny_bind (wpAny_pure (wpAny_bind (wpAny_mkInt (wpAny_pure ⟨_,_,rfl,h⟩)))))
 |.bl b,v,A,s,Q,x,hu,h=>by
  cases(show v=.bool b from x);refine pyHash_slot (T:="bool") rfl F.slot_bool_hash entry_int_hash (args_int_hash _) (beq_builtin_none _) (.inr (by omega)) ?_;cases b
  .exact(show wpAny _ _ (do ret (<- mkInt 0)) _ _ s from wpAny_bind (wpAny_mkInt (wpAny_pure ⟨_,_,rfl,h⟩)))
  .exact(show wpAny _ _ (do ret (<- mkInt 1)) _ _ s from wpAny_bind (wpAny_mkInt (wpAny_pure ⟨_,_,rfl,h⟩)))
 |.int i,v,A,s,Q,x,hu,h=>by
  obtain⟨t,rfl⟩:=x;exact wpAny_pyHash_int h
 |.str i,v,A,s,Q,x,hu,h=>by
  obtain⟨t,rfl⟩:=x;exact wpAny_pyHash_str h
 |.tup ks,v,A,s,Q,x,hu,h=>by
  obtain⟨a,o,it,n,rfl,C,h2,h3,h4⟩:=x;refine pyHash_slot (T:="tuple") ⟨_,C,h2⟩ F.slot_tuple_hash F.entry_tuple_hash (F.args_tuple_hash_1 _) (beq_builtin_none _) (.inr (by omega)) ?_;show wpAny _ _ (Builtin.Tuple.tupleItemsOf (.ref a) >>= _) _ _ s;refine wpAny_bind (wpAny_tupleItemsOf C h3 ?_);refine wpAny_bind ?_;rw[<- w3s];refine MQ ks it.toList A.in1 s #[] _ h4 (by grind [Kx.depth]) λb hb=>?_
  show wpAny _ _ (retInt (Builtin.Tuple.tupleHashOf b.toList)) _ _ _;rw[hb];exact wpAny_bind (wpAny_mkInt (wpAny_pure ⟨_,_,rfl,by grind [oF,lY]⟩))
theorem MQ:∀(ks:List Kx)(vs:List Value)(A:Around)(s:Shared)(b:Array Int)(Q:Array Int->Shared->Prop),iG s.heap ks vs->A.units+Kx.cJ ks<cLine ->
  (∀b',b'.toList=b.toList++iR w ks->Q b' {s with toks:=s.toks+jQ ks}) ->
  wpAny (model prog w) A (forIn vs b λx r=>do let h <- pyHash x;pure PUnit.unit;pure (ForInStep.yield (r.push h))) Q E s
 |[],vs,A,s,b,Q,x,hu,h=>by
  cases(show vs=[]from x);exact wpAny_pure (h b (by simp[iR]))
 |k::ks,vs,A,s,b,Q,x,hu,h=>by
  obtain⟨v,r,rfl,C,h2⟩:=x;simp only[Kx.cJ]at hu;rw[w2e];refine wpAny_bind (wpAny_bind (N5 k v A s _ C (by omega) ?_));refine wpAny_bind (wpAny_pure (wpAny_pure ?_))
  exact MQ ks r A _ _ Q h2 (by omega) λb' hb=>by
   grind [iR,jQ]
end
theorem N6(a b):decide (Kx.bl a=Kx.bl b)=(a==b):=by
 grind
theorem Wh(a b):decide (Kx.int a=Kx.int b)=(a==b):=by
 grind
theorem Wi(a b):decide (Kx.str a=Kx.str b)=(a==b):=by
 grind
noncomputable def sameAt(ks ks':List Kx)(j:Nat):Bool:=decide (ks[j]?=ks'[j]?)
theorem Wj:∀ks ks':List Kx,((List.range (min ks.length ks'.length)).all (sameAt ks ks')&&ks.length==ks'.length)=decide (Kx.tup ks=Kx.tup ks'):=by
 intro ks ks'
 by_cases e:ks=ks'
 .grind [sameAt]
 .rw[decide_eq_false (λz=>e (by injection z))]
  rw[Bool.and_eq_false_iff]
  by_cases hl:ks.length=ks'.length
  .left
   rw[w3h];intro ha;refine e (w1q λj=>?_)
   by_cases hj:j<ks.length
   .have:=w0u.mp ha j (w1c.mpr (by omega));exact of_decide_eq_true this
   grind
  grind
theorem DM:∀(ks:List Kx){vs:List Value},iG h ks vs->∀(j:Nat)(v:Value),vs[j]?=some v->∃k,ks[j]?=some k/\o_ h k v
 |[],vs,x,j,v,e=>by cases(show vs=[]from x);simp at e
 |k::ks,vs,x,j,v,e=>by
  obtain⟨u,r,rfl,C,h2⟩:=x;cases j with
  |zero=>grind
  |succ j=>exact DM ks h2 j v (by simpa using e)
theorem HA:∀(ks:List Kx)(j:Nat)(k:Kx),ks[j]?=some k->k.depth<=Kx.cJ ks
 |[],j,k,e=>by simp at e
 |x::ks,j,k,e=>by
  simp only[Kx.cJ];cases j with
  |zero=>cases e;omega
  |succ j=>have:=HA ks j k (by simpa using e);omega
theorem HB:∀(ks:List Kx)(ss:List Sh),qj ks ss->∀(j:Nat)(k:Kx),ks[j]?=some k->∃s,ss[j]?=some s/\eN k s
 |[],ss,_,j,k,e=>by simp at e
 |x::ks,[],c,j,k,e=>c.elim
 |x::ks,s::ss,c,j,k,e=>by
  cases j with
  |zero=>cases e;exact⟨s,rfl,c.1⟩
  |succ j=>exact HB ks ss c.2 j k (by simpa using e)
theorem HC:∀(ks:List Kx)(s:Sh),mD ks s->∀(j:Nat)(k:Kx),ks[j]?=some k->eN k s
 |[],s,_,j,k,e=>by simp at e
 |x::ks,s,c,j,k,e=>by
  cases j with
  |zero=>cases e;exact c.1
  |succ j=>exact HC ks s c.2 j k (by simpa using e)
theorem z7k(s:Shared):∀(n:Nat)(k k':Kx)(sh:Sh)(v v':Value)(A:Around),k.depth<=n->eN k sh->eN k' sh->o_ s.heap k v->o_ s.heap k' v'->A.units+n<cLine->SeqAt.EqAt A s v v' (decide (k=k')):=by
 intro n
 induction n with
 |zero=>
  intro k k' sh v v' A hd c c' x y hu;cases k with
  |aG=>
   cases sh with
   |ob=>
    cases k' with
    |aG=>cases(show v=.none from x);cases(show v'=.none from y);rw[decide_eq_true rfl];exact .same _
    |bl b=>cases(show v=.none from x);cases(show v'=.bool b from y);simp_all [SeqAt.EqAt.none_bool]
    |_=>exact c'.elim
   |_=>exact c.elim
  |bl a=>
   cases sh with
   |ob=>
    cases k' with
    |aG=>cases(show v=.bool a from x);cases(show v'=.none from y);simp_all [SeqAt.EqAt.bool_none]
    |bl b=>cases(show v=.bool a from x);cases(show v'=.bool b from y);rw[N6];exact .bool_bool a b
    |_=>exact c'.elim
   |bl=>
    cases k' with
    |bl b=>cases(show v=.bool a from x);cases(show v'=.bool b from y);rw[N6];exact .bool_bool a b
    |_=>exact c'.elim
   |_=>exact c.elim
  |int a=>
   cases sh with
   |int=>
    cases k' with
    |int b=>obtain⟨t,rfl⟩:=x;obtain⟨u,rfl⟩:=y;rw[Wh];exact .int_int a t b u
    |_=>exact c'.elim
   |_=>exact c.elim
  |str a=>
   cases sh with
   |str=>
    cases k' with
    |str b=>obtain⟨t,rfl⟩:=x;obtain⟨u,rfl⟩:=y;rw[Wi];exact .str_str a t b u
    |_=>exact c'.elim
   |_=>exact c.elim
  |tup ks=>grind [Kx.depth]
 |succ n ih=>
  intro k k' sh v v' A hd c c' x y hu;cases k with
  |aG=>exact ih .aG k' sh v v' A (w0q _) c c' x y (by omega)
  |bl a=>exact ih (.bl a) k' sh v v' A (w0q _) c c' x y (by omega)
  |int a=>exact ih (.int a) k' sh v v' A (w0q _) c c' x y (by omega)
  |str a=>exact ih (.str a) k' sh v v' A (w0q _) c c' x y (by omega)
  |tup ks=>
   obtain⟨a,o,it,m,rfl,C,h2,h3,h4⟩:=x
   have tail:∀ks',k'=.tup ks'->(∀(j:Nat)(u u':Kx),ks[j]?=some u->ks'[j]?=some u'->∃s,eN u s/\eN u' s)->SeqAt.EqAt A s (.ref a) v' (decide (Kx.tup ks=k')):=by
    rintro ks' rfl J;obtain⟨b,o',Gb,m',rfl,g1,g2,g3,g4⟩:=y
    by_cases uQ:a=b
    .grind [Jb,SeqAt.EqAt.same]
    .have l1:=iG.length ks h4;have l2:=iG.length ks' g4;rw[<- Wj]
     have:=SeqAt.RcAt.tuples (A:=A) (s:=s) (e:=sameAt ks ks') (show s.heap.IsTuple a it from⟨o,C,h2,m,h3⟩) (show s.heap.IsTuple b Gb from⟨o',g1,g2,m',g3⟩) (by omega) (λj j1 j2=>by
      obtain⟨u,u1,u2⟩:=DM ks h4 j it[j] (by simp[j1]);obtain⟨u',Tj,Tn⟩:=DM ks' g4 j Gb[j] (by simp[j2]);obtain⟨S_,c1,c2⟩:=J j u u' u1 Tj;have hdj:=HA ks j u u1;simp only[Kx.depth]at hd;have z:=ih u u' S_ _ _ A.in1 (by omega) c1 c2 u2 Tn (by grind)
      grind [sameAt,decide])
     grind [SeqAt.EqAt.of_refs]
   cases sh with
   |tup ss=>
    cases k' with
    |tup ks'=>
     refine tail ks' rfl λj u u' e1 e2=>?_
     obtain⟨s1,q1,q2⟩:=HB ks ss c j u e1;obtain⟨s2,q3,q4⟩:=HB ks' ss c' j u' e2
     grind
    |_=>exact c'.elim
   |many s1=>
    cases k' with
    |tup ks'=>exact tail ks' rfl λj u u' e1 e2=>⟨s1,HC ks s1 c j u e1,HC ks' s1 c' j u' e2⟩
    |_=>exact c'.elim
   |_=>exact c.elim
theorem Wk:∀(n:Nat)(k:Kx)(v:Value)(s:Shared)(Q:Bool->Shared->Prop),k.depth<=n->o_ s.heap k v->Q true s->wpAny (model prog w) A (eqIsQuiet n v) Q E s:=by
 intro n
 induction n with
 |zero=>
  intro k v s Q hd x h;cases k with
  |aG=>cases(show v=.none from x);rw[eqIsQuiet_byValue _ rfl];exact wpAny_pure h
  |bl b=>cases(show v=.bool b from x);rw[eqIsQuiet_byValue _ rfl];exact wpAny_pure h
  |int i=>obtain⟨t,rfl⟩:=x;rw[eqIsQuiet_byValue _ rfl];exact wpAny_pure h
  |str i=>obtain⟨t,rfl⟩:=x;rw[eqIsQuiet_byValue _ rfl];exact wpAny_pure h
  |tup ks=>grind [Kx.depth]
 |succ n ih=>
  intro k v s Q hd x h;cases k with
  |aG=>cases(show v=.none from x);rw[eqIsQuiet_byValue _ rfl];exact wpAny_pure h
  |bl b=>cases(show v=.bool b from x);rw[eqIsQuiet_byValue _ rfl];exact wpAny_pure h
  |int i=>obtain⟨t,rfl⟩:=x;rw[eqIsQuiet_byValue _ rfl];exact wpAny_pure h
  |str i=>obtain⟨t,rfl⟩:=x;rw[eqIsQuiet_byValue _ rfl];exact wpAny_pure h
  |tup ks=>
   obtain⟨a,o,it,m,rfl,C,h2,h3,h4⟩:=x;have hT:s.TypeIs (.ref a) "tuple":=⟨o,C,h2⟩;unfold eqIsQuiet;refine wpAny_bind (wpAny_specialOf hT F.slot_tuple_eq.lookup ?_);show wpAny _ _ (isInstance (.ref a) (.type "tuple") >>= _) _ _ s;refine wpAny_bind (wpAny_isInstance hT isSubtype_tuple_tuple ?_);simp only[Bool.not_true,w2l,if_false];refine wpAny_bind (wpAny_seqItems C h3 ?_);refine wpAny_bind ?_;show wpAny _ _ (forIn it _ _) _ _ s;rw[<- w3s];refine wpAny_forIn_list _ (λrest r s'=>r.1=none/\s'=s/\∀v∈rest,∃k:Kx,k.depth<=n/\o_ s.heap k v) _ ?_ ?_ _ _ ⟨rfl,rfl,λv hv=>?_⟩
   .rintro v rest r s' ⟨hr,rfl,wz⟩;obtain⟨k,k1,k2⟩:=wz v w2c;refine wpAny_bind (ih k v _ _ k1 k2 ?_)
    simp_all [wpAny_pure]
   .grind [wpAny_pure]
   .obtain⟨j,hj,e⟩:=w3o.mp hv;obtain⟨k,k1,k2⟩:=DM ks h4 j v (by grind);have:=HA ks j k k1
    grind [Kx.depth]
noncomputable def d6(prog)(w)(sh:Sh):HeapKind prog w Kx where
 is:=λh k a=>o_ h k (.ref a)/\eN k sh/\k.depth<=7
 hash:=oF w
 draws:=lY
 room:=λA=>A.units+8<cLine
 inj:=λhx hy=>N4 _ _ hx.1 hy.1
 keeps:=λ{h h' k a d o es ep} x ho hd hs=>⟨MP (λb ob e1 e2 e3=>by
  have pX:b≠d:=by
   grind
  exact(hs.2 b pX).trans e1) _ x.1,x.2⟩
 pyHash:=λ{A E s k a Q} hu hk h=>N5 k _ A s Q hk.1 (by have:=hk.2.2;omega) h
 eqBool:=λ{A E s x y a b Q} hu hx hy h=>z7k s 7 x y sh _ _ A hx.2.2 hx.2.1 hy.2.1 hx.1 hy.1 (by omega) prog w E Q h
 quiet:=λ{A E s k a Q} hk h=>Wk 8 k _ s Q (by have:=hk.2.2;omega) hk.1 h
set_option Elab.async false
set_option linter.all false
set_option maxRecDepth 100000
noncomputable abbrev Key:=Sum Int Str
noncomputable def lE:Key->Value->Bool
 |.inl k,v=>Value.isInt k v
 |.inr x,v=>Value.isStrOf x v
noncomputable def Gg(w:World):Key->Int
 |.inl k=>hashInt k
 |.inr x=>hashStr w x
theorem xi:∀{k:Key}{v:Value},lE k v=true->(∃i t,k=Sum.inl i/\v=Value.int i t)\/(∃x t,k=Sum.inr x/\v=Value.str x t)
 |.inl i,v,h=>by
  obtain⟨t,e⟩:=Value.isInt_shape (k:=i) (v:=v) h
  grind
 |.inr x,v,h=>by
  obtain⟨t,e⟩:=Value.isStrOf_shape (x:=x) (v:=v) h
  grind
theorem U'(i)(t):lE (.inl i) (.int i t)=true:=by simp[lE,Value.isInt]
theorem Va(x)(t):lE (.inr x) (.str x t)=true:=by simp[lE,Value.isStrOf]
theorem Zp(a b):decide ((Sum.inl a:Key)=Sum.inl b)=(a==b):=by
 grind
theorem Zq(a b):decide ((Sum.inr a:Key)=Sum.inr b)=decide (a=b):=by
 grind
theorem Zr(a)(b):decide ((Sum.inl a:Key)=Sum.inr b)=false:=decide_eq_false (λq=>nomatch q)
theorem YV(a)(b):decide ((Sum.inr a:Key)=Sum.inl b)=false:=decide_eq_false (λq=>nomatch q)
noncomputable def c6(prog)(w):PySem.KeyKind prog w Key where
 is:=lE
 hash:=Gg w
 inj:=λv a b ha hb=>by
  grind [xi]
 byValue:=λk v h=>by
  rcases xi h with⟨i,t,rfl,rfl⟩|⟨x,t,rfl,rfl⟩<;>rfl
 pyHash:=λhv h=>by
  rcases xi hv with⟨i,t,rfl,rfl⟩|⟨x,t,rfl,rfl⟩
  .exact wpAny_pyHash_int h
  .exact wpAny_pyHash_str h
 eqBool:=λhu hv h=>by
  rcases xi hu with⟨i,t,rfl,rfl⟩|⟨x,t,rfl,rfl⟩
  .rcases xi hv with⟨j,u,rfl,rfl⟩|⟨y,u,rfl,rfl⟩
   .grind [Zp,wpAny_eqBool_int]
   .rw[Zr]at h;exact SeqAt.EqAt.int_str i t y u _ _ _ _ h
  .rcases xi hv with⟨j,u,rfl,rfl⟩|⟨y,u,rfl,rfl⟩
   .rw[YV]at h;exact SeqAt.EqAt.str_int x t j u _ _ _ _ h
   grind [Zq,wpAny_eqBool_str]
 «strs»:=λk x t v h=>by
  rcases xi h with⟨i,u,rfl,e⟩|⟨y,u,rfl,e⟩
  .exact nomatch e
  .injection e with e1 _
   subst e1;cases v<;>rfl
theorem Ul(prog)(w)(i)(t):(c6 prog w).is (.inl i) (.int i t)=true:=U' i t
theorem Um(prog)(w)(x)(t):(c6 prog w).is (.inr x) (.str x t)=true:=Va x t
set_option genInjectivity true in
inductive V where
 |aG|bl (b:Bool)|int (i:Int)|str (x:Str)|uI (b:Array UInt8)|uO (b:UInt64)|ref (a:Addr)|ty (n:String)
 deriving DecidableEq
variable{xs:List V}{v:V}
noncomputable def RelV:V->Value->Prop
 |.aG,u=>u=Value.none
 |.bl b,u=>u=Value.bool b
 |.int i,u=>∃t,u=Value.int i t
 |.str x,u=>∃t,u=Value.str x t
 |.uI b,u=>∃t,u=Value.bytes b t
 |.uO b,u=>∃t,u=Value.float b t
 |.ref a,u=>u=Value.ref a
 |.ty n,u=>u=Value.type n
abbrev Vals:List V->List Value->Prop:=Paired RelV
theorem Vals.length(r:Vals xs us):xs.length=us.length:=Paired.length r
theorem Vals.get:∀{xs:List V}{us:List Value}{i:Nat}{x:V},Vals xs us->xs[i]?=some x->∃u,us[i]?=some u/\RelV x u
 |_,_,_,_,.nil,e=>by simp at e
 |_,_,0,_,.cons r _,e=>by grind
 |_,_,i+1,x,.cons _ t,e=>by
  obtain⟨u,C,h2⟩:=Vals.get (i:=i) (x:=x) t (by simpa using e)
  grind
theorem Vals.set{x:V}(r:RelV x u):∀{xs:List V}{us:List Value}(i:Nat),Vals xs us->Vals (xs.set i x) (us.set i u)
 |_,_,_,.nil=>.nil
 |_,_,0,.cons _ t=>.cons r t
 |_,_,i+1,.cons q t=>.cons q (Vals.set r i t)
theorem Vals.append:∀{xs ys:List V}{us ws:List Value},Vals xs us->Vals ys ws->Vals (xs++ys) (us++ws)
 |_,_,_,_,.nil,s=>s
 |_,_,_,_,.cons r t,s=>.cons r (Vals.append t s)
theorem Vals.take:∀{xs:List V}{us:List Value}(n:Nat),Vals xs us->Vals (xs.take n) (us.take n)
 |_,_,0,_=>.nil
 |_,_,_+1,.nil=>.nil
 |_,_,n+1,.cons r t=>.cons r (Vals.take n t)
theorem Vals.drop:∀{xs:List V}{us:List Value}(n:Nat),Vals xs us->Vals (xs.drop n) (us.drop n)
 |_,_,0,r=>r
 |_,_,_+1,.nil=>.nil
 |_,_,n+1,.cons _ t=>Vals.drop n t
noncomputable def kQ:Option V->Option Value->Prop
 |some v,some u=>RelV v u
 |none,none=>True
 |_,_=>False
noncomputable def KV{κ:Type}:List (κ×V)->List (κ×Value)->Prop:=Paired fun(p:κ×V) (q:κ×Value)=>p.1=q.1/\RelV p.2 q.2
noncomputable def kV:Key->V
 |.inl i=>.int i
 |.inr x=>.str x
inductive HO where
 |lst (xs:List V)
 |tup (xs:List V)
 |dK (kvs:List (Key×V))|dT (sh:Sh) (kvs:List (Kx×V)) (kas:List Addr)
 |set (S:Int->Bool) (n:Nat)
 |ins (h1 dx:Addr) (fs:List (Str×V))
 |own (x:Addr)
 |xd (fs:List (Str×V))
 |met (f x:Addr)
 |Ee (lo hi:Int)
 |cD (o:Obj) (u:HO)
 |nF (ps:Array Value)
 |ext (φ:Heap->Prop)
noncomputable abbrev Hp:=Addr->Option HO
variable{H H':Hp}
noncomputable def ee:HO->Prop
 |.tup _=>True
 |.cD _ (.tup _)=>True
 |.cD _ (.own _)=>True
 |_=>False
mutual
noncomputable def bT(H:Hp):Kx->V->Prop
 |.aG,v=>v=.aG
 |.bl b,v=>v=.bl b
 |.int i,v=>v=.int i
 |.str x,v=>v=.str x
 |.tup ks,v=>∃a xs,v=.ref a/\(H a=some (.tup xs)\/∃o,H a=some (.cD o (.tup xs)))/\eO H ks xs
noncomputable def eO(H:Hp):List Kx->List V->Prop
 |[],vs=>vs=[]
 |k::ks,vs=>∃v r,vs=v::r/\bT H k v/\eO H ks r
end
mutual
theorem bT.keeps{H H':Hp}(ht:∀b u,ee u->H b=some u->H' b=some u):∀(k:Kx){v:V},bT H k v->bT H' k v
 |.aG,_,x=>x
 |.bl _,_,x=>x
 |.int _,_,x=>x
 |.str _,_,x=>x
 |.tup ks,_,x=>by
  obtain⟨a,xs,e,q,r⟩:=x;refine⟨a,xs,e,?_,eO.keeps ht ks r⟩;rcases q with q|⟨o,q⟩
  .exact .inl (ht _ _ True.intro q)
  .exact .inr ⟨o,ht _ _ True.intro q⟩
theorem eO.keeps{H H':Hp}(ht:∀b u,ee u->H b=some u->H' b=some u):∀(ks:List Kx){vs:List V},eO H ks vs->eO H' ks vs
 |[],_,x=>x
 |k::ks,_,x=>by
  obtain⟨v,r,e,C,h2⟩:=x;exact⟨v,r,e,bT.keeps ht k C,eO.keeps ht ks h2⟩
end
noncomputable def upd(H:Hp)(a:Addr)(o:HO):Hp:=λb=>if b=a then some o else H b
theorem bI:upd H a o a=some o:=by simp_all [upd]
theorem aP(h:b≠a):upd H a o b=H b:=by unfold upd;rw[if_neg h]
theorem D0{u:HO}:upd (upd H a o) a u=upd H a u:=by
 grind [upd]
theorem gh{u:HO}(h:H a=some o)(h':H b=some u)(d:o≠u):a≠b:=by
 grind
theorem jf(h:H a=some o)(h':H b=none):a≠b:=by
 grind
section
variable(P:Program)(w:World)
noncomputable def y_(h:Heap)(a:Addr):Prop:=∃o,h.get? a=some o/\o.dict=none
noncomputable def aU(H:Hp)(h:Heap)(a:Addr):HO->Prop
 |.lst xs=>xs.length<=sizeLine/\∃(aB:List Value)(n:Nat),Vals xs aB/\h.get? a=some {cls:=.type "list", data:=.seq aB.toArray n}
 |.tup xs=>xs.length<=sizeLine/\∃aB:List Value,Vals xs aB/\IsTup h a aB.toArray/\y_ h a
 |.dK kvs=>kvs.length<=sizeLine/\(a==sysModules)=false/\∃vs,KV kvs vs/\h.DictOf (c6 P w) a vs
 |.dT sh kvs kas=>kvs.length<=sizeLine/\(a==sysModules)=false/\∃xs:List (Kx×Addr×Value),
   Paired (fun(p:Kx×V) (q:Kx×Addr×Value)=>p.1=q.1/\(bT H p.1 (.ref q.2.1)/\eN p.1 sh/\p.1.depth<=7)/\RelV p.2 q.2.2) kvs xs/\xs.map (·.2.1)=kas /\
   ∃o es ep,h.get? a=some o/\o.ExactDict/\o.data=.dict es ep/\es.toList=xs.map (entryOfKey (d6 P w sh))/\(xs.map (·.1)).Nodup
 |.set S n=>h.SetOf (intKind P w) a S n
 |.ins h1 dx fs=>H dx=some (.own a)/\fs.length<=1000/\dx≠a/\h.get? a=some (PySem.W.instObj h1 dx) /\
   ∃mA,h.Ns1 dx mA/\(∀f,kQ (fs.lookup f) (mA f))/\PySem.Within mA (fs.map (·.1))
 |.own _=>∃o,h.get? a=some o
 |.xd fs=>∃mA,h.Ns1 a mA/\∀f,kQ (fs.lookup f) (mA f)
 |.Ee lo hi=>∃t u v,h.get? a=some {cls:=.type "range", data:=.fields #[.int lo t,.int hi u,.int 1 v]}
 |.cD o u=>h.get? a=some o/\aU H h a u
 |.nF ps=>(∃(q:Str)(qs:Array Value),ps[0]?=some (.bool true)/\ps[1]?=some (.str q 0)/\h.get? a=some {cls:=.none,data:=.fields qs}/\TriplesOk qs.toList/\∀(pos:Pos)(cv:Value),codeAmong pos qs.toList=some cv ->
   ∃(c:Addr)(oc:Obj)(vs:Array Value)(t:Tok),cv=.ref c/\H c=some (.cD oc (.own 0))/\oc.data=.fields vs/\vs[1]?=some (.str q t)) \/
   ∃(q:Str)(c:Addr)(oc ob:Obj)(vs:Array Value)(t:Tok),ps[0]?=some (.bool false)/\ps[1]?=some (.str q 0)/\ps[2]?=some (.ref c)/\H c=some (.cD oc (.own 0))/\oc.data=.fields vs/\vs[1]?=some (.str q t)/\h.get? a=some ob
 |.met f x=>h.get? a=some (methodObj (.ref f) (.ref x))
 |.ext φ=>φ h/\(∃o,h.get? a=some o)/\∀C h2:Heap,φ C->(∀o,C.get? a=some o->h2.get? a=some o)->φ h2
noncomputable def d7(H:Hp)(h:Heap):Prop:=∀a o,H a=some o->aU P w H h a o
end
section
variable{o:HO}
theorem aU.lt(x:aU P w H h a o):a<h.objs.size:=by
 cases o with
 |lst xs=>obtain⟨_,_,_,_,e⟩:=x;exact Heap.lt_size e
 |tup xs=>obtain⟨_,_,_,p,_⟩:=x;exact p.lt
 |dK kvs=>obtain⟨_,_,_,_,o,_,_,e,_⟩:=x;exact Heap.lt_size e
 |dT sh kvs kas=>obtain⟨_,_,_,_,_,o,_,_,e,_⟩:=x;exact Heap.lt_size e
 |set S n=>obtain⟨o,_,_,_,e,_⟩:=x;exact Heap.lt_size e
 |ins h1 dx fs=>obtain⟨_,_,_,e,_⟩:=x;exact Heap.lt_size e
 |own y=>obtain⟨_,e⟩:=x;exact Heap.lt_size e
 |xd fs=>obtain⟨_,⟨_,_,_,e,_⟩,_⟩:=x;exact Heap.lt_size e
 |Ee lo hi=>obtain⟨_,_,_,e⟩:=x;exact Heap.lt_size e
 |cD ob u=>obtain⟨e,_⟩:=x;exact Heap.lt_size e
 |nF ps=>rcases x with⟨_,_,_,_,e,_⟩|⟨_,_,_,_,_,_,_,_,_,_,_,_,e⟩<;>exact Heap.lt_size e
 |met f y=>exact Heap.lt_size (show h.get? a=some _ from x)
 |ext φ=>obtain⟨_,⟨_,e⟩,_⟩:=x;exact Heap.lt_size e
theorem Paired.wR{α β:Type}{F G:α->β->Prop}:∀{AG:List α}{AH:List β},Paired F AG AH->(∀a b,F a b->G a b)->Paired G AG AH
 |_,_,.nil,_=>.nil
 |_,_,.cons r t,f=>.cons (f _ _ r) (Paired.wR t f)
theorem aU.fR(x:aU P w H h a o)(k:∀b u,(b=a\/H b=some (.own a))->h.get? b=some u->h'.get? b=some u)
  (ho:∀b,H b=some (.own a)->H' b=some (.own a))(ht:∀b u,ee u->H b=some u->H' b=some u):aU P w H' h' a o:=by
 induction o with
 |lst xs=>obtain⟨z,aB,n,r,e⟩:=x;exact⟨z,aB,n,r,k _ _ (.inl rfl) e⟩
 |tup xs=>obtain⟨z,aB,r,⟨ob,e,c⟩,⟨o2,e2,c2⟩⟩:=x;exact⟨z,aB,r,⟨ob,k _ _ (.inl rfl) e,c⟩,⟨o2,k _ _ (.inl rfl) e2,c2⟩⟩
 |dK kvs=>obtain⟨z,y,vs,r,ob,es,ep,e,c⟩:=x;exact⟨z,y,vs,r,ob,es,ep,k _ _ (.inl rfl) e,c⟩
 |dT sh kvs kas=>
  obtain⟨z,y,xs,r,ka,ob,es,ep,e,c⟩:=x;exact⟨z,y,xs,Paired.wR r λp q z=>⟨z.1,⟨bT.keeps ht _ z.2.1.1,z.2.1.2⟩,z.2.2⟩,ka,ob,es,ep,k _ _ (.inl rfl) e,c⟩
 |set S n=>obtain⟨ob,es,ep,t,e,c⟩:=x;exact⟨ob,es,ep,t,k _ _ (.inl rfl) e,c⟩
 |ins h1 dx fs=>
  obtain⟨d,z,ne,e,mA,⟨od,es,ep,e2,c⟩,r⟩:=x;exact⟨ho _ d,z,ne,k _ _ (.inl rfl) e,mA,⟨od,es,ep,k _ _ (.inr d) e2,c⟩,r⟩
 |own y=>obtain⟨ob,e⟩:=x;exact⟨ob,k _ _ (.inl rfl) e⟩
 |xd fs=>obtain⟨mA,⟨od,es,ep,e,c⟩,r⟩:=x;exact⟨mA,⟨od,es,ep,k _ _ (.inl rfl) e,c⟩,r⟩
 |Ee lo hi=>obtain⟨t,u,v,e⟩:=x;exact⟨t,u,v,k _ _ (.inl rfl) e⟩
 |cD ob u ih=>obtain⟨e,q⟩:=x;exact⟨k _ _ (.inl rfl) e,ih q⟩
 |nF ps=>
  rcases x with⟨q,qs,p0,p1,e,tr,cd⟩|⟨q,c,oc,ob,vs,t,p0,p1,p2,h3,h4,h5,e⟩
  .refine .inl ⟨q,qs,p0,p1,k _ _ (.inl rfl) e,tr,λpos cv z=>?_⟩
   obtain⟨c,oc,vs,t,C,h3,h4,h5⟩:=cd pos cv z;exact⟨c,oc,vs,t,C,ht _ _ True.intro h3,h4,h5⟩
  .exact .inr ⟨q,c,oc,ob,vs,t,p0,p1,p2,ht _ _ True.intro h3,h4,h5,k _ _ (.inl rfl) e⟩
 |met f y=>
  have e:h.get? a=some (methodObj (.ref f) (.ref y)):=x;show h'.get? a=some (methodObj (.ref f) (.ref y));exact k a _ (.inl rfl) e
 |ext φ=>obtain⟨p,⟨o,e⟩,st⟩:=x;exact⟨st _ _ p λo q=>k _ _ (.inl rfl) q,⟨o,k _ _ (.inl rfl) e⟩,st⟩
theorem d7.lt(x:d7 P w H h)(e:H a=some o):a<h.objs.size:=(x a o e).lt
theorem d7.fresh(x:d7 P w H h)(e:h.objs.size<=a):H a=none:=by
 cases q:H a with
 |none=>rfl
 |some u=>exact absurd (w0n (x.lt q) e) (w2m _)
theorem d7.kept(x:d7 P w H h)(k:∀b u,h.get? b=some u->h'.get? b=some u):d7 P w H h':=λa o e=>
 (x a o e).fR (λb u _ q=>k b u q) (λ_ q=>q) λ_ _ _ q=>q
theorem d7.laid(x:d7 P w H h)(k:∀b u,h.get? b=some u->h'.get? b=some u)(hp:h.objs.size<=a)(new:aU P w (upd H a o) h' a o):d7 P w (upd H a o) h':=λb u e=>by
 have hn:=x.fresh hp
 by_cases hb:b=a
 .grind [bI]
 .rw[aP hb]at e;exact(x b u e).fR (λc v _ q=>k c v q) (λc q=>by rw[aP (jf q hn)];exact q) λc xs _ q=>by rw[aP (jf q hn)];exact q
end
noncomputable def Rd(H:Hp)(a:Addr)(u:HO):Prop:=H a=some u\/∃o,H a=some (.cD o u)
theorem Rd.ok{u:HO}(r:Rd H a u)(x:d7 P w H h):aU P w H h a u:=by
 rcases r with r|⟨o,r⟩
 .exact x a u r
 .obtain⟨_,q⟩:=x a _ r;exact q
noncomputable def zr:Option HO->Prop
 |some (.lst _)=>True
 |some (.dK _)=>True
 |some (.dT _ _ _)=>True
 |some (.set _ _)=>True
 |some (.ins _ _ _)=>True
 |some (.ext _)=>True
 |_=>False
section
variable{x e:Addr}{o':HO}
theorem d7.write(ok:d7 P w H h)(mu:zr (H x))(he:e=x\/H e=some (.own x))(k:∀b u,b≠e->h.get? b=some u->h'.get? b=some u)(Ad:∃u,h'.get? e=some u)
  (new:aU P w (upd H x o') h' x o'):d7 P w (upd H x o') h':=λb u q=>by
 have Gv:∀c y,H c=some (.own y)->c≠x:=λc y r z=>by subst z;rw[r]at mu;exact mu
 have SG:∀c u,ee u->H c=some u->c≠x:=λc u t r z=>by
  subst z;rw[r]at mu;cases u<;>first|exact mu|exact t
 by_cases hb:b=x
 .grind [bI]
 .rw[aP hb]at q
  by_cases KW:b=e
  .have q':H b=some (.own x):=by
    grind
   rw[q]at q';cases q';obtain⟨v,hv⟩:=Ad;exact⟨v,by rw[KW];exact hv⟩
  .refine(ok b u q).fR (λc v J r=>k c v ?_ r) (λc r=>by grind [aP]) λc xs t r=>by grind [aP]
   rcases J with rfl|J
   .exact KW
   .rintro rfl;rcases he with z|z
    .exact Gv c b J z
    .rw[J]at z;cases z;exact hb rfl
end
structure Un(fs ex:List Addr)(H H':Hp)(h h':Heap):Prop where
 keep:∀b o,h.get? b=some o->H b=none->b∉fs->b∉ex->h'.get? b=some o
 slot:∀b o,h.get? b=some o->H b=none->b∈fs->b∉ex->∃sl,h'.get? b=some {o with slots:=sl}
 free:∀b o,h.get? b=some o->H b=none->b∉ex->H' b=none
 there:∀b o,h.get? b=some o->b∉ex->∃o',h'.get? b=some o'
 i0:∀b xs,H b=some (.tup xs)->H' b=some (.tup xs)
 a8:∀b o u,H b=some (.cD o u)->H' b=some (.cD o u)
 gR:∀b ps,H b=some (.nF ps)->∃more,H' b=some (.nF (ps++more))
section
variable{fs fs' ex KO:List Addr}{H1 H2:Hp}{C h2:Heap}{x e:Addr}{o:HO}
theorem Un.any(u:Un fs ex H H1 h C)(q:h.get? b=some ob)(n:H b=none)(hx:b∉ex):∃sl,C.get? b=some {ob with slots:=sl}:=by
 by_cases hb:b∈fs
 .exact u.slot b ob q n hb hx
 .exact⟨ob.slots,u.keep b ob q n hb hx⟩
theorem Un.kept(k:∀b u,h.get? b=some u->h'.get? b=some u):Un fs ex H H h h':=
 ⟨λb ob q _ _ _=>k b ob q,λb ob q _ _ _=>⟨ob.slots,k b ob q⟩,λ_ _ _ n _=>n,λb ob q _=>⟨ob,k b ob q⟩,λ_ _ q=>q,λ_ _ _ q=>q,λ_ ps q=>⟨#[],by rw[q];simp⟩⟩
theorem Un.refl:Un fs ex H H h h:=Un.kept λ_ _ q=>q
theorem Un.laid(k:∀b u,h.get? b=some u->h'.get? b=some u)(hp:h.objs.size<=a)(hn:H a=none):Un fs ex H (upd H a o) h h' where
 keep:=λb u q _ _ _=>k b u q
 slot:=λb u q _ _ _=>⟨u.slots,k b u q⟩
 free:=λb u q n _=>by rw[aP (w0o (w0n (Heap.lt_size q) hp))];exact n
 there:=λb u q _=>⟨u,k b u q⟩
 i0:=λb xs q=>by rw[aP (jf q hn)];exact q
 a8:=λb u xs q=>by rw[aP (jf q hn)];exact q
 gR:=λb ps q=>⟨#[],by rw[aP (jf q hn),q];simp⟩
theorem Un.write(mu:zr (H x))(he:e=x\/H e=some (.own x))(k:∀b u,b≠e->h.get? b=some u->h'.get? b=some u)(Ad:∃u,h'.get? e=some u):Un fs ex H (upd H x o) h h':=by
 have hx:∀b,H b=none->b≠x:=λb n z=>by subst z;rw[n]at mu;exact mu
 have hb:∀b,H b=none->b≠e:=λb n z=>by
  grind
 have hm:∀b u,H b=some u->¬zr (some u)->b≠x:=λb u q nm z=>by grind
 refine⟨λb u q n _ _=>k b u (hb b n) q,λb u q n _ _=>⟨u.slots,k b u (hb b n) q⟩,λb u q n _=>by grind [aP],λb u q _=>?_,
  λb xs q=>by rw[aP (hm b _ q λz=>z)];exact q,λb u xs q=>by rw[aP (hm b _ q λz=>z)];exact q,λb ps q=>⟨#[],by rw[aP (hm b _ q λz=>z),q];simp⟩⟩
 grind
end
noncomputable def qb(h:Heap)(H:Hp):List Addr:=(List.range h.objs.size).filter λa=>(H a).isSome
noncomputable def iy(h:Heap)(H:Hp):Heap:=PySem.W.hideAll h (qb h H)
theorem MR(h)(H):(iy h H).objs.size=h.objs.size:=PySem.W.hideAll_size _ _
theorem Nq(e:h.get? b=some o)(n:H b=none):(iy h H).get? b=some o:=
 PySem.W.hideAll_get _ e λhm=>by
  have q:(H b).isSome=true:=(List.mem_filter.mp hm).2;rw[n]at q;simp at q
theorem N7(e:(iy h H).get? b=some o):h.get? b=some o/\H b=none:=by
 have e':h.get? b=some o:=PySem.W.of_hideAll (qb h H) e;refine⟨e',?_⟩;cases q:H b with
 |none=>rfl
 |some x=>
  grind [qb,Heap.lt_size,iy,W.hideAll_none]
noncomputable def sN(g h:Heap)(L:Addr):List (Addr×Obj):=(List.range h.objs.size).filterMap λa=>if a=L\/(g.get? a).isSome=true then none else(h.get? a).map λo=>(a,o)
noncomputable def rest(g h:Heap)(L d:Addr):List (Addr×Obj):=(sN g h L).filter λp=>decide (p.1≠d)
structure Mod(K:Fg)(mg:Str->Option Value)(base:Heap):Prop where
 Ay:K.In base
 glob:base.Ns mainGlobals mg
 blt:∃mb,base.Ns builtinsNs mb/\∀x:Str,x≠"__name__"->mb x=bootBuiltins x
 nolimit:base.NoLimit
structure Cx where
 prog:Program
 w:World
 K:Fg
 mg:Str->Option Value
 base:Heap
 A:Around
 N:List Str
 aC:Shared
 aH:Hp
 env:Env
 outer:List Env
 stack:List Env
 ex:List Addr
 fn:Str->Bool
 calm:Bool
 pn:List (Addr×Obj)
 xe:Value->Shared->Prop
variable{X:Cx}
noncomputable def iE(l:List Env):List Addr:=l.filterMap (·.frame)
noncomputable abbrev Cx.fs(X:Cx):List Addr:=iE X.outer
noncomputable def j0(sc:Scope)(x:Str):Prop:=sc.names.lookup x=some .local\/sc.names.lookup x=some .cell\/sc.names.lookup x=some .free
noncomputable def Loc(sc:Scope)(x:Str):Prop:=sc.names.lookup x=some .local\/sc.names.lookup x=some .cell
noncomputable def Look(env:Env)(h:Heap)(m:Str->Option Value)(x:Str)(u:Value):Prop:=
 (env.kindOf x=some .local/\m x=some u)\/((env.kindOf x=some .cell\/env.kindOf x=some .free)/\∃c,env.cells.lookup x=some c/\h.IsCell c (some u))
noncomputable abbrev jo(P:Addr)(q:Str):Obj:={cls:=.str q 0,data:=.fields #[.ref P]}
noncomputable def gU(K:Fg)(H:Hp):Prop:=∀(a:Addr)(q:Str)(P:Addr),(a,jo P q)∈K->∃ps:Array Value,H P=some (.nF ps)/\ps[0]?=some (.bool true)/\ps[1]?=some (.str q 0)
noncomputable def iD(K:Fg):Bool:=K.all λp=>match p.2.cls with
 |.str _ _=>false
 |_=>true
theorem gU.Tp(h:iD K=true):gU K H:=λa q P m=>by
 have:=w0u.mp h _ m;cases this
theorem gU.un(t:gU K H)(u:Un fs ex H H' h h'):gU K H':=λa q P m=>by
 obtain⟨ps,e,p0,p1⟩:=t a q P m;obtain⟨more,e'⟩:=u.gR P ps e
 grind
theorem gU.laid(t:gU K H)(hn:H D=none):gU K (upd H D o):=λa q P m=>by
 obtain⟨ps,e,p⟩:=t a q P m;exact⟨ps,by rw[aP (jf e hn)];exact e,p⟩
structure Cx.Ok(X:Cx):Prop where
 mod:Mod X.K X.mg X.base
 kind:X.env.scope.kind=.function
 glob:X.env.globals=mainGlobals
 blt:X.env.builtins=builtinsNs
 above:X.aC.heap.objs.size<=X.env.locals
 inj:∀x y c,X.env.cells.lookup x=some c->X.env.cells.lookup y=some c->x=y
 has:∀x,(X.env.kindOf x=some .cell\/X.env.kindOf x=some .free)->∃c,X.env.cells.lookup x=some c
 zF:∀x c,X.fn x=true->X.env.cells.lookup x=some c->X.aC.heap.objs.size<=c
 hd:X.calm=true->X.A.handled=none
 frames:X.A.frames=some X.stack
 Mh:X.stack=X.outer\/(X.stack=X.env::X.outer/\X.env.frame=some X.env.locals)
 Cq:∀b∈X.ex,b≠X.env.locals/\∀x c,X.env.cells.lookup x=some c->c≠b
 bs:∀b o,X.base.get? b=some o->X.aC.heap.get? b=some o/\X.aH b=none
 pU:X.base.objs.size<=X.aC.heap.objs.size
 wY:∀b o,X.base.get? b=some o->b∉X.ex
 sY:∀b∈X.ex,b∉X.fs
 gL:X.aC.heap.FunFrames X.base X.outer
 rS:∀b∈X.fs,X.aH b=none
 tab:gU X.K X.aH
structure Inv(X:Cx)(pins:List (Addr×Obj))(σ:List (Option V))(H:Hp)(s:Shared):Prop where
 ok:X.Ok
 os:s.os=X.aC.os
 bare:AllBare s.gens
 base:Un X.fs X.ex X.aH H X.aC.heap s.heap
 loc:∃m,s.heap.Ns X.env.locals m/\∀(i:Nat)(x:Str)(v:V),X.N[i]?=some x->σ[i]?=some (some v)->j0 X.env.scope x->∃u,RelV v u/\Look X.env s.heap m x u
 cell:∀x c,X.env.cells.lookup x=some c->∃v,s.heap.IsCell c v
 free:H X.env.locals=none
 fA:∀x c,X.env.cells.lookup x=some c->H c=none
 pin:∀p∈X.pn++pins,s.heap.get? p.1=some p.2/\H p.1=none/\p.1≠X.env.locals/\p.1∉X.fs/\∀v,p.2.data≠.cell v
 aR:d7 X.prog X.w H s.heap
 len:σ.length=X.N.length
section
variable{σ:List (Option V)}
theorem Cx.Ok.Gu(ok:X.Ok)(e:X.base.get? b=some o):b∉X.fs:=λhb=>by
 have:=(ok.gL.mem hb).1
 grind
theorem Inv.bs(I:Inv X pins σ H s):∀b o,X.base.get? b=some o->s.heap.get? b=some o/\H b=none:=λb o e=>
 ⟨I.base.keep b o (I.ok.bs b o e).1 (I.ok.bs b o e).2 (I.ok.Gu e) (I.ok.wY b o e),I.base.free b o (I.ok.bs b o e).1 (I.ok.bs b o e).2 (I.ok.wY b o e)⟩
theorem Inv.bk(I:Inv X pins σ H s):∀b o,X.base.get? b=some o->s.heap.get? b=some o:=λb o e=>(I.bs b o e).1
theorem Inv.mod(I:Inv X pins σ H s):Mod X.K X.mg X.base:=I.ok.mod
theorem Inv.u0(I:Inv X pins σ H s):X.K.In s.heap:=I.ok.mod.Ay.keeps I.bk
theorem Inv.fr(I:Inv X pins σ H s):∃m,Fr X.base X.env.locals s.heap m:=
 let ⟨m,hn,_⟩:=I.loc
 ⟨m,hn,I.bk,w0l I.ok.pU I.ok.above⟩
theorem Inv.lt(I:Inv X pins σ H s):X.env.locals<s.heap.objs.size:=let ⟨_,hn,_⟩:=I.loc;hn.lt
theorem Inv.sz(I:Inv X pins σ H s):X.aC.heap.objs.size<=s.heap.objs.size:=w0l I.ok.above (w3w I.lt)
theorem Inv.AM(I:Inv X pins σ H s)(h:s.heap.objs.size<=a):a∉X.fs:=λhb=>by
 obtain⟨_,o,ho,_⟩:=I.ok.gL.mem hb
 exact absurd (w0n (Heap.lt_size ho) (w0l I.sz h)) (w2m _)
theorem Inv.sR(I:Inv X pins σ H s):∀x c,X.env.cells.lookup x=some c->c≠X.env.locals:=λx c e z=>by
 obtain⟨v,o,ho,hd⟩:=I.cell x c e;obtain⟨m,⟨o',es,ep,qF,hd',_⟩,_⟩:=I.loc
 grind
theorem Inv.gL(I:Inv X pins σ H s):s.heap.FunFrames X.base X.outer:=by
 have all:∀(l:List Env),(∀b∈iE l,b∈X.fs)->X.aC.heap.FunFrames X.base l->s.heap.FunFrames X.base l:=by
  intro l
  induction l with
  |nil=>intro _ _;trivial
  |cons env r ih=>
   intro hs hl;obtain⟨hk,⟨L,o,hf,hn,ho,hd⟩,hr⟩:=hl;have hL:L∈X.fs:=hs L (by grind [iE]);obtain⟨sl,e⟩:=I.base.slot L o ho (I.ok.rS L hL) hL λz=>I.ok.sY L z hL
   exact⟨hk,⟨L,_,hf,hn,e,hd⟩,ih (λb hb=>hs b (by grind [iE])) hr⟩
 exact all X.outer (λ_ hb=>hb) I.ok.gL
theorem Inv.stack(I:Inv X pins σ H s):s.heap.FunFrames X.base X.stack:=by
 rcases I.ok.Mh with e|⟨e,hf⟩
 .rw[e];exact I.gL
 .rw[e];obtain⟨m,hn,_⟩:=I.loc;refine .cons (by rw[I.ok.kind];decide) hf hn ?_ I.gL
  exact Heap.get?_none_of_le (w0l I.ok.pU I.ok.above)
theorem Inv.kK(I:Inv X pins σ H s):∀b∈iE X.stack,b∈X.env.locals::X.fs:=λb hb=>by
 rcases I.ok.Mh with e|⟨e,hf⟩
 all_goals grind [iE]
theorem Inv.o7(I:Inv X pins σ H s):∀b∈iE X.stack,H b=none:=λb hb=>by
 rcases w0m.mp (I.kK b hb)with e|hb
 .rw[e];exact I.free
 .obtain⟨_,o,ho,_⟩:=I.ok.gL.mem hb
  exact I.base.free b o ho (I.ok.rS b hb) λz=>I.ok.sY b z hb
theorem Inv.step{g':Array GenState}{d':Drawn}{ch:List Addr}(I:Inv X pins σ H s)
  (rV:∀b∈ch,(b∈X.ex\/X.aC.heap.objs.size<=b)/\b≠X.env.locals/\(∀x c,X.env.cells.lookup x=some c->c≠b)/\∀p∈X.pn++pins,p.1≠b)
  (keep:∀b o,b≠X.env.locals->b∉X.fs->b∉ch->s.heap.get? b=some o->H b=none->h'.get? b=some o)
  (slot:∀b o,b≠X.env.locals->b∈X.fs->b∉ch->s.heap.get? b=some o->H b=none->∃sl,h'.get? b=some {o with slots:=sl})(free:∀b o,b∉ch->s.heap.get? b=some o->H b=none->H' b=none)
  (there:∀b o,b∉ch->s.heap.get? b=some o->∃o',h'.get? b=some o')
  (i0:∀b xs,H b=some (.tup xs)->H' b=some (.tup xs))(a8:∀b o u,H b=some (.cD o u)->H' b=some (.cD o u))(gR:∀b ps,H b=some (.nF ps)->∃more,H' b=some (.nF (ps++more)))
  (ns:∀m,s.heap.Ns X.env.locals m->h'.Ns X.env.locals m)(aR:d7 X.prog X.w H' h')(hg:AllBare g'):
  Inv X pins σ H' {s with heap:=h',gens:=g',drawn:=d',toks:=t'}:=by
 have AK:∀b o,X.aC.heap.get? b=some o->b≠X.env.locals:=λb o e=>w0o (w0n (Heap.lt_size e) I.ok.above)
 have wW:∀b o,X.aC.heap.get? b=some o->b∉X.ex->b∉ch:=λb o e hx hb=>by
  rcases(rV b hb).1 with z|z
  .exact hx z
  .exact absurd (w0n (Heap.lt_size e) z) (w2m _)
 have cellK:∀x c,X.env.cells.lookup x=some c->∀v,s.heap.IsCell c v->h'.IsCell c v:=λx c e v ⟨o,ho,hd⟩=>by
  have Lu:c∉ch:=λz=>(rV c z).2.2.1 x c e rfl
  by_cases J:c∈X.fs
  .obtain⟨sl,q⟩:=slot c o (I.sR x c e) J Lu ho (I.fA x c e);exact⟨_,q,hd⟩
  .exact⟨o,keep c o (I.sR x c e) J Lu ho (I.fA x c e),hd⟩
 refine⟨I.ok,I.os,hg,⟨λb o e n hb hx=>?_,λb o e n hb hx=>?_,λb o e n hx=>?_,λb o e hx=>?_,λb xs e=>i0 b xs (I.base.i0 b xs e),λb o xs e=>a8 b o xs (I.base.a8 b o xs e),λb ps e=>?_⟩,?_,λx c e=>?_,?_,λx c e=>?_,λp hp=>?_,aR,I.len⟩
 .exact keep b o (AK b o e) hb (wW b o e hx) (I.base.keep b o e n hb hx) (I.base.free b o e n hx)
 .obtain⟨sl,e1⟩:=I.base.slot b o e n hb hx;obtain⟨BO,e2⟩:=slot b _ (AK b o e) hb (wW b o e hx) e1 (I.base.free b o e n hx);exact⟨BO,e2⟩
 .obtain⟨o',e1⟩:=I.base.there b o e hx;exact free b o' (wW b o e hx) e1 (I.base.free b o e n hx)
 .obtain⟨o',e1⟩:=I.base.there b o e hx
  grind
 .obtain⟨m1,e1⟩:=I.base.gR b ps e
  grind
 .obtain⟨m,hn,hl⟩:=I.loc;refine⟨m,ns m hn,λi x v e1 e2 e3=>?_⟩
  obtain⟨u,r,l⟩:=hl i x v e1 e2 e3;refine⟨u,r,?_⟩;rcases l with l|⟨k,c,e,z⟩
  .exact .inl l
  .exact .inr ⟨k,c,e,cellK x c e _ z⟩
 .obtain⟨v,z⟩:=I.cell x c e
  grind
 .obtain⟨m,⟨o,_,_,ho,_⟩,_⟩:=I.loc
  grind [free]
 .obtain⟨v,o,ho,hd⟩:=I.cell x c e;exact free c o (λz=>(rV c z).2.2.1 x c e rfl) ho (I.fA x c e)
 .obtain⟨e,n,ne,nf,d⟩:=I.pin p hp
  grind
theorem Inv.un(I:Inv X pins σ H s)(u:Un X.fs [] H H' s.heap h')(aR:d7 X.prog X.w H' h'):Inv X pins σ H' {s with heap:=h',toks:=t'}:=by
 obtain⟨m,⟨o,es,ep,ho,r⟩,_⟩:=id I.loc;obtain⟨sl,hL⟩:=u.any ho I.free (by simp)
 exact I.step (g':=s.gens) (d':=s.drawn) (ch:=[]) (λ_ z=>nomatch z) (λb o _ hb _ e n=>u.keep b o e n hb (by simp)) (λb o _ hb _ e n=>u.slot b o e n hb (by simp)) (λb o _ e n=>u.free b o e n (by simp)) (λb o _ e=>u.there b o e (by simp)) u.i0 u.a8 u.gR (λm' hm=>by
  obtain⟨o',Ff,Fe,qF,r'⟩:=hm;rw[ho]at qF;cases qF;exact⟨_,Ff,Fe,hL,r'⟩) aR I.bare
theorem Inv.call{g':Array GenState}{d':Drawn}(I:Inv X pins σ H s)(u:Un (iE X.stack) ch H H' s.heap h')(aR:d7 X.prog X.w H' h')(hg:AllBare g')
  (rV:∀b∈ch,(b∈X.ex\/X.aC.heap.objs.size<=b)/\b≠X.env.locals/\(∀x c,X.env.cells.lookup x=some c->c≠b)/\∀p∈X.pn++pins,p.1≠b):
  Inv X pins σ H' {s with heap:=h',gens:=g',drawn:=d',toks:=t'}:=by
 obtain⟨m,⟨o,es,ep,ho,r⟩,_⟩:=id I.loc;obtain⟨sl,hL⟩:=u.any ho I.free λz=>(rV _ z).2.1 rfl
 exact I.step (ch:=ch) rV (λb o hL hb J e n=>u.keep b o e n (λz=>(w0m.mp (I.kK b z)).elim hL hb) J) (λb o _ _ J e n=>u.any e n J) (λb o J e n=>u.free b o e n J) (λb o J e=>u.there b o e J) u.i0 u.a8 u.gR (λm' hm=>by
  obtain⟨o',Ff,Fe,qF,r'⟩:=hm;rw[ho]at qF;cases qF;exact⟨_,Ff,Fe,hL,r'⟩) aR hg
theorem Inv.turned{t':Nat}{it:Addr}(I:Inv X pins σ H s)(k:∀b o,b≠it->s.heap.get? b=some o->h'.get? b=some o)(hn:H it=none)(hL:it≠X.env.locals)
  (C:it∈X.ex\/X.aC.heap.objs.size<=it)(h2:∀x c,X.env.cells.lookup x=some c->c≠it)(h3:∀p∈X.pn++pins,p.1≠it):Inv X pins σ H {s with heap:=h',toks:=t'}:=by
 have nit:∀b u,H b=some u->b≠it:=λb u e z=>by rw[z,hn]at e;cases e
 refine I.step (g':=s.gens) (d':=s.drawn) (ch:=[it]) (λb hb=>?_) (λb o _ _ J e _=>k b o (λz=>J (by simp[z])) e) (λb o _ _ J e _=>⟨o.slots,k b o (λz=>J (by simp[z])) e⟩) (λ_ _ _ _ n=>n)
  (λb o J e=>⟨o,k b o (λz=>J (by simp[z])) e⟩) (λ_ _ e=>e) (λ_ _ _ e=>e) (λb ps e=>⟨#[],by rw[e];simp⟩) (λm hm=>?_) (λb u e=>?_) I.bare
 .grind
 .obtain⟨o,es,ep,ho,r⟩:=hm;exact⟨o,es,ep,k _ o (Ne.symm hL) ho,r⟩
 .refine(I.aR b u e).fR (λc v J q=>k c v ?_ q) (λ_ q=>q) λ_ _ _ q=>q
  grind
theorem Inv.tok(I:Inv X pins σ H s)(t:Nat):Inv X pins σ H {s with toks:=t}:=I.un (h':=s.heap) (t':=t) Un.refl I.aR
theorem Inv.kept{t':Nat}(I:Inv X pins σ H s)(k:∀b u,s.heap.get? b=some u->h'.get? b=some u):Inv X pins σ H {s with heap:=h',toks:=t'}:=I.un (Un.kept k) (I.aR.kept k)
theorem Inv.laid{a:Addr}{o:HO}{t':Nat}(I:Inv X pins σ H s)(k:∀b u,s.heap.get? b=some u->h'.get? b=some u)(hp:s.heap.objs.size<=a)(new:aU X.prog X.w (upd H a o) h' a o):
  Inv X pins σ (upd H a o) {s with heap:=h',toks:=t'}:=I.un (Un.laid k hp (I.aR.fresh hp)) (I.aR.laid k hp new)
theorem Inv.write{x e:Addr}{o:HO}{t':Nat}(I:Inv X pins σ H s)(mu:zr (H x))(he:e=x\/H e=some (.own x))(k:∀b u,b≠e->s.heap.get? b=some u->h'.get? b=some u)(Ad:∃u,h'.get? e=some u)
  (new:aU X.prog X.w (upd H x o) h' x o):Inv X pins σ (upd H x o) {s with heap:=h',toks:=t'}:=I.un (Un.write mu he k Ad) (I.aR.write mu he k Ad new)
theorem Inv.weak{aS:List (Option V)}(I:Inv X pins σ H s)(hl:aS.length=σ.length)(w:∀(i:Nat) v,aS[i]?=some (some v)->σ[i]?=some (some v)):Inv X pins aS H s:=
 ⟨I.ok,I.os,I.bare,I.base,let ⟨m,hn,RV⟩:=I.loc;⟨m,hn,λi x v e1 e2 e3=>RV i x v e1 (w i v e2) e3⟩,I.cell,I.free,I.fA,I.pin,I.aR,hl.trans I.len⟩
theorem Inv.jT{vj:List (Addr×Obj)}(I:Inv X pins σ H s)(h:∀p∈vj,s.heap.get? p.1=some p.2/\H p.1=none/\p.1≠X.env.locals/\p.1∉X.fs/\∀v,p.2.data≠.cell v):Inv X vj σ H s:=
 ⟨I.ok,I.os,I.bare,I.base,I.loc,I.cell,I.free,I.fA,λp hp=>(w1d.mp hp).elim (λz=>I.pin p (w1l _ z)) (h p),I.aR,I.len⟩
theorem Nr(hN:N.Nodup){j:Nat}(a:N[i]?=some x)(b:N[j]?=some x):i=j:=by
 obtain⟨C,e1⟩:=w0b.mp a;obtain⟨h2,e2⟩:=w0b.mp b;exact(List.getElem_inj hN).mp (e1.trans e2.symm)
theorem Vb{M:Model}{Q:Unit->Shared->Prop}(I:Inv X pins σ H s)(hN:X.N.Nodup)(hi:X.N[i]?=some x)(hx:Loc X.env.scope x)(r:RelV v u)
  (h:∀s',Inv X pins (σ.set i (some v)) H s'->(∃a,Heap.SameBut a s.heap s'.heap/\(a=X.env.locals\/X.env.cells.lookup x=some a))->Q () s')(hf:autoParam (X.fn x=true\/X.env.scope.names.lookup x=some .local) jL):wpAny M A (storeName X.env x u) Q E s:=by
 obtain⟨m,hn,hl⟩:=id I.loc;have Fw:(X.env.scope.kind==.class||(X.env.scope.kind==.module&&X.env.locals != X.env.globals))=false:=by rw[I.ok.kind];rfl
 have Ai:i<σ.length:=by grind [Inv.len]
 have sR:=I.sR
 have tracked:∀{a:Addr}{h':Heap},(∃o,s.heap.get? a=some o/\H a=none)->Heap.SameBut a s.heap h'->d7 X.prog X.w H h':=λ{a h'} ha hs b ob e=>by
  obtain⟨_,_,cG⟩:=ha;refine(I.aR b ob e).fR (λc w' J q=>(hs.2 c ?_).trans q) (λ_ q=>q) λ_ _ _ q=>q
  grind
 rcases hx with hk|hk
 .refine wpAny_storeName_local hk hn (λh' FL hs=>?_) Fw
  obtain⟨oL,_,_,R4,_⟩:=id hn;refine h _ ⟨I.ok,I.os,I.bare,⟨λb o e n hb hx=>?_,λb o e n hb hx=>?_,I.base.free,λb o e hx=>?_,I.base.i0,I.base.a8,I.base.gR⟩,⟨_,FL,λj y v' e1 e2 e3=>?_⟩,λy c e=>?_,I.free,I.fA,λp hp=>?_,tracked ⟨oL,R4,I.free⟩ hs,by simpa using I.len⟩ ⟨_,hs,.inl rfl⟩
  .exact(hs.2 b (w0o (w0n (Heap.lt_size e) I.ok.above))).trans (I.base.keep b o e n hb hx)
  .obtain⟨sl,e1⟩:=I.base.slot b o e n hb hx;exact⟨sl,(hs.2 b (w0o (w0n (Heap.lt_size e) I.ok.above))).trans e1⟩
  .obtain⟨o',e1⟩:=I.base.there b o e hx;exact⟨o',(hs.2 b (w0o (w0n (Heap.lt_size e) I.ok.above))).trans e1⟩
  .by_cases hj:j=i
   .subst hj;rw[hi]at e1;cases e1;rw[w0i Ai]at e2;cases e2;exact⟨u,r,.inl ⟨hk,by simp⟩⟩
   .rw[w0f (Ne.symm hj)]at e2;obtain⟨u',r',q⟩:=hl j y v' e1 e2 e3;refine⟨u',r',?_⟩;rcases q with⟨k,e⟩|⟨k,c,e,z⟩
    .refine .inl ⟨k,?_⟩
     grind [Nr]
    .exact .inr ⟨k,c,e,z.sameBut hs (sR y c e)⟩
  .obtain⟨w',z⟩:=I.cell y c e;exact⟨w',z.sameBut hs (sR y c e)⟩
  .obtain⟨e,n,ne,nf,d⟩:=I.pin p hp;exact⟨(hs.2 p.1 ne).trans e,n,ne,nf,d⟩
 .have qD:X.fn x=true:=by
   grind
  obtain⟨c,J⟩:=I.ok.has x (.inl hk);obtain⟨w',z⟩:=I.cell x c J;refine wpAny_storeName_cell I.ok.kind hk J z (λh' RB hs=>?_)
  obtain⟨oc,uX,R6⟩:=id z;refine h {s with heap:=h'} ⟨I.ok,I.os,I.bare,⟨λb o e n hb hx=>?_,λb o e n hb hx=>?_,I.base.free,λb o e hx=>?_,I.base.i0,I.base.a8,I.base.gR⟩,⟨m,hn.sameBut hs (Ne.symm (sR x c J)),λj y v' e1 e2 e3=>?_⟩,λy c' e=>?_,I.free,I.fA,λp hp=>?_,tracked ⟨oc,uX,I.fA x c J⟩ hs,by simpa using I.len⟩ ⟨c,hs,.inr J⟩
  .exact(hs.2 b (w0o (w0n (Heap.lt_size e) (I.ok.zF x c qD J)))).trans (I.base.keep b o e n hb hx)
  .obtain⟨sl,e1⟩:=I.base.slot b o e n hb hx;exact⟨sl,(hs.2 b (w0o (w0n (Heap.lt_size e) (I.ok.zF x c qD J)))).trans e1⟩
  .obtain⟨o',e1⟩:=I.base.there b o e hx;exact⟨o',(hs.2 b (w0o (w0n (Heap.lt_size e) (I.ok.zF x c qD J)))).trans e1⟩
  .by_cases hj:j=i
   .subst hj;rw[hi]at e1;cases e1;rw[w0i Ai]at e2;cases e2;exact⟨u,r,.inr ⟨.inl hk,c,J,RB⟩⟩
   .rw[w0f (Ne.symm hj)]at e2;obtain⟨u',r',q⟩:=hl j y v' e1 e2 e3;refine⟨u',r',?_⟩;rcases q with q|⟨k,c',e,z'⟩
    .exact .inl q
    .refine .inr ⟨k,c',e,z'.sameBut hs ?_⟩;rintro rfl;exact hj (Nr hN e1 (I.ok.inj _ _ _ e J ▸ hi))
  .by_cases RC:c'=c
   .grind
   .obtain⟨w2,z2⟩:=I.cell y c' e;exact⟨w2,z2.sameBut hs RC⟩
  .obtain⟨e,n,ne,nf,d⟩:=I.pin p hp;refine⟨(hs.2 p.1 ?_).trans e,n,ne,nf,d⟩
   grind
theorem Nt{M:Model}{Q:Unit->Shared->Prop}(I:Inv X pins σ H s)(hN:X.N.Nodup)(hi:X.N[i]?=some x)(hx:Loc X.env.scope x)(r:RelV v u)
  (h:∀s',Inv X pins (σ.set i (some v)) H s'->Q () s')(hf:autoParam (X.fn x=true\/X.env.scope.names.lookup x=some .local) jL):wpAny M A (storeName X.env x u) Q E s:=
 Vb I hN hi hx r (λs' I' _=>h s' I') hf
theorem Inv.uJ{s':Shared}{ch:List Addr}(I:Inv X pins σ H s)(ho:s'.os=s.os)(u:Un (iE X.stack) ch H H' s.heap s'.heap)(aR:d7 X.prog X.w H' s'.heap)(hg:AllBare s'.gens)
  (rV:∀b∈ch,(b∈X.ex\/X.aC.heap.objs.size<=b)/\b≠X.env.locals/\(∀x c,X.env.cells.lookup x=some c->c≠b)/\∀p∈X.pn++pins,p.1≠b):Inv X pins σ H' s':=by
 obtain⟨h',g',d',t',o'⟩:=s';have e:o'=s.os:=ho;subst e;exact I.call (g':=g') (t':=t') (d':=d') u aR hg rV
end
abbrev XK:=Value->Option Addr->Hp->Prop
noncomputable abbrev St:=List (Option V)
variable{σ:St}
abbrev VK:=V->Hp->Prop
abbrev TE:=St->Hp->VK->Prop
variable{ta te:TE}
abbrev TT:=St->Hp->(Bool->Hp->Prop)->Prop
abbrev TA:=St->Hp->(List V->Hp->Prop)->Prop
structure Ends where
 nx:St->Hp->Prop
 rt:VK
 bk:St->Hp->Prop:=λ_ _=>False
 ct:St->Hp->Prop:=λ_ _=>False
abbrev TS:=Ends->St->Hp->Prop
variable{tb:TS}
noncomputable def EP(X:Cx)(pins:List (Addr×Obj))(σ:St)(Q:VK)(u:Value)(s':Shared):Prop:=∃v H',Inv X pins σ H' s'/\RelV v u/\Q v H'
noncomputable def TP(X:Cx)(pins:List (Addr×Obj))(σ:St)(Q:Bool->Hp->Prop)(b:Bool)(s':Shared):Prop:=∃H',Inv X pins σ H' s'/\Q b H'
noncomputable def AP(X:Cx)(pins:List (Addr×Obj))(σ:St)(Q:List V->Hp->Prop)(us:List Value)(s':Shared):Prop:=∃vs H',Inv X pins σ H' s'/\Vals vs us/\Q vs H'
noncomputable def SP(X:Cx)(pins:List (Addr×Obj))(D:Ends)(f:Flow)(s':Shared):Prop:=
 match f with
 |.next=>∃aS H',Inv X pins aS H' s'/\D.nx aS H'
 |.brk=>∃aS H',Inv X pins aS H' s'/\D.bk aS H'
 |.cont=>∃aS H',Inv X pins aS H' s'/\D.ct aS H'
 |.ret u=>∃v aS H',Inv X pins aS H' s'/\RelV v u/\D.rt v H'
noncomputable def PE(X:Cx)(e:Expr)(t:TE):Prop:=
 ∀(pins:List (Addr×Obj))(s:Shared)(σ:St)(H:Hp)(Q:VK),Inv X pins σ H s->t σ H Q->wpAny (model X.prog X.w) X.A (eval e X.env) (EP X pins σ Q) X.xe s
noncomputable def PT(X:Cx)(e:Expr)(t:TT):Prop:=
 ∀(pins:List (Addr×Obj))(s:Shared)(σ:St)(H:Hp)(Q:Bool->Hp->Prop),Inv X pins σ H s->t σ H Q->wpAny (model X.prog X.w) X.A (isTrue e X.env (eval e X.env)) (TP X pins σ Q) X.xe s
noncomputable def PW(X:Cx)(e:Expr)(t:TT):Prop:=
 ∀(whole:Sem Value)(pins:List (Addr×Obj))(s:Shared)(σ:St)(H:Hp)(Q:Bool->Hp->Prop),Inv X pins σ H s->t σ H Q->wpAny (model X.prog X.w) X.A (isTrue e X.env whole) (TP X pins σ Q) X.xe s
theorem PW.pt{t:TT}(h:PW X e t):PT X e t:=h _
noncomputable def PA(X:Cx)(es:List Expr)(t:TA):Prop:=
 ∀(pos:Pos)(pins:List (Addr×Obj))(s:Shared)(σ:St)(H:Hp)(Q:List V->Hp->Prop),Inv X pins σ H s->t σ H Q->wpAny (model X.prog X.w) X.A (spliced (backTo pos (starEach es X.env))) (AP X pins σ Q) X.xe s
noncomputable def PS(X:Cx)(st:Stmt)(t:TS):Prop:=
 ∀(pins:List (Addr×Obj))(s:Shared)(σ:St)(H:Hp)(D:Ends),Inv X pins σ H s->t D σ H->wpAny (model X.prog X.w) X.A (exec st X.env) (SP X pins D) X.xe s
noncomputable def kN(X:Cx)(st:List Stmt)(t:TS):Prop:=
 ∀(pins:List (Addr×Obj))(s:Shared)(σ:St)(H:Hp)(D:Ends),Inv X pins σ H s->t D σ H->wpAny (model X.prog X.w) X.A (execs st X.env) (SP X pins D) X.xe s
theorem bB{α:Type}{t:Sem α}{Q Q':α->Shared->Prop}{M:Model}(h:wpAny M A t Q E s)(hQ:∀a s,Q a s->Q' a s):wpAny M A t Q' E s:=wpAny_mono h hQ λ_ _ x=>x
section
noncomputable def pQ(i:Nat):TE:=λσ H Q=>∃v,σ[i]?=some (some v)/\Q v H
noncomputable def tC(v:V):TE:=λ_ H Q=>Q v H
theorem YW(hN:X.N[i]?=some x)(hv:j0 X.env.scope x)(hd:autoParam ((x==("__debug__":Str))=false) jK)(dU:autoParam ((x==("__classdict__":Str))=false) jK):PE X (.Name x pos) (pQ i):=by
 intro pins s σ H Q I h;obtain⟨v,e,h⟩:=h;obtain⟨m,hn,hl⟩:=I.loc;obtain⟨u,r,l⟩:=hl i x v hN e hv;have fin:EP X pins σ Q u s:=⟨v,H,I,r,h⟩;rcases l with⟨hk,hm⟩|⟨hk,c,J,hU⟩
 .exact wpAny_Name (wpAny_loadName_local I.ok.kind hk hn hm fin) hd
 .rcases hk with hk|hk
  .exact wpAny_Name (wpAny_loadName_cell I.ok.kind hk J hU fin) hd
  .exact wpAny_Name (wpAny_loadName_free I.ok.kind hk J hU fin dU) hd
theorem xt{i j pos}:PE X (.Constant (.int i) j pos) (tC (.int i)):=λ_ _ _ H _ I h=>wpAny_Constant_int ⟨.int i,H,I.tok _,⟨_,rfl⟩,h⟩
theorem z7l{b j pos}:PE X (.Constant (.bool b) j pos) (tC (.bl b)):=λ_ _ _ H _ I h=>Constant_bool ⟨.bl b,H,I,rfl,h⟩
theorem Px{j pos}:PE X (.Constant .none j pos) (tC .aG):=λ_ _ _ H _ I h=>Constant_none ⟨.aG,H,I,rfl,h⟩
theorem YX{x j pos}:PE X (.Constant (.str x) j pos) (tC (.str x)):=λ_ _ _ H _ I h=>Calls.Constant_str ⟨.str x,H,I.tok _,⟨_,rfl⟩,h⟩
noncomputable def Gl(X:Cx)(x:Str):Prop:=X.env.kindOf x=some .globalImplicit
theorem N8{Q:Value->Shared->Prop}(I:Inv X pins σ H s)(hg:Gl X x)(hm:X.mg x=some u)(h:Q u s)
  (hd:autoParam ((x==("__debug__":Str))=false) jK):wpAny (model X.prog X.w) X.A (eval (.Name x pos) X.env) Q E s:=
 Calls.Name_function_global I.ok.kind hg (Calls.loadGlobal_global (by rw[I.ok.glob];exact I.mod.glob.keeps I.bk) hm h) hd
theorem vy{Q:Value->Shared->Prop}(I:Inv X pins σ H s)(hg:Gl X x)(hm:X.mg x=none)(hv:bootBuiltins x=some u)(h:Q u s)
  (hn:autoParam (x≠"__name__") jK)(hd:autoParam ((x==("__debug__":Str))=false) jK):wpAny (model X.prog X.w) X.A (eval (.Name x pos) X.env) Q E s:=by
 obtain⟨mb,C,h2⟩:=I.mod.blt;exact Calls.Name_function_global I.ok.kind hg (Calls.loadGlobal_builtin (by rw[I.ok.glob];exact I.mod.glob.keeps I.bk) hm (by rw[I.ok.blt];exact C.keeps I.bk) ((h2 x hn).trans hv) h) hd
variable{a b:Expr}{tb:TE}
noncomputable def PC(X:Cx)(op:CmpOp)(a b:Expr)(t:TE):Prop:=
 ∀(pins:List (Addr×Obj))(s:Shared)(σ:St)(H:Hp)(Q:VK),Inv X pins σ H s->t σ H Q ->
  wpAny (model X.prog X.w) X.A (eval a X.env) (λv aK=>wpAny (model X.prog X.w) X.A (eval b X.env) (λu ni=>wpAny (model X.prog X.w) X.A (compareOp op v u) (EP X pins σ Q) X.xe ni) X.xe aK) X.xe s
theorem qN(b:Expr)(h:op≠.In)(h2:op≠.NotIn):behindInMarks op b=false:=by
 have e1:(op==CmpOp.In)=false:=by grind
 have e2:(op==CmpOp.NotIn)=false:=by grind
 cases b<;>simp[behindInMarks,e1,e2]
noncomputable def tB(t:TE):TT:=λσ H Q=>t σ H λx H1=>∃c,x=.bl c/\Q c H1
theorem Py{t:TE}(h:PC X op a b t)(C:behindInMarks op b=false:=by first|exact qN _ (by decide) (by decide)|rfl):PT X (.Compare a [op] [b] pos) (tB t):=by
 intro pins s σ H Q I hw;refine wpAny_isTrue_Compare1 (bB (h pins s σ H _ I hw) λv s1 C=>bB C λu s2 h2=>bB h2 λc s3 ⟨x,H1,I1,r1,q1⟩=>?_) C
 obtain⟨d,rfl,q⟩:=q1;cases r1;exact wpAny_truthy_bool ⟨H1,I1,q⟩
variable{tA Ei:TT}{rest:List Expr}
noncomputable def BV(t u:TT):TT:=λσ H Q=>t σ H λc H1=>if c=true then u σ H1 Q else Q false H1
noncomputable def Ml(t u:TT):TT:=λσ H Q=>t σ H λc H1=>if c=true then Q true H1 else u σ H1 Q
noncomputable def IF(t:TT):TT:=λσ H Q=>t σ H λc H1=>Q (!c) H1
theorem XM(ha:PT X a tA):PW X (.BoolOp .And [a] pos) tA:=by
 intro wh pins s σ H Q I h;refine isTrue_and (bB (ha pins s σ H Q I h) λc s1 e=>?_)
 grind [isTrue_and_nil]
theorem YY(ha:PT X a tA):PW X (.BoolOp .Or [a] pos) tA:=by
 intro wh pins s σ H Q I h;refine isTrue_or (bB (ha pins s σ H Q I h) λc s1 e=>?_)
 grind [isTrue_or_nil]
theorem YZ(ha:PT X a tA)(hb:PW X (.BoolOp .And (b::rest) pos) Ei):PW X (.BoolOp .And (a::b::rest) pos) (BV tA Ei):=by
 intro wh pins s σ H Q I h;refine isTrue_and (bB (ha pins s σ H _ I h) λc s1 ⟨H1,I1,q1⟩=>?_)
 cases c with
 |true=>exact hb wh pins s1 σ H1 Q I1 q1
 |false=>exact⟨H1,I1,q1⟩
theorem z7m(ha:PT X a tA)(hb:PW X (.BoolOp .Or (b::rest) pos) Ei):PW X (.BoolOp .Or (a::b::rest) pos) (Ml tA Ei):=by
 intro wh pins s σ H Q I h;refine isTrue_or (bB (ha pins s σ H _ I h) λc s1 ⟨H1,I1,q1⟩=>?_)
 cases c with
 |true=>exact⟨H1,I1,q1⟩
 |false=>exact hb wh pins s1 σ H1 Q I1 q1
theorem Y0(ha:PT X a tA):PT X (.UnaryOp .Not a pos) (IF tA):=by
 intro pins s σ H Q I h;exact isTrue_not (ha pins s σ H (λc H1=>Q (!c) H1) I h)
noncomputable def BW(ta tb:TE):TE:=λσ H Q=>ta σ H λx H1=>∃c,x=.bl c/\if c=true then tb σ H1 Q else Q (.bl false) H1
noncomputable def B2(ta:TE):TE:=λσ H Q=>ta σ H λx H1=>∃c,x=.bl c/\Q (.bl (!c)) H1
theorem Y1{op}{t:TE}(h:PE X a t):PE X (.BoolOp op [a] pos) t:=λpins s σ H Q I hw=>BoolOp_one (h pins s σ H Q I hw)
theorem Y2(ha:PE X a ta)(hb:PE X (.BoolOp .And (b::rest) pos) tb):PE X (.BoolOp .And (a::b::rest) pos) (BW ta tb):=by
 intro pins s σ H Q I h;refine BoolOp_and (bB (ha pins s σ H _ I h) λv s1 ⟨x,H1,I1,r1,q1⟩=>?_)
 obtain⟨c,rfl,q1⟩:=q1;cases r1;refine wpAny_truthy_bool ?_;cases c with
 |true=>exact hb pins s1 σ H1 Q I1 q1
 |false=>exact⟨.bl false,H1,I1,rfl,q1⟩
theorem Y3(ha:PE X a ta):PE X (.UnaryOp .Not a pos) (B2 ta):=by
 intro pins s σ H Q I h;refine UnaryOp_ (bB (ha pins s σ H _ I h) λv s1 ⟨x,H1,I1,r1,q1⟩=>?_)
 obtain⟨c,rfl,q1⟩:=q1;cases r1;exact not_of (wpAny_truthy_bool ⟨.bl (!c),H1,I1,rfl,q1⟩)
noncomputable def Tf(t:TT)(ta tb:TE):TE:=λσ H Q=>t σ H λc H1=>if c=true then ta σ H1 Q else tb σ H1 Q
theorem Wl(J:PT X c tA)(ha:PE X a ta)(hb:PE X b tb):PE X (.IfExp c a b pos) (Tf tA ta tb):=by
 intro pins s σ H Q I h;refine wpAny_IfExp (bB (J pins s σ H _ I h) λd s1 ⟨H1,I1,q1⟩=>?_)
 cases d with
 |true=>exact ha pins s1 σ H1 Q I1 q1
 |false=>exact hb pins s1 σ H1 Q I1 q1
end
noncomputable def cy(K:Fg)(H:Hp)(a:Addr)(xs:List V):Prop:=
 Rd H a (.lst xs) \/
  ∃(o:Obj)(aB:Array Value)(n:Nat),K.lookup a=some o/\o.cls=.type "list" /\ o.dict=none/\o.data=.seq aB n/\aB.size<=sizeLine/\Vals xs aB.toList
noncomputable def eK(K:Fg)(H:Hp)(a:Addr)(xs:List V):Prop:=
 Rd H a (.tup xs) \/
  ∃(o:Obj)(aB:Array Value)(n:Nat),K.lookup a=some o/\o.cls=.type "tuple" /\ o.dict=none/\o.data=.seq aB n/\aB.size<=sizeLine/\Vals xs aB.toList
noncomputable def E3:Value->Option V
 |.none=>some .aG
 |.bool b=>some (.bl b)
 |.int i _=>some (.int i)
 |.str x _=>some (.str x)
 |.bytes b _=>some (.uI b)
 |.float b _=>some (.uO b)
 |.ref a=>some (.ref a)
 |.type n=>some (.ty n)
 |_=>none
theorem RelV.abs{x:V}(r:RelV x u):E3 u=some x:=by
 cases x with
 |aG=>cases r;rfl
 |bl _=>cases r;rfl
 |int _=>obtain⟨t,rfl⟩:=r;rfl
 |str _=>obtain⟨t,rfl⟩:=r;rfl
 |uI _=>obtain⟨t,rfl⟩:=r;rfl
 |uO _=>obtain⟨t,rfl⟩:=r;rfl
 |ref _=>cases r;rfl
 |ty _=>cases r;rfl
theorem RelV.inj{x y:V}(r:RelV x u)(q:RelV y u):x=y:=Option.some.inj (r.abs.symm.trans q.abs)
theorem Vals.inj:∀{xs ys:List V}{us:List Value},Vals xs us->Vals ys us->xs=ys
 |_,_,_,.nil,.nil=>rfl
 |_,_,_,.cons r t,.cons r' t'=>by rw[r.inj r',Vals.inj t t']
section
variable{ys:List V}
theorem cy.of(h:H a=some (.lst xs)):cy K H a xs:=.inl (.inl h)
theorem eK.of(h:H a=some (.tup xs)):eK K H a xs:=.inl (.inl h)
theorem Inv.list(I:Inv X pins σ H s)(h:cy X.K H a xs):∃aB:List Value,Vals xs aB/\PlainL s.heap a aB.toArray/\xs.length<=sizeLine:=by
 rcases h with h|⟨o,aB,n,hk,J,hd,hs,hz,r⟩
 .obtain⟨z,aB,n,r,e⟩:=h.ok I.aR;exact⟨aB,r,⟨_,n,e,rfl,rfl,rfl⟩,z⟩
 .refine⟨aB.toList,r,⟨o,n,I.u0 a o hk,J,hd,by simpa using hs⟩,?_⟩
  grind [Vals.length,Array.length_toList]
theorem Inv.tuple(I:Inv X pins σ H s)(h:eK X.K H a xs):∃aB:List Value,Vals xs aB/\IsTup s.heap a aB.toArray/\xs.length<=sizeLine:=by
 rcases h with h|⟨o,aB,n,hk,J,_,hs,hz,r⟩
 .obtain⟨z,aB,r,p,_⟩:=h.ok I.aR;exact⟨aB,r,p,z⟩
 .refine⟨aB.toList,r,⟨o,I.u0 a o hk,J,n,by simpa using hs⟩,?_⟩
  grind [Vals.length,Array.length_toList]
theorem Inv.kq(I:Inv X pins σ H s)(h:cy X.K H a xs)(h':cy X.K H a ys):xs=ys:=by
 obtain⟨aB,r,⟨o,n,e,_,_,d⟩,_⟩:=I.list h;obtain⟨its',r',⟨o',n',e',_,_,d'⟩,_⟩:=I.list h';rw[e]at e';cases e';rw[d]at d';injection d' with d1 _
 have:aB=its':=by grind
 subst this;exact r.inj r'
theorem Inv.jh(I:Inv X pins σ H s)(h:eK X.K H a xs)(h':eK X.K H a ys):xs=ys:=by
 obtain⟨aB,r,⟨o,e,_,n,d⟩,_⟩:=I.tuple h;obtain⟨its',r',⟨o',e',_,n',d'⟩,_⟩:=I.tuple h';rw[e]at e';cases e';rw[d]at d';injection d' with d1 _
 have:aB=its':=by grind
 subst this;exact r.inj r'
end
section
variable{st:Stmt}{rest:List Stmt}{t u:TS}
noncomputable def B1:TS:=λD σ H=>D.nx σ H
noncomputable def B5(t u:TS):TS:=λD σ H=>t {D with nx:=u D} σ H
theorem XN:kN X [] B1:=λ_ _ σ H _ I h=>wpAny_execs_nil ⟨σ,H,I,h⟩
theorem Jc(C:PS X st t)(h2:kN X rest u):kN X (st::rest) (B5 t u):=by
 intro pins s σ H D I h;refine wpAny_execs_cons (bB (C pins s σ H {D with nx:=u D} I h) λf s1 q=>?_)
 cases f with
 |next=>
  obtain⟨aS,H',I',q⟩:=q;exact h2 pins s1 aS H' D I' q
 |ret v=>exact q
 |brk=>exact q
 |cont=>exact q
theorem XO(C:PS X st t):kN X [st] t:=by
 intro pins s σ H D I h;refine wpAny_execs_cons (bB (C pins s σ H D I h) λf s1 q=>?_)
 grind [wpAny_execs_nil]
theorem Inv.quiet(I:Inv X pins σ H s):interactive X.env=false:=by simp[interactive,I.ok.kind]
noncomputable def BY(te:TE):TS:=λD σ H=>te σ H λ_ H1=>D.nx σ H1
theorem Jv(he:PE X e te)(hs:autoParam (swapsWith e none pos.line X.env=pure false) jJ):PS X (.Expr e pos) (BY te):=by
 intro pins s σ H D I h;exact wpAny_Expr_any (bB (he pins s σ H _ I h) λv s1 ⟨x,H1,I1,r1,q1⟩=>⟨σ,H1,I1,q1⟩) I.quiet hs
noncomputable def IG(te:TE):TS:=λD σ H=>te σ H D.rt
theorem JS(he:PE X e te):PS X (.Return (some e) pos) (IG te):=by
 intro pins s σ H D I h;exact wpAny_Return_some (bB (he pins s σ H _ I h) λv s1 ⟨x,H1,I1,r1,q1⟩=>⟨x,σ,H1,I1,r1,q1⟩)
noncomputable def BZ(c:TT)(t u:TS):TS:=λD σ H=>c σ H λb H1=>if b=true then t D σ H1 else u D σ H1
theorem z7n{a b:List Stmt}{tc:TT}(J:PT X c tc)(ha:kN X a t)(hb:kN X b u):PS X (.If c a b pos) (BZ tc t u):=by
 intro pins s σ H D I h;refine wpAny_If (bB (J pins s σ H _ I h) λd s1 ⟨H1,I1,q1⟩=>?_)
 cases d with
 |true=>exact ha pins s1 σ H1 D I1 q1
 |false=>exact hb pins s1 σ H1 D I1 q1
end
abbrev TG:=V->St->Hp->(St->Hp->Prop)->Prop
abbrev vW:=List V->St->Hp->(St->Hp->Prop)->Prop
noncomputable def PG(X:Cx)(target:Expr)(t:TG):Prop:=
 ∀(pins:List (Addr×Obj))(s:Shared)(σ:St)(H:Hp)(v:V)(u:Value)(Q:St->Hp->Prop),Inv X pins σ H s->RelV v u->t v σ H Q ->
  wpAny (model X.prog X.w) X.A (assign target X.env u) (λ_ s'=>∃aS H',Inv X pins aS H' s'/\Q aS H') X.xe s
noncomputable def zt(X:Cx)(ts:List Expr)(t:vW):Prop:=
 ∀(pins:List (Addr×Obj))(s:Shared)(σ:St)(H:Hp)(vs:List V)(us:List Value)(Q:St->Hp->Prop),Inv X pins σ H s->Vals vs us->t vs σ H Q ->
  wpAny (model X.prog X.w) X.A (assignInOrder ((assignEach ts X.env).map (·.2)) us) (λ_ s'=>∃aS H',Inv X pins aS H' s'/\Q aS H') X.xe s
abbrev vX:=V->V->V->Hp->(Hp->Prop)->Prop
noncomputable def vV(X:Cx)(t:vX):Prop:=
 ∀(pins:List (Addr×Obj))(s:Shared)(σ:St)(H:Hp)(o i v:V)(ov iv u:Value)(Q:Hp->Prop),Inv X pins σ H s->RelV o ov->RelV i iv->RelV v u->t o i v H Q ->
  wpAny (model X.prog X.w) X.A (setItem ov iv u) (λ_ s'=>∃H',Inv X pins σ H' s'/\Q H') X.xe s
noncomputable def bS(i:Nat):TG:=λv σ H Q=>Q (σ.set i (some v)) H
theorem XQ(hN:X.N.Nodup)(hi:X.N[i]?=some x)(hx:Loc X.env.scope x)(hf:autoParam (X.fn x=true\/X.env.scope.names.lookup x=some .local) jL):PG X (.Name x pos) (bS i):=by
 intro pins s σ H v u Q I r h;exact wpAny_assign_Name (Nt I hN hi hx r (λs' I'=>⟨_,H,I',h⟩) hf)
noncomputable def pq:vW:=λvs σ H Q=>vs=[]/\Q σ H
noncomputable def f7(t:TG)(u:vW):vW:=λvs σ H Q=>∃v r,vs=v::r/\t v σ H λaS H'=>u r aS H' Q
theorem Jw:zt X [] pq:=by
 intro pins s σ H vs us Q I r h;obtain⟨e,h⟩:=h;subst e;cases r;exact assignInOrder_nil ⟨σ,H,I,h⟩
theorem yF{t:TG}{u:vW}(C:PG X e t)(h2:zt X es u)
  (hs:autoParam ((assignEach (e::es) X.env).map (·.2)=assign e X.env::(assignEach es X.env).map (·.2)) jJ):zt X (e::es) (f7 t u):=by
 intro pins s σ H vs us Q I r h;obtain⟨v,vr,e1,h⟩:=h;subst e1;cases r with
 |cons r rr=>
  rw[hs];refine assignInOrder_cons (bB (C pins s σ H _ _ _ I r h) λ_ s1 ⟨mn,H1,I1,q1⟩=>?_)
  exact h2 pins s1 mn H1 _ _ Q I1 rr q1
noncomputable def pA(K:Fg)(n:Nat)(t:vW):TG:=λv σ H Q=>∃a xs,v=.ref a/\eK K H a xs/\xs.length=n/\t xs σ H Q
theorem JT{k:Nat}{t:vW}{n:Nat}(J:X.calm=true)(h:zt X es t)
  (hn:autoParam ((assignEach es X.env).length=n) jJ)(i9:autoParam ((assignEach es X.env).findIdx? (·.1)=none) jJ):PG X (.Tuple es k pos) (pA X.K n t):=by
 intro pins s σ H v u Q I r hw;obtain⟨a,xs,e1,hq,hl,hw⟩:=hw;subst e1;cases r;obtain⟨aB,rv,ht,hz⟩:=I.tuple hq;refine assign_Tuple_tuple (I.ok.hd J) ht (by grind [Vals.length]) i9 λh' hx=>?_
 have I1:Inv X pins σ H {s with heap:=h'}:=I.kept (t':=s.toks) λb o e=>hx b o (w0o (Heap.lt_size e)) e
 exact h pins _ σ H xs _ Q I1 (by simpa using rv) hw
noncomputable def Fn(to ti:TE)(t:vX):TG:=λv σ H Q=>to σ H λo H1=>ti σ H1 λi H2=>t o i v H2 λH3=>Q σ H3
theorem Pz{o i:Expr}{to ti:TE}{t:vX}(ho:PE X o to)(hi:PE X i ti)(hs:vV X t)
  (ha:∀v,assign (.Subscript o i pos) X.env v=(do
   let ov <- holding [v] (eval o X.env)
   let iv <- holding [v,ov] (eval i X.env)
   standAt pos
   holding [v,ov,iv] (setItem ov iv v)
   release [v,ov,iv] []):=by intro _;rfl):PG X (.Subscript o i pos) (Fn to ti t):=by
 intro pins s σ H v u Q I r h;rw[ha];refine wpAny_bind (wpAny_holding (bB (ho pins s σ H _ I h) λov s1 ⟨x,H1,I1,r1,q1⟩=>?_))
 refine wpAny_bind (wpAny_holding (bB (hi pins s1 σ H1 _ I1 q1) λiv s2 ⟨y,H2,I2,r2,q2⟩=>?_))
 refine wpAny_bind (wpAny_standAt (wpAny_bind (wpAny_holding (bB (hs pins s2 σ H2 x y v ov iv u _ I2 r1 r2 r q2) λ_ s3 ⟨H3,I3,q3⟩=>?_))))
 grind [wpAny_release]
noncomputable def rK(te:TE)(g:TG):TS:=λD σ H=>te σ H λx H1=>g x σ H1 D.nx
theorem JU{g:TG}(he:PE X e te)(hg:PG X tg g)(hs:autoParam (swapsWithSole [tg] e pos.line X.env=pure false) jJ)(hw:autoParam (swappedStores [tg] e X.env=pure none) jJ)
  (C:autoParam ((assignEach [tg] X.env).map (·.2)=[assign tg X.env]) jJ):PS X (.Assign [tg] e pos) (rK te g):=by
 intro pins s σ H D I h;refine wpAny_Assign_stores (bB (he pins s σ H _ I h) λv s1 ⟨x,H1,I1,r1,q1⟩=>?_) hs hw
 rw[C];exact bB (hg pins s1 σ H1 x v _ I1 r1 q1) λ_ s2 q=>q
theorem Y4{pos':Pos}(hN:X.N.Nodup)(hi:X.N[i]?=some x)(hx:Loc X.env.scope x)(he:PE X e te)(hs:autoParam (swapsWith e (some (.Name x pos')) pos.line X.env=pure false) jJ)(hf:autoParam (X.fn x=true\/X.env.scope.names.lookup x=some .local) jL):
  PS X (.Assign [.Name x pos'] e pos) (rK te (bS i)):=by
 intro pins s σ H D I h;refine wpAny_Assign_Name (bB (he pins s σ H _ I h) λv s1 ⟨y,H1,I1,r1,q1⟩=>?_) hs
 exact Nt I1 hN hi hx r1 (λs2 I2=>⟨_,H1,I2,q1⟩) hf
noncomputable def xR(c:TT)(tb:TS):TS:=λD σ H=>∃W:Nat->St->Hp->Prop,(∃m,W m σ H)/\∀m σ H,W m σ H ->
 c σ H λb H1=>if b=true then ∃N:St->Hp->Prop,(∀aS H',N aS H'->∃m',m'<m/\W m' aS H')/\tb {D with nx:=N,ct:=N,bk:=D.nx} σ H1 else D.nx σ H1
theorem Wm{body:List Stmt}{tc:TT}(hp:PassesOwn (model X.prog X.w) X.A X.env X.xe)(J:PT X c tc)(hb:kN X body tb):PS X (.While c body [] pos) (xR tc tb):=by
 intro pins s σ H D I h;obtain⟨W,⟨m0,w0⟩,turn⟩:=h;refine wpAny_While (codeAny_whileLoop (λn s'=>∃aS H',Inv X pins aS H' s'/\W n aS H') ?_ m0 ⟨σ,H,I,w0⟩)
 rintro n s1 ⟨mn,H1,I1,w1⟩;refine wpAny_passesOwn hp (bB (J pins s1 mn H1 _ I1 (turn n mn H1 w1)) λb s2 ⟨H2,I2,q2⟩=>?_)
 cases b with
 |true=>
  obtain⟨N,hN,q2⟩:=q2;rw[if_pos rfl];refine wpAny_passesOwn hp (bB (hb pins s2 mn H2 _ I2 q2) λf s3 q3=>?_)
  cases f with
  |next=>
   obtain⟨xY,H3,I3,n3⟩:=q3
   grind
  |cont=>
   obtain⟨xY,H3,I3,n3⟩:=q3
   grind
  |brk=>exact q3
  |ret v=>exact q3
 |false=>
  rw[if_neg w1k];exact wpAny_execs_nil ⟨mn,H2,I2,q2⟩
structure It where
 go:Nat->Hp->Prop
 k_:Nat->Hp->V->Hp->Prop
 stop:Nat->Hp->Prop
noncomputable def ig(X:Cx)(pins:List (Addr×Obj))(H:Hp)(b:Addr):Prop:=
 H b=none/\b≠X.env.locals/\b∉X.fs/\(b∈X.ex\/X.aC.heap.objs.size<=b)/\(∀x c,X.env.cells.lookup x=some c->c≠b)/\∀p∈X.pn++pins,p.1≠b
theorem Inv.pk{b:Addr}(I:Inv X pins σ H s)(hb:s.heap.objs.size<=b)(hn:H' b=none):ig X pins H' b:=by
 refine⟨hn,w3e (w0n I.lt hb),I.AM hb,.inr (w0l I.sz hb),λx c e z=>?_,λp hp z=>?_⟩
 .obtain⟨v,q⟩:=I.cell x c e;exact absurd (w0n q.lt (by rw[z];exact hb)) (w2m _)
 .exact absurd (w0n (Heap.lt_size (I.pin p hp).1) (by rw[z];exact hb)) (w2m _)
structure Turn(P:Program)(w:World)(K:Fg)(tg:Expr)(hc:It)(fp:List Addr)(it:Addr)(tn:Nat->Heap->Prop):Prop where
 mem:it∈fp
 obj:∀i h,tn i h->∀b∈fp,∃o,h.get? b=some o/\∀v,o.data≠.cell v
 keep:∀i h h',tn i h->(∀b∈fp,∀o,h.get? b=some o->h'.get? b=some o)->tn i h'
 item:∀(X:Cx),X.prog=P->X.w=w->X.K=K->X.calm=true->∀(i:Nat)(pins:List (Addr×Obj))(s:Shared)(σ:St)(H:Hp)(E:Value->Shared->Prop),Inv X pins σ H s->(∀b∈fp,ig X pins H b)->tn i s.heap->hc.go i H ->
  wpAny (model P w) X.A (pyNext (.ref it)) (λr s1=>∃u,r=some u /\
   wpAny (model P w) X.A (letOwnedTupleGo tg (.ref it) u) (λ_ s2=>∃x H',Inv X pins σ H' s2/\RelV x u/\hc.k_ i H x H'/\tn (i+1) s2.heap/\∀b∈fp,H' b=none) E s1) E s
 done:∀(X:Cx),X.prog=P->X.w=w->X.K=K->X.calm=true->∀(i:Nat)(pins:List (Addr×Obj))(s:Shared)(σ:St)(H:Hp)(E:Value->Shared->Prop),Inv X pins σ H s->(∀b∈fp,ig X pins H b)->tn i s.heap->hc.stop i H ->
  wpAny (model P w) X.A (pyNext (.ref it)) (λr s1=>r=none/\Inv X pins σ H s1) E s
 self:∀(A:Around)(i:Nat)(s:Shared)(Q:Value->Shared->Prop)(E:Value->Shared->Prop),tn i s.heap->Q (.ref it) s->wpAny (model P w) A (pyIter (.ref it)) Q E s
abbrev TI:=St->Hp->(It->Hp->Prop)->Prop
noncomputable def Kq(X:Cx)(pins:List (Addr×Obj))(σ:St)(tg:Expr)(R:It->Hp->Prop)(CB:Value)(s2:Shared):Prop:=
 ∃(it:Addr)(fp:List Addr)(tn:Nat->Heap->Prop)(hc:It)(H':Hp),CB=.ref it/\Inv X pins σ H' s2/\Turn X.prog X.w X.K tg hc fp it tn/\tn 0 s2.heap/\(∀b∈fp,ig X pins H' b)/\R hc H'
noncomputable def PI(X:Cx)(tg iter:Expr)(wi:TI):Prop:=
 ∀(pins:List (Addr×Obj))(s:Shared)(σ:St)(H:Hp)(R:It->Hp->Prop),Inv X pins σ H s->wi σ H R ->
  wpAny (model X.prog X.w) X.A (eval iter X.env) (λv s1=>wpAny (model X.prog X.w) X.A (pyIter v) (Kq X pins σ tg R) X.xe s1) X.xe s
theorem Ey{M : Model}{E : Value -> Shared -> Prop}{s : Shared}{it : Addr}{o : Obj}{n : String}{vs : Array Value}{Q : Unit -> Shared -> Prop}(ho : s.heap.get? it = some o)(J : o.cls = .type n)(hd : o.data = .fields vs)
    (hn : ["enumerate", "zip", "dict_itemiterator", "dict_reverseitemiterator", "odict_iterator", "itertools.zip_longest", "itertools.pairwise"].contains n = false)(hQ : Q () s) : wpAny M A (letOwnedTupleGo tg (.ref it) u) Q E s := by
  unfold letOwnedTupleGo
  cases tg <;> first
    | exact wpAny_pure hQ
    | (cases u <;> first
        | exact wpAny_pure hQ
        | (refine wpAny_bind (wpAny_load ho ?_)
           rw [J, hd];show wpAny M A (if (["enumerate", "zip", "dict_itemiterator", "dict_reverseitemiterator", "odict_iterator", "itertools.zip_longest", "itertools.pairwise"].contains n && vs[0]? == some (rawInt _)) = true then _ else _) Q E s;rw [if_neg (by intro h; rw [hn, Bool.false_and] at h; cases h)];exact wpAny_pure hQ))
noncomputable def x8(K:Fg)(a:Addr):It:=
 ⟨λi H=>∃xs x,cy K H a xs/\xs[i]?=some x,λi H x H'=>H'=H/\∀xs,cy K H a xs->xs[i]?=some x,λi H=>∃xs,cy K H a xs/\xs.length<=i⟩
noncomputable def x9(K:Fg)(a:Addr):It:=
 ⟨λi H=>∃xs x,eK K H a xs/\xs[i]?=some x,λi H x H'=>H'=H/\∀xs,eK K H a xs->xs[i]?=some x,λi H=>∃xs,eK K H a xs/\xs.length<=i⟩
noncomputable def sI(lo:Int)(n:Nat):It:=⟨λi _=>i<n,λi H x H'=>H'=H/\x=.int (lo+i),λi _=>n<=i⟩
theorem Vc(a it:Addr):Turn P w K tg (x8 K a) [it] it (λi h=>h.IsListIter it a i) where
 mem:=by simp
 obj:=λi h st b hb=>by
  have e:b=it:=by simpa using hb
  subst e;obtain⟨o,e,c,d⟩:=st
  grind
 keep:=λi h h' st k=>st.at λo e=>k it (by simp) o e
 item:=by
  intro X hP hw hK J i pins s σ H E I hf st hg;subst hP hw hK;obtain⟨xs,x,hq,hx⟩:=hg;obtain⟨aB,rv,p,hz⟩:=I.list hq;obtain⟨u,hu,ru⟩:=rv.get hx;obtain⟨f0,f1,f2,f3,f4,f5⟩:=hf it (by simp);refine wpAny_pyNext_list_item st p.isList (x:=u) (by simpa using hu) λh' oi sb=>?_
  have I1:Inv X pins σ H {s with heap:=h'}:=I.turned (t':=s.toks) (λb o hb e=>(sb.2 b hb).trans e) f0 f1 f3 f4 f5
  obtain⟨o,e,c,d⟩:=id oi;exact⟨u,rfl,Ey (s:={s with heap:=h'}) e c d (by decide) ⟨x,H,I1,ru,⟨rfl,λys hy=>by rw[I.kq hy hq];exact hx⟩,oi,λb hb=>(hf b hb).1⟩⟩
 done:=by
  intro X hP hw hK J i pins s σ H E I hf st hg;subst hP hw hK;obtain⟨xs,hq,hx⟩:=hg;obtain⟨aB,rv,p,hz⟩:=I.list hq;obtain⟨f0,f1,f2,f3,f4,f5⟩:=hf it (by simp);have hl:=rv.length;exact wpAny_pyNext_list_end (I.ok.hd J) st p.isList (by simp;omega) λh' eb=>⟨rfl,I.turned (t':=s.toks) (λb o hb e=>eb b o hb e) f0 f1 f3 f4 f5⟩
 self:=λ_ _ _ _ _ st h=>wpAny_pyIter_listiter st h
theorem UH(a it:Addr):Turn P w K tg (x9 K a) [it] it (λi h=>h.IsTupleIter it a i) where
 mem:=by simp
 obj:=λi h st b hb=>by
  have e:b=it:=by simpa using hb
  subst e;obtain⟨o,e,c,d⟩:=st
  grind
 keep:=λi h h' st k=>st.at λo e=>k it (by simp) o e
 item:=by
  intro X hP hw hK J i pins s σ H E I hf st hg;subst hP hw hK;obtain⟨xs,x,hq,hx⟩:=hg;obtain⟨aB,rv,p,hz⟩:=I.tuple hq;obtain⟨u,hu,ru⟩:=rv.get hx;obtain⟨f0,f1,f2,f3,f4,f5⟩:=hf it (by simp);refine wpAny_pyNext_tuple_item st (show s.heap.IsTuple a aB.toArray from p) (x:=u) (by simpa using hu) λh' oi sb=>?_
  have I1:Inv X pins σ H {s with heap:=h'}:=I.turned (t':=s.toks) (λb o hb e=>(sb.2 b hb).trans e) f0 f1 f3 f4 f5
  obtain⟨o,e,c,d⟩:=id oi;exact⟨u,rfl,Ey (s:={s with heap:=h'}) e c d (by decide) ⟨x,H,I1,ru,⟨rfl,λys hy=>by rw[I.jh hy hq];exact hx⟩,oi,λb hb=>(hf b hb).1⟩⟩
 done:=by
  intro X hP hw hK J i pins s σ H E I hf st hg;subst hP hw hK;obtain⟨xs,hq,hx⟩:=hg;obtain⟨aB,rv,p,hz⟩:=I.tuple hq;obtain⟨f0,f1,f2,f3,f4,f5⟩:=hf it (by simp);have hl:=rv.length;exact wpAny_pyNext_tuple_end (I.ok.hd J) st (show s.heap.IsTuple a aB.toArray from p) (by simp;omega) λh' eb=>⟨rfl,I.turned (t':=s.toks) (λb o hb e=>eb b o hb e) f0 f1 f3 f4 f5⟩
 self:=λ_ _ _ _ _ st h=>wpAny_pyIter_tupleiter st h
theorem UI(it:Addr)(lo:Int)(n:Nat):Turn P w K tg (sI lo n) [it] it (λi h=>IsRangeIter h it (lo+(i:Nat)*1) ((n:Int)-(i:Nat)) 1) where
 mem:=by simp
 obj:=λi h st b hb=>by
  grind
 keep:=λi h h' st k=>k it (by simp) _ st
 item:=by
  intro X hP hw hK J i pins s σ H E I hf st hg;subst hP hw hK;obtain⟨f0,f1,f2,f3,f4,f5⟩:=hf it (by simp);have W:=Walks.range (prog:=X.prog) (w:=X.w) (I.ok.hd J) it lo 1 n;refine W.item i s _ _ hg st λv h' tk hv oi kk=>?_
  obtain⟨t,rfl⟩:=hv;have I1:Inv X pins σ H {s with heap:=h',toks:=tk}:=I.turned (λb o hb e=>kk b o (by simpa using hb) e) f0 f1 f3 f4 f5
  refine⟨_,rfl,Ey (s:={s with heap:=h',toks:=tk}) (n:="range_iterator") oi rfl rfl (by decide) ⟨.int (lo+i),H,I1,⟨t,?_⟩,⟨rfl,rfl⟩,oi,λb hb=>(hf b hb).1⟩⟩
  rw[Int.mul_one]
 done:=by
  intro X hP hw hK J i pins s σ H E I hf st hg;subst hP hw hK;obtain⟨f0,f1,f2,f3,f4,f5⟩:=hf it (by simp);exact wpAny_pyNext_range_end (I.ok.hd J) st (by have:n<=i:=hg;omega) λh' eb=>⟨rfl,I.turned (t':=s.toks) (λb o hb e=>eb b o hb e) f0 f1 f3 f4 f5⟩
 self:=λ_ _ _ _ _ st h=>wpAny_pyIter_rangeiter st h
theorem Wn{R:It->Hp->Prop}{lo hi:Int}{t u v:Tok}{tk:Nat}(I:Inv X pins σ H s)(C:-(2^62)<=lo)(h2:lo<2^62)(h3:-(2^62)<=hi)(h4:hi<2^62)
  (q:R (sI lo (hi-lo).toNat) H):wpAny (model X.prog X.w) X.A (pyIter (.ref s.heap.objs.size)) (Kq X pins σ tg R) E {s with heap:=s.heap.push {cls:=.type "range", data:=.fields #[.int lo t,.int hi u,.int 1 v]},toks:=tk}:=by
 refine wpAny_pyIter_range (IsRange.new ..) (small_one C h2 h3 h4) ?_;have I1:Inv X pins σ H {s with heap:=s.heap.push {cls:=.type "range", data:=.fields #[.int lo t,.int hi u,.int 1 v]},toks:=tk}:=I.kept λb o e=>Heap.get?_push_of_some _ e
 refine⟨(s.heap.push {cls:=.type "range", data:=.fields #[.int lo t,.int hi u,.int 1 v]}).objs.size,[(s.heap.push {cls:=.type "range", data:=.fields #[.int lo t,.int hi u,.int 1 v]}).objs.size],_,_,H,rfl,
  I1.kept (t':=tk) λb o e=>Heap.get?_push_of_some _ e,UI _ lo (hi-lo).toNat,?_,λb hb=>?_,q⟩
 .have e1:lo+((0:Nat):Int)*1=lo:=by simp
  have e2:(((hi-lo).toNat:Nat):Int)-((0:Nat):Int)=Builtin.Range.rangeSize lo hi 1:=by grind [rangeSize_one]
  show IsRangeIter _ _ (lo+((0:Nat):Int)*1) ((((hi-lo).toNat:Nat):Int)-((0:Nat):Int)) 1;rw[e1,e2];exact Heap.get?_push_size _ rfl
 .have e:b=(s.heap.push {cls:=.type "range", data:=.fields #[.int lo t,.int hi u,.int 1 v]}).objs.size:=by simpa using hb
  subst e;exact I1.pk (w0c _) (I1.aR.fresh (w0c _))
noncomputable def As(ta:TA):TI:=λσ H R=>ta σ H λvs H1=>∃j:Int,vs=[.int j]/\-(2^62)<=j/\j<2^62/\R (sI 0 j.toNat) H1
theorem Vd{a:Expr}{ta:TA}(hg:Gl X "range")(hm:X.mg "range"=none)(ha:PA X [a] ta)(hs:autoParam (starEach [a] X.env=[(false,eval a X.env)]) jJ):PI X tg (.Call (.Name "range" p) [a] [] pos) (As ta):=by
 intro pins s σ H R I h;refine Call_ (vy I hg hm boot_range (PyProof.Rows.callWith_type1 (bB (ha pos pins s σ H _ I h) λus s1 ⟨vs,H1,I1,r1,q1⟩=>?_) hs rfl))
 obtain⟨j,e,q1,q2,q⟩:=q1;subst e;cases r1 with
 |cons r rr=>
  cases rr;obtain⟨t,rfl⟩:=r
  grind [call_range_1,Wn]
noncomputable def ID(wi:TI)(g:TG)(tb:TS):TS:=λD σ H=>wi σ H λhc H1=>∃W:Nat->Nat->St->Hp->Prop,(∃m,W 0 m σ H1)/\∀i m σ H,W i m σ H ->
 (hc.stop i H/\D.nx σ H)\/(hc.go i H/\∃N:St->Hp->Prop,(∀aS H',N aS H'->∃m',m'<m/\W (i+1) m' aS H')/\∀x H',hc.k_ i H x H'->g x σ H' λmq H2=>tb {D with nx:=N,ct:=N,bk:=D.nx} mq H2)
noncomputable def jc(fp:List Addr)(h:Heap):List (Addr×Obj):=fp.filterMap λb=>(h.get? b).map λo=>(b,o)
theorem xb{b:Addr}{o:Obj}(hb:b∈fp)(e:h.get? b=some o):(b,o)∈jc fp h:=w2n.mpr ⟨b,hb,by rw[e];rfl⟩
theorem Ve{p:Addr×Obj}(hp:p∈jc fp h):p.1∈fp/\h.get? p.1=some p.2:=by
 obtain⟨b,hb,e⟩:=w2n.mp hp;cases q:h.get? b with
 |none=>rw[q]at e;cases e
 |some o=>
  grind
theorem Inv.pinned(I:Inv X pins σ H s)(hf:∀b∈fp,ig X pins H b)(ho:∀b∈fp,∃o,s.heap.get? b=some o/\∀v,o.data≠.cell v):Inv X (pins++jc fp s.heap) σ H s:=
 I.jT λp hp=>(w1d.mp hp).elim (λz=>I.pin p (w0h _ z)) λz=>by
  obtain⟨hb,e⟩:=Ve z;obtain⟨f0,f1,f2,_⟩:=hf p.1 hb
  grind
theorem Inv.eZ{pl:List (Addr×Obj)}(I:Inv X (pins++pl) σ H s):Inv X pins σ H s:=I.jT λp hp=>I.pin p (w0h _ (w1l _ hp))
theorem JV{iter:Expr}{body:List Stmt}{wi:TI}{g:TG}(hp:PassesOwn (model X.prog X.w) X.A X.env X.xe)(J:X.calm=true)(hi:PI X tg iter wi)(hg:PG X tg g)(hb:kN X body tb)
  (hs:∀x,foldedSetIterable iter X.env x=pure x:=by intro _;rfl):PS X (.For tg iter body [] pos) (ID wi g tb):=by
 intro pins s σ H D I h;refine wpAny_For (bB (hi pins s σ H _ I h) λv s1 C=>bB C λCB s2 h2=>?_) hs
 obtain⟨it,fp,tn,hc,H2,e,I2,T,xJ,f2,W,⟨m0,w0⟩,turn⟩:=h2;subst e;have kJ:∀{H':Hp},(∀b∈fp,H' b=none)->∀b∈fp,ig X pins H' b:=λhn b hb=>⟨hn b hb,(f2 b hb).2⟩
 refine codeAny_forLoop_any (λn s'=>∃i aS H',Inv X pins aS H' s'/\tn i s'.heap/\(∀b∈fp,H' b=none)/\W i n aS H') ?_ m0 ⟨0,σ,H2,I2,xJ,λb hb=>(f2 b hb).1,w0⟩
 rintro n s3 ⟨i,xY,H3,I3,vM,uP,w3⟩;rcases turn i n xY H3 w3 with⟨stop,qn⟩|⟨go,N,hN,step⟩
 .refine wpAny_passesOwn hp (bB (T.done X rfl rfl rfl J i pins s3 xY H3 X.xe I3 (kJ uP) vM stop) λr s4 ⟨hr,I4⟩=>?_)
  subst hr;exact wpAny_execs_nil ⟨xY,H3,I4,qn⟩
 .refine wpAny_passesOwn hp (bB (T.item X rfl rfl rfl J i pins s3 xY H3 X.xe I3 (kJ uP) vM go) λr s4 ⟨u,hr,h4⟩=>?_)
  subst hr;refine wpAny_passesOwn hp (bB h4 λ_ s5 ⟨x,H5,I5,r5,y5,Iy,Fl⟩=>?_)
  have QT:=I5.pinned (kJ Fl) (T.obj _ _ Iy);refine wpAny_passesOwn hp (bB (hg _ s5 xY H5 x u _ QT r5 (step x H5 y5)) λ_ s6 ⟨Km,H6,I6,q6⟩=>?_)
  refine wpAny_passesOwn hp (bB (hb _ s6 Km H6 _ I6 q6) λf s7 q7=>?_)
  have again:∀{mv:St}{H7:Hp},Inv X (pins++jc fp s5.heap) mv H7 s7->N mv H7->∃m,m<n/\∃i aS H',Inv X pins aS H' s7/\tn i s7.heap/\(∀b∈fp,H' b=none)/\W i m aS H':=λ{mv H7} I7 n7=>by
   obtain⟨m',hm,w7⟩:=hN mv H7 n7;refine⟨m',hm,i+1,mv,H7,I7.eZ,T.keep _ _ _ Iy λb hb o e=>(I7.pin (b,o) (w0h _ (w0h _ (xb hb e)))).1,λb hb=>?_,w7⟩
   obtain⟨o,e,d⟩:=T.obj _ _ Iy b hb;exact(I7.pin (b,o) (w0h _ (w0h _ (xb hb e)))).2.1
  cases f with
  |next=>obtain⟨mv,H7,I7,n7⟩:=q7;exact again I7 n7
  |cont=>obtain⟨mv,H7,I7,n7⟩:=q7;exact again I7 n7
  |brk=>obtain⟨mv,H7,I7,q7⟩:=q7;exact⟨mv,H7,I7.eZ,q7⟩
  |ret v=>obtain⟨x7,mv,H7,I7,r7,q7⟩:=q7;exact⟨x7,mv,H7,I7.eZ,r7,q7⟩
theorem Wq{g:TG}{D:Ends}(Pv:Nat->St->Hp->Prop)(h0:Pv 0 σ H)(hl:∀i σ H,i<=xs.length->Pv i σ H->cy K H a xs)
  (hs:∀i x σ H,xs[i]?=some x->Pv i σ H->g x σ H λmq H2=>tb {D with nx:=Pv (i+1),ct:=Pv (i+1),bk:=D.nx} mq H2)(hd:∀σ H,Pv xs.length σ H->D.nx σ H):
  ∃W:Nat->Nat->St->Hp->Prop,(∃m,W 0 m σ H)/\∀i m σ H,W i m σ H ->
   ((x8 K a).stop i H/\D.nx σ H)\/((x8 K a).go i H/\∃N:St->Hp->Prop,(∀aS H',N aS H'->∃m',m'<m/\W (i+1) m' aS H')/\∀x H',(x8 K a).k_ i H x H'->g x σ H' λmq H2=>tb {D with nx:=N,ct:=N,bk:=D.nx} mq H2):=by
 refine⟨λi m σ H=>m=xs.length-i/\i<=xs.length/\Pv i σ H,⟨xs.length,by simp,w0q _,h0⟩,?_⟩
 rintro i m σ H ⟨rfl,hi,p⟩;have q:=hl i σ H hi p
 by_cases cY:i<xs.length
 .refine .inr ⟨⟨xs,xs[i],q,by simp[cY]⟩,Pv (i+1),λaS H' p'=>⟨xs.length-(i+1),by omega,rfl,cY,p'⟩,λx H' y=>?_⟩
  obtain⟨e,y⟩:=y
  grind
 .have e:i=xs.length:=by omega
  subst e;exact .inl ⟨⟨xs,q,w0c _⟩,hd σ H p⟩
theorem XR{g:TG}{D:Ends}(Pv:Nat->St->Hp->Prop)(h0:Pv 0 σ H)(hl:∀i σ H,i<=xs.length->Pv i σ H->eK K H a xs)
  (hs:∀i x σ H,xs[i]?=some x->Pv i σ H->g x σ H λmq H2=>tb {D with nx:=Pv (i+1),ct:=Pv (i+1),bk:=D.nx} mq H2)(hd:∀σ H,Pv xs.length σ H->D.nx σ H):
  ∃W:Nat->Nat->St->Hp->Prop,(∃m,W 0 m σ H)/\∀i m σ H,W i m σ H ->
   ((x9 K a).stop i H/\D.nx σ H)\/((x9 K a).go i H/\∃N:St->Hp->Prop,(∀aS H',N aS H'->∃m',m'<m/\W (i+1) m' aS H')/\∀x H',(x9 K a).k_ i H x H'->g x σ H' λmq H2=>tb {D with nx:=N,ct:=N,bk:=D.nx} mq H2):=by
 refine⟨λi m σ H=>m=xs.length-i/\i<=xs.length/\Pv i σ H,⟨xs.length,by simp,w0q _,h0⟩,?_⟩
 rintro i m σ H ⟨rfl,hi,p⟩;have q:=hl i σ H hi p
 by_cases cY:i<xs.length
 .refine .inr ⟨⟨xs,xs[i],q,by simp[cY]⟩,Pv (i+1),λaS H' p'=>⟨xs.length-(i+1),by omega,rfl,cY,p'⟩,λx H' y=>?_⟩
  obtain⟨e,y⟩:=y
  grind
 .have e:i=xs.length:=by omega
  subst e;exact .inl ⟨⟨xs,q,w0c _⟩,hd σ H p⟩
theorem Vf{lo:Int}{n:Nat}{g:TG}{D:Ends}(Pv:Nat->St->Hp->Prop)(h0:Pv 0 σ H)
  (hs:∀i σ H,i<n->Pv i σ H->g (.int (lo+i)) σ H λmq H2=>tb {D with nx:=Pv (i+1),ct:=Pv (i+1),bk:=D.nx} mq H2)(hd:∀σ H,Pv n σ H->D.nx σ H):
  ∃W:Nat->Nat->St->Hp->Prop,(∃m,W 0 m σ H)/\∀i m σ H,W i m σ H ->
   ((sI lo n).stop i H/\D.nx σ H)\/((sI lo n).go i H/\∃N:St->Hp->Prop,(∀aS H',N aS H'->∃m',m'<m/\W (i+1) m' aS H')/\∀x H',(sI lo n).k_ i H x H'->g x σ H' λmq H2=>tb {D with nx:=N,ct:=N,bk:=D.nx} mq H2):=by
 refine⟨λi m σ H=>m=n-i/\i<=n/\Pv i σ H,⟨n,by simp,w0q _,h0⟩,?_⟩
 rintro i m σ H ⟨rfl,hi,p⟩
 by_cases cY:i<n
 .refine .inr ⟨cY,Pv (i+1),λaS H' p'=>⟨n-(i+1),by omega,rfl,cY,p'⟩,λx H' y=>?_⟩
  obtain⟨e,y⟩:=y
  grind
 .have e:i=n:=by omega
  subst e;exact .inl ⟨w0c _,hd σ H p⟩
abbrev R2:=V->V->Hp->VK->Prop
variable{r:R2}
noncomputable def gT(X:Cx)(f:Value->Value->Sem Value)(r:R2):Prop:=
 ∀(pins:List (Addr×Obj))(s:Shared)(σ:St)(H:Hp)(x y:V)(v u:Value)(Q:VK),Inv X pins σ H s->RelV x v->RelV y u->r x y H Q ->
  wpAny (model X.prog X.w) X.A (f v u) (EP X pins σ Q) X.xe s
noncomputable def zy(X:Cx)(f:Value->Sem Value)(r:V->Hp->VK->Prop):Prop:=
 ∀(pins:List (Addr×Obj))(s:Shared)(σ:St)(H:Hp)(x:V)(v:Value)(Q:VK),Inv X pins σ H s->RelV x v->r x H Q ->
  wpAny (model X.prog X.w) X.A (f v) (EP X pins σ Q) X.xe s
noncomputable def c9(X:Cx)(f:Value)(r:List V->Hp->VK->Prop):Prop:=
 ∀(pins:List (Addr×Obj))(s:Shared)(σ:St)(H:Hp)(xs:List V)(us:List Value)(Q:VK),Inv X pins σ H s->Vals xs us->r xs H Q ->
  wpAny (model X.prog X.w) X.A (call f us) (EP X pins σ Q) X.xe s
noncomputable def zx(X:Cx)(r:V->Hp->(Bool->Hp->Prop)->Prop):Prop:=
 ∀(pins:List (Addr×Obj))(s:Shared)(σ:St)(H:Hp)(x:V)(v:Value)(Q:Bool->Hp->Prop),Inv X pins σ H s->RelV x v->r x H Q ->
  wpAny (model X.prog X.w) X.A (truthy v) (TP X pins σ Q) X.xe s
noncomputable def B3(r:R2)(ta tb:TE):TE:=λσ H Q=>ta σ H λx H1=>tb σ H1 λy H2=>r x y H2 Q
noncomputable def Mm(r:V->Hp->VK->Prop)(ta:TE):TE:=λσ H Q=>ta σ H λx H1=>r x H1 Q
noncomputable def rI(h1:Int->Int->Prop)(g:Int->Int->V):R2:=λx y H Q=>∃i j,x=.int i/\y=.int j/\h1 i j/\Q (g i j) H
noncomputable def pM(g:Int->Int->V):R2:=λx y H Q=>∃i j,x=.int i/\y=.int j/\Q (g i j) H
noncomputable def rU(g:Int->V):V->Hp->VK->Prop:=λx H Q=>∃i,x=.int i/\Q (g i) H
section
variable{a b:Expr}{tb tc:TE}
theorem wa(ha:PE X a ta)(hb:PE X b tb){R:V->V->Hp->Prop}(I:Inv X pins σ H s)
  (h:ta σ H λx H1=>tb σ H1 λy H2=>R x y H2){Q:Value->Shared->Prop}
  (hf:∀v u s2 x y H2,Inv X pins σ H2 s2->RelV x v->RelV y u->R x y H2->wpAny (model X.prog X.w) X.A (f v u) Q X.xe s2):
  wpAny (model X.prog X.w) X.A (eval a X.env) (λv aK=>wpAny (model X.prog X.w) X.A (eval b X.env) (λu ni=>wpAny (model X.prog X.w) X.A (f v u) Q X.xe ni) X.xe aK) X.xe s:=by
 refine bB (ha pins s σ H _ I h) λv s1 ⟨x,H1,I1,r1,q1⟩=>?_
 refine bB (hb pins s1 σ H1 _ I1 q1) λu s2 ⟨y,H2,I2,r2,q2⟩=>?_
 grind
theorem Ka{op:Operator}(ho:gT X (binaryOp op) r)(ha:PE X a ta)(hb:PE X b tb):PE X (.BinOp a op b pos) (B3 r ta tb):=by
 intro pins s σ H Q I h;exact wpAny_BinOp (wa ha hb I h λv u s2 x y H2 I2 rx ry q=>ho pins s2 σ H2 x y v u Q I2 rx ry q)
theorem z7o{op:UnaryOp}{r:V->Hp->VK->Prop}(ho:zy X (unaryOp op) r)(ha:PE X a ta):PE X (.UnaryOp op a pos) (Mm r ta):=by
 intro pins s σ H Q I h;exact UnaryOp_ (bB (ha pins s σ H _ I h) λv s1 ⟨x,H1,I1,r1,q1⟩=>ho pins s1 σ H1 x v Q I1 r1 q1)
theorem Gy{h1:Int->Int->Prop}{g:Int->Int->Int}
  (rule:∀(i j:Int)(t u:Tok)(s:Shared)(Q:Value->Shared->Prop)(E:Value->Shared->Prop),h1 i j->Q (.int (g i j) s.toks) {s with toks:=s.toks+1}->wpAny (model X.prog X.w) X.A (f (.int i t) (.int j u)) Q E s):
  gT X f (rI h1 λi j=>.int (g i j)):=by
 intro pins s σ H x y v u Q I rx ry h;obtain⟨i,j,rfl,rfl,J,q⟩:=h;obtain⟨t,rfl⟩:=rx;obtain⟨t',rfl⟩:=ry;exact rule i j t t' s _ _ J ⟨.int (g i j),H,I.tok _,⟨_,rfl⟩,q⟩
theorem AR{g:Int->Int->Int}
  (rule:∀(i j:Int)(t u:Tok)(s:Shared)(Q:Value->Shared->Prop)(E:Value->Shared->Prop),Q (.int (g i j) s.toks) {s with toks:=s.toks+1}->wpAny (model X.prog X.w) X.A (f (.int i t) (.int j u)) Q E s):
  gT X f (pM λi j=>.int (g i j)):=by
 intro pins s σ H x y v u Q I rx ry h;obtain⟨i,j,rfl,rfl,q⟩:=h;obtain⟨t,rfl⟩:=rx;obtain⟨t',rfl⟩:=ry;exact rule i j t t' s _ _ ⟨.int (g i j),H,I.tok _,⟨_,rfl⟩,q⟩
theorem wZ{g:Int->Int->Bool}
  (rule:∀(i j:Int)(t u:Tok)(s:Shared)(Q:Value->Shared->Prop)(E:Value->Shared->Prop),Q (.bool (g i j)) s->wpAny (model X.prog X.w) X.A (f (.int i t) (.int j u)) Q E s):
  gT X f (pM λi j=>.bl (g i j)):=by
 intro pins s σ H x y v u Q I rx ry h;obtain⟨i,j,rfl,rfl,q⟩:=h;obtain⟨t,rfl⟩:=rx;obtain⟨t',rfl⟩:=ry;exact rule i j t t' s _ _ ⟨.bl (g i j),H,I,rfl,q⟩
noncomputable def zc(i j:Int):Prop:=0<j/\j<1073741824
noncomputable def sF(i j:Int):Prop:=(-(2^64)<i/\i<2^64)\/(-(2^64)<j/\j<2^64)
theorem sF.ok{i j:Int}(h:sF i j):IntMulOk i j:=by
 rcases h with⟨C,h2⟩|⟨C,h2⟩
 all_goals grind [IntMulOk.of_left,intBits_le_64,IntMulOk.of_right]
theorem w4:gT X (binaryOp .Add) (pM λi j=>.int (i+j)):=AR λ_ _ _ _ _ _ _ q=>add_int q
theorem ZE:gT X (binaryOp .Sub) (pM λi j=>.int (i-j)):=AR λ_ _ _ _ _ _ _ q=>sub_int q
theorem ZF:gT X (binaryOp .Mult) (rI sF λi j=>.int (i*j)):=Gy λ_ _ _ _ _ _ _ J q=>mul_int q J.ok
theorem XS:gT X (binaryOp .FloorDiv) (rI zc λi j=>.int (i / j)):=Gy λi j _ _ _ _ _ J q=>by
 have C:(0:Int)<j:=J.1;have h2:j<1073741824:=J.2;exact floordiv_int (by omega) (by grind) (.inl (PyProof.noPylong_small (by omega)))
theorem ZG:gT X (binaryOp .Mod) (rI (λ_ j=>0<j) λi j=>.int (i%j)):=Gy λi j _ _ _ _ _ J q=>by
 have C:(0:Int)<j:=J;exact mod_int' (by omega) (by grind)
theorem To{f:Value->Sem Value}{g:Int->Int}
  (rule:∀(i:Int)(t:Tok)(s:Shared)(Q:Value->Shared->Prop)(E:Value->Shared->Prop),Q (.int (g i) s.toks) {s with toks:=s.toks+1}->wpAny (model X.prog X.w) X.A (f (.int i t)) Q E s):
  zy X f (rU λi=>.int (g i)):=by
 intro pins s σ H x v Q I rx h;obtain⟨i,rfl,q⟩:=h;obtain⟨t,rfl⟩:=rx;exact rule i t s _ _ ⟨.int (g i),H,I.tok _,⟨_,rfl⟩,q⟩
theorem ZH:zy X (unaryOp .USub) (rU λi=>.int (-i)):=To λ_ _ _ _ _ q=>neg_int q
end
section
variable{a b:Expr}{tb tc:TE}
theorem PB{Q:VK}{k k':Bool}(I:Inv X pins σ H s)(q:Q (.bl k) H)(e:k=k'):EP X pins σ Q (.bool k') s:=by
 subst e;exact⟨.bl k,H,I,rfl,q⟩
theorem Qx:gT X (compareOp .Lt) (pM λi j=>.bl (decide (i<j))):=wZ λ_ _ _ _ _ _ _ q=>lt_int q
theorem Qy:gT X (compareOp .LtE) (pM λi j=>.bl (decide (i<=j))):=wZ λ_ _ _ _ _ _ _ q=>le_int q
theorem z7p:gT X (compareOp .Gt) (pM λi j=>.bl (decide (j<i))):=wZ λ_ _ _ _ _ _ _ q=>gt_int q
theorem gT.or{r':R2}(h:gT X f r)(h':gT X f r'):gT X f (λx y H Q=>r x y H Q\/r' x y H Q):=by
 intro pins s σ H x y v u Q I rx ry q;rcases q with q|q
 .exact h pins s σ H x y v u Q I rx ry q
 .exact h' pins s σ H x y v u Q I rx ry q
theorem dX(b:Expr)(h:autoParam (op≠.In) jK)(h2:autoParam (op≠.NotIn) jK):behindInMarks op b=false:=by
 have e1:(op==CmpOp.In)=false:=by grind
 have e2:(op==CmpOp.NotIn)=false:=by grind
 cases b<;>simp[behindInMarks,e1,e2]
theorem XT(ho:gT X (compareOp op) r)(ha:PE X a ta)(hb:PE X b tb)(hm:behindInMarks op b=false):PE X (.Compare a [op] [b] pos) (B3 r ta tb):=by
 intro pins s σ H Q I h;exact wpAny_Compare1 (wa ha hb I h λv u s2 x y H2 I2 rx ry q=>ho pins s2 σ H2 x y v u Q I2 rx ry q) hm
noncomputable def B6(t:TE):TT:=λσ H Q=>t σ H λx H'=>∃k,x=.bl k/\Q k H'
theorem XU(ho:gT X (compareOp op) r)(ha:PE X a ta)(hb:PE X b tb)(hm:behindInMarks op b=false):PT X (.Compare a [op] [b] pos) (B6 (B3 r ta tb)):=by
 intro pins s σ H Q I h
 refine wpAny_isTrue_Compare1 (bB (ha pins s σ H _ I h) λv s1 ⟨x,H1,I1,r1,q1⟩=>bB (hb pins s1 σ H1 _ I1 q1) λu s2 ⟨y,H2,I2,r2,q2⟩=>
  bB (ho pins s2 σ H2 x y v u _ I2 r1 r2 q2) λc s3 ⟨z,H3,I3,r3,k,e,q3⟩=>?_) hm
 subst e;cases r3;exact wpAny_truthy_bool ⟨H3,I3,q3⟩
noncomputable def vY(K:Fg)(x:V)(H:Hp)(k:Bool):Prop:=
 match x with
 |.aG=>k=false
 |.bl b=>k=b
 |.int i=>k=(i != 0)
 |.str y=>y.length<=sizeLine/\k=((y.length:Int) != 0)
 |.uI y=>y.size<=sizeLine/\k=((y.size:Int) != 0)
 |.ref p=>(∃xs,cy K H p xs/\k=!xs.isEmpty)\/(∃xs,eK K H p xs/\k=!xs.isEmpty)\/∃kvs,H p=some (.dK kvs)/\k=!kvs.isEmpty
 |_=>False
theorem UJ{κ:Type}{kvs:List (κ×V)}{vs:List (κ×Value)}(r:KV kvs vs):(!vs.isEmpty)=!kvs.isEmpty:=by
 cases r<;>rfl
theorem Mp{aB:List Value}(r:Vals xs aB):(!aB.toArray.isEmpty)=!xs.isEmpty:=by
 cases r<;>simp
theorem iB:(sizeLine:Nat)<2^63:=by rw[sizeLine_eq];decide
theorem ZI:zx X (λx H Q=>∃k,vY X.K x H k/\Q k H):=by
 intro pins s σ H x v Q I rx h;obtain⟨k,e,q⟩:=h;have hl:=iB;have hs:sizeLine=16777216:=sizeLine_eq;cases x with
 |aG=>
  cases rx;have e':k=false:=e;subst e';exact truthy_none ⟨H,I,q⟩
 |bl b=>
  cases rx;have e':k=b:=e;subst e';exact wpAny_truthy_bool ⟨H,I,q⟩
 |int i=>
  obtain⟨t,rfl⟩:=rx;have e':k=(i != 0):=e;subst e';exact PySem.P.truthy_int ⟨H,I,q⟩
 |str y=>
  obtain⟨t,rfl⟩:=rx;obtain⟨hy,e'⟩:y.length<=sizeLine/\k=((y.length:Int) != 0):=e;subst e';exact PySem.P.truthy_str (by omega) ⟨H,I.tok _,q⟩
 |uI y=>
  obtain⟨t,rfl⟩:=rx;obtain⟨hy,e'⟩:y.size<=sizeLine/\k=((y.size:Int) != 0):=e;subst e';exact PySem.W.truthy_bytes (by omega) ⟨H,I.tok _,q⟩
 |ref p=>
  cases rx;have e':(∃xs,cy X.K H p xs/\k=!xs.isEmpty)\/(∃xs,eK X.K H p xs/\k=!xs.isEmpty)\/∃kvs,H p=some (.dK kvs)/\k=!kvs.isEmpty:=e;rcases e' with⟨xs,hx,e'⟩|⟨xs,hx,e'⟩|⟨kvs,hx,e'⟩
  .subst e';obtain⟨aB,r,pl,hz⟩:=I.list hx;have hlen:=r.length;exact wpAny_truthy_list pl.isList (by grind) ⟨H,I.tok _,by grind [Mp]⟩
  .subst e';obtain⟨aB,r,pl,hz⟩:=I.tuple hx;have hlen:=r.length;exact truthy_tuple pl (by grind) ⟨H,I.tok _,by grind [Mp]⟩
  .subst e';obtain⟨hz,hS,vs,r,m⟩:kvs.length<=sizeLine/\(p==sysModules)=false/\∃vs,KV kvs vs/\s.heap.DictOf (c6 X.prog X.w) p vs:=I.aR p _ hx;have hlen:kvs.length=vs.length:=Paired.length r;exact wpAny_truthy_dict hS m (by omega) ⟨H,I.tok _,by grind [UJ]⟩
 |_=>exact(show False from e).elim
theorem Wr(ha:PE X a ta)(he:∀whole,isTrue a X.env whole=(do let v <- whole;standAt a.pos;holding [v] (truthy v))):
  PT X a (λσ H Q=>ta σ H λx H'=>∃k,vY X.K x H' k/\Q k H'):=by
 intro pins s σ H Q I h;exact isTrue_plain (bB (ha pins s σ H _ I h) λv s1 ⟨x,H1,I1,r1,q1⟩=>ZI pins s1 σ H1 x v Q I1 r1 q1) (he _)
theorem n6:gT X (binaryOp .Add) (λx y H Q=>∃i j,x=.str i/\y=.str j/\i.length+j.length<=sizeLine/\Q (.str (i++j)) H):=by
 intro pins s σ H x y v u Q I rx ry h;obtain⟨i,j,rfl,rfl,hz,q⟩:=h;obtain⟨t,rfl⟩:=rx;obtain⟨t',rfl⟩:=ry;exact add_str (λt' tk=>⟨.str (i++j),H,I.tok _,⟨_,rfl⟩,q⟩) hz
theorem vals1{x:V}(r:Vals [x] us):∃u,us=[u]/\RelV x u:=by
 cases r with
 |cons r1 r2=>cases r2;exact⟨_,rfl,r1⟩
theorem vals2{x y:V}(r:Vals [x,y] us):∃u w',us=[u,w']/\RelV x u/\RelV y w':=by
 cases r with
 |cons r1 r2=>
  cases r2 with
  |cons r3 r4=>cases r4;grind
theorem Vg(J:X.calm=true):c9 X (.builtin "min") (λxs H Q=>∃i j,xs=[.int i,.int j]/\Q (.int (if j<i then j else i)) H):=by
 intro pins s σ H xs us Q I r h;obtain⟨i,j,rfl,q⟩:=h;obtain⟨u,w',rfl,⟨t,rfl⟩,⟨t',rfl⟩⟩:=vals2 r;refine min_two_ints (I.ok.hd J) λh' tk k=>⟨_,H,I.kept k,?_,q⟩
 by_cases hj:j<i
 .rw[if_pos hj,if_pos hj];exact⟨_,rfl⟩
 .rw[if_neg hj,if_neg hj];exact⟨_,rfl⟩
theorem Vh:c9 X (.type "int") (λxs H Q=>(∃i,xs=[.int i]/\Q (.int i) H)\/∃k,xs=[.bl k]/\Q (.int (if k then 1 else 0)) H):=by
 intro pins s σ H xs us Q I r h;rcases h with⟨i,rfl,q⟩|⟨k,rfl,q⟩
 .obtain⟨u,rfl,t,rfl⟩:=vals1 r;exact call_int_int ⟨.int i,H,I,⟨_,rfl⟩,q⟩
 .obtain⟨u,rfl,r1⟩:=vals1 r;cases r1;exact call_int_bool ⟨.int (if k then 1 else 0),H,I.tok _,⟨_,rfl⟩,q⟩
noncomputable def zo(K:Fg)(x:V)(H:Hp)(n:Nat):Prop:=
 match x with
 |.str y=>y.length<=sizeLine/\n=y.length
 |.uI y=>y.size<=sizeLine/\n=y.size
 |.ref p=>(∃xs,cy K H p xs/\n=xs.length)\/∃xs,eK K H p xs/\n=xs.length
 |_=>False
theorem Nu:c9 X (.builtin "len") (λxs H Q=>∃x n,xs=[x]/\zo X.K x H n/\Q (.int n) H):=by
 intro pins s σ H xs us Q I r h;obtain⟨x,n,rfl,e,q⟩:=h;obtain⟨u,rfl,rx⟩:=vals1 r;have hl:=iB;have hs:sizeLine=16777216:=sizeLine_eq;cases x with
 |str y=>
  obtain⟨t,rfl⟩:=rx;obtain⟨hy,e'⟩:y.length<=sizeLine/\n=y.length:=e;subst e';exact len_str (by omega) ⟨.int _,H,I.tok _,⟨_,rfl⟩,q⟩
 |uI y=>
  obtain⟨t,rfl⟩:=rx;obtain⟨hy,e'⟩:y.size<=sizeLine/\n=y.size:=e;subst e';exact PySem.W.len_bytes (by omega) ⟨.int _,H,I.tok _,⟨_,rfl⟩,q⟩
 |ref p=>
  cases rx;have e':(∃xs,cy X.K H p xs/\n=xs.length)\/∃xs,eK X.K H p xs/\n=xs.length:=e;rcases e' with⟨xs,hx,e'⟩|⟨xs,hx,e'⟩
  .subst e';obtain⟨aB,r',pl,hz⟩:=I.list hx;have hlen:=r'.length;exact Calls.call_len_list pl.isList (by grind) ⟨.int xs.length,H,I.tok _,⟨_,by simp only[w2g];rw[hlen]⟩,q⟩
  .subst e';obtain⟨aB,r',pl,hz⟩:=I.tuple hx;have hlen:=r'.length;exact len_tuple pl (by grind) ⟨.int xs.length,H,I.tok _,⟨_,by simp only[w2g];rw[hlen]⟩,q⟩
 |_=>exact(show False from e).elim
end
structure QV(h:Heap)(x dx h1:Addr)(mA:Str->Option Value):Prop where
 obj:h.get? x=some (PySem.W.instObj h1 dx)
 ns:h.Ns1 dx mA
 ne:dx≠x
noncomputable def kC(f:Str)(v:V):List (Str×V)->List (Str×V)
 |[]=>[(f,v)]
 |(g,x)::r=>if g=f then(g,v)::r else(g,x)::kC f v r
theorem kQ.some_of{v:V}{o:Option Value}(r:kQ (some v) o):∃u,o=some u/\RelV v u:=by
 cases o with
 |none=>exact(show False from r).elim
 |some u=>exact⟨u,rfl,r⟩
structure QM(K:Fg)(h1:Addr):Prop where
 pg:PySem.W.plainGet K h1 Str.empty=true
 hd:PySem.W.hasDictIn K h1=true
 po:PySem.W.plainOver K h1=true
 sa:findIn K (.ref h1) "__setattr__"=some (some (.builtin "object.__setattr__"))
structure Con(K:Fg)(h1:Addr)(f:Str)(v:V)(u:Value):Prop where
 at_:findIn K (.ref h1) f=some (some u)
 rel:RelV v u
 get:specialIn K u "__get__"=some none
 cp:PySem.W.copiedNames.contains f=false
structure Meth(K:Fg)(h1:Addr)(m:Str)(f:Addr):Prop where
 at_:findIn K (.ref h1) m=some (some (.ref f))
 fn:PySem.W.isFn K (.ref f)=true
 kp:keepIn K (.ref f)=true
section
variable{Q:Value->Shared->Prop}{c:Value}{b:Bool}
inductive jZ(K:Fg)(H:Hp):V->Value->Prop where
 |aG:jZ K H .aG (.type "NoneType")
 |bl (x:Bool):jZ K H (.bl x) (.type "bool")
 |int (i:Int):jZ K H (.int i) (.type "int")
 |str (x:Str):jZ K H (.str x) (.type "str")
 |uO (x:UInt64):jZ K H (.uO x) (.type "float")
 |lst {a:Addr} {xs:List V} (e:H a=some (.lst xs)):jZ K H (.ref a) (.type "list")
 |cD {a:Addr} {o:Obj} {xs:List V} (e:H a=some (.cD o (.lst xs))):jZ K H (.ref a) (.type "list")
 |tup {a:Addr} {xs:List V} (e:H a=some (.tup xs)):jZ K H (.ref a) (.type "tuple")
 |dK {a:Addr} {kvs:List (Key×V)} (e:H a=some (.dK kvs)):jZ K H (.ref a) (.type "dict")
 |dT {a:Addr} {sh:Sh} {kvs:List (Kx×V)} {kas:List Addr} (e:H a=some (.dT sh kvs kas)):jZ K H (.ref a) (.type "dict")
 |ins {a h1 dx:Addr} {fs:List (Str×V)} (e:H a=some (.ins h1 dx fs)) (cl:QM K h1) (ha:findIn K (.ref h1) "__class__"=some (some (.builtin "object.__class__")))
   (hn:specialIn K (.builtin "object.__class__") "__get__"=some (some (.builtin "getset_descriptor.__get__"))) (htk:PySem.W.takesIn K (.builtin "object.__class__")=some true)
   (hm:mroIn K h1 (.type "object")=some true):jZ K H (.ref a) (.ref h1)
end
structure bJ(k:Nat)(A:Around):Prop where
 hd:A.handled=none
 dp:A.depth+3*k+5<recursionLimit
 un:A.units+16*k+200<cLine
 gd:A.guards=some []
theorem bJ.deeper{k:Nat}(r:bJ (k+1) A)(env:Env):bJ k (A.deeper env):=
 ⟨r.hd,by have:=r.dp;show A.depth+1+3*k+5<_;omega,by have:=r.un;show A.units+3+16*k+200<_;omega,r.gd⟩
theorem bJ.in1{k:Nat}(r:bJ (k+1) A):bJ k A.in1:=
 ⟨r.hd,by have:=r.dp;grind,by have:=r.un;grind,r.gd⟩
theorem bJ.depth{k:Nat}(r:bJ k A):A.depth<recursionLimit:=by have:=r.dp;omega
noncomputable def uq:TA:=λ_ H Q=>Q [] H
noncomputable def kL(ta:TE)(tr:TA):TA:=λσ H Q=>ta σ H λx H1=>tr σ H1 λxs H2=>Q (x::xs) H2
section
variable{t:TA}
theorem yN:PA X [] uq:=λ_ _ _ _ H Q I h=>Calls.spliced_nil ⟨[],H,I,.nil,h⟩
theorem t6(ha:PE X e te)(hr:PA X es t)(hs:autoParam (starEach (e::es) X.env=(false,eval e X.env)::starEach es X.env) jJ):PA X (e::es) (kL te t):=by
 intro pos pins s σ H Q I h;rw[hs];show wpAny _ _ (spliced ((false,eval e X.env)::backTo pos (starEach es X.env))) _ _ s;refine Calls.spliced_cons (bB (ha pins s σ H _ I h) λu s1 ⟨x,H1,I1,r1,q1⟩=>?_)
 exact bB (hr pos pins s1 σ H1 _ I1 q1) λus s2 ⟨xs,H2,I2,r2,q2⟩=>⟨x::xs,H2,I2,.cons r1 r2,q2⟩
noncomputable def B7(t:TA):TE:=λσ H Q=>t σ H λxs H1=>xs.length<=sizeLine/\∀p,H1 p=none->Q (.ref p) (upd H1 p (.tup xs))
noncomputable def IE(t:TA):TE:=λσ H Q=>t σ H λxs H1=>xs.length<=sizeLine/\∀p,H1 p=none->Q (.ref p) (upd H1 p (.lst xs))
theorem PD{x1}(h:PA X es t):PE X (.Tuple es x1 pos) (B7 t):=by
 intro pins s σ H Q I hq;refine wpAny_Tuple_spliced (bB (h pos pins s σ H _ I hq) λus s1 ⟨xs,H1,I1,r,z,q⟩=>⟨by rw[<- r.length];exact z,?_⟩)
 have hf:H1 s1.heap.objs.size=none:=I1.aR.fresh (w0c _);refine⟨.ref s1.heap.objs.size,upd H1 s1.heap.objs.size (.tup xs),I1.laid (t':=s1.toks) (λb u e=>Heap.get?_push_of_some _ e) (w0c _) ?_,rfl,q _ hf⟩
 exact⟨z,us,r,⟨_,Heap.get?_push_size _ rfl,rfl,_,rfl⟩,⟨_,Heap.get?_push_size _ rfl,rfl⟩⟩
theorem PH(h:PA X es t):PE X (.List es pos) (IE t):=by
 intro pins s σ H Q I hq;refine wpAny_List_spliced (bB (h pos pins s σ H _ I hq) λus s1 ⟨xs,H1,I1,r,z,q⟩=>⟨by rw[<- r.length];exact z,?_⟩)
 have hf:H1 s1.heap.objs.size=none:=I1.aR.fresh (w0c _);refine⟨.ref s1.heap.objs.size,upd H1 s1.heap.objs.size (.lst xs),I1.laid (t':=s1.toks) (λb u e=>Heap.get?_push_of_some _ e) (w0c _) ?_,rfl,q _ hf⟩
 exact⟨z,us,0,r,Heap.get?_push_size _ rfl⟩
end
abbrev Sp:=List V->Hp->VK->XK->Prop
variable{sp:Sp}
abbrev oo:=List Env->Hp->Shared->XK->Value->Shared->Prop
variable{CX:oo}
structure jv(P:Program)(w:World)(K:Fg)(mg:Str->Option Value)(base:Heap)(A:Around)(outer:List Env)(s:Shared)(H:Hp):Prop where
 frames:A.frames=some outer
 mod:Mod K mg base
 bs:∀b o,base.get? b=some o->s.heap.get? b=some o/\H b=none
 pU:base.objs.size<=s.heap.objs.size
 gL:s.heap.FunFrames base outer
 rS:∀b∈iE outer,H b=none
 aR:d7 P w H s.heap
 bare:AllBare s.gens
 tab:gU K H
noncomputable def CE(outer:List Env)(P:Program)(w:World)(H:Hp)(s:Shared)(Q:VK)(u:Value)(s':Shared):Prop:=
 ∃v H',s'.os=s.os/\AllBare s'.gens/\Un (iE outer) [] H H' s.heap s'.heap/\d7 P w H' s'.heap/\RelV v u/\Q v H'
noncomputable def CR(CX:oo)(outer:List Env)(P:Program)(w:World)(H:Hp)(s:Shared)(Q:VK)(E:XK)(r:Result)(s':Shared):Prop:=
 match r with
 |.ok (.ret u)=>CE outer P w H s Q u s'
 |.ok _=>False
 |.error e=>CX outer H s E e s'
structure fN(P:Program)(w:World)(K:Fg)(mg:Str->Option Value)(base:Heap)(CX:oo)(k:Nat)(f:Addr)(fd:FuncData)(ps:List Str)(sp:Sp):Prop where
 len:∀vs H Q E,sp vs H Q E->vs.length=ps.length
 run:∀(A:Around)(outer:List Env)(s:Shared)(H:Hp)(args:Args)(us:List Value)(vs:List V)(Q:VK)(E:XK),bJ k A->jv P w K mg base A outer s H->BindsTo s fd args (ps.zip us)->Vals vs us->sp vs H Q E ->
  codeAny (model P w) A (.call (.ref f) args) (CR CX outer P w H s Q E) s
theorem fN.imp{k:Nat}{f:Addr}{Mf:Sp}(F:fN P w K mg base CX k f fd ps sp)
  (h:∀vs H Q E,Mf vs H Q E->sp vs H Q E):fN P w K mg base CX k f fd ps Mf:=
 ⟨λvs H Q E q=>F.len vs H Q E (h _ _ _ _ q),λA outer s H args us vs Q E hr he hb hv hs=>F.run A outer s H args us vs Q E hr he hb hv (h _ _ _ _ hs)⟩
section
variable{s':Shared}
theorem Inv.sX(I:Inv X pins σ H s):jv X.prog X.w X.K X.mg X.base X.A X.stack s H:=
 ⟨I.ok.frames,I.ok.mod,I.bs,w0l I.ok.pU I.sz,I.stack,I.o7,I.aR,I.bare,I.ok.tab.un I.base⟩
theorem Inv.after{Q:VK}(I:Inv X pins σ H s)(h:CE X.stack X.prog X.w H s Q u s'):EP X pins σ Q u s':=by
 obtain⟨v,H',os,bare,un,aR,r,q⟩:=h;obtain⟨hh,g,d,t,SM⟩:=s';obtain rfl:SM=s.os:=os;exact⟨v,H',I.call (h':=hh) (g':=g) (d':=d) (t':=t) (ch:=[]) un aR bare (λb z=>absurd z (by simp)),r,q⟩
end
noncomputable def Binds(K:Fg)(fd:FuncData)(ps:List Str)(ds:List Value):Prop:=
 ∀(s:Shared)(us:List Value),K.In s.heap->(us++ds).length=ps.length->BindsTo s fd ⟨us,[]⟩ (ps.zip (us++ds))
theorem Binds.all(h:∀us:List Value,us.length=ps.length->bindArgs fd ⟨us,[]⟩=pure (ps.zip us)):Binds K fd ps []:=λs us _ hl=>by
 grind [BindsTo.of_eq]
section
variable{k:Nat}{f h1:Addr}{sU:List V}{ds:List Value}{E:XK}{m:Str}{apos:Pos}{o:Expr}{t:TA}
structure Mk(K:Fg)(h1 f:Addr):Prop where
 makes:PySem.W.makesIn K h1=true
 init:findIn K (.ref h1) "__init__"=some (some (.ref f))
 fn:PySem.W.isFn K (.ref f)=true
 kp:keepIn K (.ref h1)=true
end
section
variable{k:Nat}{f h1:Addr}{ks:List Str}{E:XK}{m:Str}{apos SA:Pos}{o:Expr}{kws:List Keyword}{t tk:TA}{nm:Option Str}
structure EW(K:Fg)(fd:FuncData)(ps ks:List Str)(g:List Value->List Value->List Value)(gV:List V->List V->List V):Prop where
 to:∀(s:Shared)(us ws:List Value),K.In s.heap->(g us ws).length=ps.length->BindsTo s fd ⟨us,ks.zip ws⟩ (ps.zip (g us ws))
 rel:∀{vs:List V}{us:List Value}{zs:List V}{ws:List Value},Vals vs us->Vals zs ws->Vals (gV vs zs) (g us ws)
variable{g:List Value->List Value->List Value}{gV:List V->List V->List V}
end
structure aE(N P:List Str)(sc:Scope):Prop where
 kind:sc.kind=.function
 co:sc.isCoroutine=false
 gen:sc.isGenerator=false
 nd:N.Nodup
 pre:N.take P.length=P
 par:∀x∈P,sc.names.lookup x=some .local\/sc.names.lookup x=some .cell
 l6:∀y∈sc.names,y.2≠.free
theorem MS{kindOf:Str->Option NameKind}:∀{binds:List (Str×Value)}{m:Str->Option Value},(∀v,(x,v)∉binds)->bindL kindOf binds m x=m x
 |[],_,_=>rfl
 |(n,v)::r,m,h=>by
  unfold bindL;rw[MS λw hw=>h w (w1a _ hw)]
  split
  all_goals grind
theorem MT{kindOf:Str->Option NameKind}:∀{binds:List (Str×Value)}{m:Str->Option Value},(∀v,(x,v)∉binds)->bindC kindOf binds m x=m x
 |[],_,_=>rfl
 |(n,v)::r,m,h=>by
  unfold bindC;rw[MT λw hw=>h w (w1a _ hw)]
  split
  all_goals grind
theorem ME{kindOf:Str->Option NameKind}{x:Str}{v:Value}:∀{P:List Str}{vs:List Value}{i:Nat}{m:Str->Option Value},P.Nodup->P[i]?=some x->vs[i]?=some v->kindOf x=some .local ->
  bindL kindOf (P.zip vs) m x=some v
 |[],_,_,_,_,h,_,_=>by simp at h
 |_::_,[],_,_,_,_,h,_=>by simp at h
 |p::P,w::vs,0,m,nd,C,h2,hk=>by
  simp at C h2;subst C;subst h2;show bindL kindOf ((p,w)::P.zip vs) m p=_;unfold bindL;rw[MS λv hv=>(w1r.mp nd).1 (w1e hv).1,if_pos hk]
  simp
 |p::P,w::vs,i+1,m,nd,C,h2,hk=>by
  show bindL kindOf ((p,w)::P.zip vs) m x=_;unfold bindL;exact ME (i:=i) (w1r.mp nd).2 (by simpa using C) (by simpa using h2) hk
theorem MF{kindOf:Str->Option NameKind}{x:Str}{v:Value}:∀{P:List Str}{vs:List Value}{i:Nat}{m:Str->Option Value},P.Nodup->P[i]?=some x->vs[i]?=some v->kindOf x≠some .local ->
  bindC kindOf (P.zip vs) m x=some v
 |[],_,_,_,_,h,_,_=>by simp at h
 |_::_,[],_,_,_,_,h,_=>by simp at h
 |p::P,w::vs,0,m,nd,C,h2,hk=>by
  simp at C h2;subst C;subst h2;show bindC kindOf ((p,w)::P.zip vs) m p=_;unfold bindC;rw[MT λv hv=>(w1r.mp nd).1 (w1e hv).1,if_neg hk]
  simp
 |p::P,w::vs,i+1,m,nd,C,h2,hk=>by
  show bindC kindOf ((p,w)::P.zip vs) m x=_;unfold bindC;exact MF (i:=i) (w1r.mp nd).2 (by simpa using C) (by simpa using h2) hk
noncomputable def start(N:List Str)(vs:List V):St:=vs.map some++List.replicate (N.length-vs.length) none
noncomputable def fX(CX:oo)(P:Program)(w:World)(K:Fg)(mg:Str->Option Value)(base:Heap)(N:List Str)(qual:Str)(scope:Scope)(f:Addr)(cd:Value)(A:Around)(outer:List Env)(s:Shared)(H:Hp)(E:XK):Cx where
 prog:=P
 w:=w
 K:=K
 mg:=mg
 base:=base
 A:=A.deeper (envOfC qual scope s.heap.objs.size f cd)
 N:=N
 aC:=s
 aH:=H
 env:=envOfC qual scope s.heap.objs.size f cd
 outer:=outer
 stack:=envOfC qual scope s.heap.objs.size f cd::outer
 ex:=[]
 calm:=true
 fn:=λ_=>true
 pn:=[]
 xe:=λe s'=>wpAny (model P w) (A.deeper (envOfC qual scope s.heap.objs.size f cd)) (leaving (envOfC qual scope s.heap.objs.size f cd) e) (λ_ kE=>CX outer H s E e kE) (λe' kE=>CX outer H s E e' kE) s'
theorem Nv{sc:Scope}{n:Nat}(h:sc.names.lookup x=some .cell):∃c,(cellsFrom n sc.names []).lookup x=some c:=by
 have q:=PySem.W.cellsFrom_some sc.names n [] (.inl h);exact w1s.mp q
theorem Vi{qual:Str}{scope:Scope}{f:Addr}{cd:Value}{outer:List Env}{s1:Shared}{E:XK}{vs:List V}
  (S:aE N ps scope)(hd:A.handled=none)(e0:jv P w K mg base A outer s H)(hl:vs.length=ps.length)(r:Vals vs us)
  (x:InCallC s s.heap.objs.size (bindL (envOfC qual scope s.heap.objs.size f cd).kindOf (ps.zip us) λ_=>none) (cellsFrom (s.heap.objs.size+1) scope.names []) (bindC (envOfC qual scope s.heap.objs.size f cd).kindOf (ps.zip us) λ_=>none) s1):
  Inv (fX CX P w K mg base N qual scope f cd A outer s H E) [] (start N vs) H s1:=by
 have dJ:ps.length<=N.length:=by have:=congrArg List.length S.pre;grind
 obtain⟨C,tk,rfl,hk⟩:=x.done;have tN:∀b:Addr,b∉(fX CX P w K mg base N qual scope f cd A outer s H E).ex:=λb z=>absurd (show b∈([]:List Addr)from z) (by simp)
 refine⟨⟨e0.mod,S.kind,rfl,rfl,w0c _,λy z c C h2=>?_,λy hy=>?_,λy c _ h=>?_,λ_=>hd,Around.frames_deeper e0.frames,.inr ⟨rfl,rfl⟩,λb z=>absurd z (tN b),e0.bs,e0.pU,λb _ _=>tN b,λb z=>absurd z (tN b),e0.gL,e0.rS,e0.tab⟩,
  rfl,e0.bare,Un.kept hk,⟨_,x.toInCall.ns,λi y v C h2 h3=>?_⟩,λy c h=>⟨_,x.cell y c h⟩,e0.aR.fresh (w0c _),λy c h=>?_,λp hp=>absurd (show p∈([]:List (Addr×Obj))from hp) (by simp),e0.aR.kept hk,?_⟩
 .exact name_of_addr x.apart (PySem.mem_of_lookup C) (PySem.mem_of_lookup h2)
 .have hy:scope.names.lookup y=some .cell\/scope.names.lookup y=some .free:=hy;rcases hy with hy|hy
  .exact Nv hy
  .exact absurd rfl (S.l6 _ (PySem.mem_of_lookup hy))
 .exact w3w (x.above y c (PySem.mem_of_lookup h))
 .have hi:i<vs.length:=by
   grind [start]
  have ha:vs[i]?=some v:=by
   grind [start]
  obtain⟨u,hu,rv⟩:=r.get ha
  have hp:ps[i]?=some y:=by
   rw[<- S.pre,List.getElem?_take_of_lt (by omega)];exact C
  have Lw:ps.Nodup:=by rw[<- S.pre];exact S.nd.sublist (List.take_sublist _ _)
  refine⟨u,rv,?_⟩;rcases S.par y (w0d hp)with k|k
  .exact .inl ⟨k,ME Lw hp hu k⟩
  .obtain⟨c,e⟩:=Nv (n:=s.heap.objs.size+1) k;refine .inr ⟨.inl k,c,e,?_⟩;have q:=x.cell y c e;rw[MF Lw hp hu (by show scope.names.lookup y≠_;rw[k];decide)]at q;exact q
 .exact e0.aR.fresh (w3w (x.above y c (PySem.mem_of_lookup h)))
 .unfold start;show _=N.length
  grind
theorem Kb{k:Nat}{f:Addr}{name qual:Str}{params:Arguments}{body:List Stmt}{scope:Scope}{dV kV doc pm bx ct oc:Value}{an od:Option Addr}
  {tT:Array (Option Value)}(lk:K.lookup f=some ⟨oc,od,.func (PySem.W.fnOf name qual params body scope dV kV doc pm an bx ct),tT⟩)(dU:PySem.W.codeIn K bx qual=true)(S:aE N ps scope)
  (len:∀vs H Q E,sp vs H Q E->vs.length=ps.length)
  (mT:∀(A:Around)(outer:List Env)(s:Shared)(H:Hp)(vs:List V)(Q:VK)(E:XK),bJ k (A.deeper (envOfC qual scope s.heap.objs.size f bx))->sp vs H Q E ->
   ∃t,kN (fX CX P w K mg base N qual scope f bx A outer s H E) body t/\t {nx:=λ_ H'=>Q .aG H',rt:=Q} (start N vs) H):
  fN P w K mg base CX (k+1) f (PySem.W.fnOf name qual params body scope dV kV doc pm an bx ct) ps sp:=by
 refine⟨len,λA outer s H args us vs Q E hr e0 hb r nA=>?_⟩
 have hl:=len _ _ _ _ nA;have KX:K.In s.heap:=e0.mod.Ay.keeps λb o e=>(e0.bs b o e).1
 have lim:s.heap.NoLimit:=e0.mod.nolimit.keeps λb o e=>(e0.bs b o e).1
 have Aj:∀y∈ps.zip us,scope.names.lookup y.1=some .local\/(scope.names.lookup y.1=some .cell/\((cellsFrom (s.heap.objs.size+1) scope.names []).lookup y.1).isSome=true):=fun⟨n,v⟩ hy=>by
  rcases S.par n (w1e hy).1 with q|q
  all_goals grind [W.cellsFrom_some]
 refine codeAny_call_function hr.depth (KX _ _ lk) rfl S.co S.gen rfl (PySem.W.codeRec_of KX dU) (hb _ _ _ _ ?_)
 refine wpAny_newFunctionEnv_cells S.kind Aj λenv he s1 x=>?_
 subst he;refine⟨lim.keeps x.toInCall.keep,codeAny_func ?_⟩
 obtain⟨t,ht,hq⟩:=mT A outer s H vs Q E (hr.deeper _) nA;have I:Inv (fX CX P w K mg base N qual scope f bx A outer s H E) [] (start N vs) H s1:=Vi S hr.hd e0 hl r x;refine wpAny_mono (ht [] s1 (start N vs) H _ I hq) (λfl s' hs=>?_) λe s' hs=>hs
 have fin:∀{aS:St}{H':Hp}{v:V}{u:Value},Inv (fX CX P w K mg base N qual scope f bx A outer s H E) [] aS H' s'->RelV v u->Q v H'->CE outer P w H s Q u s':=
  λ{aS H' v u} hc rv q=>⟨v,H',hc.os,hc.bare,hc.base,hc.aR,rv,q⟩
 cases fl with
 |ret u=>
  obtain⟨v,aS,H',hc,rv,q⟩:=hs;exact fin hc rv q
 |next=>
  obtain⟨aS,H',hc,q⟩:=hs;exact fin (v:=V.aG) (u:=Value.none) hc rfl q
 |brk=>
  obtain⟨_,_,_,q⟩:=hs;exact False.elim q
 |cont=>
  obtain⟨_,_,_,q⟩:=hs;exact False.elim q
section
variable{t:TA}{id T:String}{r:List V->Hp->VK->Prop}
noncomputable def IB(r:List V->Hp->VK->Prop)(t:TA):TE:=λσ H Q=>t σ H λvs H1=>r vs H1 Q
theorem Nw(J:c9 X (.builtin id) r)(hg:Gl X x)(hm:X.mg x=none)(hv:bootBuiltins x=some (.builtin id))(ha:PA X (e::es) t)(hn:autoParam (x≠"__name__") jK)(kY:autoParam ((x==("__debug__":Str))=false) jK)
  (he:autoParam (starEach (e::es) X.env=(false,eval e X.env)::starEach es X.env) jJ)(dJ:autoParam ((backTo pos (starEach es X.env)).any (·.1)=false) jJ):PE X (.Call (.Name x p) (e::es) [] pos) (IB r t):=by
 intro pins s σ H Q I h;refine wpAny_Call_Name_kw (vy I hg hm hv ?_ hn kY);exact PyProof.Rows.callWith_builtin1 (bB (ha pos pins s σ H _ I h) λus s1 ⟨vs,H1,I1,r1,q1⟩=>J pins s1 σ H1 vs us Q I1 r1 q1) he dJ
theorem MG(J:c9 X (.type T) r)(hg:Gl X x)(hm:X.mg x=none)(hv:bootBuiltins x=some (.type T))(ha:PA X (e::es) t)(hn:autoParam (x≠"__name__") jK)(kY:autoParam ((x==("__debug__":Str))=false) jK)
  (he:autoParam (starEach (e::es) X.env=(false,eval e X.env)::starEach es X.env) jJ)(dJ:autoParam ((backTo pos (starEach es X.env)).any (·.1)=false) jJ):PE X (.Call (.Name x p) (e::es) [] pos) (IB r t):=by
 intro pins s σ H Q I h;refine wpAny_Call_Name_kw (vy I hg hm hv ?_ hn kY);exact PyProof.Rows.callWith_type1 (bB (ha pos pins s σ H _ I h) λus s1 ⟨vs,H1,I1,r1,q1⟩=>J pins s1 σ H1 vs us Q I1 r1 q1) he dJ
end
end L2
namespace HT
open PySem PyProof.Rows
section
variable{prog:Program}{w:World}{A:Around}{E:Value->Shared->Prop}{s:Shared}
theorem sQ{t b:Addr}{vs ws:List Value}{Q:Value->Shared->Prop}(ht:IsTup s.heap t vs.toArray)(hb:IsTup s.heap b ws.toArray)(hv:vs≠[])
  (C:ws=[]->Q (.ref t) s)(h2:ws≠[]->Q (.ref s.heap.objs.size) {s with heap:=s.heap.push {cls:=.type "tuple", data:=.seq (vs++ws).toArray}})
  (hsz:vs.length+ws.length<=sizeLine):wpAny (model prog w) A (binaryOp .Add (.ref t) (.ref b)) Q E s:=by
 obtain⟨⟨cls,dd,data,sl⟩,ho,J,n,hd⟩:=id ht;obtain⟨⟨zG,uM,data2,yX⟩,r8,fO,n2,hd2⟩:=id hb;simp only at J hd fO hd2;subst J hd fO hd2;have e:vs.toArray++ws.toArray=(vs++ws).toArray:=by simp
 by_cases hw:ws=[]
 .exact concat_meets ⟨_,ho,rfl⟩ ⟨_,r8,rfl⟩ noFill_tuple_add seq_tuple_add PySem.F.slot_tuple_add PySem.F.entry_tuple_add (PySem.F.args_tuple_add_2 _ _)
   (tuple_addW1 t b vs.toArray ws.toArray n n2 dd uM sl yX (by simpa using hv) (by simp[hw])) ⟨ho,r8,C hw⟩
 .refine concat_meets ⟨_,ho,rfl⟩ ⟨_,r8,rfl⟩ noFill_tuple_add seq_tuple_add PySem.F.slot_tuple_add PySem.F.entry_tuple_add (PySem.F.args_tuple_add_2 _ _)
   (tuple_addW2 t b vs.toArray ws.toArray n n2 dd uM sl yX (by simpa using hv) (by simpa using hw) (by grind)) ⟨ho,r8,?_⟩
  rw[e];exact h2 hw
noncomputable def cx(n d:Nat):Option Int->Nat
 |none=>d
 |some v=>if v<0 then(v+(n:Int)).toNat else min v.toNat n
theorem kF(n d:Nat):cx n d none=d:=rfl
theorem l_(n d k:Nat):cx n d (some (k:Int))=min k n:=by
 show(if(k:Int)<0 then((k:Int)+(n:Int)).toNat else min (k:Int).toNat n)=min k n
 grind
theorem ZJ(n d:Nat)(hd:d<=n)(o:Option Int):cx n d o<=n:=by
 cases o with
 |none=>exact hd
 |some v=>
  show(if v<0 then(v+(n:Int)).toNat else min v.toNat n)<=n
  grind
theorem N9(v:Int)(n d:Nat):(if v<0 then max (v+(n:Int)) 0 else min v (n:Int))=((cx n d (some v):Nat):Int):=by
 show(if v<0 then max (v+(n:Int)) 0 else min v (n:Int))=(((if v<0 then(v+(n:Int)).toNat else min v.toNat n):Nat):Int)
 grind
theorem UK(lo hi:Option Int)(n:Nat):Builtin.Slice.sliceAdjust lo hi 1 (n:Int)=(((cx n 0 lo:Nat):Int),((cx n n hi:Nat):Int)):=by
 have C:¬((1:Int)<0):=by omega
 unfold Builtin.Slice.sliceAdjust;simp only[C,if_false];refine Prod.ext ?_ ?_
 .cases lo with
  |none=>rfl
  |some v=>exact N9 v n 0
 .cases hi with
  |none=>rfl
  |some v=>exact N9 v n n
theorem UL(i j:Nat):Builtin.Slice.slicePlaces (i:Int) (j:Int) 1=j-i:=by
 unfold Builtin.Slice.slicePlaces
 grind
theorem UM{v:Value}{o:Option Int}{Q:Option Int->Shared->Prop}(p:IsPart v o)(h:Q o s):wpAny (model prog w) A (Builtin.Slice.slicePartIndex v) Q E s:=by
 cases p with
 |none=>exact slicePart_none h
 |int i t=>exact slicePart_int h
theorem LD{sl:Addr}{vl vu:Value}{lo hi:Option Int}{n:Nat}{Q:Int×Int×Nat->Shared->Prop}(hs:s.heap.IsSliceOf sl vl vu .none)(pl:IsPart vl lo)(pu:IsPart vu hi)
  (h:Q (((cx n 0 lo:Nat):Int),1,cx n n hi-cx n 0 lo) s):wpAny (model prog w) A (Builtin.Slice.sliceApplied (.ref sl) (pure (n:Int))) Q E s:=by
 obtain⟨os,qH,Cu,Ab⟩:=id hs;unfold Builtin.Slice.sliceApplied Builtin.Slice.sliceFields;refine wpAny_bind (wpAny_bind (wpAny_field qH Ab (x:=vl) rfl (wpAny_bind (wpAny_field qH Ab (x:=vu) rfl (wpAny_bind (wpAny_field qH Ab (x:=.none) rfl (wpAny_pure ?_)))))));refine wpAny_bind (slicePart_none ?_);show wpAny _ _ (if((1:Int)==0)=true then _ else _) _ _ s;rw[if_neg (by decide)]
 grind [wpAny_bind,UM,wpAny_pure,UK,UL]
theorem Ws(xs:Array Value)(i k:Nat):((List.range k).filterMap fun(m:Nat)=>xs[((i:Int)+(m:Int)*1).toNat]?).toArray=((xs.toList.drop i).take k).toArray:=by
 have e:(fun(m:Nat)=>xs[((i:Int)+(m:Int)*1).toNat]?)=λm=>xs[i+m]?:=by
  grind
 rw[e];have:=pick_run xs i k;rw[List.filterMap_map]at this;have e2:((λx=>xs[x]?) ∘ λx=>i+x)=λm=>xs[i+m]?:=rfl
 grind
theorem iP{t sl:Addr}{items:Array Value}{vl vu:Value}{lo hi:Option Int}{Q:Value->Shared->Prop}(ht:IsTup s.heap t items)(hs:s.heap.IsSliceOf sl vl vu .none)(pl:IsPart vl lo)(pu:IsPart vu hi)
  (hw:¬(cx items.size 0 lo=0/\cx items.size items.size hi=items.size))
  (h:Q (.ref s.heap.objs.size) {s with heap:=s.heap.push {cls:=.type "tuple", data:=.seq ((items.toList.drop (cx items.size 0 lo)).take (cx items.size items.size hi-cx items.size 0 lo)).toArray}})
  (hsz:items.size<=sizeLine):wpAny (model prog w) A (getItem (.ref t) (.ref sl)) Q E s:=by
 have oD:sizeOk (.seq ((items.toList.drop (cx items.size 0 lo)).take (cx items.size items.size hi-cx items.size 0 lo)).toArray):=by
  show((items.toList.drop (cx items.size 0 lo)).take (cx items.size items.size hi-cx items.size 0 lo)).toArray.size<=sizeLine
  grind
 have hj:cx items.size items.size hi<=items.size:=ZJ _ _ (w0c _) hi;obtain⟨os,qH,Cu,Ab⟩:=id hs;have Fq:s.TypeIs (.ref sl) "slice":=⟨os,qH,Cu⟩;unfold getItem;try with_reducible refine wpAny_holding ?_
 first|refine wpAny_bind (wpAny_pure ?_)|skip
 refine wpAny_bind (wpAny_sequenceKey ht.typeIs (by decide) ?_)
 refine wpAny_bind (wpAny_callSpecial?_slot (name:=Str.ofString "__getitem__") ht.typeIs PyProof.Rows.slot_tuple_getitem
  (wpAny_call_entry PyProof.Rows.slot_tuple_getitem ht.typeIs entry_tuple_getitem ?_ (args_tuple_getitem _ _)))
 show wpAny _ _ (Builtin.Tuple.tupleItemsOf (.ref t) >>= _) _ _ s;refine wpAny_bind (tupleItemsOf_ ht ?_);refine wpAny_bind (wpAny_typeOf Fq ?_);rw[if_pos (by decide)];refine wpAny_bind (LD hs pl pu ?_)
 have R3:¬((((cx items.size 0 lo:Nat):Int)==0&&(1:Int)==1&&(cx items.size items.size hi-cx items.size 0 lo)==items.size)=true):=by
  grind
 show wpAny _ _ (if(((cx items.size 0 lo:Nat):Int)==0&&(1:Int)==1&&(cx items.size items.size hi-cx items.size 0 lo)==items.size)=true then _ else _) _ _ s;rw[if_neg R3,Ws]
 first
  |exact wpAny_bind (m:=Builtin.Tuple.tupleExact _) (wpAny_newObj_type (wpAny_pure ⟨_,rfl,wpAny_pure h⟩) oD)
  |exact wpAny_bind (m:=Builtin.Tuple.tupleExact _) (wpAny_newObj_type (wpAny_bind (wpAny_pure (wpAny_pure ⟨_,rfl,wpAny_pure h⟩))) oD)
  |exact wpAny_bind (wpAny_bind (m:=Builtin.Tuple.tupleExact _) (wpAny_newObj_type (wpAny_pure (wpAny_pure ⟨_,rfl,wpAny_pure h⟩)) oD))
  |exact wpAny_bind (wpAny_bind (m:=Builtin.Tuple.tupleExact _) (wpAny_newObj_type (wpAny_pure ⟨_,rfl,wpAny_pure h⟩) oD))
end
end HT
namespace L2
open PySem PySem.Spec PyProof.Rows
variable{X:Cx}{H:Hp}{pins:List (Addr×Obj)}{xs:List V}{aB us:List Value}{n:Nat}{s:Shared}{σ:St}{α:Type}
abbrev TO:=St->Hp->(Option Int->Hp->Prop)->Prop
noncomputable def PO(X:Cx)(e:Option Expr)(t:TO):Prop:=
 ∀(pins:List (Addr×Obj))(s:Shared)(σ:St)(H:Hp)(Q:Option Int->Hp->Prop),Inv X pins σ H s->t σ H Q ->
  wpAny (model X.prog X.w) X.A (evalPart e X.env) (λu s'=>∃o H',Inv X pins σ H' s'/\IsPart u o/\Q o H') X.xe s
noncomputable def uv:TO:=λ_ H Q=>Q none H
noncomputable def B4(t:TE):TO:=λσ H Q=>t σ H λx H1=>∃i,x=.int i/\Q (some i) H1
theorem Uz{ns:List Int}:∀{us:List Value},Vals (ns.map V.int) us->IntsAre us ns:=by
 induction ns with
 |nil=>intro us r;rw[w2i]at r;cases r;exact .nil
 |cons n ns ih=>
  intro us r;rw[w0p]at r;cases r with
  |cons r1 r2=>
   obtain⟨t,e⟩:=r1;subst e;exact .cons n t (ih r2)
section
variable{e:Expr}{te:TE}{lo hi:Option Expr}{tl th:TO}{pos p2:Pos}
theorem XW:PO X none uv:=by
 intro pins s σ H Q I h;rw[evalPart_none];exact wpAny_pure ⟨none,H,I,.none,h⟩
theorem XX(h:PE X e te):PO X (some e) (B4 te):=by
 intro pins s σ H Q I hw;rw[evalPart_some];refine bB (h pins s σ H _ I hw) λu s1 ⟨x,H1,I1,r1,q1⟩=>?_
 obtain⟨i,rfl,q⟩:=q1;obtain⟨t,rfl⟩:=r1;exact⟨some i,H1,I1,.int i t,q⟩
noncomputable def rQ(X:Cx)(r:V->Option Int->Option Int->Hp->VK->Prop):Prop:=
 ∀(pins:List (Addr×Obj))(s:Shared)(σ:St)(H:Hp)(x:V)(v vl vu:Value)(lo hi:Option Int)(sl:Addr)(Q:VK),Inv X pins σ H s->RelV x v->s.heap.IsSliceOf sl vl vu .none->IsPart vl lo->IsPart vu hi->r x lo hi H Q ->
  ∃T id,typeLookup (.type T) "__getitem__"=pure (some (.builtin id))/\s.TypeIs v T/\wpAny (model X.prog X.w) X.A (getItem v (.ref sl)) (EP X pins σ Q) X.xe s
theorem rQ.or{r r':V->Option Int->Option Int->Hp->VK->Prop}(h:rQ X r)(h':rQ X r'):rQ X (λx lo hi H Q=>r x lo hi H Q\/r' x lo hi H Q):=by
 intro pins s σ H x v vl vu lo hi sl Q I rx hs pl pu q;rcases q with q|q
 .exact h pins s σ H x v vl vu lo hi sl Q I rx hs pl pu q
 .exact h' pins s σ H x v vl vu lo hi sl Q I rx hs pl pu q
noncomputable def Tg(r:V->Option Int->Option Int->Hp->VK->Prop)(te:TE)(tl th:TO):TE:=λσ H Q=>te σ H λx H1=>tl σ H1 λl H2=>th σ H2 λu H3=>r x l u H3 Q
theorem Wt{r:V->Option Int->Option Int->Hp->VK->Prop}(hr:rQ X r)(he:PE X e te)(hl:PO X lo tl)(hu:PO X hi th):PE X (.Subscript e (.Slice lo hi none p2) pos) (Tg r te tl th):=by
 intro pins s σ H Q I h;refine Subscript_ (bB (he pins s σ H _ I h) λv s1 ⟨x,H1,I1,r1,q1⟩=>?_)
 refine wpAny_Slice (bB (hl pins s1 σ H1 _ I1 q1) λvl s2 ⟨l,H2,I2,pl,q2⟩=>bB (hu pins s2 σ H2 _ I2 q2) λvu s3 ⟨u,H3,I3,pu,q3⟩=>?_)
 rw[evalPart_none];refine wpAny_pure ?_;have I4:Inv X pins σ H3 {s3 with heap:=s3.heap.push {cls:=.type "slice", data:=.fields #[vl,vu,.none]}}:=I3.kept (t':=s3.toks) λb ob q=>Heap.get?_push_of_some _ q
 obtain⟨T,id,hT,ht,hg⟩:=hr pins {s3 with heap:=s3.heap.push {cls:=.type "slice", data:=.fields #[vl,vu,.none]}} σ H3 x v vl vu l u s3.heap.objs.size Q I4 r1 (Heap.IsSliceOf.new ..) pl pu q3;show wpAny (model X.prog X.w) X.A (subscriptTail e (.Slice lo hi none p2) v (.ref s3.heap.objs.size)) (EP X pins σ Q) X.xe {s3 with heap:=s3.heap.push {cls:=.type "slice", data:=.fields #[vl,vu,.none]}};exact tail_any (ops:=[.ref s3.heap.objs.size,v]) ht hT hg (by with_unfolding_all rfl)
noncomputable def kS(xs:List V)(lo hi:Option Int):List V:=(xs.drop (HT.cx xs.length 0 lo)).take (HT.cx xs.length xs.length hi-HT.cx xs.length 0 lo)
theorem L5(xs:List V)(lo hi:Option Int):(kS xs lo hi).length<=xs.length:=by
 grind [kS]
noncomputable def Iq(K:Fg):V->Option Int->Option Int->Hp->VK->Prop:=λx lo hi H Q=>∃a xs,x=.ref a/\eK K H a xs /\
 ¬(HT.cx xs.length 0 lo=0/\HT.cx xs.length xs.length hi=xs.length)/\∀p,H p=none->Q (.ref p) (upd H p (.tup (kS xs lo hi)))
theorem ZK:rQ X (Iq X.K):=by
 intro pins s σ H x v vl vu lo hi sl Q I rx hs pl pu h;obtain⟨a,xs,rfl,hx,hw,q⟩:=h;cases rx;obtain⟨aB,r,ht,hz⟩:=I.tuple hx;have hlen:aB.toArray.size=xs.length:=by rw[w2g];exact r.length.symm
 refine⟨"tuple", _,PyProof.Rows.slot_tuple_getitem.lookup,ht.typeIs,?_⟩;refine HT.iP ht hs pl pu (by rw[hlen];exact hw) ?_ (by rw[hlen];exact hz);rw[hlen];refine⟨.ref s.heap.objs.size,_,I.laid (t':=s.toks) (o:=.tup (kS xs lo hi)) (λb ob q=>Heap.get?_push_of_some _ q) (w0c _) ?_,rfl,q _ (I.aR.fresh (w0c _))⟩
 exact⟨w0l (L5 xs lo hi) hz,_,(r.drop (HT.cx xs.length 0 lo)).take (HT.cx xs.length xs.length hi-HT.cx xs.length 0 lo),IsTup.new _ _,_,Heap.get?_push_size _ rfl,rfl⟩
noncomputable def rj(K:Fg):R2:=λx y H Q=>∃a b xs ys,x=.ref a/\y=.ref b/\eK K H a xs/\eK K H b ys/\xs≠[]/\xs.length+ys.length<=sizeLine /\
 (ys=[]->Q (.ref a) H)/\(ys≠[]->∀p,H p=none->Q (.ref p) (upd H p (.tup (xs++ys))))
theorem Vals.l5(r:Vals xs us):us=[]↔xs=[]:=by
 cases r with
 |nil=>simp
 |cons _ _=>simp
theorem tR:gT X (binaryOp .Add) (rj X.K):=by
 intro pins s σ H x y v u Q I rx ry h;obtain⟨a,b,xs,ys,rfl,rfl,ha,hb,hx,hz,q1,q2⟩:=h;cases rx;cases ry;obtain⟨aB,r1,p1,_⟩:=I.tuple ha;obtain⟨nZ,r2,p2,_⟩:=I.tuple hb;refine HT.sQ p1 p2 (λz=>hx (r1.l5.mp z)) (λz=>⟨.ref a,H,I,rfl,q1 (r2.l5.mp z)⟩) (λz=>?_) (by grind [Vals.length])
 refine⟨.ref s.heap.objs.size,_,I.laid (t':=s.toks) (o:=.tup (xs++ys)) (λb ob q=>Heap.get?_push_of_some _ q) (w0c _) ?_,rfl,q2 (λw=>z (r2.l5.mpr w)) _ (I.aR.fresh (w0c _))⟩
 exact⟨by grind,_,r1.append r2,IsTup.new _ _,_,Heap.get?_push_size _ rfl,rfl⟩
end
noncomputable def jn(n:Nat)(i:Int):Option Nat:=if 0<=i then(if i<n then some i.toNat else none)else if -(n:Int)<=i then some (i+n).toNat else none
noncomputable def cq(xs:List α)(i:Int):Option α:=(jn xs.length i).bind λj=>xs[j]?
theorem N_{i:Int}{j:Nat}(h:jn n i=some j):seqIndex? i n=some j/\j<n/\-(n:Int)<=i/\i<n:=by
 unfold jn at h
 by_cases h0:0<=i
 .rw[if_pos h0]at h
  by_cases C:i<n
  .rw[if_pos C]at h
   grind [seqIndex_of]
  grind
 .rw[if_neg h0]at h
  by_cases C:-(n:Int)<=i
  .rw[if_pos C]at h
   grind [seqIndex_neg]
  grind
theorem Jx{xs:List α}{i:Int}{v:α}(h:cq xs i=some v):∃j,seqIndex? i xs.length=some j/\xs[j]?=some v/\j<xs.length/\-(xs.length:Int)<=i/\i<xs.length:=by
 grind [cq,jn,N_]
theorem p_{xs:List α}{j:Nat}{v:α}(h:xs[j]?=some v):cq xs (j:Int)=some v:=by
 have hj:j<xs.length:=(w0b.mp h).1
 simp_all [jn,cq]
noncomputable def gA(b:Expr):Prop:=∀o i,subscripted b false o i=operate [o,i] (getItem o i)
noncomputable def rP(X:Cx)(r:R2):Prop:=
 ∀(value slice:Expr)(pins:List (Addr×Obj))(s:Shared)(σ:St)(H:Hp)(x y:V)(v u:Value)(Q:VK),Inv X pins σ H s->RelV x v->RelV y u->r x y H Q ->
  subscripted slice false v u=operate [v,u] (getItem v u)->wpAny (model X.prog X.w) X.A (subscriptTail value slice v u) (EP X pins σ Q) X.xe s
noncomputable def x_(X:Cx)(id:String)(r:V->List V->Hp->VK->Prop):Prop:=
 ∀(pins:List (Addr×Obj))(s:Shared)(σ:St)(H:Hp)(x:V)(xs:List V)(v:Value)(us:List Value)(Q:VK),Inv X pins σ H s->RelV x v->Vals xs us->r x xs H Q ->
  wpAny (model X.prog X.w) X.A (call (.builtin id) (v::us)) (EP X pins σ Q) X.xe s
section
variable{a b:Expr}{ta tb:TE}{pos:Pos}
theorem rP.or{r r':R2}(h:rP X r)(h':rP X r'):rP X (λx y H Q=>r x y H Q\/r' x y H Q):=by
 intro value slice pins s σ H x y v u Q I rx ry q hs;rcases q with q|q
 .exact h value slice pins s σ H x y v u Q I rx ry q hs
 .exact h' value slice pins s σ H x y v u Q I rx ry q hs
theorem B'{r:R2}(hr:rP X r)(ha:PE X a ta)(hb:PE X b tb)(hs:gA b):PE X (.Subscript a b pos) (B3 r ta tb):=by
 intro pins s σ H Q I h;exact Subscript_ (wa ha hb I h λv u s2 x y H2 I2 rx ry q=>hr a b pins s2 σ H2 x y v u Q I2 rx ry q (hs _ _))
noncomputable def BB(K:Fg):R2:=λx y H Q=>∃p xs i v,x=.ref p/\y=.int i/\cy K H p xs/\cq xs i=some v/\Q v H
noncomputable def BD(K:Fg):R2:=λx y H Q=>∃p xs i v,x=.ref p/\y=.int i/\eK K H p xs/\cq xs i=some v/\Q v H
noncomputable def BC:R2:=λx y H Q=>∃z i c,x=.str z/\y=.int i/\z.length<=sizeLine/\cq z.cps.toList i=some c/\Q (.str ⟨#[c]⟩) H
theorem jI:rP X (BB X.K):=by
 intro value slice pins s σ H x y v u Q I rx ry h hs;obtain⟨p,xs,i,z,rfl,rfl,hq,he,q⟩:=h;cases rx;obtain⟨t,rfl⟩:=ry;obtain⟨aB,r,pl,hz⟩:=I.list hq;obtain⟨j,C,h2,h3,h4,h5⟩:=Jx he;obtain⟨w,ew,ui⟩:=r.get h2;have hl:=r.length;have hn:=iB;have fin:EP X pins σ Q w s:=⟨z,H,I,ui,q⟩
 by_cases h0:0<=i
 .have hj:i.toNat=j:=by
   grind [seqIndex_of]
  exact item_listR pl.isList h0 (by omega) (by rw[hj];simpa using ew) fin hs
 .have hj:(i+(aB.toArray.size:Int)).toNat=j:=by
   grind [seqIndex_neg]
  exact subscriptTail_builtinR (x:=w) pl.isList.typeIs slot_list_getitem.lookup
   (wpAny_getItem_list_neg (Q:=λr s'=>r=w/\EP X pins σ Q r s') pl.isList (by omega) (by grind) (by omega) (by rw[hj];simpa using ew) ⟨rfl,fin⟩) hs
theorem wL:rP X (BD X.K):=by
 intro value slice pins s σ H x y v u Q I rx ry h hs;obtain⟨p,xs,i,z,rfl,rfl,hq,he,q⟩:=h;cases rx;obtain⟨t,rfl⟩:=ry;obtain⟨aB,r,pl,hz⟩:=I.tuple hq;obtain⟨j,C,h2,h3,h4,h5⟩:=Jx he;obtain⟨w,ew,ui⟩:=r.get h2;have hl:=r.length;have hn:=iB;have fin:EP X pins σ Q w s:=⟨z,H,I,ui,q⟩
 exact subscriptTail_builtinR (x:=w) pl.typeIs slot_tuple_getitem.lookup
  (getItem_tuple (j:=j) (Q:=λr s'=>r=w/\EP X pins σ Q r s') pl (by omega) (by omega) (by grind) (by simpa using ew) ⟨rfl,fin⟩) hs
theorem ZL:rP X BC:=by
 intro value slice pins s σ H x y v u Q I rx ry h hs;obtain⟨z,i,c,rfl,rfl,hz,he,q⟩:=h;obtain⟨t,rfl⟩:=rx;obtain⟨t',rfl⟩:=ry;obtain⟨j,C,h2,h3,h4,h5⟩:=Jx he;have hl:z.cps.toList.length=z.length:=by simp[Str.length]
 rw[hl]at C h4 h5;have hn:=iB
 exact tail_any (typeIs_str s z t) slot_str_getitem.lookup (getItem_str (c:=c) (by
  grind) (by rw[C];simpa using h2) ⟨.str ⟨#[c]⟩,H,I.tok _,⟨_,rfl⟩,q⟩) hs
noncomputable def Mb(K:Fg):R2:=λx y H Q=>BB K x y H Q\/BD K x y H Q\/BC x y H Q
theorem PJ:rP X (Mb X.K):=jI.or (wL.or ZL)
theorem UA(aB:List Value)(n j:Nat)(u:Value):Obj.mapSeq (·.setIfInBounds j u) {cls:=.type "list", data:=.seq aB.toArray n}={cls:=.type "list", data:=.seq (aB.set j u).toArray n}:=by
 simp[Obj.mapSeq]
theorem Inv.lst{p:Addr}(I:Inv X pins σ H s)(h:H p=some (.lst xs)):
  ∃(aB:List Value)(n:Nat),Vals xs aB/\s.heap.get? p=some {cls:=.type "list", data:=.seq aB.toArray n}/\xs.length<=sizeLine:=by
 obtain⟨z,aB,n,r,e⟩:=I.aR p _ h
 grind
theorem Inv.wQ{p:Addr}{ys:List V}{its':List Value}{n':Nat}{f:Obj->Obj}(I:Inv X pins σ H s)(h:H p=some (.lst xs))
  (ho:s.heap.get? p=some {cls:=.type "list", data:=.seq aB.toArray n})(hf:f {cls:=.type "list", data:=.seq aB.toArray n}={cls:=.type "list", data:=.seq its'.toArray n'})(r:Vals ys its')(hz:ys.length<=sizeLine)(t:Nat):
  Inv X pins σ (upd H p (.lst ys)) {s with heap:=s.heap.update p f,toks:=t}:=by
 have e:(s.heap.update p f).get? p=some {cls:=.type "list", data:=.seq its'.toArray n'}:=by
  rw[Heap.get?_update_self f ho (by rw[hf]<;>rfl),hf]
 refine I.write (x:=p) (e:=p) (by rw[h];trivial) (.inl rfl) (λb u hb q=>(Heap.get?_update_other _ _ (Ne.symm hb)).trans q) ⟨_,e⟩ ?_
 exact⟨hz,its',n',r,e⟩
noncomputable def vH:V->V->V->Hp->(Hp->Prop)->Prop:=λo i v H Q=>∃p xs k j,o=.ref p/\i=.int k/\H p=some (.lst xs)/\jn xs.length k=some j/\Q (upd H p (.lst (xs.set j v)))
theorem Nx:vV X vH:=by
 intro pins s σ H o i v ov iv u Q I ro ri rv h;obtain⟨p,xs,k,j,rfl,rfl,hp,hj,q⟩:=h;cases ro;obtain⟨t,rfl⟩:=ri;obtain⟨aB,n,r,ho,hz⟩:=I.lst hp;obtain⟨C,h2,h3,h4⟩:=N_ hj;have hl:=r.length;have hn:=iB
 have I':Inv X pins σ (upd H p (.lst (xs.set j v))) {s with heap:=s.heap.update p (Obj.mapSeq (·.setIfInBounds j u))}:=
  I.wQ hp ho (UA aB n j u) (r.set rv j) (by grind) s.toks
 grind [seqIndex_of,W.ki_setAt,seqIndex_neg,W.ki_setBack]
theorem Ub(lo hi:Option Int)(n:Nat):(sliceBounds lo hi none n).1=((HT.cx n 0 lo:Nat):Int)/\(sliceBounds lo hi none n).2.1=((HT.cx n n hi:Nat):Int)/\(sliceBounds lo hi none n).2.2=1:=by
 refine⟨?_,?_,rfl⟩
 .cases lo with
  |none=>simp[sliceBounds,HT.cx]
  |some i=>
   simp only[sliceBounds,HT.cx,Option.getD_none,show(1:Int)>0 by decide,if_true]
   grind
 .cases hi with
  |none=>simp[sliceBounds,HT.cx]
  |some i=>
   simp only[sliceBounds,HT.cx,Option.getD_none,show(1:Int)>0 by decide,if_true]
   grind
theorem T6(aB:List Value)(lo hi:Option Int):slicePick aB.toArray lo hi none=((aB.drop (HT.cx aB.length 0 lo)).take (HT.cx aB.length aB.length hi-HT.cx aB.length 0 lo)).toArray:=by
 obtain⟨C,h2,h3⟩:=Ub lo hi aB.toArray.size;unfold slicePick;rw[C,h2,h3];simp only[sliceRange_one,pick_run,w2g]<;>rfl
noncomputable def Io(K:Fg):V->Option Int->Option Int->Hp->VK->Prop:=λx lo hi H Q=>∃a xs,x=.ref a/\cy K H a xs/\∀p,H p=none->Q (.ref p) (upd H p (.lst (kS xs lo hi)))
theorem uk:rQ X (Io X.K):=by
 intro pins s σ H x v vl vu lo hi sl Q I rx hs pl pu h;obtain⟨a,xs,rfl,hx,q⟩:=h;cases rx;obtain⟨aB,r,ht,hz⟩:=I.list hx;have hlen:=r.length;refine⟨"list", _,slot_list_getitem.lookup,ht.isList.typeIs,?_⟩;refine wpAny_getItem_list_slice ht.isList hs pl pu .none (by simp) ?_ (by grind);rw[T6,<- hlen];refine⟨.ref s.heap.objs.size,_,I.laid (t':=s.toks) (o:=.lst (kS xs lo hi)) (λb ob q=>Heap.get?_push_of_some _ q) (w0c _) ?_,rfl,q _ (I.aR.fresh (w0c _))⟩
 exact⟨w0l (L5 xs lo hi) hz,_,0,(r.drop (HT.cx xs.length 0 lo)).take (HT.cx xs.length xs.length hi-HT.cx xs.length 0 lo),Heap.get?_push_size _ rfl⟩
theorem Uc:c9 X (.type "list") (λxs H Q=>∃p ys,xs=[.ref p]/\(cy X.K H p ys\/eK X.K H p ys)/\∀l,H l=none->Q (.ref l) (upd H l (.lst ys))):=by
 intro pins s σ H xs us Q I r h;obtain⟨p,ys,rfl,hq,q⟩:=h;obtain⟨u,rfl,rx⟩:=vals1 r;cases rx
 have fin:∀(aB:List Value),Vals ys aB->ys.length<=sizeLine->∀(h':Heap)(c':Nat),(∀b o',s.heap.get? b=some o'->h'.get? b=some o') ->
   h'.get? s.heap.objs.size=some {cls:=.type "list", dict:=none,data:=.seq aB.toArray c',slots:=#[]}->EP X pins σ Q (.ref s.heap.objs.size) {s with heap:=h'}:=λaB r' hz h' c' kp e=>
  ⟨.ref s.heap.objs.size,_,I.laid (t':=s.toks) kp (w0c _) (show aU X.prog X.w _ h' _ (.lst ys)from⟨hz,aB,c',r',e⟩),rfl,q _ (I.aR.fresh (w0c _))⟩
 rcases hq with hq|hq
 .obtain⟨aB,r',pl,hz⟩:=I.list hq;have hlen:=r'.length;obtain⟨o,ho,J,n,hd⟩:=pl.isList
  grind [call_list_seq]
 .obtain⟨aB,r',pl,hz⟩:=I.tuple hq;have hlen:=r'.length;obtain⟨o,ho,J,n,hd⟩:=pl
  grind [call_list_seq]
theorem T7:c9 X (.type "tuple") (λxs H Q=>∃p ys,xs=[.ref p]/\((cy X.K H p ys/\∀l,H l=none->Q (.ref l) (upd H l (.tup ys)))\/(eK X.K H p ys/\Q (.ref p) H))):=by
 intro pins s σ H xs us Q I r h;obtain⟨p,ys,rfl,h⟩:=h;obtain⟨u,rfl,rx⟩:=vals1 r;cases rx;rcases h with⟨hq,q⟩|⟨hq,q⟩
 .obtain⟨aB,r',pl,hz⟩:=I.list hq;have hlen:=r'.length;refine call_tuple_list pl.isList (λh' kp=>?_) (by grind)
  have I1:Inv X pins σ H {s with heap:=h'}:=I.kept (t':=s.toks) kp
  have I2:Inv X pins σ (upd H h'.objs.size (.tup ys)) {s with heap:=h'.push {cls:=.type "tuple", data:=.seq aB.toArray}}:=
   I1.laid (t':=s.toks) (λb o e=>Heap.get?_push_of_some _ e) (w0c _) (show aU X.prog X.w _ _ _ (.tup ys)from⟨hz,aB,r',IsTup.new _ _,_,Heap.get?_push_size _ rfl,rfl⟩)
  exact⟨.ref h'.objs.size,_,I2,rfl,q _ (I1.aR.fresh (w0c _))⟩
 .obtain⟨aB,r',pl,hz⟩:=I.tuple hq;exact call_tuple_same pl ⟨.ref p,H,I,rfl,q⟩
noncomputable def IK(K:Fg)(T:String)(x:V)(H:Hp):Prop:=match x with
 |.str _=>T="str"
 |.int _=>T="int"
 |.ref p=>(T="list" /\ ∃xs,cy K H p xs)\/(T="tuple" /\ ∃o,K.lookup p=some o/\o.cls=.type "tuple" /\ o.dict=none) \/
   (T="dict" /\ ((∃kvs,H p=some (.dK kvs))\/∃sh kvs kas,H p=some (.dT sh kvs kas)))\/(T="set" /\ ∃S n,H p=some (.set S n))
 |_=>False
theorem PK{T:String}{x:V}{v:Value}(I:Inv X pins σ H s)(r:RelV x v)(ty:IK X.K T x H):
  s.TypeIs v T/\∀a,v=.ref a->∃ob,s.heap.get? a=some ob/\ob.dict=none:=by
 cases x with
 |str z=>
  obtain⟨t,rfl⟩:=r;cases(show T="str" from ty)
  grind [typeIs_str]
 |int i=>
  obtain⟨t,rfl⟩:=r;cases(show T="int" from ty)
  grind [typeIs_int]
 |ref p=>
  cases r;rcases ty with⟨rfl,xs,hq⟩|⟨rfl,o,hk,J,hd⟩|⟨rfl,hk⟩|⟨rfl,S,n,hk⟩
  .obtain⟨aB,_,pl,_⟩:=I.list hq;refine⟨pl.isList.typeIs,λa e=>?_⟩
   cases e;obtain⟨o,n,e,c,hd,_⟩:=pl;exact⟨o,e,hd⟩
  .refine⟨⟨o,I.u0 p o hk,J⟩,λa e=>?_⟩
   cases e;exact⟨o,I.u0 _ o hk,hd⟩
  .have z:∃o,s.heap.get? p=some o/\o.ExactDict:=by
    rcases hk with⟨kvs,hk⟩|⟨sh,kvs,kas,hk⟩
    .obtain⟨_,_,_,_,o,_,_,e,ex,_⟩:=I.aR p _ hk;exact⟨o,e,ex⟩
    .obtain⟨_,_,_,_,_,o,_,_,e,ex,_⟩:=I.aR p _ hk;exact⟨o,e,ex⟩
   obtain⟨o,e,ex⟩:=z;refine⟨⟨o,e,ex.1⟩,λa e2=>?_⟩
   cases e2;exact⟨o,e,ex.2.1⟩
  .obtain⟨o,_,_,_,e,ex,_⟩:=I.aR p _ hk;refine⟨⟨o,e,ex.1⟩,λa e2=>?_⟩
   cases e2;exact⟨o,e,ex.2.1⟩
 |_=>exact False.elim ty
noncomputable def IA(K:Fg)(T:String)(r:V->List V->Hp->VK->Prop)(to:TE):TE:=λσ H Q=>to σ H λx H1=>IK K T x H1/\r x [] H1 Q
noncomputable def Mj(K:Fg)(T:String)(r:V->List V->Hp->VK->Prop)(to:TE)(t:TA):TE:=λσ H Q=>to σ H λx H1=>IK K T x H1/\t σ H1 λxs H2=>r x xs H2 Q
variable{o e:Expr}{es:List Expr}{to:TE}{t:TA}{name:Str}{apos cA:Pos}{T id:String}{r:V->List V->Hp->VK->Prop}
theorem ZM(pa:PlainAttrs T)(slot:Slot T name id)(Ap:typeOf (.builtin id)=pure (.type "method_descriptor"))(hm:x_ X id r)(ho:PE X o to)
  (eR:autoParam (attributeBase o name X.env (eval o X.env)=eval o X.env) jJ)(eT:autoParam ((apos.endLine==cA.line)=true) jJ):PE X (.Call (.Attribute o name apos) [] [] cA) (IA X.K T r to):=by
 intro pins s σ H Q I h;refine wpAny_Call_method0_late eR eT (bB (ho pins s σ H _ I h) λv s1 ⟨x,H1,I1,r1,ty,q1⟩=>?_)
 obtain⟨C,h2⟩:=PK I1 r1 ty;exact⟨T,id,pa,slot,Ap,C,h2,Calls.callWith_builtin rfl (PySem.evalArgs_none (hm pins s1 σ H1 x [] v [] Q I1 r1 .nil q1))⟩
theorem Qz(pa:PlainAttrs T)(slot:Slot T name id)(Ap:typeOf (.builtin id)=pure (.type "method_descriptor"))(hm:x_ X id r)(ho:PE X o to)(ha:PA X (e::es) t)
  (eR:autoParam (attributeBase o name X.env (eval o X.env)=eval o X.env) jJ)
  (lV:autoParam (((backTo cA (starEach (e::es) X.env)).all (λx=>!x.1)&&(backToKw cA (keywordEach [] X.env)).all (λx=>x.1.isSome)
   && decide ((e::es).length+([]:List Keyword).length+(if([]:List Keyword).isEmpty then 0 else 1)<30))=true) jJ)
  (eT:autoParam ((apos.endLine==cA.line)=true) jJ)(hs:autoParam (starEach (e::es) X.env=(false,eval e X.env)::starEach es X.env) jJ)(f9:autoParam ((backTo cA (starEach es X.env)).any (·.1)=false) jJ):
  PE X (.Call (.Attribute o name apos) (e::es) [] cA) (Mj X.K T r to t):=by
 intro pins s σ H Q I h;refine wpAny_Call_method_late eR lV eT rfl (bB (ho pins s σ H _ I h) λv s1 ⟨x,H1,I1,r1,ty,q1⟩=>?_)
 obtain⟨C,h2⟩:=PK I1 r1 ty;refine⟨T,id,pa,slot,Ap,C,h2,?_⟩;have hA:=ha cA pins s1 σ H1 _ I1 q1;rw[hs]at hA |-
 refine Calls.callWith_builtin (by grind) (Calls.evalArgs_plain ?_);exact bB hA λus s2 ⟨vs,H2,I2,r2,q2⟩=>hm pins s2 σ H2 x vs v us Q I2 r1 r2 q2
/- xs.append(e),list.index on a AJ tuple .. are x_ facts of 06m -/
end
noncomputable def EX(X:Cx)(id:String)(r:V->List V->Hp->VK->Prop):Prop:=
 ∀(pins:List (Addr×Obj))(s:Shared)(σ:St)(H:Hp)(x:V)(xs:List V)(v:Value)(us:List Value)(Q:VK),Inv X pins σ H s->RelV x v->Vals xs us->r x xs H Q ->
  wpAny (model X.prog X.w) X.A (call (.builtin id) (v::us)) (EP X pins σ Q) X.xe s
theorem Vals.one{x:V}(h:Vals [x] us):∃u,us=[u]/\RelV x u:=vals1 h
theorem Vals.zero:∀{us:List Value},Vals [] us->us=[]
 |_,.nil=>rfl
theorem Vals.reverse(h:Vals xs us):Vals xs.reverse us.reverse:=by
 induction h with
 |nil=>exact .nil
 |cons r t ih=>rw[w1t,w1t];exact Vals.append ih (.cons r .nil)
theorem Vals.rep(h:Vals xs us):∀k:Nat,Vals (List.replicate k xs).flatten (List.replicate k us).flatten
 |0=>.nil
 |k+1=>by
  rw[w1x,w1x,w2u,w2u];exact Vals.append h (Vals.rep h k)
theorem HD(aB:List Value):∀(k:Nat)(acc:List Value),
  List.foldl (λx1 x2=>x1++x2) acc.toArray (List.replicate k aB.toArray)=(acc++(List.replicate k aB).flatten).toArray
 |0,acc=>by simp
 |k+1,acc=>by
  have e:acc.toArray++aB.toArray=(acc++aB).toArray:=by simp
  have e2:(acc++aB)++(List.replicate k aB).flatten=acc++(List.replicate (k+1) aB).flatten:=by
   grind
  rw[<- e2,<- HD aB k (acc++aB),<- e,w1x,w1j]
section
variable{l b:Addr}{ys zs:List V}
theorem Inv.AE{its':List Value}{f:Array Value->Array Value}{t':Nat}(I:Inv X pins σ H s)(hH:H l=some (.lst xs))
  (e:s.heap.get? l=some {cls:=.type "list", data:=.seq aB.toArray n})(hf:f aB.toArray=its'.toArray)(hv:Vals ys its')(hz:ys.length<=sizeLine):
  Inv X pins σ (upd H l (.lst ys)) {s with heap:=s.heap.update l (Obj.mapSeq f),toks:=t'}:=by
 have q:=PySem.IsL.update e f;rw[hf]at q;refine I.write (x:=l) (e:=l) (by rw[hH];exact trivial) (.inl rfl) (λb' u hb hu=>(Heap.get?_update_other s.heap (Obj.mapSeq f) (Ne.symm hb)).trans hu) ⟨_,q⟩ ?_
 exact⟨hz,its',_,hv,q⟩
theorem Inv.AB{t':Nat}(I:Inv X pins σ H s)(hv:Vals ys aB)(hz:ys.length<=sizeLine):
  Inv X pins σ (upd H s.heap.objs.size (.lst ys)) {s with heap:=s.heap.push {cls:=.type "list", data:=.seq aB.toArray},toks:=t'}:=
 I.laid (λ_ _ q=>Heap.get?_push_of_some _ q) (w0c _) ⟨hz,aB,0,hv,Heap.get?_push_size _ rfl⟩
theorem Inv.fresh(I:Inv X pins σ H s):H s.heap.objs.size=none:=I.aR.fresh (w0c _)
theorem Inv.AF(I:Inv X pins σ H s)(hH:H l=some (.lst xs)):xs.length<=sizeLine/\∃(aB:List Value)(n:Nat),Vals xs aB/\xs.length=aB.length/\s.heap.get? l=some {cls:=.type "list", data:=.seq aB.toArray n}:=by
 obtain⟨z,aB,n,r,e⟩:=I.aR l _ hH
 grind [Vals.length]
theorem qP(h:n<=sizeLine):Builtin.List.listTooLong n=false:=by
 grind [Builtin.List.listTooLong]
end
noncomputable def oX:V->List V->Hp->VK->Prop:=λx vs H Q=>∃l xs y,x=.ref l/\vs=[y]/\H l=some (.lst xs)/\xs.length<sizeLine/\Q .aG (upd H l (.lst (xs++[y])))
theorem HE:EX X "list.append" oX:=by
 intro pins s σ H x vs v us Q I rx rv h;obtain⟨l,xs,y,rfl,rfl,hH,hz,q⟩:=h;cases rx;obtain⟨u,rfl,ru⟩:=rv.one;obtain⟨z,aB,n,r,hl,e⟩:=I.AF hH;refine call_meets F.slot_list_append ⟨_,e,rfl⟩ F.entry_list_append (F.args_list_append_2 _ _) (PySem.list_append l aB.toArray n u (by grind)) ⟨e,?_⟩;refine⟨.aG,_,I.AE (its':=aB++[u]) hH e (by simp) (r.append (.cons ru .nil)) ?_,rfl,q⟩
 grind
noncomputable def rA:V->List V->Hp->VK->Prop:=λx vs H Q=>∃l xs,x=.ref l/\vs=[]/\H l=some (.lst xs)/\Q .aG (upd H l (.lst xs.reverse))
theorem UB:EX X "list.reverse" rA:=by
 intro pins s σ H x vs v us Q I rx rv h;obtain⟨l,xs,rfl,rfl,hH,q⟩:=h;cases rx;have Sl:=rv.zero;subst Sl;obtain⟨z,aB,n,r,hl,e⟩:=I.AF hH;refine call_meets F.slot_list_reverse ⟨_,e,rfl⟩ F.entry_list_reverse (F.args_list_reverse_1 _) (AutoSeq1.list_reverse_list_0 l aB.toArray n (by grind)) ⟨e,?_⟩;refine⟨.aG,_,I.AE (its':=aB.reverse) hH e (by simp) r.reverse ?_,rfl,q⟩
 grind
theorem len_rep(xs:List α)(k:Nat):(List.replicate k xs).flatten.length=k*xs.length:=by
 simp_all
end L2
namespace y0
open PySem PySem.W PySem.Calls PyProof.Rows
theorem Ts{P:Params}{h:Heap}:∀(ns:List Int)(vs:List Value),WellAll P h vs (ns.map WData.int)->IntsAre vs ns:=by
 intro ns
 induction ns with
 |nil=>
  intro vs w;rw[w2i]at w;cases w;exact .nil
 |cons n ns ih=>
  intro vs w;rw[w0p]at w;cases w with
  |cons a b=>
   cases a;exact .cons _ _ (ih _ b)
theorem Vj{l:OpenLaw}{n:Nat}(hn:l.most=some n){P:Params}{h:Heap}{args:List WData}{vals:List Value}
  (tx:l.row.toRowW.claim.pre args=true)(sf:WellAll P h vals args):
  ∃a vs ns,vals=[Value.ref a]/\args=[WData.list (ns.map WData.int)]/\h.get? a=some {cls:=.type "list", data:=.seq vs.toArray}/\IntsAre vs ns/\ns.length<=n:=by
 have Se:WShape.hasAll [] args [.list .int]=true:=(pre_splitW tx).1;have J:l.pre.holds [] {args:=args}=true:=(pre_splitW tx).2;obtain⟨d,r,rfl,C,h2⟩:=hasAllW_cons Se;obtain rfl:=hasAllW_nil h2;obtain⟨xs,rfl,h3⟩:=hasW_list C;obtain⟨ns,rfl⟩:=items_int h3
 have hlen:ns.length<=n:=by
  unfold OpenLaw.pre at J
  have h4:(WTm.not (.lt (.lit (.int (n:Int))) (.len (.arg 0)))).holds [] {args:=[.list (ns.map .int)]}=true:=by
   have h4:=(holds_andW J).1
   grind
  have h5:=condW_of h4 (w_not (w_lt w_lit (w_len_list (w_arg rfl))))
  grind
 cases sf with
 |cons w1 w2=>
  cases w2;cases w1 with
  |list ho wz=>grind [Ts]
theorem Vk(l:OpenLaw)(args:List WData):l.row.toRowW.claim.post args (.bool true) args=true:=
 postW_of (r:=l.row.toRowW) (X:=(true==true))
  (show WShape.has [] (.bool true) .bool=true by first|rfl|decide|simp[WShape.has,WShape.arms,WShape.armsAll])
  (show(WTm.eq .res (.lit (.bool true))).value [] {args:=args,res:=some (.bool true),after:=args}=some (.bool (true==true))from w_eq_bool (w_res rfl) w_lit) rfl
theorem ji{l:OpenLaw}{n:Nat}{q:Program}{loose:List Str}{XP:(Str->Option Value)->Heap->Prop}{YP:World->Heap->Prop}{d:DefRec}
  (hn:l.most=some n)(wA:d.params.defaults=[])
  (call:∀(w:World)(aC aK:Shared)(mg mb:Str->Option Value)(fa:Addr)(o:Obj)(pm cd doc:Value)(a:Addr)(vs:List Value)(ns:List Int),
   Ground q loose [] XP w aC mg mb aK.heap->YP w aK.heap ->
   aK.heap.get? fa=some o->o.data=.func (docDef d.name d.params d.body d.scope pm cd doc)->aK.heap.CodeRec cd d.name->mg d.name=some (.ref fa) ->
   aK.heap.get? a=some {cls:=.type "list", data:=.seq vs.toArray}->IntsAre vs ns->ns.length<=n->aK.gens=#[] ->
   codeAny (model l.prog w) callerA (.call (.ref fa) ⟨[.ref a],[]⟩) (λr s'=>r=.ok (.ret (.bool true))/\OldK aK.heap s'.heap/\s'.os=aK.os/\AllBare s'.gens) aK):
  WalkO q loose XP YP l.row.toRowW d [] (λf vs=>PySem.call f vs):=by
 intro w aC aK mg mb G Y fa o pm cd doc dV kV ho hd dU hD hmg hg args vals as tx RX hrd sf hlo;obtain rfl:dV=.none:=Dflts.none hD wA;obtain rfl:kV=.none:=Dflts.noKw hD;obtain⟨a,vs,ns,rfl,rfl,qG,hints,hlen⟩:=Vj hn tx sf;refine enter_call (codeAny_mono (call w aC aK mg mb fa o pm cd doc a vs ns G Y ho (fd_plain hd) dU hmg qG hints hlen hg) λr s' hq=>?_)
 obtain⟨rfl,h2,h3,h4⟩:=hq;exact⟨.inl ⟨.bool true,.bool true,[],rfl,λ_=>rfl,.bool true,Vk l _,λ_=>⟨List.Pairwise.nil,λ_ hm=>(nomatch hm)⟩⟩,h2,h3,h4⟩
section
variable{prog:Program}{w:World}{A:Around}{E:Value->Shared->Prop}{s:Shared}{K:Frag}
noncomputable def ledger(h:Heap)(L d:Addr):List (Addr×Obj):=(List.range h.objs.size).filterMap λa=>if a=L\/a=d then none else(h.get? a).map λo=>(a,o)
end
end y0
namespace L2
open PySem PySem.Spec PyProof.Rows
theorem HQ:∀{vs:List Value}{ns:List Int},IntsAre vs ns->Vals (ns.map V.int) vs
 |_,_,.nil=>.nil
 |_,_,.cons n t h=>.cons ⟨t,rfl⟩ (HQ h)
noncomputable def vU(H:Hp):Prop:=∀b,H b=none\/∃o xs,H b=some (.cD o (.lst xs))
theorem Wu{P:Program}{w:World}{K:Fg}{mg mb:Str->Option Value}{CX:oo}{k:Nat}{fa a:Addr}{fd:FuncData}{x:Str}{sp:Sp}{aK:Shared}{vs:List Value}{ns:List Int}
  (KX:K.In aK.heap)(nW:aK.heap.Ns mainGlobals mg)(hb:aK.heap.Ns builtinsNs mb)(yi:∀x:Str,x≠"__name__"->mb x=bootBuiltins x)(wB:aK.heap.NoLimit)(hg:aK.gens=#[])
  (ha:aK.heap.get? a=some {cls:=.type "list", data:=.seq vs.toArray})(hi:IntsAre vs ns)(hl:ns.length<=sizeLine)(hr:bJ k callerA)
  (F:∀base:Heap,K.In base->base.Ns mainGlobals mg->fN P w K mg base CX k fa fd [x] sp)(mS:∀(s:Shared)(u:Value),BindsTo s fd ⟨[u],[]⟩ [(x,u)])
  (nA:∀H:Hp,vU H->cy K H a (ns.map V.int)->sp [.ref a] H (λv _=>v=.bl true) λ_ _ _=>False)
  (wq:∀H e s',CX [] H aK (λ_ _ _=>False) e s'->False)(zX:iD K=true):
  codeAny (model P w) callerA (.call (.ref fa) ⟨[.ref a],[]⟩) (λr s'=>r=.ok (.ret (.bool true))/\OldK aK.heap s'.heap/\s'.os=aK.os/\AllBare s'.gens) aK:=by
 have rv:=HQ hi;have Gj:=hi.length
 have core:∀H:Hp,vU H->cy K H a (ns.map V.int)->d7 P w H aK.heap->(∀b,H b≠none->b=a)->(H a≠none->K.lookup a=none) ->
   codeAny (model P w) callerA (.call (.ref fa) ⟨[.ref a],[]⟩) (λr s'=>r=.ok (.ret (.bool true))/\OldK aK.heap s'.heap/\s'.os=aK.os/\AllBare s'.gens) aK:=by
  intro H hO hS aR hA hK;have gB:∀{b:Addr}{o:Obj},aK.heap.get? b=some o->H b=none->(iy aK.heap H).get? b=some o:=λe n=>Nq e n
  have tN:∀{b:Addr}{o:Obj}{es:Array DictEntry}{ep:Nat},aK.heap.get? b=some o->o.data=.dict es ep->H b=none:=λ{b o es ep} e d=>by
   grind
  have tO:∀{b:Addr}{m:Str->Option Value},aK.heap.Ns b m->(iy aK.heap H).Ns b m:=λ{b m} ⟨o,es,ep,e,d,r⟩=>⟨o,es,ep,gB e (tN e d),d,r⟩
  have zW:K.In (iy aK.heap H):=λb o e=>gB (KX b o e) (by
   grind)
  have hM:Mod K mg (iy aK.heap H):=⟨zW,tO nW,⟨mb,tO hb,yi⟩,let ⟨mc,C,h2⟩:=wB;⟨mc,tO C,h2⟩⟩;have e0:jv P w K mg (iy aK.heap H) callerA [] aK H:=⟨rfl,hM,λb o e=>N7 e,w3k (MR _ _),trivial,λb hb=>absurd (show b∈([]:List Addr)from hb) (by simp),aR,.of_eq hg,.Tp zX⟩
  refine codeAny_mono ((F _ zW (tO nW)).run callerA [] aK H ⟨[.ref a],[]⟩ [.ref a] [.ref a] _ _ hr e0 (mS aK (.ref a)) (.cons rfl .nil) (nA H hO hS)) λr s' h=>?_
  cases r with
  |error e=>exact(wq H e s' h).elim
  |ok fl=>
   cases fl with
   |next=>exact False.elim h
   |brk=>exact False.elim h
   |cont=>exact False.elim h
   |ret u=>
    obtain⟨v,H',os,bare,un,tu,r',q⟩:=h;have q':v=.bl true:=q;subst q';obtain rfl:u=Value.bool true:=r';refine⟨rfl,OldK.of_keep λb o e=>?_,os,bare⟩
    cases q:H b with
    |none=>exact un.keep b o e q (by intro z;exact absurd (show b∈([]:List Addr)from z) (by simp)) (by simp)
    |some u=>
     rcases hO b with z|⟨ob,xs,z⟩
     .rw[q]at z;cases z
     .have z2:=un.a8 b ob _ z;obtain⟨e1,_⟩:=aR b _ z;obtain⟨e2,_⟩:=tu b _ z2
      grind
 cases hk:K.lookup a with
 |some o=>
  have e:=KX a o hk;rw[ha]at e;cases e;refine core (λ_=>none) (λ_=>.inl rfl) (.inr ⟨_,vs.toArray,_,hk,rfl,rfl,rfl,by grind,by simpa using rv⟩) (λb u z=>by grind) (λb z=>absurd rfl z) λz=>absurd rfl z
 |none=>
  refine core (λb=>if b=a then some (.cD {cls:=.type "list", data:=.seq vs.toArray} (.lst (ns.map V.int)))else none) (λb=>?_) (.inl (.inr ⟨{cls:=.type "list", data:=.seq vs.toArray},if_pos rfl⟩)) (λb u z=>?_) (λb z=>?_) λ_=>hk
  .grind
  .by_cases hb:b=a
   .have z':=(if_pos hb).symm.trans z;cases z';subst hb;exact⟨ha,by grind,vs,_,rv,ha⟩
   grind
  grind
noncomputable abbrev Kn{K:Fg}{h:Heap}(_:K.In h):Fg:=K
theorem XY{l:PySem.W.OpenLaw}{n k:Nat}{q:Program}{loose:List Str}{XP:(Str->Option Value)->Heap->Prop}{YP:World->Heap->Prop}{d:DefRec}{K:Params->Fg}{CX:World->oo}{sp:World->Sp}{x:Str}
  (hn:l.most=some n)(rZ:n<=sizeLine)(wA:d.params.defaults=[])(hr:bJ k callerA)
  (hY:∀(w:World)(h:Heap),YP w h->(K w.params).In h)
  (F:∀(w:World)(mg:Str->Option Value)(fa:Addr)(h:Heap),(K w.params).In h->h.Ns mainGlobals mg->mg d.name=some (.ref fa) ->
   ∃fd:FuncData,(∀(s:Shared)(u:Value),BindsTo s fd ⟨[u],[]⟩ [(x,u)]) /\
    ∀base:Heap,(K w.params).In base->base.Ns mainGlobals mg->fN l.prog w (K w.params) mg base (CX w) k fa fd [x] (sp w))
  (nA:∀(w:World)(H:Hp)(a:Addr)(ns:List Int),ns.length<=n->vU H->cy (K w.params) H a (ns.map V.int)->sp w [.ref a] H (λv _=>v=.bl true) λ_ _ _=>False)
  (wq:∀(w:World)(H:Hp)(s:Shared)(e:Value)(s':Shared),CX w [] H s (λ_ _ _=>False) e s'->False)(zX:∀w:World,iD (K w.params)=true):
  PySem.W.WalkO q loose XP YP l.row.toRowW d [] (λf vs=>PySem.call f vs):=by
 refine y0.ji hn wA λw aC aK mg mb fa o pm cd doc a vs ns G Y ho hd dU hmg qG hints hlen hg=>?_
 have KX:=hY w _ Y;obtain⟨fd,hb,hF⟩:=F w mg fa _ KX G.T.g hmg;exact Wu KX G.T.g G.T.b G.T.builtins G.T.nolimit hg qG hints (w0l hlen rZ) hr hF hb (λH hO hS=>nA w H a ns hlen hO hS) (λH e s'=>wq w H aK e s') (zX w)
end L2
/- THE QU Ck (shape; LID, My.* are QJ):
   My.bu: a structure of B8 addresses Th Yf Lq names (classes, yg); My.Txt K t: a structure (Prop) of B8 equations over K;
   My.xU : {K} {implicit addresses ..} (e1 : nsIn K mainGlobals "law" = some (some (.ref f))) (e2 : K.lookup f = some ⟨oc, od, .func (fnOf "law" "law" params body scope dV kV doc pm an bx ct), sl⟩) (e3 : codeIn K bx "law" = true) .. : ∃ t, My.Txt K t
set_option maxRecDepth 100000 in
set_option maxHeartbeats 0 in
theorem PySem.Challenge.sS : PySem.Challenge.xC.Holds := by
 w_on; o_law; k_head; (case hw => w_witness2)
 k_fill
 refine L2.XY (l := PySem.Challenge.xC) (n := 63) (k := 40) (x := "script") (CX := λw => ..) (sp := λ_ => My.Iw) rfl (by decide) rfl ⟨rfl, by decide, by decide⟩ (λw h Y => PySem.W.kIn_of Y) ?F ?S ?h1
 case F =>
  intro w mg fa h KX G hmg
  have T : ∃ t, My.Txt (L2.Kn KX) t := by
   dsimp only [L2.Kn]                          -- K SE Mg as «<heap const> w.params» for k_is;refine' My.xU ?e1 ?e2 ?e3 ..
   (case e1 => PySem.W.k_is)                    -- in B8 order: a name -> aB address -> aB object -> aB parts
   (case e2 => PySem.W.k_is)
   ..
  obtain ⟨t, T⟩ := T;have e0 := hmg.symm.trans (PySem.W.mg_of KX G T.Lo);cases e0                                       -- fa is B8 Lp own address;exact ⟨_, λs u => .of_eq rfl, λbase kb nb => My.n0 T kb nb⟩     -- if «.of_eq rfl» comes too early: refine' ⟨_, ?b, λbase kb nb => My.n0 T kb nb⟩; exact λs u => .of_eq rfl
 case S => exact λw H a ns hl hO hS => ..
 case h1 => exact ..
(B8 tactic k_is has no namespace: write k_is) -/
namespace L2
open PySem PySem.Spec PyProof.Rows
variable{f:Addr}{X:Cx}{fd:FuncData}{H H':Hp}{es ifs:List Expr}{ps:List Str}{pos:Pos}{K:Fg}{σ:St}{st:Stmt}{x:Str}
noncomputable def fg(s:Stmt):Arguments:=match s with
 |.FunctionDef _ a _ _ _ _ _ _ _ _=>a
 |_=>{posonlyargs:=[],args:=[],vararg:=none,kwonlyargs:=[],kw_defaults:=[],kwarg:=none,defaults:=[]}
noncomputable def bN(s:Stmt):List Stmt:=match s with
 |.FunctionDef _ _ b _ _ _ _ _ _ _=>b
 |_=>[]
noncomputable def ak(s:Stmt):Scope:=match s with
 |.FunctionDef _ _ _ _ _ _ sc _ _ _=>sc
 |_=>{kind:=.function,names:=[],isGenerator:=false,isCoroutine:=false}
noncomputable abbrev QK:oo:=λ_ _ _ _ _ _=>False
noncomputable abbrev E0:XK:=λ_ _ _=>False
structure uF(K:Fg)(x qual:Str)(st:Stmt)(f:Addr)(fd:FuncData):Prop where
 ex:∃(oc:Value)(od:Option Addr)(kV doc pm:Value)(an:Option Addr)(bx ct:Value)(tT:Array (Option Value)),
  fd=PySem.W.fnOf x qual (fg st) (bN st) (ak st) .none kV doc pm an bx ct/\K.lookup f=some ⟨oc,od,.func fd,tT⟩/\PySem.W.codeIn K bx qual=true
 kp:keepIn K (.ref f)=true
section
variable{P:Program}{w:World}{mg:Str->Option Value}{base:Heap}
theorem uF.binds{qual:Str}(F:uF K x qual st f fd)
  (h:∀(kV doc pm:Value)(an:Option Addr)(bx ct:Value)(us:List Value),us.length=ps.length->bindArgs (PySem.W.fnOf x qual (fg st) (bN st) (ak st) .none kV doc pm an bx ct) ⟨us,[]⟩=pure (ps.zip us)):Binds K fd ps []:=by
 grind [ex,Binds.all]
theorem PL{qual:Str}{oc:Value}{od an:Option Addr}{tT:Array (Option Value)}{kV doc pm bx ct:Value}(l:K.lookup f=some ⟨oc,od,.func (PySem.W.fnOf x qual (fg st) (bN st) (ak st) .none kV doc pm an bx ct),tT⟩)
  (c:PySem.W.codeIn K bx qual=true)(k:keepIn K (.ref f)=true):uF K x qual st f (PySem.W.fnOf x qual (fg st) (bN st) (ak st) .none kV doc pm an bx ct):=⟨⟨oc,od,kV,doc,pm,an,bx,ct,tT,rfl,l,c⟩,k⟩
end
theorem pv(i:Nat)(hN:autoParam (X.N[i]?=some x) jJ)(hv:autoParam (j0 X.env.scope x) jN)(hd:autoParam ((x==("__debug__":Str))=false) jK)
  (dU:autoParam ((x==("__classdict__":Str))=false) jK):PE X (.Name x pos) (pQ i):=YW hN hv hd dU
noncomputable def av(H H':Hp):Prop:=∀b o,H b=some o->H' b=some o
theorem av.refl(H:Hp):av H H:=λ_ _ h=>h
theorem av.trans{H1 H2:Hp}(a:av H H1)(b:av H1 H2):av H H2:=λc o h=>b c o (a c o h)
theorem av.free(e:av H H'){l:Addr}(h:H' l=Option.none):H l=Option.none:=by
 cases q:H l with
 |none=>rfl
 |some o=>
  rw[e l o q]at h;cases h
theorem av.seq{a:Addr}{xs:List V}(e:av H H')(h:cy K H a xs):cy K H' a xs:=by
 rcases h with(h|⟨o,h⟩)|h
 .exact .inl (.inl (e _ _ h))
 .exact .inl (.inr ⟨o,e _ _ h⟩)
 .exact .inr h
set_option maxHeartbeats 4000000
theorem aU.get(x:aU P w H h a o):∃ob,h.get? a=some ob:=by
 cases o with
 |lst xs=>obtain⟨_,_,_,_,e⟩:=x;exact⟨_,e⟩
 |tup xs=>obtain⟨_,_,_,p,_⟩:=x;obtain⟨o,e,_⟩:=p;exact⟨o,e⟩
 |dK kvs=>obtain⟨_,_,_,_,o,_,_,e,_⟩:=x;exact⟨_,e⟩
 |dT sh kvs kas=>obtain⟨_,_,_,_,_,o,_,_,e,_⟩:=x;exact⟨_,e⟩
 |set S n=>obtain⟨o,_,_,_,e,_⟩:=x;exact⟨_,e⟩
 |ins h1 dx fs=>obtain⟨_,_,_,e,_⟩:=x;exact⟨_,e⟩
 |own y=>obtain⟨_,e⟩:=x;exact⟨_,e⟩
 |xd fs=>obtain⟨_,⟨_,_,_,e,_⟩,_⟩:=x;exact⟨_,e⟩
 |Ee lo hi=>obtain⟨_,_,_,e⟩:=x;exact⟨_,e⟩
 |cD ob u=>obtain⟨e,_⟩:=x;exact⟨_,e⟩
 |nF ps=>rcases x with⟨_,_,_,_,e,_⟩|⟨_,_,_,_,_,_,_,_,_,_,_,_,e⟩<;>exact⟨_,e⟩
 |met f y=>exact⟨_,(show h.get? a=some _ from x)⟩
 |ext φ=>obtain⟨_,⟨_,e⟩,_⟩:=x;exact⟨_,e⟩
structure QP(outer:List Env)(H H':Hp)(h h':Heap)(e:Addr)(cls:Value)(B:Heap):Prop where
 fl:∃a0,Heap.FlyingW B outer e cls a0 h'
 old:∀b o,h.get? b=some o->H b=none->b∉iE outer->B.get? b=some o
 qb:∀b u o,H' b=some u->h'.get? b=some o->B.get? b=some o
 all:∀b o,h.get? b=some o->b∈iE outer\/∃o',B.get? b=some o'
 new:h.get? e=none
noncomputable def eM(P:Program)(w:World):oo:=λouter H s E ev s'=>∃(e:Addr)(cls:Value)(H':Hp)(B:Heap),
 ev=.ref e/\s'.os=s.os/\AllBare s'.gens/\Un (iE outer) [] H H' s.heap s'.heap/\d7 P w H' s'.heap/\QP outer H H' s.heap s'.heap e cls B/\E cls none H'
noncomputable def fx(CX:oo)(X:Cx)(EE:L2.St->XK):Prop:=∀(pins:List (Addr×Obj))(σ:St)(H:Hp)(s:Shared)(e:Value)(s':Shared),Inv X pins σ H s->CX X.stack H s (EE σ) e s'->X.xe e s'
theorem XZ
  (I:Inv (fX CX P w K mg base N qual scope f cd A outer aC aH E) pins σ H s)(hc:Inv (fX CX P w K mg base N qual scope f cd A outer aC aH E) pins σ H' s')
  (old:∀b o,s.heap.get? b=some o->H b=none->b∉iE (envOfC qual scope aC.heap.objs.size f cd::outer)->B.get? b=some o)
  (qb:∀b u o,H' b=some u->s'.heap.get? b=some o->B.get? b=some o)
  (all:∀b o,s.heap.get? b=some o->b∈iE (envOfC qual scope aC.heap.objs.size f cd::outer)\/∃o',B.get? b=some o')
  (new:s.heap.get? e=none)
  (fl:Heap.FlyingW B outer e cls a0 rT)(up:s'.heap.UpToSlots rT)(hE:E cls none H'):
  eM P w outer aH aC E (.ref e) {s' with heap:=rT}:=by
 have AK:∀b o,aC.heap.get? b=some o->b∉iE outer->b∉iE (envOfC qual scope aC.heap.objs.size f cd::outer):=λb o q nb hb=>by
  rcases w0m.mp (show b∈aC.heap.objs.size::iE outer from hb)with z|z
  .exact absurd (Heap.lt_size q) (by grind)
  .exact nb z
 have zQ:∀b:Addr,b∉([]:List Addr):=λb z=>nomatch z
 have slot:∀b o,aC.heap.get? b=some o->b∈iE outer->∃sl,rT.get? b=some {o with slots:=sl}:=λb o q hb=>by
  obtain⟨sl,e1⟩:=hc.base.slot b o q (hc.ok.rS b hb) hb (zQ b);obtain⟨_,o2,e2,nd⟩:=hc.gL.mem hb
  rw[e1]at e2;cases e2;obtain⟨BO,e3⟩:=up b _ e1 nd;exact⟨BO,e3⟩
 refine⟨e,cls,H',B,rfl,hc.os,hc.bare,⟨λb o q n hb hx=>?_,λb o q n hb hx=>slot b o q hb,λb o q n hx=>hc.base.free b o q n hx,λb o q hx=>?_,hc.base.i0,hc.base.a8,hc.base.gR⟩,λa o q=>?_,⟨⟨a0,fl⟩,λb o q n hb=>?_,λb u o q z=>?_,λb o q=>?_,?_⟩,hE⟩
 .exact fl.1 b o (old b o (I.base.keep b o q n hb hx) (I.base.free b o q n hx) (AK b o q hb))
 .by_cases hb:b∈iE outer
  .grind
  .obtain⟨o1,e1⟩:=I.base.there b o q hx;rcases all b o1 e1 with z|⟨o',z⟩
   .grind
   .exact⟨o',fl.1 b o' z⟩
 .refine(hc.aR a o q).fR (λb u hb z=>?_) (λ_ z=>z) λ_ _ _ z=>z
  rcases hb with rfl|hb
  .exact fl.1 _ _ (qb b o u q z)
  .exact fl.1 _ _ (qb b _ u hb z)
 .exact old b o (I.base.keep b o q n hb (zQ b)) (I.base.free b o q n (zQ b)) (AK b o q hb)
 .obtain⟨o1,e1⟩:=(hc.aR b u q).get;have e2:=qb b u o1 q e1;have e3:=fl.1 b o1 e2
  grind
 .obtain⟨o1,e1⟩:=I.base.there b o q (zQ b)
  grind
 .cases q:aC.heap.get? e with
  |none=>rfl
  |some o=>
   obtain⟨o1,e1⟩:=I.base.there e o q (zQ e)
   grind
theorem kz:fx (eM P w) (fX (eM P w) P w K mg base N qual scope f cd A outer aC aH E) (λ_=>E):=by
 intro pins σ H s ev s' I hx;obtain⟨e,cls,H',B,rfl,qH,hg,un,aR,pV,hE⟩:=hx;have hc:=I.uJ (ch:=[]) qH un aR hg (λb hb=>nomatch hb)
 obtain⟨a0,fl⟩:=pV.fl;refine wpAny_leaves_onW (base:=B) I.ok.frames rfl fl λrT Rh up=>?_
 exact XZ I hc pV.old pV.qb pV.all pV.new Rh up hE
theorem AU:fx (eM P w) X (λ_=>E0):=λ_ _ _ _ _ _ _ h=>by
 obtain⟨_,_,_,_,_,_,_,_,_,_,z⟩:=h;exact False.elim z
noncomputable def rL(sp:Sp)(sU:List V)(EE:L2.St->XK)(t:TA):TE:=λσ H Q=>t σ H λvs H1=>sp (vs++sU) H1 Q (EE σ)
section
variable{CX:oo}{k:Nat}{h1:Addr}{sp:Sp}{sU:List V}{ds:List Value}{EE:L2.St->XK}{m:Str}{p:Pos}{e o:Expr}{ta:TE}{t:TA}
theorem X0(F:fN X.prog X.w X.K X.mg X.base CX k f fd ps sp)(hr:bJ k X.A)(hb:Binds X.K fd ps ds)(hd:Vals sU ds)(hx:fx CX X EE)
  (I:Inv X pins σ H s)(r:Vals vs us)(h:sp (vs++sU) H Q (EE σ)):wpAny (model X.prog X.w) X.A (call (.ref f) us) (EP X pins σ Q) X.xe s:=by
 have r2:Vals (vs++sU) (us++ds):=r.append hd;have hl:(us++ds).length=ps.length:=by rw[<- r2.length];exact F.len _ _ _ _ h
 refine wpAny_call (codeAny_mono (F.run X.A X.stack s H ⟨us,[]⟩ (us++ds) (vs++sU) Q (EE σ) hr I.sX (hb s us I.u0 hl) r2 h) λr s' hq=>?_)
 cases r with
 |error e=>exact hx pins σ H s e s' I hq
 |ok fl=>
  cases fl with
  |ret u=>exact I.after hq
  |next=>exact False.elim hq
  |brk=>exact False.elim hq
  |cont=>exact False.elim hq
theorem Wv(F:fN X.prog X.w X.K X.mg X.base CX k f fd ps sp)(hr:bJ k X.A)(hg:Gl X x)(hm:X.mg x=some (.ref f))(hk:keepIn X.K (.ref f)=true)(hb:Binds X.K fd ps ds)(hd:Vals sU ds)(hx:fx CX X EE)
  (ha:PA X (e::es) t)(kY:autoParam ((x==("__debug__":Str))=false) jK)(he:autoParam (starEach (e::es) X.env=(false,eval e X.env)::starEach es X.env) jJ)(dJ:autoParam ((backTo pos (starEach es X.env)).any (·.1)=false) jJ):
  PE X (.Call (.Name x p) (e::es) [] pos) (rL sp sU EE t):=by
 intro pins s σ H Q I h;refine wpAny_Call_Name_kw (N8 I hg hm ?_ kY);refine PySem.W.callWith_K (h₀:=X.base) I.ok.mod.Ay hk (bB (ha pos pins s σ H _ I h) λus s1 ⟨vs,H1,I1,r,q⟩=>⟨I1.u0,?_⟩) he dJ
 grind [X0]
end
theorem uF.LA(F:uF K x qual st f fd)(S:aE N ps (ak st))(len:∀vs H Q E,sp vs H Q E->vs.length=ps.length)
  (mT:∀(bx:Value)(A:Around)(outer:List Env)(s:Shared)(H:Hp)(vs:List V)(Q:VK)(E:XK),bJ k (A.deeper (envOfC qual (ak st) s.heap.objs.size f bx))->sp vs H Q E ->
   ∃t,kN (fX (eM P w) P w K mg base N qual (ak st) f bx A outer s H E) (bN st) t/\t {nx:=λ_ H'=>Q .aG H',rt:=Q} (start N vs) H):fN P w K mg base (eM P w) (k+1) f fd ps sp:=by
 obtain⟨oc,od,kV,doc,pm,an,bx,ct,tT,rfl,lk,dU⟩:=F.ex;exact Kb lk dU S len λA outer s H vs Q E hr nA=>mT bx A outer s H vs Q E hr nA
noncomputable def zR(e:Addr)(cls:Value):HO:=.ext λh=>∃o vs,h.get? e=some o/\o.cls=cls/\o.data=.fields vs
noncomputable abbrev Cx.hn(X:Cx)(e:Addr):Cx:={X with A:=X.A.mark (some (.ref e)),calm:=false,xe:=λ_ _=>False}
structure zu(k:Nat)(A:Around):Prop where
 dp:A.depth+3*k+5<recursionLimit
 un:A.units+16*k+200<cLine
 gd:A.guards=some []
structure zi(P:Program)(w:World)(K:Fg)(mg:Str->Option Value)(base:Heap)(k:Nat)(f:Addr)(fd:FuncData)(ps:List Str)(sp:Sp):Prop where
 len:∀vs H Q E,sp vs H Q E->vs.length=ps.length
 run:∀(A:Around)(outer:List Env)(s:Shared)(H:Hp)(args:Args)(us:List Value)(vs:List V)(Q:VK),zu k A->jv P w K mg base A outer s H->BindsTo s fd args (ps.zip us)->Vals vs us->sp vs H Q E0 ->
  codeAny (model P w) A (.call (.ref f) args) (CR QK outer P w H s Q E0) s
noncomputable abbrev Cx.cp(X:Cx)(Nc:List Str)(scope:Scope)(cl:List (Str×Addr))(h1:Addr)(aC:Shared)(aH:Hp)(ex:List Addr):Cx:=
 {X with N:=Nc,aC:=aC,aH:=aH,env:=compEnvC scope cl h1 X.env,outer:=X.stack,ex:=ex,fn:=λ_=>false,pn:=[],xe:=λ_ _=>False}
theorem Hf:∀(names:List (Str×NameKind))(acc:List (Str×Addr)),(∀x∈names,x.2=.free->∃c,env.cells.lookup x.1=some c) ->
  ∃cl,(forIn names acc fun(x:Str×NameKind) (r:List (Str×Addr))=>(if(x.2==NameKind.free)=true then(cellOf env x.1 >>= λa=>pure (ForInStep.yield ((x.1,a)::r)))else pure (ForInStep.yield r):Sem (ForInStep (List (Str×Addr)))))=pure cl /\
   (∀x c,cl.lookup x=some c->acc.lookup x=some c\/env.cells.lookup x=some c)/\(∀x,((x,NameKind.free)∈names\/(acc.lookup x).isSome=true)->(cl.lookup x).isSome=true)
 |[],acc,_=>⟨acc,rfl,λx c h=>.inl h,λx h=>h.elim (λz=>nomatch z) id⟩
 |(n,k)::r,acc,h=>by
  by_cases hk:k=.free
  .subst hk;obtain⟨c,J⟩:=h (n,.free) w2c rfl;obtain⟨cl,e1,e2,e3⟩:=Hf r ((n,c)::acc) λx hx=>h x (w1a _ hx)
   refine⟨cl,?_,λx d hd=>?_,λx hx=>?_⟩
   .rw[w2e];have:cellOf env n=pure c:=by unfold cellOf;rw[J]
    grind
   all_goals grind
  .obtain⟨cl,e1,e2,e3⟩:=Hf r acc λx hx=>h x (w1a _ hx)
   grind
theorem A9(h:∀x∈scope.names,x.2=.free->∃c,env.cells.lookup x.1=some c):
  ∃cl,closureFor scope env=pure cl/\(∀x c,cl.lookup x=some c->env.cells.lookup x=some c)/\∀x,(x,NameKind.free)∈scope.names->∃c,cl.lookup x=some c:=by
 obtain⟨cl,e1,e2,e3⟩:=Hf scope.names [] h
 grind [Option.isSome_iff_exists,closureFor]
theorem LZ{env : Env} : ∀ {names : List (Str × NameKind)} {x : Str}, (∀ y ∈ names, y.2 ≠ .cell) ->
    ((names.map λ(n, k) => if (k == NameKind.free && env.scope.kind == .function && env.kindOf n == some .cell) then (n, NameKind.cell) else (n, k)).lookup x = some .cell \/
     (names.map λ(n, k) => if (k == NameKind.free && env.scope.kind == .function && env.kindOf n == some .cell) then (n, NameKind.cell) else (n, k)).lookup x = some .free) -> (x, NameKind.free) ∈ names
  | [], x, _, h => by grind
  | (n, k) :: r, x, J, h => by
    have ih := @LZ env r x λy hy => J y (w1a _ hy)
    grind
theorem MH{prog:Program}{w:World}{A:Around}{R:Result->Shared->Prop}{s:Shared}{elt target iter:Expr}{scope:Scope}{it acc:Value}{env:Env}(I:Nat->Shared->Prop)
  (turn:∀n s,I n s->wpAny (model prog w) A (pyNext it) (λr s1=>match r with
   |none=>R (.ok .next) s1
   |some v=>wpAny (model prog w) A (letOwnedTupleGo target it v) (λ_ s2=>wpAny (model prog w) A (assign target env v) (λ_ s3=>
     wpAny (model prog w) A (forIn ifs true λc r=>if r=true then do let ok <- isTrue c env (eval c env);pure (ForInStep.yield ok)else pure (ForInStep.yield r)) (λok s4=>
      if ok=true then wpAny (model prog w) A (eval elt env) (λx s5=>wpAny (model prog w) A (call (.builtin "list.append") [acc,x]) (λ_ s6=>∃m,m<n/\I m s6) (λ_ _=>False) s5) (λ_ _=>False) s4
      else ∃m,m<n/\I m s4) (λ_ _=>False) s3) (λ_ _=>False) s2) (λ_ _=>False) s1) (λ_ _=>False) s)
  (n:Nat)(h:I n s):codeAny (model prog w) A (.compLoop (.ListComp elt [⟨target,iter,ifs,0⟩] scope pos) 0 it acc env) R s:=by
 refine codeAny_loop rfl I (λn s hI=>?_) n h
 show wpAny _ A ((compTurn (.ListComp elt [⟨target,iter,ifs,0⟩] scope pos) 0 it acc env).onRaise (λx=>do noteFrame x env;theTreesLotGoes x)) _ _ s
 refine wpAny_noted ?_;rw[compTurn_list];refine wpAny_bind (wpAny_standAt (wpAny_bind (wpAny_mono (turn n s hI) (λr s1 C=>?_) λ_ _ z=>z.elim)))
 cases r with
 |none=>exact wpAny_pure C
 |some v=>
  refine wpAny_bind (wpAny_mono C (λ_ s2 h2=>?_) λ_ _ z=>z.elim)
  refine wpAny_bind (wpAny_mono h2 (λ_ s3 h3=>?_) λ_ _ z=>z.elim)
  refine wpAny_bind (wpAny_mono h3 (λok s4 h4=>?_) λ_ _ z=>z.elim)
  cases ok with
  |false=>exact wpAny_pure ⟨rfl,h4⟩
  |true=>exact wpAny_bind (wpAny_bind (wpAny_mono h4 (λx s5 h5=>wpAny_bind (wpAny_mono h5 (λ_ s6 h6=>wpAny_pure (wpAny_pure ⟨rfl,h6⟩)) λ_ _ z=>z.elim)) λ_ _ z=>z.elim))
noncomputable def pj(js:List Nat)(σ:St):St:=js.map λj=>(σ[j]?).getD none
theorem ZN{i:Nat}(h:(pj js σ)[i]?=some (some v)):∃j,js[i]?=some j/\σ[j]?=some (some v):=by
 grind [pj]
noncomputable def uH(X:Cx)(ifs:List Expr)(t:TT):Prop:=
 ∀(pins:List (Addr×Obj))(s:Shared)(σ:St)(H:Hp)(Q:Bool->Hp->Prop),Inv X pins σ H s->t σ H Q ->
  wpAny (model X.prog X.w) X.A (forIn ifs true λc r=>if r=true then do let ok <- isTrue c X.env (eval c X.env);pure (ForInStep.yield ok)else pure (ForInStep.yield r)) (TP X pins σ Q) X.xe s
noncomputable def II:TT:=λ_ H Q=>Q true H
theorem X1:uH X [] II:=λpins s σ H Q I h=>wpAny_tests_nil ⟨H,I,h⟩
noncomputable def Kp(σ aS:St):Prop:=∀(i:Nat) v,σ[i]?=some (some v)->aS[i]?=some (some v)
theorem Kp.one:Kp (List.replicate 1 none++σ) (some v::σ):=λi u h=>by
 grind
theorem Kp.two:Kp (List.replicate 2 none++σ) (some v::some u::σ):=λi w h=>by
 grind
noncomputable def lI(wi:TI)(nl:Nat)(js:List Nat)(g:TG)(tc:TT)(te:TE):TE:=λσ H Q=>wi σ H λhc H1=>∀D,H1 D=none->∃W:Nat->Nat->Hp->Prop,(∃m,W 0 m (upd H1 D (.lst [])))/\∀i m H2,W i m H2 ->
 (hc.stop i H2/\Q (.ref D) H2)\/(hc.go i H2/\∀x H3,hc.k_ i H2 x H3->g x (List.replicate nl none++pj js σ) H3 λom H4=>Kp (List.replicate nl none++pj js σ) om/\tc om H4 λb H5=>
  if b=true then te om H5 λy H6=>∃ys,H6 D=some (.lst ys)/\ys.length<sizeLine/\∃m',m'<m/\W (i+1) m' (upd H6 D (.lst (ys++[y])))else ∃m',m'<m/\W (i+1) m' H5)
section
variable{elt target iter:Expr}{scope:Scope}{wi:TI}{g:TG}{tc:TT}{te:TE}
theorem Ny
  (I:Inv X pins σ H s)(uU:∀b∈fp,ig X pins H b)(R5:∀b∈fp,∃o,s.heap.get? b=some o/\∀v,o.data≠.cell v)
  (hk:scope.kind=.function)(hU:∀y∈scope.names,y.2≠.cell)(jG:∀x c,cl.lookup x=some c->X.env.cells.lookup x=some c)(qB:∀x,(x,NameKind.free)∈scope.names->∃c,cl.lookup x=some c)
  (hj:∀(i j:Nat) y,Nf[i]?=some y->js[i]?=some j->X.N[j]?=some y)(hlen:js.length=Nf.length)
  (tf:∀y∈Nf,(y,NameKind.free)∈scope.names/\j0 X.env.scope y/\X.env.kindOf y≠some .local)
  (kl:∀y∈Nf,(relabel scope X.env).names.lookup y=some .cell\/(relabel scope X.env).names.lookup y=some .free)
  (hn:C.Ns (s.heap.objs.size+1) mC)(hs:Heap.SameBut (s.heap.objs.size+1) ((s.heap.push {cls:=.type "list", dict:=none,data:=.seq ([]:List Value).toArray}).push {cls:=.type "dict", data:=.dict #[]}) C):
  Inv (X.cp (Nl++Nf) scope cl (s.heap.objs.size+1) {s with heap:=s.heap.push {cls:=.type "list", dict:=none,data:=.seq ([]:List Value).toArray}} (upd H s.heap.objs.size (.lst [])) fp) [] (List.replicate Nl.length none++pj js σ) (upd H s.heap.objs.size (.lst [])) {s with heap:=C,toks:=tk}:=by
 have fD:H s.heap.objs.size=none:=I.aR.fresh (w0c _);have up1:∀b u,s.heap.get? b=some u->(s.heap.push {cls:=.type "list", dict:=none,data:=.seq ([]:List Value).toArray}).get? b=some u:=λb u q=>Heap.get?_push_of_some _ q
 have xN:(s.heap.push {cls:=.type "list", dict:=none,data:=.seq ([]:List Value).toArray}).objs.size=s.heap.objs.size+1:=Heap.size_push ..
 have IL:∀b u,(s.heap.push {cls:=.type "list", dict:=none,data:=.seq ([]:List Value).toArray}).get? b=some u->C.get? b=some u:=λb u q=>by
  have cY:=Heap.lt_size q;rw[xN]at cY;exact(hs.2 b (w0o cY)).trans (Heap.get?_push_of_some _ q)
 have up:∀b u,s.heap.get? b=some u->C.get? b=some u:=λb u q=>IL b u (up1 b u q)
 have SD:∀b o,s.heap.get? b=some o->b≠s.heap.objs.size:=λb o q=>w0o (Heap.lt_size q)
 have ye:∀b o,s.heap.get? b=some o->H b=none->upd H s.heap.objs.size (.lst []) b=none:=λb o q n=>by grind [aP]
 have Fs:∀x,((relabel scope X.env).names.lookup x=some .cell\/(relabel scope X.env).names.lookup x=some .free)->∃c,cl.lookup x=some c:=λx hx=>qB x (LZ hU hx)
 have FU:d7 X.prog X.w (upd H s.heap.objs.size (.lst [])) (s.heap.push {cls:=.type "list", dict:=none,data:=.seq ([]:List Value).toArray}):=
  I.aR.laid up1 (w0c _) ⟨w0q _,[],_,.nil,Heap.get?_push_size _ rfl⟩
 have cellK:∀x c,cl.lookup x=some c->∃v,s.heap.IsCell c v:=λx c e=>I.cell x c (jG x c e)
 have wj:∀c v,s.heap.IsCell c v->C.IsCell c v:=λc v ⟨o,q,r⟩=>⟨o,up _ _ q,r⟩
 refine⟨⟨I.ok.mod,hk,I.ok.glob,I.ok.blt,(by show(s.heap.push _).objs.size<=_;rw[xN];exact w0c _),λx y c e1 e2=>I.ok.inj x y c (jG x c e1) (jG y c e2),λx hx=>Fs x hx,(λx c z=>nomatch z),I.ok.hd,I.ok.frames,.inl rfl,λb hb=>⟨?_,λx c e=>?_⟩,λb o q=>?_,?_,λb o q hb=>?_,λb hb z_=>?_,?_,λb hb=>?_,(I.ok.tab.un I.base).laid fD⟩,
  rfl,I.bare,Un.kept IL,⟨mC,hn,λi y v e1 e2 e3=>?_⟩,λx c e=>?_,?_,λx c e=>?_,λp hp=>(by cases hp),FU.kept IL,?_⟩
 .obtain⟨o,q,_⟩:=R5 b hb;exact w0o (w2v (Heap.lt_size q))
 .exact(uU b hb).2.2.2.2.1 x c (jG x c e)
 .obtain⟨q1,q2⟩:=I.bs b o q
  grind
 .show X.base.objs.size<=(s.heap.push _).objs.size;rw[xN];exact Nat.le_succ_of_le (w0l I.ok.pU I.sz)
 .rcases(uU b hb).2.2.2.1 with z|z
  .exact I.ok.wY b o q z
  .obtain⟨q1,_⟩:=I.ok.bs b o q;exact absurd (Heap.lt_size q1) (w3i.mpr z)
 .rcases w0m.mp (I.kK b z_)with z|z
  .exact(uU b hb).2.1 z
  .exact(uU b hb).2.2.1 z
 .exact I.stack.of_keeps λb o q _=>⟨o,up1 _ _ q,rfl⟩
 .obtain⟨_,o,q,_⟩:=I.stack.mem hb;exact ye b o q (I.o7 b hb)
 ·-- B8 names
  have Fb:(List.replicate Nl.length none++pj js σ)[i]?=some (some v):=e2;have Co:(Nl++Nf)[i]?=some y:=e1
  by_cases hi:i<Nl.length
  .grind
  .have qE:Nl.length<=i:=w3i.mp hi;rw[w1m (by simpa using qE)]at Fb;rw[w1m qE]at Co;rw[w1n]at Fb;obtain⟨j,ej,Rf⟩:=ZN Fb;have Rw:=hj _ _ _ Co ej;obtain⟨uV,hv,R1⟩:=tf y (w0d Co);obtain⟨m,hm,hl⟩:=I.loc;obtain⟨u,r,l⟩:=hl j y v Rw Rf hv;refine⟨u,r,?_⟩;rcases l with⟨k,_⟩|⟨k,c,ec,z⟩
   .exact absurd k R1
   .obtain⟨c',Fc⟩:=qB y uV;have:=jG y c' Fc;rw[ec]at this;cases this;exact .inr ⟨kl y (w0d Co),c,Fc,wj _ _ z⟩
 .obtain⟨v,z⟩:=cellK x c e
  grind
 .show upd H s.heap.objs.size (.lst []) (s.heap.objs.size+1)=none;rw[aP (Nat.succ_ne_self _)];exact I.aR.fresh (Nat.le_succ _)
 .obtain⟨v,o,q,_⟩:=cellK x c e;exact ye c o q (I.fA x c (jG x c e))
 grind [pj]
theorem PM{aS:St}
  (I:Inv X pins σ H s)(uU:∀b∈fp,ig X pins H b)
  (hc:Inv (X.cp Nc scope cl (s.heap.objs.size+1) {s with heap:=s.heap.push {cls:=.type "list", dict:=none,data:=.seq ([]:List Value).toArray}} (upd H s.heap.objs.size (.lst [])) fp) [] aS H' s')
  (hs:Heap.SameBut (s.heap.objs.size+1) s'.heap h'):Inv X pins σ H' {s' with heap:=h'}:=by
 have fD:H s.heap.objs.size=none:=I.aR.fresh (w0c _);have up1:∀b u,s.heap.get? b=some u->(s.heap.push {cls:=.type "list", dict:=none,data:=.seq ([]:List Value).toArray}).get? b=some u:=λb u q=>Heap.get?_push_of_some _ q
 have wW:∀b o,s.heap.get? b=some o->b≠s.heap.objs.size+1:=λb o q=>w0o (w2v (Heap.lt_size q))
 have ye:∀b o,s.heap.get? b=some o->H b=none->upd H s.heap.objs.size (.lst []) b=none:=λb o q n=>by rw[aP (w0o (Heap.lt_size q))];exact n
 have old:∀b u,H b=some u->upd H s.heap.objs.size (.lst []) b=some u:=λb u q=>by rw[aP (jf q fD)];exact q
 have B:Un (iE X.stack) fp (upd H s.heap.objs.size (.lst [])) H' (s.heap.push {cls:=.type "list", dict:=none,data:=.seq ([]:List Value).toArray}) s'.heap:=hc.base;have hC:H' (s.heap.objs.size+1)=none:=hc.free;refine I.uJ (s':={s' with heap:=h'}) (ch:=fp) (hc.os.trans rfl) ⟨λb o q n hb hx=>?_,λb o q n hb hx=>?_,λb o q n hx=>B.free b o (up1 _ _ q) (ye b o q n) hx,λb o q hx=>?_,λb xs q=>B.i0 b xs (old _ _ q),λb o u q=>B.a8 b o u (old _ _ q),λb ps q=>B.gR b ps (old _ _ q)⟩ (λa o q=>?_) hc.bare λb hb=>?_
 .exact(hs.2 b (wW b o q)).trans (B.keep b o (up1 _ _ q) (ye b o q n) hb hx)
 .obtain⟨sl,z⟩:=B.slot b o (up1 _ _ q) (ye b o q n) hb hx;exact⟨sl,(hs.2 b (wW b o q)).trans z⟩
 .obtain⟨o',z⟩:=B.there b o (up1 _ _ q) hx;exact⟨o',(hs.2 b (wW b o q)).trans z⟩
 .refine(hc.aR a o q).fR (λc v J z=>(hs.2 c ?_).trans z) (λ_ z=>z) λ_ _ _ z=>z
  grind
 .obtain⟨_,f1,f2,f3,f4,f5⟩:=uU b hb
  grind
theorem X2{Nl Nf:List Str}{js:List Nat}(J:X.calm=true)(hi:PI X target iter wi)
  (hk:scope.kind=.function)(hU:∀y∈scope.names,y.2≠.cell)(nU:∀x∈scope.names,x.2=.local->scope.names.lookup x.1=some .local)
  (cG:∀x∈scope.names,x.2=.free->X.env.kindOf x.1=some .cell\/X.env.kindOf x.1=some .free)
  (hj:∀(i j:Nat) y,Nf[i]?=some y->js[i]?=some j->X.N[j]?=some y)(hlen:js.length=Nf.length)
  (tf:∀y∈Nf,(y,NameKind.free)∈scope.names/\j0 X.env.scope y/\X.env.kindOf y≠some .local)
  (kl:∀y∈Nf,(relabel scope X.env).names.lookup y=some .cell\/(relabel scope X.env).names.lookup y=some .free)
  (hg:∀cl h1 aC aH ex,PG (X.cp (Nl++Nf) scope cl h1 aC aH ex) target g)(ht:∀cl h1 aC aH ex,uH (X.cp (Nl++Nf) scope cl h1 aC aH ex) ifs tc)(he:∀cl h1 aC aH ex,PE (X.cp (Nl++Nf) scope cl h1 aC aH ex) elt te)
  (hs:∀x,foldedSetIterable iter X.env x=pure x:=by intro _;rfl):
  PE X (.ListComp elt [⟨target,iter,ifs,0⟩] scope pos) (lI wi Nl.length js g tc te):=by
 intro pins s σ H Q I h;obtain⟨cl,eS,jG,qB⟩:=A9 (scope:=scope) (env:=X.env) λx hx hf=>I.ok.has x.1 (cG x hx hf)
 rw[eval_ListComp];refine wpAny_comprehension_free (use:=none) rfl hs eS hk nU (bB (hi pins s σ H _ I h) λv s1 C=>bB C λCB s2 h2=>?_)
 obtain⟨it,fp,tn,hc,H2,e,I2,T,xJ,f2,rd⟩:=h2;subst e;refine wpAny_newObj_type (wpAny_newFunctionEnv hU (by intro y hy;simp at hy) (λfP iA fk=>?_) hk)
 dsimp only at iA fk |-
 have xN:(s2.heap.push {cls:=.type "list", dict:=none,data:=.seq ([]:List Value).toArray}).objs.size=s2.heap.objs.size+1:=Heap.size_push ..;rw[xN]at iA fk |-
 have fD:H2 s2.heap.objs.size=none:=I2.aR.fresh (w0c _);obtain⟨W,⟨m0,w0⟩,turn⟩:=rd s2.heap.objs.size fD;have qQ:=T.obj 0 s2.heap xJ;have IS:=Ny (Nl:=Nl) (Nf:=Nf) (js:=js) (cl:=cl) (tk:=s2.toks+([]:List (Str×Value)).length) I2 f2 qQ hk hU jG qB hj hlen tf kl iA fk
 have IM:∀b u,s2.heap.get? b=some u->fP.get? b=some u:=λb u q=>by
  have cY:=Heap.lt_size q;exact(fk.2 b (w0o (w2v cY))).trans (Heap.get?_push_of_some _ (Heap.get?_push_of_some _ q))
 have BS:tn 0 fP:=T.keep 0 s2.heap fP xJ λb hb o q=>IM b o q
 have Gs:∀b∈fp,upd H2 s2.heap.objs.size (.lst []) b=none:=λb hb=>by
  obtain⟨o,q,_⟩:=qQ b hb;rw[aP (w0o (Heap.lt_size q))];exact(f2 b hb).1
 have kJ:∀{H':Hp},(∀b∈fp,H' b=none)->∀b∈fp,ig (X.cp (Nl++Nf) scope cl (s2.heap.objs.size+1) {s2 with heap:=s2.heap.push {cls:=.type "list", dict:=none,data:=.seq ([]:List Value).toArray}} (upd H2 s2.heap.objs.size (.lst [])) fp) [] H' b:=λhn b hb=>by
  refine⟨hn b hb,(IS.ok.Cq b hb).1,IS.ok.sY b hb,.inl hb,(IS.ok.Cq b hb).2,λp hp=>(by cases hp)⟩
 have loop:∀s4:Shared,s4={s2 with heap:=fP,toks:=s2.toks+([]:List (Str×Value)).length} ->
   codeAny (model X.prog X.w) X.A (.compLoop (.ListComp elt [⟨target,iter,ifs,0⟩] scope pos) 0 (.ref it) (.ref s2.heap.objs.size) (compEnvC scope cl (s2.heap.objs.size+1) X.env))
    (compPost (model X.prog X.w) X.A X.xe none (EP X pins σ Q) (.ref s2.heap.objs.size) (s2.heap.objs.size+1)) s4:=by
  rintro s4 rfl;refine MH (λn s'=>∃i H',Inv (X.cp (Nl++Nf) scope cl (s2.heap.objs.size+1) {s2 with heap:=s2.heap.push {cls:=.type "list", dict:=none,data:=.seq ([]:List Value).toArray}} (upd H2 s2.heap.objs.size (.lst [])) fp) [] (List.replicate Nl.length none++pj js σ) H' s'/\tn i s'.heap/\(∀b∈fp,H' b=none)/\W i n H') ?_ m0 ⟨0,_,IS,BS,Gs,w0⟩
  rintro n s3 ⟨i,H3,I3,vM,uP,w3⟩;rcases turn i n H3 w3 with⟨stop,qn⟩|⟨go,step⟩
  .refine bB (T.done (X.cp (Nl++Nf) scope cl (s2.heap.objs.size+1) {s2 with heap:=s2.heap.push {cls:=.type "list", dict:=none,data:=.seq ([]:List Value).toArray}} (upd H2 s2.heap.objs.size (.lst [])) fp) rfl rfl rfl J i [] s3 _ H3 _ I3 (kJ uP) vM stop) λr s5 ⟨hr,I5⟩=>?_
   subst hr;obtain⟨m5,FN,_⟩:=I5.loc;refine⟨m5,FN,λh' tE=>⟨.ref s2.heap.objs.size,H3,PM I2 f2 I5 tE,rfl,qn⟩⟩
  .refine bB (T.item (X.cp (Nl++Nf) scope cl (s2.heap.objs.size+1) {s2 with heap:=s2.heap.push {cls:=.type "list", dict:=none,data:=.seq ([]:List Value).toArray}} (upd H2 s2.heap.objs.size (.lst [])) fp) rfl rfl rfl J i [] s3 _ H3 _ I3 (kJ uP) vM go) λr s5 ⟨u,hr,h5⟩=>?_
   subst hr;refine bB h5 λ_ s6 ⟨x,H6,I6,r6,y6,xK,Fm⟩=>?_
   have ES:=I6.pinned (kJ Fm) (T.obj _ _ xK);refine bB (hg _ _ _ _ _ _ s6 _ H6 x u _ ES r6 (step x H6 y6)) λ_ s7 ⟨mv,H7,I7,kp,q7⟩=>?_
   refine bB (ht _ _ _ _ _ _ s7 mv H7 _ I7 q7) λok s8 ⟨H8,I8,q8⟩=>?_
   have again:∀{xZ:St}{H9:Hp}{s9:Shared},Inv (X.cp (Nl++Nf) scope cl (s2.heap.objs.size+1) {s2 with heap:=s2.heap.push {cls:=.type "list", dict:=none,data:=.seq ([]:List Value).toArray}} (upd H2 s2.heap.objs.size (.lst [])) fp) ([]++jc fp s6.heap) xZ H9 s9 ->
     Kp (List.replicate Nl.length none++pj js σ) xZ->(∃m',m'<n/\W (i+1) m' H9)->∃m,m<n/\∃i H',Inv (X.cp (Nl++Nf) scope cl (s2.heap.objs.size+1) {s2 with heap:=s2.heap.push {cls:=.type "list", dict:=none,data:=.seq ([]:List Value).toArray}} (upd H2 s2.heap.objs.size (.lst [])) fp) [] (List.replicate Nl.length none++pj js σ) H' s9/\tn i s9.heap/\(∀b∈fp,H' b=none)/\W i m H':=λ{xZ H9 s9} I9 hw ⟨m',hm,w9⟩=>by
    refine⟨m',hm,i+1,H9,I9.eZ.weak (by rw[I9.len,<- IS.len]) hw,T.keep _ _ _ xK λb hb o q=>(I9.pin (b,o) (w0h _ (w0h _ (xb hb q)))).1,λb hb=>?_,w9⟩
    obtain⟨o,q,d⟩:=T.obj _ _ xK b hb;exact(I9.pin (b,o) (w0h _ (w0h _ (xb hb q)))).2.1
   cases ok with
   |false=>exact again I8 kp (by simpa using q8)
   |true=>
    have HJ:=by simpa only[if_true]using q8
    refine bB (he _ _ _ _ _ _ s8 mv H8 _ I8 HJ) λy s9 ⟨yv,H9,I9,r9,ys,hD,hz,q9⟩=>?_
    refine bB (HE _ s9 mv H9 (.ref s2.heap.objs.size) [yv] (.ref s2.heap.objs.size) [y] (λv H'=>v=.aG/\H'=upd H9 s2.heap.objs.size (.lst (ys++[yv]))) I9 rfl (.cons r9 .nil) ⟨_,ys,yv,rfl,rfl,hD,hz,rfl,rfl⟩) λ_ S4 ⟨_,QR,ER,_,_,E_⟩=>?_
    subst E_;exact again ER kp q9
 exact codeAny_compStart_list (loop _ rfl) (T.self X.A 0 _ _ _ BS (loop _ rfl))
end
theorem Hg{env:Env}:∀{names:List (Str×NameKind)}{x:Str},names.lookup x=some .free ->
  (names.map fun(n,k)=>if(k==NameKind.free&&env.scope.kind==.function&&env.kindOf n==some .cell)then(n,NameKind.cell)else(n,k)).lookup x=some .cell \/
  (names.map fun(n,k)=>if(k==NameKind.free&&env.scope.kind==.function&&env.kindOf n==some .cell)then(n,NameKind.cell)else(n,k)).lookup x=some .free
 |[],x,h=>by cases h
 |(n,k)::r,x,h=>by
  have ih:=@Hg env r x
  grind
noncomputable def c0(sc scope:Scope)(N Nf:List Str)(js:List Nat):Bool:=
 scope.kind==.function&&scope.names.all (λy=>y.2 != .cell)&&scope.names.all (λy=>y.2 != .local||scope.names.lookup y.1==some .local) &&
 scope.names.all (λy=>y.2 != .free||sc.names.lookup y.1==some .cell||sc.names.lookup y.1==some .free)&&js.length==Nf.length &&
 (List.range js.length).all (λi=>match js[i]?,Nf[i]? with|some j,some y=>N[j]?==some y|_,_=>true) &&
 Nf.all (λy=>scope.names.lookup y==some .free&&(sc.names.lookup y==some .cell||sc.names.lookup y==some .free))
theorem Nz{elt target iter:Expr}{scope sc:Scope}{wi:TI}{g:TG}{tc:TT}{te:TE}{Nl Nf N:List Str}{js:List Nat}(J:X.calm=true)(hi:PI X target iter wi)
  (ok:c0 sc scope N Nf js=true)
  (hg:∀cl h1 aC aH ex,PG (X.cp (Nl++Nf) scope cl h1 aC aH ex) target g)(ht:∀cl h1 aC aH ex,uH (X.cp (Nl++Nf) scope cl h1 aC aH ex) ifs tc)(he:∀cl h1 aC aH ex,PE (X.cp (Nl++Nf) scope cl h1 aC aH ex) elt te)
  (kj:autoParam (X.env.scope=sc) jJ)(hN:autoParam (X.N=N) jJ)(hs:∀x,foldedSetIterable iter X.env x=pure x:=by intro _;rfl):
  PE X (.ListComp elt [⟨target,iter,ifs,0⟩] scope pos) (lI wi Nl.length js g tc te):=by
 unfold c0 at ok;simp only[w0v,w0u,beq_iff_eq,bne_iff_ne,w2o,w1c]at ok;obtain⟨⟨⟨⟨⟨⟨k1,k2⟩,k3⟩,k4⟩,k5⟩,k6⟩,k7⟩:=ok;have kind:∀x,X.env.kindOf x=sc.names.lookup x:=λx=>by rw[<- kj];rfl
 refine X2 J hi k1 k2 (λx hx hl=>(k3 x hx).resolve_left λz=>z hl) (λx hx hf=>?_) (λi j y e1 e2=>?_) k5 (λy hy=>?_) (λy hy=>?_) hg ht he hs
 .grind
 .grind
 .obtain⟨z1,z2⟩:=k7 y hy;refine⟨PySem.mem_of_lookup z1,?_,?_⟩
  .rw[kj];rcases z2 with z|z
   .exact .inr (.inl z)
   .exact .inr (.inr z)
  grind
 .exact Hg (k7 y hy).1
abbrev TF:=Str->St->Hp->(Str->Hp->Prop)->Prop
noncomputable def PF(X:Cx)(es:List Expr)(t:TF):Prop:=∀(acc:Str)(pins:List (Addr×Obj))(s:Shared)(σ:St)(H:Hp)(Q:Str->Hp->Prop),Inv X pins σ H s->t acc σ H Q ->
 Joins (model X.prog X.w) X.A X.xe (evalEach es X.env) acc (λout s'=>out.length<=sizeLine/\∃H',Inv X pins σ H' s'/\Q out H') s
theorem Ww(J:X.calm=true):c9 X (.builtin "all") (λxs H Q=>∃p ys,xs=[.ref p]/\cy X.K H p ys/\(∀y∈ys,∃b,y=.bl b)/\Q (.bl (ys.all λy=>decide (y=.bl true))) H):=by
 intro pins s σ H xs us Q I r h;obtain⟨p,ys,rfl,hq,hb,q⟩:=h;obtain⟨u,rfl,rx⟩:=vals1 r;cases rx;obtain⟨aB,r',pl,hz⟩:=I.list hq;have hl:=pl.isList;have cY:p<s.heap.objs.size:=by obtain⟨_,e,_⟩:=hl;exact Heap.lt_size e
 have hh:X.A.in1.handled=none:=I.ok.hd J;refine call_all_walk (wpAny_pyIter_list hl ⟨s.heap.objs.size,[s.heap.objs.size,p],[s.heap.objs.size],_,_,_,λi=>decide (ys[i]?=some (.bl true)),rfl,Walks.list hh s.heap.objs.size p (w0o cY) aB.toArray,⟨⟨_,Heap.get?_push_size _ rfl,rfl,rfl⟩,hl.push _⟩,?_,λh' tk kp=>?_⟩)
 .intro i v s1 Q1 E1 hv hQ;have yn:aB[i]?=some v:=by simpa using hv
  have hi:i<ys.length:=by grind [Vals.length]
  obtain⟨u,hu,ru⟩:=r'.get (w0j hi);rw[yn]at hu;cases hu;obtain⟨b,eb⟩:=hb ys[i] (w1h hi);rw[eb]at ru;cases ru;refine wpAny_truthy_bool ?_
  simp_all
 .have e:(List.range aB.toArray.size).all (λi=>decide (ys[i]?=some (V.bl true)))=ys.all λy=>decide (y=.bl true):=by
   rw[w2p,w0u,w0u];constructor
   .intro hA y hy;obtain⟨i,hi,rfl⟩:=w1y hy;have z:=hA i (by grind [Vals.length])
    grind
   grind [Vals.length,List.getElem_mem]
  refine⟨.bl _,H,I.kept (t':=tk) λb o uR=>kp b o (λz=>?_) (Heap.get?_push_of_some _ uR),rfl,e ▸ q⟩
  rw[w0t]at z;exact absurd (Heap.lt_size uR) (by grind)
namespace sM
variable{X:Cx}{e:Expr}{EE:L2.St->XK}{es:List Expr}{ps:List Str}{pos:Pos}{K:Fg}{x:Str}
theorem AN:typeLookup (.type "list_reverseiterator") "__len__"=pure none:=by rw[typeLookup_type,builtinLookup_eq_fast];kernel_rfl
theorem hint:typeLookup (.type "list_reverseiterator") "__length_hint__"=pure (some (.builtin "list_reverseiterator.__length_hint__")):=by rw[typeLookup_type,builtinLookup_eq_fast];kernel_rfl
open AutoSeq1 (wpAny_loadPart')
end sM
open PySem PySem.Spec PyProof.Rows
structure EO(K:Fg)(D:Addr):Prop where
 ga:findIn K (.ref D) "__getattribute__"=some (some (.builtin "BaseException.__getattribute__"))
 gt:findIn K (.ref D) "__getattr__"=some none
 cl:findIn K (.ref D) "__class__"=some (some (.builtin "object.__class__"))
 gs:specialIn K (.builtin "object.__class__") "__get__"=some (some (.builtin "getset_descriptor.__get__"))
 tk:PySem.W.takesIn K (.builtin "object.__class__")=some true
 mo:mroIn K D (.type "object")=some true
 mb:mroIn K D (.type "BaseException")=some true
 cd:(PySem.W.clsIn K D).isSome=true
structure bZ(P:Program)(w:World)(K:Fg)(mg:Str->Option Value)(base:Heap)(k:Nat)(x:Str)(ps:List Str)(sp:Sp):Prop where
 ex:∃f fd,fN P w K mg base (eM P w) k f fd ps sp/\mg x=some (.ref f)/\keepIn K (.ref f)=true/\Binds K fd ps []
structure QL(P:Program)(w:World)(K:Fg)(mg:Str->Option Value)(base:Heap)(k:Nat)(x:Str)(ps:List Str)(sp:Sp):Prop where
 ex:∃f fd,zi P w K mg base k f fd ps sp/\mg x=some (.ref f)/\keepIn K (.ref f)=true/\Binds K fd ps []
structure At(K:Fg)(mg:Str->Option Value)(x:Str)(st:Stmt)(ps:List Str):Prop where
 ex:∃f fd,uF K x x st f fd/\mg x=some (.ref f)/\Binds K fd ps []
theorem At.Q0{st:Stmt}(F:At K mg x st ps)(S:aE N ps (ak st))(len:∀vs H Q E,sp vs H Q E->vs.length=ps.length)
  (mT:∀(f:Addr)(bx:Value)(A:Around)(outer:List Env)(s:Shared)(H:Hp)(vs:List V)(Q:VK)(E:XK),bJ k (A.deeper (envOfC x (ak st) s.heap.objs.size f bx))->sp vs H Q E ->
   ∃t,kN (fX (eM P w) P w K mg base N x (ak st) f bx A outer s H E) (bN st) t/\t {nx:=λ_ H'=>Q .aG H',rt:=Q} (start N vs) H):bZ P w K mg base (k+1) x ps sp:=by
 obtain⟨f,fd,F,m,b⟩:=F.ex;exact⟨f,fd,F.LA S len (mT f),m,F.kp,b⟩
section
variable{k:Nat}{sp:Sp}{p:Pos}{t:TA}
theorem PN(h1:bZ X.prog X.w X.K X.mg X.base k x ps sp)(hr:bJ k X.A)(hx:fx (eM X.prog X.w) X EE)(ha:PA X (e::es) t)(hg:autoParam (Gl X x) jJ)
  (kY:autoParam ((x==("__debug__":Str))=false) jK)(he:autoParam (starEach (e::es) X.env=(false,eval e X.env)::starEach es X.env) jJ)(dJ:autoParam ((backTo pos (starEach es X.env)).any (·.1)=false) jJ):
  PE X (.Call (.Name x p) (e::es) [] pos) (rL sp [] EE t):=by
 obtain⟨f,fd,F,m,kp,b⟩:=h1.ex;exact Wv F hr hg m kp b .nil hx ha kY he dJ
end
section
variable{te:TE}{t:TA}{pos' p:Pos}
theorem vB(i:Nat)(hN:X.N.Nodup)(he:PE X e te)(hi:autoParam (X.N[i]?=some x) jJ)(hx:autoParam (Loc X.env.scope x) jM)(hs:autoParam (swapsWith e (some (.Name x pos')) pos.line X.env=pure false) jJ)(hf:autoParam (X.fn x=true\/X.env.scope.names.lookup x=some .local) jL):
  PS X (.Assign [.Name x pos'] e pos) (rK te (bS i)):=Y4 hN hi hx he hs hf
theorem mz(i:Nat)(hN:X.N.Nodup)(hi:autoParam (X.N[i]?=some x) jJ)(hx:autoParam (Loc X.env.scope x) jM)(hf:autoParam (X.fn x=true\/X.env.scope.names.lookup x=some .local) jL):PG X (.Name x pos) (bS i):=XQ hN hi hx hf
theorem ZO{o:Expr}{to:TE}{apos:Pos}(ho:PE X o to)(ha:PA X (e::es) t)(eR:autoParam (attributeBase o "append" X.env (eval o X.env)=eval o X.env) jJ)
  (lV:autoParam (((backTo pos (starEach (e::es) X.env)).all (λx=>!x.1)&&(backToKw pos (keywordEach [] X.env)).all (λx=>x.1.isSome)&&decide ((e::es).length+([]:List Keyword).length+(if([]:List Keyword).isEmpty then 0 else 1)<30))=true) jJ)
  (eT:autoParam ((apos.endLine==pos.line)=true) jJ)(hs:autoParam (starEach (e::es) X.env=(false,eval e X.env)::starEach es X.env) jJ)(f9:autoParam ((backTo pos (starEach es X.env)).any (·.1)=false) jJ):
  PE X (.Call (.Attribute o "append" apos) (e::es) [] pos) (Mj X.K "list" oX to t):=Qz PySem.F.plainAttrs_list PySem.F.slot_list_append PySem.F.type_list_append HE ho ha eR lV eT hs f9
end
theorem sv(h:H p=none)(o):av H (upd H p o):=λb u q=>by rw[aP (jf q h)];exact q
theorem av.tup(e:av H H')(h:eK K H a xs):eK K H' a xs:=by
 rcases h with(h|⟨o,h⟩)|h
 .exact .inl (.inl (e _ _ h))
 .exact .inl (.inr ⟨o,e _ _ h⟩)
 .exact .inr h
noncomputable abbrev rB(o:Obj):HO:=.cD o (.own 0)
noncomputable abbrev pW(o:Obj)(q:Str)(c:Addr):HO:=.cD o (.nF #[.bool false,.str q 0,.ref c])
noncomputable abbrev lR(o:Obj):HO:=.cD o (.ext λ_=>True)
noncomputable abbrev Cs:=List (Addr×Obj)
noncomputable def c7(H:Hp)(cs:Cs):Hp:=λb=>match cs.lookup b with
 |some _=>none
 |none=>H b
noncomputable def b9(H:Hp)(cs:Cs):Hp:=λb=>match cs.lookup b with
 |some o=>some (lR o)
 |none=>H b
theorem xu(h:cs.lookup b=some o):c7 H cs b=none:=by unfold c7;rw[h]
theorem nC(h:cs.lookup b=none):c7 H cs b=H b:=by unfold c7;rw[h]
theorem pJ(h:cs.lookup b=some o):b9 H cs b=some (lR o):=by unfold b9;rw[h]
theorem iV(h:cs.lookup b=none):b9 H cs b=H b:=by unfold b9;rw[h]
theorem Bb(h:H b=none):c7 H cs b=none:=by grind [c7]
noncomputable def bD(H:Hp)(cs:Cs):Prop:=∀b o,cs.lookup b=some o->H b=some (lR o)
theorem bD.out(c:bD H cs)(h:H b=none):cs.lookup b=none:=by
 cases q:cs.lookup b with
 |none=>rfl
 |some o=>rw[c b o q]at h;cases h
theorem bD.w5(c:bD H cs)(h:H b=some u)(n:∀o,u≠lR o):cs.lookup b=none:=by
 cases q:cs.lookup b with
 |none=>rfl
 |some o=>rw[c b o q]at h;grind
theorem bD.c8(c:bD H cs)(h:H b=some u)(n:∀o,u≠lR o):c7 H cs b=some u:=by rw[nC (c.w5 h n)];exact h
theorem J_(h:c7 H cs b=some u):H b=some u/\cs.lookup b=none:=by
 grind [c7]
theorem L6(t:ee u):∀o,u≠lR o:=λo z=>by subst z;exact t
theorem d7.rm(x:d7 P w H h)(c:bD H cs):d7 P w (c7 H cs) h:=λa u e=>by
 obtain⟨e1,_⟩:=J_ e;exact(x a u e1).fR (λb v _ q=>q) (λb q=>c.c8 q λo z=>nomatch z) λb v t q=>c.c8 q (L6 t)
theorem d7.add(x:d7 P w H h)(J:∀b o,cs.lookup b=some o->H b=none/\h.get? b=some o):d7 P w (b9 H cs) h:=λa u e=>by
 cases q:cs.lookup a with
 |some o=>
  rw[pJ q]at e;cases e;exact⟨(J a o q).2,trivial,⟨o,(J a o q).2⟩,λ_ _ _ _=>trivial⟩
 |none=>
  rw[iV q]at e
  have out:∀b v,H b=some v->b9 H cs b=some v:=λb v z=>by
   cases q2:cs.lookup b with
   |some o=>grind
   |none=>grind [iV]
  exact(x a u e).fR (λb v _ q=>q) (λb q=>out b _ q) λb v t q=>out b v q
theorem X3(x:d7 P w H h)(e:H f=some (pW o q c)):h.get? f=some o/\h.CodeRec (.ref c) q:=by
 obtain⟨C,h2⟩:=(show h.get? f=some o/\aU P w H h f (.nF #[.bool false,.str q 0,.ref c])from x f _ e);refine⟨C,?_⟩;rcases h2 with⟨_,_,p0,_⟩|⟨q',c',oc,ob,vs,t,_,p1,p2,h3,h4,h5,_⟩
 .cases p0
 .cases p1;cases p2;exact⟨c,oc,vs,t,rfl,(show h.get? c=some oc/\_ from x c _ h3).1,h4,h5⟩
theorem Un.cells(u:Un fs ex (c7 H cs) H' h h')(c:bD H cs):Un fs ex H (b9 H' cs) h h' where
 keep:=λb o q n hb hx=>u.keep b o q (Bb n) hb hx
 slot:=λb o q n hb hx=>u.slot b o q (Bb n) hb hx
 free:=λb o q n hx=>by rw[iV (c.out n)];exact u.free b o q (Bb n) hx
 there:=u.there
 i0:=λb xs q=>by
  have z:=c.w5 q λo z=>nomatch z
  rw[iV z];exact u.i0 b xs (by rw[nC z];exact q)
 a8:=λb o v q=>by
  cases z:cs.lookup b with
  |some o'=>
   rw[pJ z];rw[c b o' z]at q;exact q
  |none=>rw[iV z];exact u.a8 b o v (by rw[nC z];exact q)
 gR:=λb ps q=>by
  have z:=c.w5 q λo z=>nomatch z
  rw[iV z];exact u.gR b ps (by rw[nC z];exact q)
theorem Un.gE(u:Un fs ex (b9 H cs) H' h h')(aR:d7 P w H' h')(J:∀b o,cs.lookup b=some o->H b=none/\h.get? b=some o):Un fs ex H (c7 H' cs) h h':=by
 have jH:∀b o,cs.lookup b=some o->H' b=some (lR o)/\h'.get? b=some o:=λb o z=>by
  have q:=u.a8 b o _ (pJ z);exact⟨q,(show h'.get? b=some o/\_ from aR b _ q).1⟩
 refine⟨λb o q n hb hx=>?_,λb o q n hb hx=>?_,λb o q n hx=>?_,u.there,λb xs q=>?_,λb o v q=>?_,λb ps q=>?_⟩
 .cases z:cs.lookup b with
  |some o'=>
   grind
  |none=>exact u.keep b o q (by rw[iV z];exact n) hb hx
 .cases z:cs.lookup b with
  |some o'=>
   have:=(J b o' z).2;rw[q]at this;cases this;exact⟨o.slots,(jH b _ z).2⟩
  |none=>exact u.slot b o q (by rw[iV z];exact n) hb hx
 .cases z:cs.lookup b with
  |some o'=>exact xu z
  |none=>rw[nC z];exact u.free b o q (by rw[iV z];exact n) hx
 .have z:cs.lookup b=none:=by
   cases z:cs.lookup b with
   |some o'=>grind
   |none=>rfl
  rw[nC z];exact u.i0 b xs (by rw[iV z];exact q)
 .have z:cs.lookup b=none:=by
   cases z:cs.lookup b with
   |some o'=>grind
   |none=>rfl
  rw[nC z];exact u.a8 b o v (by rw[iV z];exact q)
 .have z:cs.lookup b=none:=by
   cases z:cs.lookup b with
   |some o'=>grind
   |none=>rfl
  rw[nC z];exact u.gR b ps (by rw[iV z];exact q)
noncomputable abbrev ko(qual:Str)(scope:Scope)(f:Addr)(cd:Value)(cl:List (Str×Addr))(s:Shared):Env:=PySem.W.envX qual scope s.heap.objs.size f cd cl
noncomputable def qt(P:Program)(w:World)(K:Fg)(mg:Str->Option Value)(base:Heap)(N:List Str)(qual:Str)(scope:Scope)(f:Addr)(cd:Value)(cl:List (Str×Addr))(A:Around)(outer:List Env)(s:Shared)(H:Hp):Cx where
 prog:=P
 w:=w
 K:=K
 mg:=mg
 base:=base
 A:=A.deeper (ko qual scope f cd cl s)
 N:=N
 aC:=s
 aH:=H
 env:=ko qual scope f cd cl s
 outer:=outer
 stack:=ko qual scope f cd cl s::outer
 ex:=[]
 calm:=true
 fn:=λ_=>false
 pn:=[]
 xe:=λ_ _=>False
structure jX(ps Nf:List Str)(sc:Scope):Prop where
 kind:sc.kind=.function
 co:sc.isCoroutine=false
 gen:sc.isGenerator=false
 nd:ps.Nodup
 qO:∀y∈sc.names,y.2≠.cell
 par:∀x∈ps,sc.names.lookup x=some .local
 fr:∀y∈Nf,sc.names.lookup y=some .free
structure jV(cl:List (Str×Addr))(Nf:List Str)(sc:Scope)(zs:List V)(h:Heap)(cs:Cs):Prop where
 inj:∀x y c,cl.lookup x=some c->cl.lookup y=some c->x=y
 has:∀x,(x,NameKind.free)∈sc.names->∃c,cl.lookup x=some c
 all:∀x c,cl.lookup x=some c->∃o,cs.lookup c=some o
 ox:∀c o,cs.lookup c=some o->h.get? c=some o/\∃v,o.data=.cell v
 val:∀(i:Nat) y z,Nf[i]?=some y->zs[i]?=some z->∃c o u,cl.lookup y=some c/\cs.lookup c=some o/\o.data=.cell (some u)/\RelV z u
section
variable{P:Program}{w:World}{f:Addr}{cl:List (Str×Addr)}{s:Shared}{us:List Value}
theorem Wx{v:Value}:∀{ps:List Str}{us:List Value}{i:Nat},ps.Nodup->ps[i]?=some x->us[i]?=some v->(ps.zip us).reverse.lookup x=some v:=by
 intro ps us i nd C h2;have hm:(x,v)∈(ps.zip us).reverse:=List.mem_reverse.mpr (w0d (i:=i) (by grind))
 have hn:((ps.zip us).reverse.map (·.1)).Nodup:=by
  rw[List.map_reverse];show List.Pairwise (·≠·) _;rw[List.pairwise_reverse];refine List.Pairwise.imp (λh=>Ne.symm h) (show((ps.zip us).map (·.1)).Nodup from ?_)
  exact nd.sublist (by
   clear hm C h2
   induction ps generalizing us with
   |nil=>simp
   |cons p ps ih=>cases us with
    |nil=>simp
    |cons u us=>simp_all)
 generalize (ps.zip us).reverse=l at hm hn
 induction l with
 |nil=>cases hm
 |cons p l ih=>
  grind
theorem X4(S:jX ps Nf scope)(h1:jV cl Nf scope zs s.heap cs)(hd:A.handled=none)(e0:jv P w K mg base A outer s H)(hn:∀c o,cs.lookup c=some o->H c=none)
  (hl:vs.length=ps.length)(hz:zs.length=Nf.length)(r:Vals vs us)
  (ns:fP.Ns s.heap.objs.size (λx=>(ps.zip us).reverse.lookup x))(hs:Heap.SameBut s.heap.objs.size (s.heap.push {cls:=.type "frame", data:=.dict #[]}) fP):
  Inv (qt P w K mg base (ps++Nf) qual scope f cd cl A outer s H) [] (vs.map some++zs.map some) H {s with heap:=fP,toks:=tk}:=by
 have hk:∀b o,s.heap.get? b=some o->fP.get? b=some o:=λb o e=>hs.extBut b o (w0o (Heap.lt_size e)) (Heap.get?_push_of_some _ e)
 have tN:∀b:Addr,b∉([]:List Addr):=λb z=>nomatch z
 have l6:∀x c,cl.lookup x=some c->H c=none/\∃o,s.heap.get? c=some o/\∃v,o.data=.cell v:=λx c e=>by
  obtain⟨o,q⟩:=h1.all x c e;exact⟨hn c o q,o,h1.ox c o q⟩
 refine⟨⟨e0.mod,S.kind,rfl,rfl,w0c _,h1.inj,λy hy=>?_,(λx c z=>nomatch z),λ_=>hd,Around.frames_deeper e0.frames,.inr ⟨rfl,rfl⟩,λb z=>absurd z (tN b),e0.bs,e0.pU,λb _ _=>tN b,λb z=>absurd z (tN b),e0.gL,e0.rS,e0.tab⟩,
  rfl,e0.bare,Un.kept hk,⟨_,ns,λi y v C h2 h3=>?_⟩,λy c h=>?_,e0.aR.fresh (w0c _),λy c h=>(l6 y c h).1,λp hp=>absurd (show p∈([]:List (Addr×Obj))from hp) (by simp),e0.aR.kept hk,?_⟩
 .have hy:scope.names.lookup y=some .cell\/scope.names.lookup y=some .free:=hy;rcases hy with hy|hy
  .exact absurd rfl (S.qO _ (PySem.mem_of_lookup hy))
  .exact h1.has y (PySem.mem_of_lookup hy)
 .have C:(ps++Nf)[i]?=some y:=C
  by_cases hi:i<ps.length
  .rw[w1p (by simpa [hl]using hi),w1u]at h2;rw[w1p hi]at C
   have ha:vs[i]?=some v:=by
    grind
   obtain⟨u,hu,rv⟩:=r.get ha;exact⟨u,rv,.inl ⟨S.par y (w0d C),Wx S.nd C hu⟩⟩
  .have qE:ps.length<=i:=w3i.mp hi;rw[w1m (by simpa [hl]using qE),w1u,w0a,hl]at h2;rw[w1m qE]at C
   have ha:zs[i-ps.length]?=some v:=by
    grind
   obtain⟨c,o,u,e1,e2,e3,e4⟩:=h1.val _ _ _ C ha;exact⟨u,e4,.inr ⟨.inr (S.fr y (w0d C)),c,e1,o,hk _ _ (h1.ox c o e2).1,e3⟩⟩
 .obtain⟨_,o,q,v,d⟩:=l6 y c h;exact⟨v,o,hk _ _ q,d⟩
 .show _=(ps++Nf).length;simp[hl,hz]
theorem l3
  (hr:bJ (k+1) A)(e0:jv P w K mg base A outer s H)(hf:H f=some (pW (kla_obj name qual params body scope cl pm c' gY) qual c'))
  (S:jX ps Nf scope)(CI:bD H cs)(h1:jV cl Nf scope zs s.heap cs)(mS:bindArgs (PySem.W.kla_fn name qual params body scope cl pm (.ref c') gY) ⟨us,[]⟩=pure (ps.zip us))
  (hl:vs.length=ps.length)(hz:zs.length=Nf.length)(r:Vals vs us)
  (hb:PE (qt P w K mg base (ps++Nf) qual scope f (.ref c') cl A outer s (c7 H cs)) body t)(hq:t (vs.map some++zs.map some) (c7 H cs) λv H'=>(∀b o,cs.lookup b=some o->H' b=none)->Q v (b9 H' cs)):
  codeAny (model P w) A (.call (.ref f) ⟨us,[]⟩) (CR CX outer P w H s Q E) s:=by
 have lim:s.heap.NoLimit:=e0.mod.nolimit.keeps λb o e=>(e0.bs b o e).1
 obtain⟨K2,dU⟩:=X3 e0.aR hf
 have e1:jv P w K mg base A outer s (c7 H cs):=⟨e0.frames,e0.mod,λb o q=>⟨(e0.bs b o q).1,Bb (e0.bs b o q).2⟩,e0.pU,e0.gL,λb hb=>Bb (e0.rS b hb),e0.aR.rm CI,e0.bare,λa q P m=>by
  obtain⟨ps,e,p⟩:=e0.tab a q P m;exact⟨ps,CI.c8 e (λo z=>nomatch z),p⟩⟩
 refine PySem.W.kla_callFunE hr.depth K2 rfl S.co S.gen rfl dU ?_;rw[mS];refine wpAny_pure (wpAny_newFunctionEnv S.qO (λy hy=>S.par y.1 (w1e hy).1) (λfP nW K'=>⟨lim.fresh _ K',?_⟩) S.kind)
 show codeAny _ _ (.expr body (ko qual scope f (.ref c') cl s)) _ _;have I:=X4 (tk:=s.toks+(ps.zip us).length) (qual:=qual) (f:=f) (cd:=.ref c') S h1 hr.hd e1 (λc o q=>xu q) hl hz r nW K'
 refine PySem.W.kla_codeExpr (wpAny_mono (hb [] _ _ _ _ I hq) (λu s' tE=>?_) λe s' z=>False.elim z)
 obtain⟨v,H',hc,rv,q⟩:=tE;have un:Un (iE outer) [] (c7 H cs) H' s.heap s'.heap:=hc.base;refine⟨v,b9 H' cs,hc.os,hc.bare,un.cells CI,hc.aR.add λb o z=>?_,rv,q λb o z=>un.free b o (h1.ox b o z).1 (xu z) (by simp)⟩
 have nf:b∉iE outer:=λhb=>by
  have:=e0.rS b hb;rw[CI b o z]at this;cases this
 have g:=(h1.ox b o z).1;exact⟨un.free b o g (xu z) (by simp),un.keep b o g (xu z) nf (by simp)⟩
end
noncomputable def qm(P:Program)(w:World)(K:Fg)(mg:Str->Option Value)(base:Heap)(CX:oo)(k:Nat)(sp:V->List V->Hp->VK->XK->Prop):Prop:=∀(x:V)(vs:List V)(H:Hp)(Q:VK)(E:XK),sp x vs H Q E ->
 ∃f oc od fd sl u,x=.ref f/\H f=some (.cD ⟨oc,od,.func fd,sl⟩ u)/\∀(A:Around)(outer:List Env)(s:Shared)(us:List Value),bJ k A->jv P w K mg base A outer s H->Vals vs us ->
  codeAny (model P w) A (.call (.ref f) ⟨us,[]⟩) (CR CX outer P w H s Q E) s
noncomputable def ET(H:Hp)(x:V):Prop:=∃f oc od fd sl u,x=.ref f/\H f=some (.cD ⟨oc,od,.func fd,sl⟩ u)
noncomputable def xO(sp:V->List V->Hp->VK->XK->Prop)(EE:L2.St->XK)(tv:TE)(t:TA):TE:=λσ H Q=>tv σ H λx H1=>ET H1 x/\t σ H1 λvs H2=>sp x vs H2 Q (EE σ)
section
variable{CX:oo}{k:Nat}{sp:V->List V->Hp->VK->XK->Prop}{p:Pos}{tv:TE}{t:TA}
theorem Wy(F:qm X.prog X.w X.K X.mg X.base CX k sp)(hr:bJ k X.A)(hv:PE X (.Name x p) tv)(hx:fx CX X EE)(ha:PA X (e::es) t)
  (he:autoParam (starEach (e::es) X.env=(false,eval e X.env)::starEach es X.env) jJ)(dJ:autoParam ((backTo pos (starEach es X.env)).any (·.1)=false) jJ):
  PE X (.Call (.Name x p) (e::es) [] pos) (xO sp EE tv t):=by
 intro pins s σ H Q I h;refine wpAny_Call_Name_kw (bB (hv pins s σ H _ I h) λu s1 ⟨y,H1,I1,ry,⟨f,oc,od,fd,sl,uu,ey,ef⟩,q⟩=>?_)
 subst ey;obtain rfl:u=Value.ref f:=ry;refine PySem.W.callWith_F ⟨oc,od,fd,sl,(show s1.heap.get? f=some _/\_ from I1.aR f _ ef).1⟩ (bB (ha pos pins s1 σ H1 _ I1 q) λus s2 ⟨vs,H2,I2,r,q2⟩=>?_) he dJ
 obtain⟨f',SH,SJ,Rg,BO,u',KO,Q8,run⟩:=F _ _ _ _ _ q2;cases KO;refine⟨⟨SH,SJ,Rg,BO,(show s2.heap.get? f=some _/\_ from I2.aR f _ Q8).1⟩,wpAny_call (codeAny_mono (run X.A X.stack s2 us hr I2.sX r) λr s' hq=>?_)⟩
 cases r with
 |error e=>exact hx pins σ H2 s2 e s' I2 hq
 |ok fl=>
  cases fl with
  |ret u=>exact I2.after hq
  |next=>exact False.elim hq
  |brk=>exact False.elim hq
  |cont=>exact False.elim hq
end
theorem UC(l)(h:TriplesOk l)(z:codeAmong pos' (l++[rawInt a,rawInt b,c])=some cv):codeAmong pos' l=some cv\/cv=c:=by
 fun_induction TriplesOk l with
 |case1=>
  grind [codeAmong,rawInt]
 |case2 x t y u v rest ih=>
  simp only[w3j,codeAmong]at z |-
  grind
 |case3=>exact h.elim
noncomputable def BMain(h:Heap)(mg:Str->Option Value):Prop:=∃bm ob,mg "__builtins__"=some (.ref bm)/\bm≠builtinsNs/\h.get? bm=some ob/\ob.cls=.type "module" /\ ob.dict=some builtinsNs/\ob.data=.plain
noncomputable def oq(X:Cx)(params:Arguments)(body:Expr)(scope:Scope)(bh:List (Str×Addr))(f:Addr)(H H':Hp):Prop:=closureFor scope X.env=pure bh/\∃(H1:Hp)(pm gY:Value)(c':Addr),(H1=H\/∃c oc,H c=none/\H1=upd H c (rB oc))/\H1 f=none /\
 H'=upd H1 f (pW (kla_obj "<lambda>" (X.env.qual++"<lambda>") params body scope bh pm c' gY) (X.env.qual++"<lambda>") c')
noncomputable def B0(X:Cx)(params:Arguments)(body:Expr)(scope:Scope):TE:=λ_ H Q=>∀f bh H',oq X params body scope bh f H H'->Q (.ref f) H'
structure Maker(X:Cx):Prop where
 ex:∃c P a,X.env.code=.ref c/\codeHdIn X.K c P=true/\(a,jo P (X.env.qual++"<lambda>"))∈X.K
 bm:BMain X.base X.mg
theorem PQ{X:L2.Cx}(M:Maker X)(lU:defaultsOf params X.env=([],[]))(cG:∀x∈scope.names,x.2=.free->X.env.kindOf x.1=some .cell\/X.env.kindOf x.1=some .free):
  PE X (.Lambda params body scope d9) (B0 X params body scope):=by
 intro pins s σ H Q I h;obtain⟨bh,eS,_,_⟩:=A9 (scope:=scope) (env:=X.env) λx hx hf=>I.ok.has x.1 (cG x hx hf)
 obtain⟨c,P,a,uT,rV,rY⟩:=M.ex;have K4:=PySem.W.codeHd_of_K I.mod.Ay rV;obtain⟨ps,hP,p0,p1⟩:=I.ok.tab a _ P rY;obtain⟨more,eP⟩:=I.base.gR P ps hP
 have q0:(ps++more)[0]?=some (.bool true):=by
  grind
 have q1:(ps++more)[1]?=some (.str (X.env.qual++"<lambda>") 0):=by
  grind
 have oP:aU X.prog X.w H s.heap P (.nF (ps++more)):=I.aR P _ eP;rcases oP with⟨q,qs,r0,r1,g1,tr,cd⟩|⟨_,_,_,_,_,_,r0,_⟩
 case inr=>rw[q0]at r0;cases r0
 rw[q1]at r1;cases r1;have nP:∀b,H b=none->b≠P:=λb n z=>by rw[z,eP]at n;cases n
 have RK:mainGlobals≠P:=by
  obtain⟨o,es,ep,e,_⟩:=I.mod.glob;exact nP _ (I.bs _ o e).2
 have hB:s.heap.BuiltinsAt X.mg P:=by
  obtain⟨bm,ob,b1,b2,b3,b4,b5,b6⟩:=M.bm;refine⟨bm,ob,b1,b2,λz=>?_,nP _ (I.bs bm ob b3).2,(I.bs bm ob b3).1,b4,b5,b6⟩
  obtain⟨o,es,ep,e,d,_⟩:=I.mod.glob
  grind
 have nW:=I.mod.glob.keeps I.bk;refine PySem.W.kla_eval lU ?_;cases J:codeAmong d9 qs.toList with
 |some cv=>
  obtain⟨c',oc,vs,t,rfl,k1,k2,k3⟩:=cd d9 cv J;refine PySem.W.kla_makeFunctionHit (mg:=X.mg) eS I.ok.glob nW uT (K4.keeps I.bk) g1 tr J hB λgY h' tk hk hsz=>?_
  have fr:H h'.objs.size=none:=I.aR.fresh hsz;refine⟨.ref h'.objs.size,_,I.laid (t':=tk) (λb u e=>Heap.get?_push_of_some _ (hk b u e)) hsz ?_,rfl,h _ bh _ ⟨eS,H,(X.mg "__name__").getD .none,gY,c',.inl rfl,fr,rfl⟩⟩
  exact⟨Heap.get?_push_size _ rfl,.inr ⟨_,c',oc,_,vs,t,rfl,rfl,rfl,by rw[aP (jf k1 fr)];exact k1,k2,k3,Heap.get?_push_size _ rfl⟩⟩
 |none=>
  refine PySem.W.kla_makeFunction (mg:=X.mg) eS I.ok.glob nW uT (K4.keeps I.bk) g1 tr J RK hB λc' gY h' tk hx K3 cY FY Sj=>?_
  obtain⟨c2,oc,vs,t,ec,uX,hd,hv⟩:=FY;cases ec;have fc:H c'=none:=I.aR.fresh K3;have pX:∀b u,H b=some u->b≠c':=λb u z=>jf z fc
  have kp:∀b o,H b=none->s.heap.get? b=some o->h'.get? b=some o:=λb o n e=>hx b o (nP b n) e
  have FT:d7 X.prog X.w (upd H c' (rB oc)) h':=λa u e=>by
   by_cases ha:a=c'
   .subst ha;rw[bI]at e;cases e;exact⟨uX,oc,uX⟩
   .rw[aP ha]at e
    by_cases Rz:a=P
    .subst Rz;rw[eP]at e;cases e;refine .inl ⟨_,_,q0,q1,Sj,?_,λpos cv z=>?_⟩
     .grind [TriplesOk_snoc]
     .rw[w3r]at z;rcases UC _ tr z with z|z
      .grind [aP]
      grind [bI]
    .refine(I.aR a u e).fR (λb v hb q=>hx b v ?_ q) (λb q=>by grind [aP]) λb v _ q=>by grind [aP]
     grind
  have un:Un X.fs [] H (upd H c' (rB oc)) s.heap h':=by
   refine⟨λb o q n _ _=>kp b o n q,λb o q n _ _=>⟨o.slots,kp b o n q⟩,λb o q n _=>?_,λb o q _=>?_,λb xs q=>by grind [aP],λb o u q=>by grind [aP],λb qs q=>⟨#[],by grind [aP]⟩⟩
   .rw[aP (w0o (w0n (Heap.lt_size q) K3))];exact n
   .by_cases hb:b=P
    .grind
    .exact⟨o,hx b o hb q⟩
  have I1:Inv X pins σ (upd H c' (rB oc)) {s with heap:=h',toks:=tk}:=I.un un FT;have f1:upd H c' (rB oc) h'.objs.size=none:=I1.aR.fresh (w0c _);refine⟨.ref h'.objs.size,_,I1.laid (t':=tk) (λb u e=>Heap.get?_push_of_some _ e) (w0c _) ?_,rfl,h _ bh _ ⟨eS,_,(X.mg "__name__").getD .none,gY,c',.inr ⟨c',oc,fc,rfl⟩,f1,rfl⟩⟩
  exact⟨Heap.get?_push_size _ rfl,.inr ⟨_,c',oc,_,vs,t,rfl,rfl,rfl,by rw[aP (jf bI f1)];exact bI,hd,hv,Heap.get?_push_size _ rfl⟩⟩
theorem L7{α:Type}{v:α}:∀{l:List (Addr×α)},(k,v)∈l->∃v',l.lookup k=some v'
 |[],h=>nomatch h
 |(a,b)::l,h=>by
  rw[List.lookup_cons]
  by_cases e:(k==a)=true
  .simp_all
  .rw[w3h.mpr e];rcases w0m.mp h with z|z
   .cases z;simp at e
   .exact L7 z
noncomputable def cZ(bh:List (Str×Addr))(h:Heap):Cs:=(bh.map (·.1)).filterMap λx=>(bh.lookup x).bind λc=>(h.get? c).map λo=>(c,o)
theorem Hx(e:(cZ bh h).lookup c=some o):∃x,bh.lookup x=some c/\h.get? c=some o:=by
 obtain⟨x,_,hx⟩:=w2n.mp (PySem.W.mem_of_lookupK e)
 grind [Option.bind_eq_some_iff,Option.map_eq_some_iff]
theorem Dr(e:bh.lookup x=some c)(g:h.get? c=some o):(cZ bh h).lookup c=some o:=by
 have hm:(c,o)∈cZ bh h:=w2n.mpr ⟨x,w0k.mpr ⟨(x,c),PySem.mem_of_lookup e,rfl⟩,by grind⟩;obtain⟨o',e'⟩:=L7 hm
 grind [Hx]
structure lL(bh:List (Str×Addr))(Nf:List Str)(scope:Scope)(js:List Nat)(σ:St)(H:Hp)(cs:Cs):Prop where
 inj:∀x y c,bh.lookup x=some c->bh.lookup y=some c->x=y
 has:∀x,(x,NameKind.free)∈scope.names->∃c,bh.lookup x=some c
 all:∀x c,bh.lookup x=some c->∃o,cs.lookup c=some o
 ox:∀c o,cs.lookup c=some o->H c=none/\∃v,o.data=.cell v
 val:∀(i:Nat) y j z,Nf[i]?=some y->js[i]?=some j->σ[j]?=some (some z)->∃c o u,bh.lookup y=some c/\cs.lookup c=some o/\o.data=.cell (some u)/\RelV z u
theorem Uo{e:Value}(J:∀b o,cs.lookup b=some o->H b=none/\s.heap.get? b=some o)
  (x:eM P w outer (b9 H cs) s (λc o H'=>E c o (c7 H' cs)) e s'):eM P w outer H s E e s':=by
 obtain⟨e,cls,H',B,rfl,qH,hg,un,aR,pV,hE⟩:=x;have CI:bD H' cs:=λb o z=>un.a8 b o _ (pJ z)
 refine⟨e,cls,c7 H' cs,B,rfl,qH,hg,un.gE aR J,aR.rm CI,⟨pV.fl,λb o q n nb=>?_,λb u o q z=>pV.qb b u o (J_ q).1 z,pV.all,pV.new⟩,hE⟩
 cases z:cs.lookup b with
 |some o'=>
  have:=(J b o' z).2;rw[q]at this;cases this;exact pV.qb b _ o (CI b o z) ((show s'.heap.get? b=some o/\_ from aR b _ (CI b o z)).1)
 |none=>exact pV.old b o q (by rw[iV z];exact n) nb
theorem kA(h:(pure a:Sem α)=pure b):a=b:=by
 first
  |exact PySem.Sem.kA h
  |(injection h)
  |(cases h;rfl)
section
variable{k:Nat}{f:Addr}{fd:FuncData}{sp:Sp}
theorem X5{σ:St}(F:fN X.prog X.w X.K X.mg X.base (eM X.prog X.w) k f fd ps sp)(hr:bJ k X.A)(hb:Binds X.K fd ps [])(hx:fx (eM X.prog X.w) X EE)
  (I:Inv X pins σ H s)(J:∀b o,cs.lookup b=some o->H b=none/\s.heap.get? b=some o)(hv:∀b o,cs.lookup b=some o->b∉iE X.stack)(hn:∀b o,cs.lookup b=some o->X.base.get? b=none)(r:Vals vs us)
  (h:sp vs (b9 H cs) (λv H'=>Q v (c7 H' cs)) λc o H'=>EE σ c o (c7 H' cs)):wpAny (model X.prog X.w) X.A (call (.ref f) us) (EP X pins σ Q) X.xe s:=by
 have hl:us.length=ps.length:=by rw[<- r.length];exact F.len _ _ _ _ h
 have e0:=I.sX
 have out:∀b,H b=none->(∀o,cs.lookup b≠some o)->b9 H cs b=none:=λb n z=>by
  cases q:cs.lookup b with
  |some o=>exact absurd q (z o)
  |none=>rw[iV q];exact n
 have e1:jv X.prog X.w X.K X.mg X.base X.A X.stack s (b9 H cs):=by
  refine⟨e0.frames,e0.mod,λb o q=>⟨(e0.bs b o q).1,out b (e0.bs b o q).2 λo' z=>?_⟩,e0.pU,e0.gL,λb hb=>out b (e0.rS b hb) λo z=>?_,e0.aR.add J,e0.bare,λa q P m=>?_⟩
  .grind
  .exact hv b o z hb
  .obtain⟨ps,e,p⟩:=e0.tab a q P m;refine⟨ps,?_,p⟩;cases z:cs.lookup P with
   |some o=>grind
   |none=>rw[iV z];exact e
 have yi:=hb s us I.u0 (by grind);rw[w1v]at yi;refine wpAny_call (codeAny_mono (F.run X.A X.stack s (b9 H cs) ⟨us,[]⟩ us vs _ _ hr e1 yi r h) λr s' hq=>?_)
 cases r with
 |error e=>exact hx pins σ H s e s' I (Uo J hq)
 |ok fl=>
  cases fl with
  |ret u=>
   obtain⟨v,H',os,bare,un,aR,rv,q⟩:=hq;have CI:bD H' cs:=λb o z=>un.a8 b o _ (pJ z)
   exact I.after ⟨v,c7 H' cs,os,bare,un.gE aR J,aR.rm CI,rv,q⟩
  |next=>exact False.elim hq
  |brk=>exact False.elim hq
  |cont=>exact False.elim hq
noncomputable def zm(sp:Sp)(X:Cx)(scope:Scope)(Nf:List Str)(js:List Nat)(E:XK)(σ:St)(Q:VK)(vs:List V)(H2:Hp):Prop:=∃bh,closureFor scope X.env=pure bh/\∀cs,lL bh Nf scope js σ H2 cs ->
 sp vs (b9 H2 cs) (λv H'=>Q v (c7 H' cs)) λc o H'=>E c o (c7 H' cs)
noncomputable def rN(sp:Sp)(X:Cx)(params:Arguments)(body:Expr)(scope:Scope)(Nf:List Str)(js:List Nat)(EE:L2.St->XK)(te:TE):TE:=λσ H Q=>te σ H λv1 H1=>∀f bh H2,oq X params body scope bh f H1 H2->zm sp X scope Nf js (EE σ) σ Q [v1,.ref f] H2
theorem UD{params:Arguments}{body:Expr}{scope:Scope}{d9 p:Pos}{Nf:List Str}{js:List Nat}{te:TE}(F:fN X.prog X.w X.K X.mg X.base (eM X.prog X.w) k f fd ps sp)(hr:bJ k X.A)(hg:Gl X x)(hm:X.mg x=some (.ref f))(hk:keepIn X.K (.ref f)=true)
  (hb:Binds X.K fd ps [])(hx:fx (eM X.prog X.w) X EE)(M:Maker X)(qD:∀y,X.fn y=true)(he:PE X e te)(lU:defaultsOf params X.env=([],[]))
  (cG:∀x∈scope.names,x.2=.free->X.env.kindOf x.1=some .cell\/X.env.kindOf x.1=some .free)
  (tf:∀(i j:Nat) y,Nf[i]?=some y->js[i]?=some j->X.N[j]?=some y/\(y,NameKind.free)∈scope.names/\j0 X.env.scope y/\X.env.kindOf y≠some .local)
  (kY:autoParam ((x==("__debug__":Str))=false) jK)(i9:autoParam (starEach [e,.Lambda params body scope d9] X.env=(false,eval e X.env)::starEach [.Lambda params body scope d9] X.env) jJ)
  (wG:autoParam (starEach [.Lambda params body scope d9] X.env=(false,eval (.Lambda params body scope d9) X.env)::starEach [] X.env) jJ)(dJ:autoParam ((backTo pos (starEach [.Lambda params body scope d9] X.env)).any (·.1)=false) jJ):
  PE X (.Call (.Name x p) [e,.Lambda params body scope d9] [] pos) (rN sp X params body scope Nf js EE te):=by
 intro pins s σ H Q I h;have ha:PA X [e,.Lambda params body scope d9] (kL te (kL (B0 X params body scope) uq)):=t6 he (t6 (PQ M lU cG) yN wG) i9;refine wpAny_Call_Name_kw (N8 I hg hm ?_ kY);refine PySem.W.callWith_K (h₀:=X.base) I.ok.mod.Ay hk (bB (ha pos pins s σ H (zm sp X scope Nf js (EE σ) σ Q) I h) λus s1 ⟨vs,H2,I2,r,bh,eS,q⟩=>⟨I2.u0,?_⟩) i9 dJ
 obtain⟨dN,nT,jG,qB⟩:=A9 (scope:=scope) (env:=X.env) λx hx hf=>I.ok.has x.1 (cG x hx hf)
 obtain rfl:dN=bh:=kA (nT.symm.trans eS)
 have look:∀b o,(cZ dN s1.heap).lookup b=some o->∃x,X.env.cells.lookup x=some b/\s1.heap.get? b=some o:=λb o z=>by
  obtain⟨x,C,h2⟩:=Hx z
  grind
 have jm:∀b o,(cZ dN s1.heap).lookup b=some o->H2 b=none/\s1.heap.get? b=some o:=λb o z=>by
  obtain⟨x,C,h2⟩:=look b o z;exact⟨I2.fA x b C,h2⟩
 have uQ:∀b o,(cZ dN s1.heap).lookup b=some o->X.aC.heap.objs.size<=b:=λb o z=>by
  obtain⟨x,C,h2⟩:=look b o z;exact I2.ok.zF x b (qD x) C
 refine X5 (cs:=cZ dN s1.heap) F hr hb hx I2 jm (λb o z hb=>?_) (λb o z=>Heap.get?_none_of_le (w0l I2.ok.pU (uQ b o z))) r (q _ ⟨λx y c e1 e2=>I2.ok.inj x y c (jG x c e1) (jG y c e2),qB,λx c e=>?_,λc o e=>⟨(jm c o e).1,?_⟩,λi y j z e1 e2 e3=>?_⟩)
 .rcases w0m.mp (I2.kK b hb)with e|z_
  .obtain⟨x,C,_⟩:=look b o z;exact I2.sR x b C e
  .obtain⟨_,o',q',_⟩:=I2.ok.gL.mem z_
   exact absurd (Heap.lt_size q') (w3i.mpr (uQ b o z))
 .obtain⟨v,o,g,_⟩:=I2.cell x c (jG x c e)
  grind [Dr]
 .obtain⟨x,C,h2⟩:=look c o e;obtain⟨v,o',g,d⟩:=I2.cell x c C
  grind
 .obtain⟨n1,n2,n3,n4⟩:=tf i j y e1 e2;obtain⟨m,hm,hl⟩:=I2.loc;obtain⟨u,ru,l⟩:=hl j y z n1 e3 n3;rcases l with⟨k1,_⟩|⟨k1,c,ec,o,g,d⟩
  .exact absurd k1 n4
  grind [Dr]
end
set_option maxHeartbeats 1000000
noncomputable def Sh.Ga:Sh->Bool
 |.many .int=>true
 |_=>false
noncomputable def Sh.p5:Sh->Bool
 |.int=>true
 |.str=>true
 |_=>false
end L2
namespace D
open PySem L2
variable{G H:Hp}{EE:L2.St->XK}{es:List Expr}{pos pos':Pos}{K:Fg}{σ:St}{x:Str}
noncomputable abbrev Sv:=Int ⊕ Bool
inductive Dd where
 |k (kvs:List (Key×Sv))
structure Lm where
 qual:Str
 params:Arguments
 body:Expr
 scope:Scope
 nf:List Str
set_option genInjectivity true in
inductive W where
 |aG|bl (b:Bool)|int (i:Int)|str (x:Str)|tup (xs:List W)|lst (xs:List W)|exc (c:Value)|aY (kvs:Dd)|dw (fz:Bool) (sh:Sh) (ks:List Kx) (ws:List W)|fn (i:Nat) (l:Lm) (ws:List W)
inductive S where
 |no|fr (w:W)|own (io:Option Nat) (ws:List W)|aY (kvs:Dd)|nest (bq:List (List W))|dw (sh:Sh) (ks:List Kx) (ws:List W)
noncomputable def sV:Sv->V
 |.inl i=>.int i
 |.inr b=>.bl b
noncomputable def wN{κ:Type}(kvs:List (κ×Sv)):List (κ×V):=kvs.map λp=>(p.1,sV p.2)
noncomputable def dO:Dd->HO
 |.k kvs=>.dK (wN kvs)
noncomputable def Av:HO->Bool
 |.dK _=>true
 |_=>false
theorem uf(h:Av u=false):dO d≠u:=λz=>by
 subst z;cases d<;>cases h
noncomputable def cS(G:Hp):List Kx->List Addr->Prop
 |[],[]=>True
 |k::ks,b::bs=>bT G k (.ref b)/\cS G ks bs
 |[],_::_=>False
 |_::_,[]=>False
theorem cS.mono(e:av G G'):∀{ks:List Kx}{bs:List Addr},cS G ks bs->cS G' ks bs
 |[],[],_=>trivial
 |k::ks,b::bs,h=>⟨bT.keeps (λ_ _ _ z=>e _ _ z) k h.1,cS.mono e h.2⟩
 |[],_::_,h=>h.elim
 |_::_,[],h=>h.elim
noncomputable def Ln:Kx->Key
 |.int i=>.inl i
 |.str x=>.inr x
 |_=>.inl 0
noncomputable def Gh:Sh->Kx->Prop
 |.int,k=>∃i,k=.int i
 |.str,k=>∃x,k=.str x
 |_,_=>False
noncomputable def kh(sh:Sh)(kvs:List (Kx×V))(kas:List Addr):HO:=if sh.p5=true then .dK (kvs.map λp=>(Ln p.1,p.2))else .dT sh kvs kas
noncomputable def F':HO->Bool
 |.dK _=>true
 |.dT _ _ _=>true
 |_=>false
theorem oW(h:F' u=false):kh sh kvs kas≠u:=λz=>by
 subst z;unfold kh at h;split at h<;>cases h
theorem qa(h:sh.p5=false):kh sh kvs kas=.dT sh kvs kas:=if_neg (by grind)
noncomputable def cM(sh:Sh)(G:Hp)(ks:List Kx)(kas:List Addr):Prop:=if sh.p5=true then ∀k∈ks,Gh sh k else cS G ks kas
theorem cM.mono(e:av G G')(h:cM sh G ks bs):cM sh G' ks bs:=by
 unfold cM at h |-
 split at h
 .grind
 .rename_i hi;rw[if_neg hi];exact h.mono e
theorem cM.g(h:cM sh G ks bs)(hi:sh.p5=false):cS G ks bs:=by
 simp_all [cM]
theorem cM.of(h:cS G ks bs)(hi:sh.p5=false):cM sh G ks bs:=by
 simp_all [cM]
noncomputable def sH(fz:Bool)(G:Hp)(a:Addr)(sh:Sh)(kvs:List (Kx×V))(kas:List Addr):Prop:=if fz=true then ∃o,G a=some (.cD o (kh sh kvs kas))else G a=some (kh sh kvs kas)
theorem sH.ex(h:sH fz G a sh kvs kas):∃o,G a=some o:=by
 grind [sH]
theorem sH.mono(e:av G G')(h:sH fz G a sh kvs kas):sH fz G' a sh kvs kas:=by
 cases fz with
 |true=>obtain⟨o,h⟩:=h;exact⟨o,e _ _ h⟩
 |false=>exact e _ _ h
structure gv(G:Hp)(cl:List (Str×Addr))(l:Lm)(zs:List V)(cs:Cs):Prop where
 inj:∀x y c,cl.lookup x=some c->cl.lookup y=some c->x=y
 has:∀x,(x,NameKind.free)∈l.scope.names->∃c,cl.lookup x=some c
 all:∀x c,cl.lookup x=some c->∃o,cs.lookup c=some o
 ox:∀c o,cs.lookup c=some o->G c=some (lR o)/\∃v,o.data=.cell v
 val:∀(i:Nat) y z,l.nf[i]?=some y->zs[i]?=some z->∃c o u,cl.lookup y=some c/\cs.lookup c=some o/\o.data=.cell (some u)/\RelV z u
 len:zs.length=l.nf.length
theorem gv.mono(e:av G G')(h:gv G cl l zs cs):gv G' cl l zs cs:=⟨h.inj,h.has,h.all,λc o q=>⟨e _ _ (h.ox c o q).1,(h.ox c o q).2⟩,h.val,h.len⟩
noncomputable def zh(G:Hp)(l:Lm)(cl:List (Str×Addr))(f:Addr):Prop:=∃pm c' gY,G f=some (pW (kla_obj "<lambda>" l.qual l.params l.body l.scope cl pm c' gY) l.qual c')
inductive qp(v:V)(P Q:Addr->List V->Prop):Prop where
 |mk (a:Addr) (xs:List V) (h:v=.ref a) (p:P a xs) (q:Q a xs):qp v P Q
inductive qk(xs:List V)(P:V->Prop)(Q:List V->Prop):Prop where
 |mk (x:V) (r:List V) (h:xs=x::r) (p:P x) (q:Q r):qk xs P Q
mutual
noncomputable def Rep(K:Fg)(G:Hp):W->V->Prop
 |.aG,v=>v=.aG
 |.bl b,v=>v=.bl b
 |.int i,v=>v=.int i
 |.str x,v=>v=.str x
 |.tup ws,v=>qp v (eK K G) λ_ xs=>aw K G ws xs
 |.lst ws,v=>qp v (cy K G) λ_ xs=>aw K G ws xs
 |.exc c,v=>∃e,v=.ref e/\G e=some (zR e c)
 |.aY kvs,v=>∃e,v=.ref e/\G e=some (dO kvs)
 |.dw fz sh ks ws,v=>∃a kvs kas,v=.ref a/\sH fz G a sh kvs kas/\kvs.map (·.1)=ks/\cM sh G ks kas/\aw K G ws (kvs.map (·.2))
 |.fn _ l ws,v=>∃f cl zs cs,v=.ref f/\zh G l cl f/\gv G cl l zs cs/\aw K G ws zs
noncomputable def aw(K:Fg)(G:Hp):List W->List V->Prop
 |[],xs=>xs=[]
 |w::ws,xs=>qk xs (Rep K G w) (aw K G ws)
end
mutual
theorem Rep.mono{K:Fg}{G G':Hp}(e:av G G'):∀(w:W){v:V},Rep K G w v->Rep K G' w v
 |.aG,v,h=>h
 |.bl b,v,h=>h
 |.int i,v,h=>h
 |.str x,v,h=>h
 |.tup ws,v,h=>by
  obtain⟨a,xs,rfl,q,r⟩:=h;exact⟨a,xs,rfl,e.tup q,aw.mono e ws r⟩
 |.lst ws,v,h=>by
  obtain⟨a,xs,rfl,q,r⟩:=h;exact⟨a,xs,rfl,e.seq q,aw.mono e ws r⟩
 |.exc c,v,h=>by
  obtain⟨a,rfl,q⟩:=h;exact⟨a,rfl,e _ _ q⟩
 |.aY kvs,v,h=>by
  obtain⟨a,rfl,q⟩:=h;exact⟨a,rfl,e _ _ q⟩
 |.dw fz sh ks ws,v,h=>by
  obtain⟨a,kvs,kas,rfl,C,h2,h3,h4⟩:=h;exact⟨a,kvs,kas,rfl,C.mono e,h2,h3.mono e,aw.mono e ws h4⟩
 |.fn i l ws,v,h=>by
  obtain⟨f,cl,zs,cs,rfl,⟨pm,c',gY,C⟩,h2,h3⟩:=h;exact⟨f,cl,zs,cs,rfl,⟨pm,c',gY,e _ _ C⟩,h2.mono e,aw.mono e ws h3⟩
theorem aw.mono{K:Fg}{G G':Hp}(e:av G G'):∀(ws:List W){xs:List V},aw K G ws xs->aw K G' ws xs
 |[],xs,h=>h
 |w::ws,xs,h=>by
  obtain⟨x,r,rfl,C,h2⟩:=h;exact⟨x,r,rfl,Rep.mono e w C,aw.mono e ws h2⟩
end
theorem aw.length:∀{ws:List W}{xs:List V},aw K G ws xs->xs.length=ws.length
 |[],xs,h=>by cases h;rfl
 |w::ws,xs,h=>by
  obtain⟨x,r,rfl,_,h2⟩:=h;simp[aw.length h2]
theorem aw.get:∀{ws:List W}{xs:List V}{i:Nat}{w:W},aw K G ws xs->ws[i]?=some w->∃x,xs[i]?=some x/\Rep K G w x
 |[],xs,i,w,h,e=>by simp at e
 |w'::ws,xs,0,w,h,e=>by
  obtain⟨x,r,rfl,C,h2⟩:=h
  grind
 |w'::ws,xs,i+1,w,h,e=>by
  obtain⟨x,r,rfl,C,h2⟩:=h;obtain⟨y,e1,e2⟩:=aw.get (i:=i) h2 (by simpa using e)
  grind
theorem aw.kX:∀{ws:List W}{xs:List V}{i:Nat}{x:V},aw K G ws xs->xs[i]?=some x->∃w,ws[i]?=some w/\Rep K G w x:=λ{ws xs i x} h e=>by
 have hl:=h.length;have hi:i<xs.length:=(w0b.mp e).1;have e2:ws[i]?=some ws[i]:=w0j (by omega);obtain⟨y,e3,r⟩:=h.get e2
 grind
theorem aw.append:∀{ws ws':List W}{xs jE:List V},aw K G ws xs->aw K G ws' jE->aw K G (ws++ws') (xs++jE)
 |[],ws',xs,jE,h,h'=>by cases h;exact h'
 |w::ws,ws',xs,jE,h,h'=>by
  obtain⟨x,r,rfl,C,h2⟩:=h;exact⟨x,r++jE,rfl,C,aw.append h2 h'⟩
theorem aw.one{x:L2.V}(h:Rep K G w x):aw K G [w] [x]:=⟨x,[],rfl,h,rfl⟩
theorem aw.take:∀(n:Nat){ws:List W}{xs:List V},aw K G ws xs->aw K G (ws.take n) (xs.take n)
 |0,_,_,_=>rfl
 |n+1,[],_,h=>by cases h;rfl
 |n+1,w::ws,_,h=>by
  obtain⟨x,r,rfl,C,h2⟩:=h;exact⟨x,r.take n,rfl,C,aw.take n h2⟩
theorem aw.drop:∀(n:Nat){ws:List W}{xs:List V},aw K G ws xs->aw K G (ws.drop n) (xs.drop n)
 |0,_,_,h=>h
 |n+1,[],_,h=>by cases h;rfl
 |n+1,w::ws,_,h=>by
  obtain⟨x,r,rfl,C,h2⟩:=h;exact aw.drop n h2
theorem aw.reverse:∀{ws:List W}{xs:List V},aw K G ws xs->aw K G ws.reverse xs.reverse
 |[],_,h=>by cases h;rfl
 |w::ws,_,h=>by
  obtain⟨x,r,rfl,C,h2⟩:=h;rw[w1t,w1t];exact(aw.reverse h2).append (.one C)
theorem aw.set:∀(i:Nat){ws:List W}{xs:List V}{w:W}{x:V},aw K G ws xs->Rep K G w x->aw K G (ws.set i w) (xs.set i x)
 |_,[],_,_,_,h,_=>by cases h;rfl
 |0,w'::ws,_,w,x,h,q=>by
  obtain⟨y,r,rfl,C,h2⟩:=h;exact⟨x,r,rfl,q,h2⟩
 |i+1,w'::ws,_,w,x,h,q=>by
  obtain⟨y,r,rfl,C,h2⟩:=h;exact⟨y,r.set i x,rfl,C,aw.set i h2 q⟩
structure Zt where
 H:Hp
 G:Hp
 io:List Addr
variable{Z:Zt}
noncomputable def o9(Z:Zt)(G H:Hp)(l:Addr)(o:Obj)(ys:List V):Prop:=H l=some (.cD o (.lst ys))/\G l=none/\Z.H l=none
noncomputable def aX(K:Fg)(Z:Zt)(G H:Hp):List Addr->List (List W)->Prop
 |[],[]=>True
 |l::ls,ws::bq=>(∃o ys,o9 Z G H l o ys/\aw K G ws ys)/\aX K Z G H ls bq
 |[],_::_=>False
 |_::_,[]=>False
inductive cu(K:Fg)(Z:Zt)(G H:Hp)(bq:List (List W))(v:Option V):Prop where
 |mk (a:Addr) (ls:List Addr) (C:v=some (.ref a)) (h2:G a=some (.lst (ls.map V.ref))) (h3:ls.Nodup) (h4:aX K Z G H ls bq):cu K Z G H bq v
theorem aX.move(sg:av G G')(hf:∀l o ys,H l=some (.cD o (.lst ys))->G l=none->Z.H l=none->H' l=some (.cD o (.lst ys))/\G' l=none/\Z'.H l=none):∀{ls:List Addr}{bq:List (List W)},aX K Z G H ls bq->aX K Z' G' H' ls bq
 |[],[],_=>trivial
 |l::ls,ws::bq,⟨⟨o,ys,⟨C,h2,h3⟩,h4⟩,h⟩=>⟨⟨o,ys,hf l o ys C h2 h3,aw.mono sg ws h4⟩,h.move sg hf⟩
 |[],_::_,h=>h.elim
 |_::_,[],h=>h.elim
theorem cu.move(q:cu K Z G H bq v)(sg:av G G')(hf:∀l o ys,H l=some (.cD o (.lst ys))->G l=none->Z.H l=none->H' l=some (.cD o (.lst ys))/\G' l=none/\Z'.H l=none):cu K Z' G' H' bq v:=by
 obtain⟨a,ls,C,h2,h3,h4⟩:=q;exact⟨a,ls,C,sg _ _ h2,h3,h4.move sg hf⟩
noncomputable def dM(K:Fg)(Z:Zt)(G:Hp)(sh:Sh)(ws:List W)(vs:List V):Prop:=aw K G ws vs
theorem dM.m7(h:dM K Z G sh ws vs):aw K G ws vs:=h
theorem dM.of(hs:sh.Ga=false)(h:aw K G ws vs):dM K Z G sh ws vs:=h
theorem dM.nil:dM K Z G sh [] []:=rfl
theorem dM.move(h:dM K Z G sh ws vs)(sg:av G G')(hz:∀a o,G a=some o->Z.H a=none->Z'.H a=none):dM K Z' G' sh ws vs:=aw.mono sg ws h
theorem dM.QZ(hw:∀w∈ws,∃b,w=.bl b)(h:aw K G ws vs):dM K Z G sh ws vs:=h
inductive ju(K:Fg)(Z:Zt)(G H:Hp)(sh:Sh)(ks:List Kx)(ws:List W)(v:Option V):Prop where
 |mk (a:Addr) (kvs:List (Kx×V)) (kas:List Addr) (C:v=some (.ref a)) (h2:H a=some (kh sh kvs kas)) (h3:G a=none) (h4:Z.H a=none) (h5:kvs.map (·.1)=ks) (h6:cM sh G ks kas) (h7:dM K Z G sh ws (kvs.map (·.2))):ju K Z G H sh ks ws v
theorem ju.move{Z':Zt}{G' H':Hp}{sh:Sh}{ks:List Kx}{ws:List W}{v:Option V}(q:ju K Z G H sh ks ws v)(sg:av G G')(hf:∀a kvs kas,H a=some (kh sh kvs kas)->G a=none->Z.H a=none->H' a=some (kh sh kvs kas)/\G' a=none/\Z'.H a=none)(hz:∀a o,G a=some o->Z.H a=none->Z'.H a=none:=by intro _ _ _ z;exact z):ju K Z' G' H' sh ks ws v:=by
 obtain⟨a,kvs,kas,C,h2,h3,h4,h5,h6,h7⟩:=q;obtain⟨k1,k2,k3⟩:=hf a kvs kas h2 h3 h4;exact⟨a,kvs,kas,C,k1,k2,k3,h5,h6.mono sg,h7.move sg hz⟩
noncomputable def qo(Z:Zt):Option Nat->Addr->Prop
 |none,a=>Z.H a=none
 |some j,a=>Z.io[j]?=some a
theorem qo.io(h:qo Z b a):a∈Z.io\/Z.H a=none:=by
 cases b with
 |none=>exact .inr h
 |some j=>exact .inl (w0d h)
inductive uG(K:Fg)(Z:Zt)(G H:Hp)(b:Option Nat)(ws:List W)(v:Option V):Prop where
 |mk (a:Addr) (xs:List V) (C:v=some (.ref a)) (h2:H a=some (.lst xs)) (h3:G a=none) (h4:qo Z b a) (h5:aw K G ws xs):uG K Z G H b ws v
inductive uE(Z:Zt)(G H:Hp)(kvs:Dd)(v:Option V):Prop where
 |mk (a:Addr) (C:v=some (.ref a)) (h2:H a=some (dO kvs)) (h3:G a=none) (h4:Z.H a=none):uE Z G H kvs v
noncomputable def eD(K:Fg)(Z:Zt)(G H:Hp):S->Option V->Prop
 |.no,_=>True
 |.fr w,v=>∃u,v=some u/\Rep K G w u
 |.own b ws,v=>uG K Z G H b ws v
 |.aY kvs,v=>uE Z G H kvs v
 |.nest bq,v=>cu K Z G H bq v
 |.dw sh ks ws,v=>ju K Z G H sh ks ws v
structure Rel(K:Fg)(Z:Zt)(G:Hp)(σ:St)(H:Hp)(e:List S):Prop where
 sub:av G H
 slot:∀(i:Nat)(s:S),e[i]?=some s->eD K Z G H s (σ[i]?.getD none)
 len:e.length=σ.length
 lD:∀(i j:Nat)(b b':Option Nat)(ws ws':List W)(a:Addr),e[i]?=some (.own b ws)->e[j]?=some (.own b' ws')->σ[i]?=some (some (.ref a))->σ[j]?=some (some (.ref a))->i=j
 ent:∀a o,Z.H a=some o->a∉Z.io->H a=some o
 kO:∀a∈Z.io,H a≠none
 gen:∀a,Z.H a≠none->G a=Z.G a
inductive rO(K:Fg)(Z:Zt)(σ:St)(H:Hp)(P:Hp->List S->Prop):Prop where
 |mk (G:Hp) (e:List S) (r:Rel K Z G σ H e) (h:P G e):rO K Z σ H P
structure aQ(G H G' H':Hp):Prop where
 hh:av H H'
 gg:av G G'
 sub:av G' H'
 new:∀a,H a≠none->G' a=G a
theorem aQ.refl(s:av G H):aQ G H G H:=⟨.refl _,.refl _,s,λ_ _=>rfl⟩
theorem aQ.trans(x:aQ G H G1 H1)(y:aQ G1 H1 G2 H2):aQ G H G2 H2:=
 ⟨x.hh.trans y.hh,x.gg.trans y.gg,y.sub,λa h=>by
  rw[y.new a,x.new a h];cases q:H a with
  |none=>exact absurd q h
  |some o=>rw[x.hh a o q];simp⟩
theorem U7(e:av H H')(h:H a≠none):H' a≠none:=by
 cases q:H a with
 |none=>exact absurd q h
 |some o=>rw[e a o q];simp
theorem aQ.laid(s:av G H)(h:H D=none)(o):aQ G H (upd G D o) (upd H D o) where
 hh:=sv h o
 gg:=sv (s.free h) o
 sub:=λb u e=>by
  by_cases hb:b=D
  .grind [bI]
  .rw[aP hb]at e |-;exact s b u e
 new:=λa ha=>by grind [aP]
theorem aQ.ny(s:av G H)(h:H D=none)(o):aQ G H G (upd H D o) where
 hh:=sv h o
 gg:=.refl _
 sub:=λb u e=>by
  have:=s b u e;rw[aP (jf this h)];exact this
 new:=λa ha=>rfl
theorem Rel.grow(r:Rel K Z G σ H e)(g:aQ G H G' H'):Rel K Z G' σ H' e where
 sub:=g.sub
 slot:=λi s h=>by
  have q:=r.slot i s h;cases s with
  |no=>trivial
  |fr w=>
   obtain⟨u,C,h2⟩:=q;exact⟨u,C,Rep.mono g.gg w h2⟩
  |own b ws=>
   obtain⟨a,xs,C,h2,h3,h4,h5⟩:=q;exact⟨a,xs,C,g.hh _ _ h2,by rw[g.new a (by rw[h2];simp)];exact h3,h4,aw.mono g.gg ws h5⟩
  |aY kvs=>
   obtain⟨a,C,h2,h3,h4⟩:=q;exact⟨a,C,g.hh _ _ h2,by rw[g.new a (by rw[h2];simp)];exact h3,h4⟩
  |nest bq=>exact cu.move q g.gg λl o ys C h2 h3=>⟨g.hh _ _ C,by rw[g.new l (by rw[C];simp)];exact h2,h3⟩
  |dw sh ks ws=>exact ju.move q g.gg λl o ys C h2 h3=>⟨g.hh _ _ C,by rw[g.new l (by rw[C];simp)];exact h2,h3⟩
 len:=r.len
 lD:=r.lD
 ent:=λa o h n=>g.hh _ _ (r.ent a o h n)
 kO:=λa h=>U7 g.hh (r.kO a h)
 gen:=λa h=>by
  have:H a≠none:=by
   cases q:Z.H a with
   |none=>exact absurd q h
   |some o=>
    by_cases hi:a∈Z.io
    .exact r.kO a hi
    .rw[r.ent a o q hi];simp
  rw[g.new a this];exact r.gen a h
theorem Rel.own(r:Rel K Z G σ H e){i:Nat}(h:e[i]?=some (.own b ws)):∃a xs,σ[i]?=some (some (.ref a))/\H a=some (.lst xs)/\G a=none/\(qo Z b a)/\aw K G ws xs:=by
 obtain⟨a,xs,C,h2,h3,h4,h5⟩:=r.slot i _ h
 grind
theorem Rel.fr(r:Rel K Z G σ H e){i:Nat}(h:e[i]?=some (.fr w)):∃v,σ[i]?=some (some v)/\Rep K G w v:=by
 obtain⟨v,C,h2⟩:=r.slot i _ h
 grind
theorem Rel.at(r:Rel K Z G σ H e){i:Nat}(h:e[i]?=some s)(hs:eD K Z G H s (σ[i]?.getD none)->σ[i]?.getD none=some v):σ[i]?=some (some v):=by
 have C:=hs (r.slot i _ h)
 grind
theorem Rel.mut(r:Rel K Z G σ H e)(h:e[i]?=some (.own b ws))(ha:σ[i]?=some (some (.ref a)))(q:aw K G ws' jE):Rel K Z G σ (upd H a (.lst jE)) (e.set i (.own b ws')):=by
 obtain⟨a',xs,C,h2,h3,h4,h5⟩:=r.own h;rw[ha]at C;cases C;have hi:i<e.length:=(w0b.mp h).1;refine⟨λc o z=>?_,λj s z=>?_,by simpa using r.len,λj k b1 b2 w1 w2 c z1 z2 z3 z4=>?_,λc o z n=>?_,λc z=>?_,r.gen⟩
 .rw[aP (jf z h3)];exact r.sub c o z
 .by_cases hj:j=i
  .subst hj;rw[w0i hi]at z;cases z;exact⟨a,jE,by rw[ha];rfl,bI,h3,h4,q⟩
  .rw[w0f (λz=>hj z.symm)]at z
   have y:=r.slot j s z;cases s with
   |no=>trivial
   |fr w=>exact y
   |own b2 w2=>
    obtain⟨c,ys,y1,y2,y3,y4,y5⟩:=y;refine⟨c,ys,y1,?_,y3,y4,y5⟩;rw[aP];exact y2;rintro rfl;obtain⟨c',_,z1,_⟩:=r.own z;rw[z1]at y1;cases y1;exact hj (r.lD j i _ _ _ _ _ z h z1 ha)
   |aY kvs=>
    obtain⟨c,y1,y2,y3,y4⟩:=y;refine⟨c,y1,?_,y3,y4⟩;rw[aP (gh y2 h2 (uf rfl))];exact y2
   |nest bq=>exact cu.move y (.refl _) λl o ys k1 k2 k3=>⟨by rw[aP (gh k1 h2 (λz=>nomatch z))];exact k1,k2,k3⟩
   |dw sh ks ws=>exact ju.move y (.refl _) λl o ys k1 k2 k3=>⟨by rw[aP (gh k1 h2 (oW rfl))];exact k1,k2,k3⟩
 .have old:∀(k:Nat)(bb:Option Nat)(ww:List W),(e.set i (S.own b ws'))[k]?=some (.own bb ww)->∃b' w',e[k]?=some (.own b' w'):=λk bb ww z=>by
   grind
  obtain⟨_,_,q1⟩:=old _ _ _ z1;obtain⟨_,_,q2⟩:=old _ _ _ z2;exact r.lD _ _ _ _ _ _ _ q1 q2 z3 z4
 .by_cases J:c=a
  .grind [qo.io]
  .rw[aP J];exact r.ent c o z n
 .by_cases J:c=a
  .grind [bI]
  .rw[aP J];exact r.kO c z
theorem Rel.freeze(r:Rel K Z G σ H e)(h:e[i]?=some (.own none ws)):∃v G',σ[i]?=some (some v)/\av G G'/\Rep K G' (.lst ws) v/\Rel K Z G' σ H (e.set i (.fr (.lst ws))):=by
 obtain⟨a,xs,C,h2,h3,h4,h5⟩:=r.own h;have h4:Z.H a=none:=h4;have sg:av G (upd G a (.lst xs)):=sv h3 _;have hi:i<e.length:=(w0b.mp h).1;have rp:Rep K (upd G a (.lst xs)) (.lst ws) (.ref a):=⟨a,xs,rfl,cy.of bI,aw.mono sg ws h5⟩;refine⟨.ref a,upd G a (.lst xs),C,sg,rp,⟨λc o z=>?_,λj s z=>?_,by simpa using r.len,λj k b1 b2 w1 w2 c z1 z2 z3 z4=>?_,r.ent,r.kO,λc z=>?_⟩⟩
 .by_cases J:c=a
  .grind [bI]
  .rw[aP J]at z;exact r.sub c o z
 .by_cases hj:j=i
  .subst hj;rw[w0i hi]at z;cases z;exact⟨.ref a,by rw[C];rfl,rp⟩
  .rw[w0f (λz=>hj z.symm)]at z
   have y:=r.slot j s z;cases s with
   |no=>trivial
   |fr w=>
    obtain⟨u,y1,y2⟩:=y;exact⟨u,y1,Rep.mono sg w y2⟩
   |own b2 w2=>
    obtain⟨c,ys,y1,y2,y3,y4,y5⟩:=y;refine⟨c,ys,y1,y2,?_,y4,aw.mono sg w2 y5⟩;rw[aP];exact y3;rintro rfl;obtain⟨c',_,z1,_⟩:=r.own z;rw[z1]at y1;cases y1;exact hj (r.lD j i _ _ _ _ _ z h z1 C)
   |aY kvs=>
    obtain⟨c,y1,y2,y3,y4⟩:=y;refine⟨c,y1,y2,?_,y4⟩;rw[aP (gh y2 h2 (uf rfl))];exact y3
   |nest bq=>exact cu.move y sg λl o ys k1 k2 k3=>⟨k1,by rw[aP (gh k1 h2 (λz=>nomatch z))];exact k2,k3⟩
   |dw sh ks ws=>exact ju.move y sg λl o ys k1 k2 k3=>⟨k1,by rw[aP (gh k1 h2 (oW rfl))];exact k2,k3⟩
 .have old:∀(k:Nat)(bb:Option Nat)(ww:List W),(e.set i (S.fr (W.lst ws)))[k]?=some (.own bb ww)->e[k]?=some (.own bb ww):=λk bb ww z=>by
   grind
  exact r.lD _ _ _ _ _ _ _ (old _ _ _ z1) (old _ _ _ z2) z3 z4
 .by_cases J:c=a
  .grind
  .rw[aP J];exact r.gen c z
noncomputable def i5(σ:St)(e:List S)(a:Addr):Prop:=∀(j:Nat)(b:Option Nat)(ws:List W),e[j]?=some (.own b ws)->σ[j]?≠some (some (.ref a))
theorem Rel.set(r:Rel K Z G σ H e)(q:Rep K G w v):Rel K Z G (σ.set i (some v)) H (e.set i (.fr w)):=by
 refine⟨r.sub,λj s z=>?_,by simpa using r.len,λj k b1 b2 w1 w2 c z1 z2 z3 z4=>?_,r.ent,r.kO,r.gen⟩
 .by_cases hj:j=i
  .subst hj
   have hi:j<e.length:=by
    grind
   rw[w0i hi]at z;cases z;rw[w0i (by rw[<- r.len];exact hi)];exact⟨v,rfl,q⟩
  .rw[w0f (λz=>hj z.symm)]at z |-
   exact r.slot j s z
 .have old:∀(k:Nat)(bb:Option Nat)(ww:List W),(e.set i (S.fr w))[k]?=some (.own bb ww)->k≠i/\e[k]?=some (.own bb ww):=λk bb ww z=>by
   grind
  obtain⟨n1,q1⟩:=old _ _ _ z1;obtain⟨n2,q2⟩:=old _ _ _ z2;rw[w0f (λz=>n1 z.symm)]at z3
  rw[w0f (λz=>n2 z.symm)]at z4
  exact r.lD _ _ _ _ _ _ _ q1 q2 z3 z4
theorem Rel.rG(r:Rel K Z G σ H e)(h2:H a=some (.lst xs))(h3:G a=none)(h4:Z.H a=none)(hf:i5 σ e a)(q:aw K G ws xs):Rel K Z G (σ.set i (some (.ref a))) H (e.set i (.own none ws)):=by
 refine⟨r.sub,λj s z=>?_,by simpa using r.len,λj k b1 b2 w1 w2 c z1 z2 z3 z4=>?_,r.ent,r.kO,r.gen⟩
 .by_cases hj:j=i
  .subst hj
   have hi:j<e.length:=by
    grind
   rw[w0i hi]at z;cases z;rw[w0i (by rw[<- r.len];exact hi)];exact⟨a,xs,rfl,h2,h3,h4,q⟩
  .rw[w0f (λz=>hj z.symm)]at z |-
   exact r.slot j s z
 .have both:∀(k:Nat)(bb:Option Nat)(ww:List W),(e.set i (S.own none ws))[k]?=some (.own bb ww)->(σ.set i (some (.ref a)))[k]?=some (some (.ref c))->(k=i/\c=a)\/(k≠i/\e[k]?=some (.own bb ww)/\σ[k]?=some (some (.ref c))/\c≠a):=λk bb ww z y=>by
   by_cases hk:k=i
   .grind
   .rw[w0f (λz=>hk z.symm)]at z y
    exact .inr ⟨hk,z,y,λe=>hf k bb ww z (by rw[y,e])⟩
  rcases both _ _ _ z1 z3 with⟨e1,c1⟩|⟨n1,q1,p1,c1⟩<;>rcases both _ _ _ z2 z4 with⟨e2,c2⟩|⟨n2,q2,p2,c2⟩
  .rw[e1,e2]
  .exact absurd c1 c2
  .exact absurd c2 c1
  .exact r.lD _ _ _ _ _ _ _ q1 q2 p1 p2
theorem Rel.forget(r:Rel K Z G σ H e)(hl:e'.length=e.length)(h:∀(i:Nat)(s:S),e'[i]?=some s->s=.no\/e[i]?=some s):Rel K Z G σ H e':=by
 refine⟨r.sub,λj s z=>?_,by rw[hl];exact r.len,λj k b1 b2 w1 w2 c z1 z2 z3 z4=>?_,r.ent,r.kO,r.gen⟩
 .rcases h j s z with rfl|q
  .trivial
  .exact r.slot j s q
 .rcases h _ _ z1 with q1|q1
  .cases q1
  .rcases h _ _ z2 with q2|q2
   .cases q2
   .exact r.lD _ _ _ _ _ _ _ q1 q2 z3 z4
set_option genInjectivity true in
inductive R(α:Type) where
 |ok (a:α) (e:List S)|ex (c:Value) (e:List S)|no
noncomputable abbrev Den(α:Type):=List S->R α
variable{dA:Den (List W)}
noncomputable def R.bind{α β:Type}:R α->(α->List S->R β)->R β
 |.ok a e,k=>k a e
 |.ex c e,_=>.ex c e
 |.no,_=>.no
noncomputable def R.holds(r:R α)(P:α->List S->Prop)(E:Value->List S->Prop):Prop:=match r with
 |.ok a e=>P a e
 |.ex c e=>E c e
 |.no=>False
theorem R.ay{r:R α}{P:β->List S->Prop}:(r.bind k).holds P E↔r.holds (λa e=>(k a e).holds P E) E:=by
 cases r<;>rfl
theorem R.holds.imp{r:R α}(h:r.holds P E)(p:∀a e,P a e->P' a e)(x:∀c e,E c e->E' c e):r.holds P' E':=by
 cases r with
 |ok a e=>exact p a e h
 |ex c e=>exact x c e h
 |no=>exact h
noncomputable def a_(o:Option α)(e:List S):R α:=match o with
 |some a=>.ok a e
 |none=>.no
theorem aV{P:α->List S->Prop}:(a_ o e).holds P E↔∃a,o=some a/\P a e:=by
 cases o with
 |none=>exact⟨λh=>h.elim,fun⟨_,h,_⟩=>nomatch h⟩
 |some a=>exact⟨λh=>⟨a,rfl,h⟩,fun⟨_,h,q⟩=>by cases h;exact q⟩
set_option genInjectivity true in
inductive SR where
 |nx (e:List S)|rt (s:S) (e:List S)|bk (e:List S)|ct (e:List S)|ex (c:Value) (e:List S)|no
section
variable(K:Fg)(Z:Zt)(EE:L2.St->XK)
abbrev XH(σ:St)(G:Hp):Value->List S->Prop:=λc e'=>∀G' H',Rel K Z G' σ H' e'->av G G'->EE σ c none H'
noncomputable def hV(d:Den W):TE:=λσ H Q=>rO K Z σ H λG e=>(d e).holds (λw e'=>∀G' v H',Rel K Z G' σ H' e'->av G G'->Rep K G' w v->Q v H') (XH K Z EE σ G)
noncomputable def u6(d:Den (List W)):TA:=λσ H Q=>rO K Z σ H λG e=>(d e).holds (λws e'=>∀G' vs H',Rel K Z G' σ H' e'->av G G'->aw K G' ws vs->Q vs H') (XH K Z EE σ G)
noncomputable def liftT(d:Den Bool):TT:=λσ H Q=>rO K Z σ H λG e=>(d e).holds (λb e'=>∀G' H',Rel K Z G' σ H' e'->av G G'->Q b H') (XH K Z EE σ G)
noncomputable def oH(d:Den (List W)):TE:=λσ H Q=>rO K Z σ H λG e=>(d e).holds (λws e'=>∀G' a xs H',Rel K Z G' σ H' e'->av G G'->H' a=some (.lst xs)->G' a=none->Z.H a=none->i5 σ e' a->aw K G' ws xs->Q (.ref a) H') (XH K Z EE σ G)
noncomputable def aZ(D:Ends)(G:Hp):SR->Prop
 |.nx e'=>∀G' aS H',Rel K Z G' aS H' e'->av G G'->D.nx aS H'
 |.bk e'=>∀G' aS H',Rel K Z G' aS H' e'->av G G'->D.bk aS H'
 |.ct e'=>∀G' aS H',Rel K Z G' aS H' e'->av G G'->D.ct aS H'
 |.rt s e'=>∀G' aS v H',Rel K Z G' aS H' e'->av G G'->eD K Z G' H' s (some v)->D.rt v H'
 |.ex c e'=>∀G' aS H',Rel K Z G' aS H' e'->av G G'->EE aS c none H'
 |.no=>False
noncomputable def fB(d:List S->SR):TS:=λD σ H=>rO K Z σ H λG e=>aZ K Z EE D G (d e)
end
section
variable(Z:Zt)(X:Cx)(EE:L2.St->XK)
noncomputable def DE(e:Expr)(d:Den W):Prop:=PE X e (hV X.K Z EE d)
noncomputable def DF(e:Expr)(d:Den (List W)):Prop:=PE X e (oH X.K Z EE d)
noncomputable def DT(e:Expr)(d:Den Bool):Prop:=PT X e (liftT X.K Z EE d)
noncomputable def DW(e:Expr)(d:Den Bool):Prop:=PW X e (liftT X.K Z EE d)
noncomputable def DA(es:List Expr)(d:Den (List W)):Prop:=PA X es (u6 X.K Z EE d)
noncomputable def DS(st:Stmt)(d:List S->SR):Prop:=PS X st (fB X.K Z EE d)
noncomputable def nq(sts:List Stmt)(d:List S->SR):Prop:=kN X sts (fB X.K Z EE d)
end
theorem PE.mono(h:PE X e t)(i:∀σ H Q,t' σ H Q->t σ H Q):PE X e t':=λpins s σ H Q I q=>h pins s σ H Q I (i σ H Q q)
theorem PT.mono(h:PT X e t)(i:∀σ H Q,t' σ H Q->t σ H Q):PT X e t':=λpins s σ H Q I q=>h pins s σ H Q I (i σ H Q q)
theorem PW.mono(h:PW X e t)(i:∀σ H Q,t' σ H Q->t σ H Q):PW X e t':=λwh pins s σ H Q I q=>h wh pins s σ H Q I (i σ H Q q)
theorem PA.mono(h:PA X es t)(i:∀σ H Q,t' σ H Q->t σ H Q):PA X es t':=λp pins s σ H Q I q=>h p pins s σ H Q I (i σ H Q q)
theorem PS.mono(h:PS X st t)(i:∀D σ H,t' D σ H->t D σ H):PS X st t':=λpins s σ H D I q=>h pins s σ H D I (i D σ H q)
theorem kN.mono(h:kN X st t)(i:∀D σ H,t' D σ H->t D σ H):kN X st t':=λpins s σ H D I q=>h pins s σ H D I (i D σ H q)
section
variable(K:Fg)
noncomputable def jF(r:R2)(f:W->W->Option W):Prop:=∀(G H:Hp)(x y:V)(wx wy w:W)(Q:VK),av G H->Rep K G wx x->Rep K G wy y->f wx wy=some w->(∀G' v H',aQ G H G' H'->Rep K G' w v->Q v H')->r x y H Q
noncomputable def EY(r:V->Hp->VK->Prop)(f:W->Option W):Prop:=∀(G H:Hp)(x:V)(wx w:W)(Q:VK),av G H->Rep K G wx x->f wx=some w->(∀G' v H',aQ G H G' H'->Rep K G' w v->Q v H')->r x H Q
noncomputable def pS(r:List V->Hp->VK->Prop)(f:List W->Option W):Prop:=∀(G H:Hp)(xs:List V)(ws:List W)(w:W)(Q:VK),av G H->aw K G ws xs->f ws=some w->(∀G' v H',aQ G H G' H'->Rep K G' w v->Q v H')->r xs H Q
end
noncomputable def dC(w:W):Den W:=λe=>.ok w e
noncomputable def ae(i:Nat):Den W:=λe=>match e[i]? with
 |some (.fr w)=>.ok w e
 |some (.own none ws)=>.ok (.lst ws) (e.set i (.fr (.lst ws)))
 |_=>.no
noncomputable def aq(f:W->W->Option W)(da db:Den W):Den W:=λe=>(da e).bind λx e1=>(db e1).bind λy e2=>a_ (f x y) e2
noncomputable def mR(f:W->Option W)(da:Den W):Den W:=λe=>(da e).bind λx e1=>a_ (f x) e1
noncomputable def aD(da:Den W):Den Bool:=λe=>(da e).bind λx e1=>match x with
 |.bl k=>.ok k e1
 |_=>.no
noncomputable def mj:W->Option Bool
 |.aG=>some false
 |.bl b=>some b
 |.int i=>some (i != 0)
 |.str x=>if x.length<=16777216 then some ((x.length:Int) != 0)else none
 |.tup xs=>some (!xs.isEmpty)
 |.lst xs=>some (!xs.isEmpty)
 |.exc _=>none
 |.aY _=>none
 |.dw _ _ _ _=>none
 |.fn _ _ _=>none
noncomputable def kU(da:Den W):Den Bool:=λe=>(da e).bind λx e1=>a_ (mj x) e1
noncomputable def iM(a b:Den Bool):Den Bool:=λe=>(a e).bind λx e1=>if x=true then b e1 else .ok false e1
noncomputable def wk(a b:Den Bool):Den Bool:=λe=>(a e).bind λx e1=>if x=true then .ok true e1 else b e1
noncomputable def lT(a:Den Bool):Den Bool:=λe=>(a e).bind λx e1=>.ok (!x) e1
noncomputable def c_(a b:Den W):Den W:=λe=>(a e).bind λx e1=>match x with
 |.bl true=>b e1
 |.bl false=>.ok (.bl false) e1
 |_=>.no
noncomputable def j8(a:Den W):Den W:=λe=>(a e).bind λx e1=>match x with
 |.bl k=>.ok (.bl (!k)) e1
 |_=>.no
noncomputable def zJ(c:Den Bool)(a b:Den W):Den W:=λe=>(c e).bind λx e1=>if x=true then a e1 else b e1
noncomputable def ah:Den (List W):=λe=>.ok [] e
noncomputable def ab(a:Den W)(r:Den (List W)):Den (List W):=λe=>(a e).bind λx e1=>(r e1).bind λxs e2=>.ok (x::xs) e2
noncomputable def bP(a:Den (List W)):Den W:=λe=>(a e).bind λxs e1=>if xs.length<=16777216 then .ok (.tup xs) e1 else .no
noncomputable def cC(a:Den (List W)):Den (List W):=λe=>(a e).bind λxs e1=>if xs.length<=16777216 then .ok xs e1 else .no
noncomputable def g8(a:Den (List W)):Den W:=λe=>(a e).bind λxs e1=>.ok (.lst xs) e1
noncomputable def cX(f:List W->Option W)(a:Den (List W)):Den W:=λe=>(a e).bind λxs e1=>a_ (f xs) e1
section
variable{X:Cx}{a b c e:Expr}{da db:Den W}{ta:Den Bool}
theorem XH.trans{G1:Hp}(s:av G G1){c:Value}{e:List S}(h:XH K Z EE σ G c e):XH K Z EE σ G1 c e:=λG' H' r q=>h G' H' r (s.trans q)
theorem t9{j pos}:DE Z X EE (.Constant (.int i) j pos) (dC (.int i)):=PE.mono xt λσ H Q ⟨G,e,r,h⟩=>h G (.int i) H r (.refl _) rfl
theorem QA{j pos}:DE Z X EE (.Constant (.bool i) j pos) (dC (.bl i)):=PE.mono z7l λσ H Q ⟨G,e,r,h⟩=>h G (.bl i) H r (.refl _) rfl
theorem ZP{j pos}:DE Z X EE (.Constant .none j pos) (dC .aG):=PE.mono Px λσ H Q ⟨G,e,r,h⟩=>h G .aG H r (.refl _) rfl
theorem ZQ{j pos}:DE Z X EE (.Constant (.str i) j pos) (dC (.str i)):=PE.mono YX λσ H Q ⟨G,e,r,h⟩=>h G (.str i) H r (.refl _) rfl
theorem Wz:∀σ H Q,hV K Z EE (ae i) σ H Q->pQ i σ H Q:=by
 rintro σ H Q ⟨G,e,r,h⟩;unfold ae at h;split at h
 .rename_i w hw;obtain⟨v,C,h2⟩:=r.fr hw;exact⟨v,C,h G v H r (.refl _) h2⟩
 .rename_i ws hw;obtain⟨v,G',C,h2,h3,h4⟩:=r.freeze hw;exact⟨v,C,h G' v H h4 h2 h3⟩
 .exact h.elim
theorem dv(i:Nat)(hN:autoParam (X.N[i]?=some x) jJ)(hv:autoParam (j0 X.env.scope x) jN)(hd:autoParam ((x==("__debug__":Str))=false) jK)
  (dU:autoParam ((x==("__classdict__":Str))=false) jK):DE Z X EE (.Name x pos) (ae i):=PE.mono (pv i hN hv hd dU) Wz
theorem vw(hf:jF K r f):∀σ H Q,hV K Z EE (aq f da db) σ H Q->B3 r (hV K Z EE da) (hV K Z EE db) σ H Q:=by
 rintro σ H Q ⟨G,e,rel,h⟩;simp only[aq,R.ay,aV]at h;refine⟨G,e,rel,h.imp (λx e1 h G1 v1 H1 r1 s1 p1=>?_) λ_ _ h=>h⟩
 refine⟨G1,e1,r1,h.imp (λy e2 h G2 v2 H2 r2 s2 p2=>?_) λ_ _ h=>XH.trans s1 h⟩
 obtain⟨w,hw,h⟩:=h;exact hf G2 H2 v1 v2 x y w Q r2.sub (Rep.mono s2 x p1) p2 hw λG' v H' g p=>h G' v H' (r2.grow g) ((s1.trans s2).trans g.gg) p
theorem xw(ho:gT X (binaryOp op) r)(hf:jF X.K r f)(ha:DE Z X EE a da)(hb:DE Z X EE b db):DE Z X EE (.BinOp a op b pos) (aq f da db):=PE.mono (Ka ho ha hb) (vw hf)
theorem Bo(ho:gT X (compareOp op) r)(hf:jF X.K r f)(ha:DE Z X EE a da)(hb:DE Z X EE b db)(hm:behindInMarks op b=false):DE Z X EE (.Compare a [op] [b] pos) (aq f da db):=PE.mono (XT ho ha hb hm) (vw hf)
theorem HR(h:liftT K Z EE (aD da) σ H Q):hV K Z EE da σ H (λx H'=>∃k,x=.bl k/\Q k H'):=by
 obtain⟨G,e,rel,h⟩:=h;simp only[aD,R.ay]at h;refine⟨G,e,rel,h.imp (λx e1 h G1 v1 H1 r1 s1 p1=>?_) λ_ _ h=>h⟩
 cases x with
 |bl k=>
  cases(show v1=V.bl k from p1);exact⟨k,rfl,h G1 H1 r1 s1⟩
 |_=>exact h.elim
theorem yO(ho:gT X (compareOp op) r)(hf:jF X.K r f)(ha:DE Z X EE a da)(hb:DE Z X EE b db)(hm:behindInMarks op b=false):DT Z X EE (.Compare a [op] [b] pos) (aD (aq f da db)):=
 PT.mono (XU ho ha hb hm) λσ H Q h=>vw hf σ H _ (HR h)
theorem X6(hf:EY K r f):∀σ H Q,hV K Z EE (mR f da) σ H Q->Mm r (hV K Z EE da) σ H Q:=by
 rintro σ H Q ⟨G,e,rel,h⟩;simp only[mR,R.ay,aV]at h;refine⟨G,e,rel,h.imp (λx e1 h G1 v1 H1 r1 s1 p1=>?_) λ_ _ h=>h⟩
 obtain⟨w,hw,h⟩:=h;exact hf G1 H1 v1 x w Q r1.sub p1 hw λG' v H' g p=>h G' v H' (r1.grow g) (s1.trans g.gg) p
theorem z7q(ho:zy X (unaryOp op) r)(hf:EY X.K r f)(ha:DE Z X EE a da):DE Z X EE (.UnaryOp op a pos) (mR f da):=PE.mono (z7o ho ha) (X6 hf)
theorem ZR(s:av G H)(h:Rep K G w v)(e:mj w=some k):vY K v H k:=by
 cases w with
 |aG=>cases(show v=.aG from h);cases e;rfl
 |bl b=>cases(show v=.bl b from h);cases e;rfl
 |int i=>cases(show v=.int i from h);cases e;rfl
 |str x=>
  cases(show v=.str x from h);simp only[mj]at e;split at e
  .cases e;exact⟨by grind [sizeLine_eq],rfl⟩
  .cases e
 |tup ws=>
  obtain⟨p,xs,rfl,q,r⟩:=h;cases e;refine .inr (.inl ⟨xs,s.tup q,?_⟩);have:=r.length
  grind
 |lst ws=>
  obtain⟨p,xs,rfl,q,r⟩:=h;cases e;refine .inl ⟨xs,s.seq q,?_⟩;have:=r.length
  grind
 |exc _=>cases e
 |aY _=>cases e
 |dw _ _ _ _=>cases e
 |fn _ _ _=>cases e
theorem ZS(ha:DE Z X EE a da)(he:∀whole,isTrue a X.env whole=(do let v <- whole;standAt a.pos;holding [v] (truthy v)):=by intro _;rfl):DT Z X EE a (kU da):=by
 refine PT.mono (Wr ha he) ?_;rintro σ H Q ⟨G,e,rel,h⟩;simp only[kU,R.ay,aV]at h;refine⟨G,e,rel,h.imp (λx e1 h G1 v1 H1 r1 s1 p1=>?_) λ_ _ h=>h⟩
 obtain⟨k,hk,h⟩:=h;exact⟨k,ZR r1.sub p1 hk,h G1 H1 r1 s1⟩
theorem WA:∀σ H Q,liftT K Z EE (iM ta tb) σ H Q->BV (liftT K Z EE ta) (liftT K Z EE tb) σ H Q:=by
 rintro σ H Q ⟨G,e,rel,h⟩;simp only[iM,R.ay]at h;refine⟨G,e,rel,h.imp (λx e1 h G1 H1 r1 s1=>?_) λ_ _ h=>h⟩
 cases x with
 |true=>exact⟨G1,e1,r1,R.holds.imp (show(tb e1).holds _ _ from h) (λy e2 h G2 H2 r2 s2=>h G2 H2 r2 (s1.trans s2)) λ_ _ h=>XH.trans s1 h⟩
 |false=>exact(show ∀G' H',_->_->Q false H' from h) G1 H1 r1 s1
theorem X7:∀σ H Q,liftT K Z EE (wk ta tb) σ H Q->Ml (liftT K Z EE ta) (liftT K Z EE tb) σ H Q:=by
 rintro σ H Q ⟨G,e,rel,h⟩;simp only[wk,R.ay]at h;refine⟨G,e,rel,h.imp (λx e1 h G1 H1 r1 s1=>?_) λ_ _ h=>h⟩
 cases x with
 |false=>exact⟨G1,e1,r1,R.holds.imp (show(tb e1).holds _ _ from h) (λy e2 h G2 H2 r2 s2=>h G2 H2 r2 (s1.trans s2)) λ_ _ h=>XH.trans s1 h⟩
 |true=>exact(show ∀G' H',_->_->Q true H' from h) G1 H1 r1 s1
theorem X8(ha:DT Z X EE a ta):DW Z X EE (.BoolOp .And [a] pos) ta:=XM ha
theorem ZT(ha:DT Z X EE a ta):DW Z X EE (.BoolOp .Or [a] pos) ta:=YY ha
theorem ZU{rest:List Expr}(ha:DT Z X EE a ta)(hb:DW Z X EE (.BoolOp .And (b::rest) pos) tb):DW Z X EE (.BoolOp .And (a::b::rest) pos) (iM ta tb):=PW.mono (YZ ha hb) WA
theorem z7r{rest:List Expr}(ha:DT Z X EE a ta)(hb:DW Z X EE (.BoolOp .Or (b::rest) pos) tb):DW Z X EE (.BoolOp .Or (a::b::rest) pos) (wk ta tb):=PW.mono (z7m ha hb) X7
theorem E9(h:DW Z X EE a ta):DT Z X EE a ta:=PW.pt h
theorem ZV(ha:DT Z X EE a ta):DT Z X EE (.UnaryOp .Not a pos) (lT ta):=by
 refine PT.mono (Y0 ha) ?_;rintro σ H Q ⟨G,e,rel,h⟩;simp only[lT,R.ay]at h;exact⟨G,e,rel,h.imp (λx e1 h G1 H1 r1 s1=>h G1 H1 r1 s1) λ_ _ h=>h⟩
theorem ZW{op}(h:DE Z X EE a da):DE Z X EE (.BoolOp op [a] pos) da:=Y1 h
theorem Ek{rest:List Expr}(ha:DE Z X EE a da)(hb:DE Z X EE (.BoolOp .And (b::rest) pos) db):DE Z X EE (.BoolOp .And (a::b::rest) pos) (c_ da db):=by
 refine PE.mono (Y2 ha hb) ?_;rintro σ H Q ⟨G,e,rel,h⟩;simp only[c_,R.ay]at h;refine⟨G,e,rel,h.imp (λx e1 h G1 v1 H1 r1 s1 p1=>?_) λ_ _ h=>h⟩
 cases x with
 |bl k=>
  cases(show v1=V.bl k from p1);cases k with
  |true=>exact⟨true,rfl,⟨G1,e1,r1,R.holds.imp (show(db e1).holds _ _ from h) (λy e2 h G2 v2 H2 r2 s2 p2=>h G2 v2 H2 r2 (s1.trans s2) p2) λ_ _ h=>XH.trans s1 h⟩⟩
  |false=>exact⟨false,rfl,(show ∀G' v H',_->_->v=V.bl false->Q v H' from h) G1 _ H1 r1 s1 rfl⟩
 |_=>exact h.elim
theorem Pm(ha:DE Z X EE a da):DE Z X EE (.UnaryOp .Not a pos) (j8 da):=by
 refine PE.mono (Y3 ha) ?_;rintro σ H Q ⟨G,e,rel,h⟩;simp only[j8,R.ay]at h;refine⟨G,e,rel,h.imp (λx e1 h G1 v1 H1 r1 s1 p1=>?_) λ_ _ h=>h⟩
 cases x with
 |bl k=>
  cases(show v1=V.bl k from p1);exact⟨k,rfl,(show ∀G' v H',_->_->v=V.bl (!k)->Q v H' from h) G1 _ H1 r1 s1 rfl⟩
 |_=>exact h.elim
theorem z7s(J:DT Z X EE c dc)(ha:DE Z X EE a da)(hb:DE Z X EE b db):DE Z X EE (.IfExp c a b pos) (zJ dc da db):=by
 refine PE.mono (Wl J ha hb) ?_;rintro σ H Q ⟨G,e,rel,h⟩;simp only[zJ,R.ay]at h;refine⟨G,e,rel,h.imp (λx e1 h G1 H1 r1 s1=>?_) λ_ _ h=>h⟩
 cases x with
 |true=>exact⟨G1,e1,r1,R.holds.imp (show(da e1).holds _ _ from h) (λy e2 h G2 v2 H2 r2 s2 p2=>h G2 v2 H2 r2 (s1.trans s2) p2) λ_ _ h=>XH.trans s1 h⟩
 |false=>exact⟨G1,e1,r1,R.holds.imp (show(db e1).holds _ _ from h) (λy e2 h G2 v2 H2 r2 s2 p2=>h G2 v2 H2 r2 (s1.trans s2) p2) λ_ _ h=>XH.trans s1 h⟩
theorem Bp:DA Z X EE [] ah:=PA.mono yN λσ H Q ⟨G,e,r,h⟩=>h G [] H r (.refl _) rfl
theorem xq(ha:DE Z X EE e da)(hr:DA Z X EE es dA)(hs:autoParam (starEach (e::es) X.env=(false,eval e X.env)::starEach es X.env) jJ):DA Z X EE (e::es) (ab da dA):=by
 refine PA.mono (t6 ha hr hs) ?_;rintro σ H Q ⟨G,e,rel,h⟩;simp only[ab,R.ay]at h;refine⟨G,e,rel,h.imp (λx e1 h G1 v1 H1 r1 s1 p1=>?_) λ_ _ h=>h⟩
 refine⟨G1,e1,r1,h.imp (λxs e2 h G2 vs H2 r2 s2 p2=>?_) λ_ _ h=>XH.trans s1 h⟩
 exact h G2 (v1::vs) H2 r2 (s1.trans s2) ⟨v1,vs,rfl,Rep.mono s2 x p1,p2⟩
theorem JW{x1}(h:DA Z X EE es dA):DE Z X EE (.Tuple es x1 pos) (bP dA):=by
 refine PE.mono (PD h) ?_;rintro σ H Q ⟨G,e,rel,h⟩;simp only[bP,R.ay]at h;refine⟨G,e,rel,h.imp (λws e1 h G1 vs H1 r1 s1 p1=>?_) λ_ _ h=>h⟩
 split at h
 .rename_i hl;refine⟨by rw[p1.length,sizeLine_eq];exact hl,λp hp=>?_⟩
  have g:=aQ.laid r1.sub hp (.tup vs);exact(show ∀G' v H',_->_->Rep X.K G' (.tup ws) v->Q v H' from h) _ (.ref p) _ (r1.grow g) (s1.trans g.gg) ⟨p,vs,rfl,eK.of bI,aw.mono g.gg ws p1⟩
 .exact h.elim
theorem yG{e:List S}(r:Rel K Z G σ H e){p:Addr}(hp:H p=none):i5 σ e p:=λj b ws h q=>by
 obtain⟨a,xs,C,h2,_⟩:=r.own h;rw[q]at C;cases C;rw[hp]at h2;cases h2
theorem p9{e:List S}(r:Rel K Z G σ H e){p:Addr}(hp:H p=none):Z.H p=none:=by
 cases q:Z.H p with
 |none=>rfl
 |some o=>
  by_cases hi:p∈Z.io
  .exact absurd hp (r.kO p hi)
  .rw[r.ent p o q hi]at hp;cases hp
theorem Bc{e:List S}{ws:List W}{vs:List V}{Q:VK}{G0:Hp}(r:Rel K Z G σ H e)(s:av G0 G)(p1:aw K G ws vs)
  (h:∀G' a xs H',Rel K Z G' σ H' e->av G0 G'->H' a=some (.lst xs)->G' a=none->Z.H a=none->i5 σ e a->aw K G' ws xs->Q (.ref a) H'):∀p,H p=none->Q (.ref p) (upd H p (.lst vs)):=λp hp=>by
 have g:=aQ.ny r.sub hp (.lst vs);exact h G p vs _ (r.grow g) s bI (r.sub.free hp) (p9 r hp) (yG r hp) p1
theorem ZX(h:DA Z X EE es dA):DF Z X EE (.List es pos) (cC dA):=by
 refine PE.mono (PH h) ?_;rintro σ H Q ⟨G,e,rel,h⟩;simp only[cC,R.ay]at h;refine⟨G,e,rel,h.imp (λws e1 h G1 vs H1 r1 s1 p1=>?_) λ_ _ h=>h⟩
 split at h
 .rename_i hl;exact⟨by rw[p1.length,sizeLine_eq];exact hl,Bc r1 s1 p1 h⟩
 .exact h.elim
theorem Rel.seen{e:List S}(r:Rel K Z G σ H e){a:Addr}{xs:List V}(h:H a=some (.lst xs))(hg:G a=none)(hz:Z.H a=none)(hf:i5 σ e a):av G (upd G a (.lst xs))/\Rel K Z (upd G a (.lst xs)) σ H e:=by
 have sg:av G (upd G a (.lst xs)):=sv hg _;refine⟨sg,⟨λc o z=>?_,λj s z=>?_,r.len,r.lD,r.ent,r.kO,λc z=>?_⟩⟩
 .by_cases J:c=a
  .subst J;rw[bI]at z;cases z;exact h
  .rw[aP J]at z;exact r.sub c o z
 .have y:=r.slot j s z;cases s with
  |no=>trivial
  |fr w=>
   obtain⟨u,y1,y2⟩:=y;exact⟨u,y1,Rep.mono sg w y2⟩
  |own b2 w2=>
   obtain⟨c,ys,y1,y2,y3,y4,y5⟩:=y;refine⟨c,ys,y1,y2,?_,y4,aw.mono sg w2 y5⟩;rw[aP];exact y3;rintro rfl;obtain⟨c',_,z1,_⟩:=r.own z;rw[z1]at y1;cases y1;exact hf j b2 w2 z z1
  |aY kvs=>
   obtain⟨c,y1,y2,y3,y4⟩:=y;refine⟨c,y1,y2,?_,y4⟩;rw[aP (gh y2 h (uf rfl))];exact y3
  |nest bq=>exact cu.move y sg λl o ys k1 k2 k3=>⟨k1,by rw[aP (gh k1 h (λz=>nomatch z))];exact k2,k3⟩
  |dw sh ks ws=>exact ju.move y sg λl o ys k1 k2 k3=>⟨k1,by rw[aP (gh k1 h (oW rfl))];exact k2,k3⟩
 .by_cases J:c=a
  .subst J;exact absurd hz z
  .rw[aP J];exact r.gen c z
theorem xx(h:DF Z X EE e dA):DE Z X EE e (g8 dA):=by
 refine PE.mono h ?_;rintro σ H Q ⟨G,e,rel,h⟩;simp only[g8,R.ay]at h;refine⟨G,e,rel,h.imp (λws e1 h G1 a xs H1 r1 s1 q1 q2 q3 q4 p1=>?_) λ_ _ h=>h⟩
 obtain⟨sg,rg⟩:=r1.seen q1 q2 q3 q4;exact(show ∀G' v H',_->_->Rep X.K G' (.lst ws) v->Q v H' from h) _ (.ref a) _ rg (s1.trans sg) ⟨a,xs,rfl,cy.of bI,aw.mono sg ws p1⟩
theorem N'(hf:pS K r f):∀σ H Q,hV K Z EE (cX f dA) σ H Q->IB r (u6 K Z EE dA) σ H Q:=by
 rintro σ H Q ⟨G,e,rel,h⟩;simp only[cX,R.ay,aV]at h;refine⟨G,e,rel,h.imp (λws e1 h G1 vs H1 r1 s1 p1=>?_) λ_ _ h=>h⟩
 obtain⟨w,hw,h⟩:=h;exact hf G1 H1 vs ws w Q r1.sub p1 hw λG' v H' g p=>h G' v H' (r1.grow g) (s1.trans g.gg) p
theorem yP{id:String}{p:Pos}{r:List V->Hp->VK->Prop}{f:List W->Option W}(J:c9 X (.builtin id) r)(hf:pS X.K r f)(hv:bootBuiltins x=some (.builtin id))(hm:X.mg x=none)(ha:DA Z X EE (e::es) dA)(hg:autoParam (Gl X x) jJ)(hn:autoParam (x≠"__name__") jK)(kY:autoParam ((x==("__debug__":Str))=false) jK)
  (he:autoParam (starEach (e::es) X.env=(false,eval e X.env)::starEach es X.env) jJ)(dJ:autoParam ((backTo pos (starEach es X.env)).any (·.1)=false) jJ):DE Z X EE (.Call (.Name x p) (e::es) [] pos) (cX f dA):=
 PE.mono (Nw J hg hm hv ha hn kY he dJ) (N' hf)
theorem Pn{T:String}{p:Pos}{r:List V->Hp->VK->Prop}{f:List W->Option W}(J:c9 X (.type T) r)(hf:pS X.K r f)(hv:bootBuiltins x=some (.type T))(hm:X.mg x=none)(ha:DA Z X EE (e::es) dA)(hg:autoParam (Gl X x) jJ)(hn:autoParam (x≠"__name__") jK)(kY:autoParam ((x==("__debug__":Str))=false) jK)
  (he:autoParam (starEach (e::es) X.env=(false,eval e X.env)::starEach es X.env) jJ)(dJ:autoParam ((backTo pos (starEach es X.env)).any (·.1)=false) jJ):DE Z X EE (.Call (.Name x p) (e::es) [] pos) (cX f dA):=
 PE.mono (MG J hg hm hv ha hn kY he dJ) (N' hf)
end
noncomputable def dG:List S->SR:=λe=>.nx e
noncomputable def au(a b:List S->SR):List S->SR:=λe=>match a e with
 |.nx e'=>b e'
 |r=>r
noncomputable def R.cQ(r:R α)(k:α->List S->SR):SR:=match r with
 |.ok a e=>k a e
 |.ex c e=>.ex c e
 |.no=>.no
noncomputable def fy(d:Den W):List S->SR:=λe=>(d e).cQ λ_ e'=>.nx e'
noncomputable def a9(d:Den W):List S->SR:=λe=>(d e).cQ λw e'=>.rt (.fr w) e'
noncomputable def lB(d:Den (List W)):List S->SR:=λe=>(d e).cQ λws e'=>.rt (.own none ws) e'
noncomputable def iN(i:Nat):List S->SR:=λe=>match e[i]? with
 |some (.own none ws)=>.rt (.own none ws) e
 |some (.fr w)=>.rt (.fr w) e
 |_=>.no
noncomputable def bt(c:Den Bool)(a b:List S->SR):List S->SR:=λe=>(c e).cQ λx e1=>if x=true then a e1 else b e1
noncomputable def aJ(i:Nat)(d:Den W):List S->SR:=λe=>(d e).cQ λw e'=>.nx (e'.set i (.fr w))
noncomputable def bV(i:Nat)(d:Den (List W)):List S->SR:=λe=>(d e).cQ λws e'=>.nx (e'.set i (.own none ws))
noncomputable def dH(i:Nat)(b:List S->SR):List W->List S->SR
 |[],e=>.nx e
 |w::ws,e=>match b (e.set i (.fr w))with
  |.nx e'=>dH i b ws e'
  |.ct e'=>dH i b ws e'
  |.bk e'=>.nx e'
  |.rt s e'=>.rt s e'
  |.ex c e'=>.ex c e'
  |.no=>.no
noncomputable def bc(c:Den Bool)(b:List S->SR):Nat->List S->SR
 |0,_=>.no
 |n+1,e=>(c e).cQ λx e1=>if x=true then(match b e1 with
  |.nx e'=>bc c b n e'
  |.ct e'=>bc c b n e'
  |.bk e'=>.nx e'
  |.rt s e'=>.rt s e'
  |.ex c e'=>.ex c e'
  |.no=>.no)else .nx e1
noncomputable def gQ:W->Option (List W)
 |.tup ws=>some ws
 |.lst ws=>some ws
 |_=>none
noncomputable def j7(i:Nat)(d:Den W)(b:List S->SR):List S->SR:=λe=>(d e).cQ λw e1=>match gQ w with
 |some ws=>dH i b ws e1
 |none=>.no
noncomputable def dY(lo hi:Int):List W:=(List.range (hi-lo).toNat).map λk=>.int (lo+(k:Nat))
noncomputable def qR(j:Int):Bool:=Nat.ble j.natAbs 4611686018427387903
theorem Bq(h:qR j=true):-(2^62)<=j/\j<2^62:=by
 have z:j.natAbs<=4611686018427387903:=Nat.le_of_ble_eq_true h
 grind
theorem t_(C:-1000000000<=j)(h2:j<=1000000000):qR j=true:=Nat.ble_eq_true_of_le (by omega)
noncomputable def m9:List W->Option (List W)
 |[.int j]=>if qR j=true then some (dY 0 j)else none
 |_=>none
noncomputable def S0:List W->Option (List W)
 |[.int i,.int j]=>if qR i=true/\qR j=true then some (dY i j)else none
 |_=>none
noncomputable def gZ(i:Nat)(g:List W->Option (List W))(d:Den (List W))(b:List S->SR):List S->SR:=λe=>(d e).cQ λw e1=>match g w with
 |some ws=>dH i b ws e1
 |none=>.no
section
variable{X:Cx}{a c e:Expr}{st:Stmt}{rest body:List Stmt}{d:Den W}{s1 s2:List S->SR}
theorem aZ.trans(s:av G G1):∀{r:SR},aZ K Z EE D G r->aZ K Z EE D G1 r
 |.nx e',h=>λG' aS H' r q=>h G' aS H' r (s.trans q)
 |.bk e',h=>λG' aS H' r q=>h G' aS H' r (s.trans q)
 |.ct e',h=>λG' aS H' r q=>h G' aS H' r (s.trans q)
 |.rt w e',h=>λG' aS v H' r q=>h G' aS v H' r (s.trans q)
 |.ex c e',h=>λG' aS H' r q=>h G' aS H' r (s.trans q)
 |.no,h=>h
theorem jC{r:R α}(h:aZ K Z EE D G (r.cQ k)):r.holds (λa e'=>aZ K Z EE D G (k a e')) (XH K Z EE σ G):=by
 cases r with
 |ok a e=>exact h
 |ex c e=>exact λG' H' r q=>h G' σ H' r q
 |no=>exact h
theorem vx:nq Z X EE [] dG:=kN.mono XN λD σ H ⟨G,e,r,h⟩=>h G σ H r (.refl _)
theorem WB:∀D σ H,fB K Z EE (au s1 s2) D σ H->B5 (fB K Z EE s1) (fB K Z EE s2) D σ H:=by
 rintro D σ H ⟨G,e,rel,h⟩;refine⟨G,e,rel,?_⟩;unfold au at h;cases q:s1 e with
 |nx e'=>rw[q]at h;exact λG' aS H' r s=>⟨G',e',r,aZ.trans s h⟩
 |bk e'=>rw[q]at h;exact h
 |ct e'=>rw[q]at h;exact h
 |rt w e'=>rw[q]at h;exact h
 |ex c e'=>rw[q]at h;exact h
 |no=>rw[q]at h;exact h
theorem bU(C:DS Z X EE st s1)(h2:nq Z X EE rest s2):nq Z X EE (st::rest) (au s1 s2):=kN.mono (Jc C h2) WB
theorem oU(C:DS Z X EE st s1):nq Z X EE [st] s1:=XO C
theorem X9(he:DE Z X EE e d)(hs:autoParam (swapsWith e none pos.line X.env=pure false) jJ):DS Z X EE (.Expr e pos) (fy d):=by
 refine PS.mono (Jv he hs) ?_;rintro D σ H ⟨G,e,rel,h⟩;exact⟨G,e,rel,(jC h).imp (λw e1 h G1 v1 H1 r1 s1 p1=>h G1 σ H1 r1 s1) λ_ _ h=>h⟩
theorem JX(he:DE Z X EE e d):DS Z X EE (.Return (some e) pos) (a9 d):=by
 refine PS.mono (JS he) ?_;rintro D σ H ⟨G,e,rel,h⟩;exact⟨G,e,rel,(jC h).imp (λw e1 h G1 v1 H1 r1 s1 p1=>h G1 σ v1 H1 r1 s1 ⟨v1,rfl,p1⟩) λ_ _ h=>h⟩
theorem Jz(he:DF Z X EE e dA):DS Z X EE (.Return (some e) pos) (lB dA):=by
 refine PS.mono (JS he) ?_;rintro D σ H ⟨G,e,rel,h⟩;exact⟨G,e,rel,(jC h).imp (λw e1 h G1 a xs H1 r1 s1 q1 q2 q3 q4 p1=>h G1 σ (.ref a) H1 r1 s1 ⟨a,xs,rfl,q1,q2,q3,p1⟩) λ_ _ h=>h⟩
theorem OG(i:Nat){p:Pos}(hN:autoParam (X.N[i]?=some x) jJ)(hv:autoParam (j0 X.env.scope x) jN)(hd:autoParam ((x==("__debug__":Str))=false) jK)
  (dU:autoParam ((x==("__classdict__":Str))=false) jK):DS Z X EE (.Return (some (.Name x p)) pos) (iN i):=by
 refine PS.mono (JS (pv i hN hv hd dU)) ?_;rintro D σ H ⟨G,e,rel,h⟩;unfold iN at h;split at h
 .rename_i ws hw;obtain⟨a,xs,C,h2,h3,h4,h5⟩:=rel.own hw;exact⟨.ref a,C,h G σ _ H rel (.refl _) ⟨a,xs,rfl,h2,h3,h4,h5⟩⟩
 .rename_i w hw;obtain⟨v,C,h2⟩:=rel.fr hw;exact⟨v,C,h G σ _ H rel (.refl _) ⟨v,rfl,h2⟩⟩
 .exact h.elim
theorem WC:∀D σ H,fB K Z EE (bt dc s1 s2) D σ H->BZ (liftT K Z EE dc) (fB K Z EE s1) (fB K Z EE s2) D σ H:=by
 rintro D σ H ⟨G,e,rel,h⟩;refine⟨G,e,rel,(jC h).imp (λx e1 h G1 H1 r1 q1=>?_) λ_ _ h=>h⟩
 cases x with
 |true=>exact⟨G1,e1,r1,aZ.trans q1 h⟩
 |false=>exact⟨G1,e1,r1,aZ.trans q1 h⟩
theorem vC(J:DT Z X EE c dc)(ha:nq Z X EE p s1)(hb:nq Z X EE q s2):DS Z X EE (.If c p q pos) (bt dc s1 s2):=PS.mono (z7n J ha hb) WC
theorem Br(i:Nat)(hN:X.N.Nodup)(he:DE Z X EE e d)(hi:autoParam (X.N[i]?=some x) jJ)(hx:autoParam (Loc X.env.scope x) jM)(hs:autoParam (swapsWith e (some (.Name x pos')) pos.line X.env=pure false) jJ)(hf:autoParam (X.fn x=true\/X.env.scope.names.lookup x=some .local) jL):
  DS Z X EE (.Assign [.Name x pos'] e pos) (aJ i d):=by
 refine PS.mono (vB i hN he hi hx hs hf) ?_;rintro D σ H ⟨G,e,rel,h⟩;exact⟨G,e,rel,(jC h).imp (λw e1 h G1 v1 H1 r1 q1 p1=>h G1 _ H1 (r1.set p1) q1) λ_ _ h=>h⟩
theorem ZY(i:Nat)(hN:X.N.Nodup)(he:DF Z X EE e dA)(hi:autoParam (X.N[i]?=some x) jJ)(hx:autoParam (Loc X.env.scope x) jM)(hs:autoParam (swapsWith e (some (.Name x pos')) pos.line X.env=pure false) jJ)(hf:autoParam (X.fn x=true\/X.env.scope.names.lookup x=some .local) jL):
  DS Z X EE (.Assign [.Name x pos'] e pos) (bV i dA):=by
 refine PS.mono (vB i hN he hi hx hs hf) ?_;rintro D σ H ⟨G,e,rel,h⟩;exact⟨G,e,rel,(jC h).imp (λw e1 h G1 a xs H1 r1 s1 q1 q2 q3 q4 p1=>h G1 _ H1 (r1.rG q1 q2 q3 q4 p1) s1) λ_ _ h=>h⟩
theorem DN(n)(hp:PassesOwn (model X.prog X.w) X.A X.env X.xe)(J:DT Z X EE c dc)(hb:nq Z X EE body s1):DS Z X EE (.While c body [] pos) (bc dc s1 n):=by
 refine PS.mono (Wm hp J hb) ?_;rintro D σ H ⟨G,e,rel,h⟩;refine⟨λm aS H'=>∃G' e',Rel X.K Z G' aS H' e'/\av G G'/\aZ X.K Z EE D G (bc dc s1 m e'),⟨n,G,e,rel,.refl _,h⟩,?_⟩
 rintro m mn H1 ⟨G1,e1,r1,q1,h⟩;cases m with
 |zero=>exact h.elim
 |succ m=>
  refine⟨G1,e1,r1,(jC (σ:=mn) h).imp (λx e2 h G2 H2 r2 q2=>?_) λ_ _ h=>XH.trans q1 h⟩
  cases x with
  |false=>exact h G2 mn H2 r2 (q1.trans q2)
  |true=>
   refine⟨λaS H'=>∃G' e',Rel X.K Z G' aS H' e'/\av G G'/\aZ X.K Z EE D G (bc dc s1 m e'),λaS H' q=>⟨m,Nat.lt_succ_self _,q⟩,⟨G2,e2,r2,?_⟩⟩
   have sg:=q1.trans q2;have h:aZ X.K Z EE D G (match s1 e2 with|.nx e'=>bc dc s1 m e'|.ct e'=>bc dc s1 m e'|.bk e'=>.nx e'|.rt s e'=>.rt s e'|.ex c e'=>.ex c e'|.no=>.no):=h;cases q:s1 e2 with
   |nx e'=>rw[q]at h;exact λG' aS H' r s=>⟨G',e',r,sg.trans s,h⟩
   |ct e'=>rw[q]at h;exact λG' aS H' r s=>⟨G',e',r,sg.trans s,h⟩
   |bk e'=>rw[q]at h;exact λG' aS H' r s=>h G' aS H' r (sg.trans s)
   |rt w e'=>rw[q]at h;exact λG' aS v H' r s=>h G' aS v H' r (sg.trans s)
   |ex c e'=>rw[q]at h;exact λG' aS H' r s=>h G' aS H' r (sg.trans s)
   |no=>rw[q]at h;exact h
theorem WD{x:L2.V}(r1:Rel K Z G1 σ H e1)(q1:av G G1)(p:Rep K G1 w x)(h:aZ K Z EE D G (dH i s1 (w::ws) e1))
  (hN:∀G' aS H' e',Rel K Z G' aS H' e'->av G G'->aZ K Z EE D G (dH i s1 ws e')->N aS H'):bS i x σ H λmq H2=>fB K Z EE s1 {D with nx:=N,ct:=N,bk:=D.nx} mq H2:=by
 refine⟨G1,e1.set i (.fr w),r1.set p,?_⟩;unfold dH at h;cases q:s1 (e1.set i (.fr w))with
 |nx e'=>rw[q]at h;exact λG' aS H' r s=>hN G' aS H' e' r (q1.trans s) h
 |ct e'=>rw[q]at h;exact λG' aS H' r s=>hN G' aS H' e' r (q1.trans s) h
 |bk e'=>rw[q]at h;exact λG' aS H' r s=>h G' aS H' r (q1.trans s)
 |rt w e'=>rw[q]at h;exact λG' aS v H' r s=>h G' aS v H' r (q1.trans s)
 |ex c e'=>rw[q]at h;exact λG' aS H' r s=>h G' aS H' r (q1.trans s)
 |no=>rw[q]at h;exact h
noncomputable def Au(K:Fg)(tl:TE):TI:=λσ H R=>tl σ H λx H1=>∃a,x=.ref a/\(((∃xs,cy K H1 a xs)/\R (x8 K a) H1)\/((∃xs,eK K H1 a xs)/\R (x9 K a) H1))
theorem yQ(hl:PE X l tl):PI X tg l (Au X.K tl):=by
 intro pins s σ H R I h;refine bB (hl pins s σ H _ I h) λv s1 ⟨x,H1,I1,r1,q1⟩=>?_
 obtain⟨a,e,q⟩:=q1;subst e;cases r1;rcases q with⟨⟨xs,hq⟩,q⟩|⟨⟨xs,hq⟩,q⟩
 .obtain⟨aB,rv,p,hz⟩:=I1.list hq;refine wpAny_pyIter_list p.isList ?_;refine⟨s1.heap.objs.size,[s1.heap.objs.size],_,_,H1,rfl,I1.kept (t':=s1.toks) λb o e=>Heap.get?_push_of_some _ e,Vc a _,⟨_,Heap.get?_push_size _ rfl,rfl,rfl⟩,λb hb=>?_,q⟩
  have e:b=s1.heap.objs.size:=by simpa using hb
  subst e;exact I1.pk (w0c _) (I1.aR.fresh (w0c _))
 .obtain⟨aB,rv,p,hz⟩:=I1.tuple hq;refine wpAny_pyIter_tuple (show s1.heap.IsTuple a aB.toArray from p) ?_;refine⟨s1.heap.objs.size,[s1.heap.objs.size],_,_,H1,rfl,I1.kept (t':=s1.toks) λb o e=>Heap.get?_push_of_some _ e,UH a _,⟨_,Heap.get?_push_size _ rfl,rfl,rfl⟩,λb hb=>?_,q⟩
  have e:b=s1.heap.objs.size:=by simpa using hb
  subst e;exact I1.pk (w0c _) (I1.aR.fresh (w0c _))
theorem HS{α:Type}{ws:List α}{w:α}(h:ws[k]?=some w):ws.drop k=w::ws.drop (k+1):=by
 grind [List.drop_eq_getElem_cons]
theorem OH(r1:Rel K Z G1 σ H1 e1)(rp:aw K G1 ws xs)(h:aZ K Z EE D G1 (dH i s1 ws e1))(SQ:Hp->Prop)(pB:∀G' H',av G1 G'->av G' H'->SQ H'):
  ∃Pv:Nat->St->Hp->Prop,Pv 0 σ H1/\(∀j σ H,j<=xs.length->Pv j σ H->SQ H)/\(∀(j:Nat) x σ H,xs[j]?=some x->Pv j σ H->bS i x σ H λmq H2=>fB K Z EE s1 {D with nx:=Pv (j+1),ct:=Pv (j+1),bk:=D.nx} mq H2)/\∀σ H,Pv xs.length σ H->D.nx σ H:=by
 refine⟨λj aS H'=>∃G' e',Rel K Z G' aS H' e'/\av G1 G'/\aZ K Z EE D G1 (dH i s1 (ws.drop j) e'),⟨G1,e1,r1,.refl _,h⟩,?_,?_,?_⟩
 .rintro j aS H' _ ⟨G',e',r',s',_⟩;exact pB G' H' s' r'.sub
 .rintro j x aS H' hx ⟨G',e',r',s',h⟩;obtain⟨w,hw,pw⟩:=rp.kX hx;rw[HS hw]at h;exact WD r' s' (Rep.mono s' w pw) h λgS gu mE uN n9 kE rT=>⟨gS,uN,n9,kE,rT⟩
 .rintro aS H' ⟨G',e',r',s',h⟩;rw[rp.length,w2h]at h;exact h G' aS H' r' s'
theorem Bs(i:Nat)(hN:X.N.Nodup)(hp:PassesOwn (model X.prog X.w) X.A X.env X.xe)(J:X.calm=true)(hl:DE Z X EE e d)(hb:nq Z X EE body s1)
  (hi:autoParam (X.N[i]?=some x) jJ)(hx:autoParam (Loc X.env.scope x) jM)(hf:autoParam (X.fn x=true\/X.env.scope.names.lookup x=some .local) jL)(hs:∀x,foldedSetIterable e X.env x=pure x:=by intro _;rfl):
  DS Z X EE (.For (.Name x pos') e body [] pos) (j7 i d s1):=by
 refine PS.mono (JV hp J (yQ hl) (mz i hN hi hx hf) hb hs) ?_;rintro D σ H ⟨G,e,rel,h⟩;refine⟨G,e,rel,(jC h).imp (λw e1 h G1 v1 H1 r1 q1 p1=>?_) λ_ _ h=>h⟩
 have key:=λws xs (rp:aw X.K G1 ws xs) (h:aZ X.K Z EE D G (dH i s1 ws e1))=>OH (i:=i) (D:=D) r1 rp (aZ.trans q1 h)
 cases w with
 |tup ws=>
  obtain⟨a,xs,rfl,hq,rp⟩:=p1;refine⟨a,rfl,.inr ⟨⟨xs,r1.sub.tup hq⟩,?_⟩⟩;obtain⟨Pv,h0,C,h2,h3⟩:=key ws xs rp h (λH'=>eK X.K H' a xs) (λG' H' s s'=>av.tup s' (av.tup s hq))
  exact XR Pv h0 C h2 h3
 |lst ws=>
  obtain⟨a,xs,rfl,hq,rp⟩:=p1;refine⟨a,rfl,.inl ⟨⟨xs,r1.sub.seq hq⟩,?_⟩⟩;obtain⟨Pv,h0,C,h2,h3⟩:=key ws xs rp h (λH'=>cy X.K H' a xs) (λG' H' s s'=>av.seq s' (av.seq s hq))
  exact Wq Pv h0 C h2 h3
 |_=>exact h.elim
theorem UE:aw K G (dY lo hi) ((List.range (hi-lo).toNat).map λk=>V.int (lo+(k:Nat))):=by
 unfold dY;generalize List.range (hi-lo).toNat=l
 induction l with
 |nil=>rfl
 |cons k l ih=>exact⟨_,_,rfl,rfl,ih⟩
theorem X_(r1:Rel K Z G1 σ H1 e1)(h:aZ K Z EE D G1 (dH i s1 (dY lo hi) e1)):
  ∃W:Nat->Nat->St->Hp->Prop,(∃m,W 0 m σ H1)/\∀j m σ H,W j m σ H ->
   ((sI lo (hi-lo).toNat).stop j H/\D.nx σ H)\/((sI lo (hi-lo).toNat).go j H/\∃N:St->Hp->Prop,(∀aS H',N aS H'->∃m',m'<m/\W (j+1) m' aS H')/\∀x H',(sI lo (hi-lo).toNat).k_ j H x H'->bS i x σ H' λmq H2=>fB K Z EE s1 {D with nx:=N,ct:=N,bk:=D.nx} mq H2):=by
 obtain⟨Pv,h0,C,h2,h3⟩:=OH (i:=i) (D:=D) r1 (UE (lo:=lo) (hi:=hi)) h (λ_=>True) (λ_ _ _ _=>trivial)
 refine Vf Pv h0 (λj aS H' hj p=>h2 j _ aS H' ?_ p) (λaS H' p=>h3 aS H' (by simpa using p))
 simp[hj]
theorem X'(i:Nat){p p1 p2:Pos}(hN:X.N.Nodup)(hp:PassesOwn (model X.prog X.w) X.A X.env X.xe)(J:X.calm=true)(hm:X.mg "range"=none)(ha:DA Z X EE [a] dA)(hb:nq Z X EE body s1)
  (hi:autoParam (X.N[i]?=some x) jJ)(hx:autoParam (Loc X.env.scope x) jM)(hf:autoParam (X.fn x=true\/X.env.scope.names.lookup x=some .local) jL)(hg:autoParam (Gl X "range") jJ)(pY:autoParam (starEach [a] X.env=[(false,eval a X.env)]) jJ)(hs:∀x,foldedSetIterable (.Call (.Name "range" p1) [a] [] p2) X.env x=pure x:=by intro _;rfl):
  DS Z X EE (.For (.Name x p) (.Call (.Name "range" p1) [a] [] p2) body [] pos) (gZ i m9 dA s1):=by
 refine PS.mono (JV hp J (Vd hg hm ha pY) (mz i hN hi hx hf) hb hs) ?_;rintro D σ H ⟨G,e,rel,h⟩;refine⟨G,e,rel,(jC h).imp (λws e1 h G1 vs H1 r1 q1 p1=>?_) λ_ _ h=>h⟩
 unfold m9 at h;split at h
 .rename_i hh;split at hh
  .rename_i j;split at hh
   .rename_i hj;cases hh;obtain⟨y,r,rfl,e1,e2⟩:=p1;cases(show y=V.int j from e1);cases(show r=[]from e2);refine⟨j,rfl,(Bq hj).1,(Bq hj).2,?_⟩;have z:=X_ (i:=i) (D:=D) r1 (aZ.trans q1 h)
    rwa [Int.sub_zero]at z
   .cases hh
  .cases hh
 .exact h.elim
end
open PyProof.Rows (envOfC)
inductive FR where
 |ok (s:S)|ex (c:Value)|no
noncomputable def cj(K:Fg)(F:List W->FR):Sp:=λvs H Q E=>∃G ws,av G H/\aw K G ws vs/\match F ws with
 |.ok s=>∀G' H' v,aQ G H G' H'->eD K ⟨H,G,[]⟩ G' H' s (some v)->Q v H'
 |.ex c=>∀H',av H H'->E c none H'
 |.no=>False
noncomputable def SR.fn:SR->FR
 |.nx _=>.ok (.fr .aG)
 |.rt s _=>.ok s
 |.ex c _=>.ex c
 |_=>.no
noncomputable def init(n:Nat)(ws:List W):List S:=ws.map .fr++List.replicate (n-ws.length) .no
theorem Bd(s:av G H)(r:aw K G ws vs):Rel K ⟨H,G,[]⟩ G (L2.start N vs) H (init N.length ws):=by
 have hl:=r.length
 have uV:∀(i:Nat)(s:S),(init N.length ws)[i]?=some s->(s=.no)\/∃w,s=.fr w/\ws[i]?=some w:=λi s h=>by
  grind [init]
 refine⟨s,λi t h=>?_,?_,λi j b b' w1 w2 a C h2 _ _=>?_,λa o h _=>h,(λa h=>nomatch h),λa _=>rfl⟩
 .rcases uV i t h with rfl|⟨w,rfl,C⟩
  .trivial
  .obtain⟨v,h2,h3⟩:=r.get C;refine⟨v,?_,h3⟩
   grind [L2.start]
 all_goals grind [init,L2.start]
theorem Rel.gq(r:Rel K ⟨H,G,[]⟩ G' σ H' e)(s:av G G'):aQ G H G' H':=
 ⟨λa o h=>r.ent a o h (by simp),s,r.sub,λa h=>r.gen a h⟩
theorem El(h:cj K F vs H Q E):∃G ws,F ws≠.no/\aw K G ws vs:=by
 obtain⟨G,ws,_,r,h⟩:=h
 grind
theorem D1{F:List W->FR}(he:r.fn=F ws)(h:match F ws with
  |.ok s=>∀G' H' v,aQ G H G' H'->eD K ⟨H,G,[]⟩ G' H' s (some v)->Q v H'
  |.ex c=>∀H',av H H'->E c none H'
  |.no=>False):aZ K ⟨H,G,[]⟩ (λ_=>E) {nx:=λ_ H'=>Q .aG H',rt:=Q} G r:=by
 rw[<- he]at h;cases r with
 |nx e=>exact λG' aS H' r s=>h G' H' .aG (r.gq s) ⟨.aG,rfl,rfl⟩
 |rt s e=>exact λG' aS v H' r q p=>h G' H' v (r.gq q) p
 |ex c e=>exact λG' aS H' r s=>h H' (r.gq s).hh
 |bk e=>exact h.elim
 |ct e=>exact h.elim
 |no=>exact h.elim
theorem con(A:At K mg x st ps)(sc:aE N ps (ak st))(len:∀ws,F ws≠.no->ws.length=ps.length)
  (hb:∀ws,F ws≠.no->∀(f:Addr)(bx:Value)(A:Around)(outer:List Env)(s:Shared)(H:Hp)(E:XK)(Z:Zt),bJ k (A.deeper (envOfC x (ak st) s.heap.objs.size f bx)) ->
   ∃d,nq Z (fX (eM P w) P w K mg base N x (ak st) f bx A outer s H E) (λ_=>E) (bN st) d/\(d (init N.length ws)).fn=F ws):bZ P w K mg base (k+1) x ps (cj K F):=by
 refine A.Q0 sc (λvs H Q E h=>?_) (λf bx A outer s H vs Q E hr h=>?_)
 .grind [El,aw.length]
 .have hn0:=h;obtain⟨G,ws,sg,rp,h⟩:=h;have hn:F ws≠.no:=λz=>by rw[z]at h;exact h
  obtain⟨d,hd,he⟩:=hb ws hn f bx A outer s H E ⟨H,G,[]⟩ hr;exact⟨_,hd,G,init N.length ws,Bd sg rp,D1 he h⟩
noncomputable def ax(F:List W->FR)(dA:Den (List W)):Den W:=λe=>(dA e).bind λws e1=>match F ws with
 |.ok (.fr w)=>.ok w e1
 |.ok (.own none ws')=>.ok (.lst ws') e1
 |.ok (.aY kvs)=>.ok (.aY kvs) e1
 |.ex c=>.ex c e1
 |_=>.no
section
variable{X:Cx}{e:Expr}{p:Pos}{k:Nat}{ps:List Str}{F:List W->FR}
theorem NA(r1:Rel K Z G1 σ H1 e1)(g:aQ G1 H1 G' H')(q:eD K ⟨H1,G1,[]⟩ G' H' s (some v))(hs:s=.fr w\/∃ws,s=.own none ws/\w=.lst ws):
  ∃gS,Rel K Z gS σ H' e1/\av G1 gS/\Rep K gS w v:=by
 rcases hs with rfl|⟨ws,rfl,rfl⟩
 .obtain⟨u,C,h2⟩:=q;cases C;exact⟨G',r1.grow g,g.gg,h2⟩
 .obtain⟨a,xs,C,h2,h3,h4,h5⟩:=q;cases C;have hn:H1 a=none:=h4;obtain⟨sg,rg⟩:=(r1.grow g).seen h2 h3 (p9 r1 hn) (yG r1 hn);exact⟨_,rg,g.gg.trans sg,⟨a,xs,rfl,cy.of bI,aw.mono sg ws h5⟩⟩
theorem U8(r1:Rel K Z G1 σ H1 e1)(g:aQ G1 H1 G' H')(q:eD K ⟨H1,G1,[]⟩ G' H' (.aY kvs) (some v)):
  ∃gS,Rel K Z gS σ H' e1/\av G1 gS/\Rep K gS (.aY kvs) v:=by
 obtain⟨a,C,h2,h3,h4⟩:=q;cases C;have hn:H1 a=none:=h4;have r:=r1.grow g;have sg:av G' (upd G' a (dO kvs)):=sv h3 _;refine⟨upd G' a (dO kvs),⟨λc o z=>?_,λj s z=>?_,r.len,r.lD,r.ent,r.kO,λc z=>?_⟩,g.gg.trans sg,⟨a,rfl,bI⟩⟩
 .by_cases J:c=a
  .grind [bI]
  .rw[aP J]at z;exact r.sub c o z
 .have y:=r.slot j s z;have y1:=r1.slot j s z;cases s with
  |no=>trivial
  |fr w=>
   obtain⟨u,y1,y2⟩:=y;exact⟨u,y1,Rep.mono sg w y2⟩
  |own b2 w2=>
   obtain⟨c,ys,x1,x2,x3,x4,x5⟩:=y;refine⟨c,ys,x1,x2,?_,x4,aw.mono sg w2 x5⟩;rw[aP (gh x2 h2 (λz=>uf rfl z.symm))];exact x3
  |aY kv=>
   obtain⟨c,x1,x2,x3,x4⟩:=y;obtain⟨c',w1,w2,_⟩:=y1;rw[x1]at w1;cases w1;refine⟨c,x1,x2,?_,x4⟩;rw[aP (jf w2 hn)];exact x3
  |nest bq=>exact cu.move y sg λl o ys k1 k2 k3=>⟨k1,by rw[aP (gh k1 h2 (λz=>uf rfl z.symm))];exact k2,k3⟩
  |dw sh ks ws=>
   obtain⟨c,kv,ka,x1,x2,x3,x4,x5,x6,x7⟩:=y;obtain⟨c',kv',ka',w1,w2,_⟩:=y1;rw[x1]at w1;cases w1;refine⟨c,kv,ka,x1,x2,?_,x4,x5,x6.mono sg,x7.move sg λ_ _ _ z=>z⟩
   rw[aP (jf w2 hn)];exact x3
 .by_cases J:c=a
  .grind [p9]
  .rw[aP J];exact r.gen c z
theorem QB(r1:Rel K Z G1 σ H1 e1)(s1:av G G1)(h:XH K Z EE σ G c e1):∀H',av H1 H'->EE σ c none H':=λH' sh=>
 h G1 H' (r1.grow ⟨sh,.refl _,r1.sub.trans sh,λ_ _=>rfl⟩) s1
theorem Po(h1:bZ X.prog X.w X.K X.mg X.base k x ps (cj X.K F))(hr:bJ k X.A)(hx:fx (eM X.prog X.w) X EE)(ha:DA Z X EE (e::es) dA)(hg:autoParam (Gl X x) jJ)
  (kY:autoParam ((x==("__debug__":Str))=false) jK)(he:autoParam (starEach (e::es) X.env=(false,eval e X.env)::starEach es X.env) jJ)(dJ:autoParam ((backTo pos (starEach es X.env)).any (·.1)=false) jJ):
  DE Z X EE (.Call (.Name x p) (e::es) [] pos) (ax F dA):=by
 refine PE.mono (PN h1 hr hx ha hg kY he dJ) ?_;rintro σ H Q ⟨G,e,rel,h⟩;simp only[ax,R.ay]at h;refine⟨G,e,rel,h.imp (λws e1 h G1 vs H1 r1 s1 p1=>?_) λ_ _ h=>h⟩
 refine⟨G1,ws,r1.sub,by grind,?_⟩;cases q:F ws with
 |ok s=>
  rw[q]at h;intro G' H' v g sl;cases s with
  |no=>exact h.elim
  |fr w=>
   obtain⟨gS,r2,s2,p2⟩:=NA r1 g sl (.inl rfl);exact(show ∀G' v H',_->_->Rep X.K G' w v->Q v H' from h) gS v H' r2 (s1.trans s2) p2
  |own b ws'=>
   cases b with
   |some _=>exact h.elim
   |none=>
    obtain⟨gS,r2,s2,p2⟩:=NA r1 g sl (.inr ⟨ws',rfl,rfl⟩);exact(show ∀G' v H',_->_->Rep X.K G' (.lst ws') v->Q v H' from h) gS v H' r2 (s1.trans s2) p2
  |aY kvs=>
   obtain⟨gS,r2,s2,p2⟩:=U8 r1 g sl;exact(show ∀G' v H',_->_->Rep X.K G' (.aY kvs) v->Q v H' from h) gS v H' r2 (s1.trans s2) p2
  |nest _=>exact h.elim
  |dw _ _ _=>exact h.elim
 |ex c=>
  rw[q]at h;exact QB r1 s1 h
 |no=>rw[q]at h;exact h.elim
end
end D
namespace L2
open PySem PySem.Spec PyProof.Rows
section
variable{X:Cx}{elt target iter:Expr}{ifs:List Expr}{scope:Scope}{pos:Pos}{wi:TI}{g:TG}{tc:TT}{te:TE}
theorem WE{Nl Nf:List Str}{js:List Nat}{y:Str}{py dn:Pos}{gy:TG}(J:X.calm=true)(hi:PI X target iter wi)
  (hk:scope.kind=.function)(hU:∀y∈scope.names,y.2≠.cell)(nU:∀x∈scope.names,x.2=.local->scope.names.lookup x.1=some .local)
  (cG:∀x∈scope.names,x.2=.free->X.env.kindOf x.1=some .cell\/X.env.kindOf x.1=some .free)
  (hj:∀(i j:Nat) y,Nf[i]?=some y->js[i]?=some j->X.N[j]?=some y)(hlen:js.length=Nf.length)
  (tf:∀y∈Nf,(y,NameKind.free)∈scope.names/\j0 X.env.scope y/\X.env.kindOf y≠some .local)
  (kl:∀y∈Nf,(relabel scope X.env).names.lookup y=some .cell\/(relabel scope X.env).names.lookup y=some .free)
  (hg:∀cl h1 aC aH ex,PG (X.cp (Nl++Nf) scope cl h1 aC aH ex) target g)(ht:∀cl h1 aC aH ex,uH (X.cp (Nl++Nf) scope cl h1 aC aH ex) ifs tc)(he:∀cl h1 aC aH ex,PE (X.cp (Nl++Nf) scope cl h1 aC aH ex) elt te)
  (FE:PG X (.Name y py) gy)(nY:swapsWith (.ListComp elt [⟨target,iter,ifs,0⟩] scope pos) (some (.Name y py)) dn.line X.env=pure true)
  (hs:∀x,foldedSetIterable iter X.env x=pure x:=by intro _;rfl):
  PS X (.Assign [.Name y py] (.ListComp elt [⟨target,iter,ifs,0⟩] scope pos) dn) (rK (lI wi Nl.length js g tc te) gy):=by
 intro pins s σ H D I h;obtain⟨cl,eS,jG,qB⟩:=A9 (scope:=scope) (env:=X.env) λx hx hf=>I.ok.has x.1 (cG x hx hf)
 rw[exec_Assign_Name_used _ _ _ _ nY];refine wpAny_bind (wpAny_standAt (wpAny_bind ?_));show wpAny _ _ (do let _ <- comprehension _ _ _ _ _ _ _ _) _ _ _;refine wpAny_bind (wpAny_comprehension_free (Q:=λ_ kE=>wpAny (model X.prog X.w) X.A (pure ()) (λ_ s3=>wpAny (model X.prog X.w) X.A (pure Flow.next) (SP X pins D) X.xe s3) X.xe kE) (use:=some (assign (.Name y py) X.env)) rfl hs eS hk nU (bB (hi pins s σ H _ I h) λv s1 C=>bB C λCB s2 h2=>?_))
 obtain⟨it,fp,tn,hc,H2,e,I2,T,xJ,f2,rd⟩:=h2;subst e;refine wpAny_newObj_type (wpAny_newFunctionEnv hU (by intro y hy;simp at hy) (λfP iA fk=>?_) hk)
 dsimp only at iA fk |-
 have xN:(s2.heap.push {cls:=.type "list", dict:=none,data:=.seq ([]:List Value).toArray}).objs.size=s2.heap.objs.size+1:=Heap.size_push ..;rw[xN]at iA fk |-
 have fD:H2 s2.heap.objs.size=none:=I2.aR.fresh (w0c _);obtain⟨W,⟨m0,w0⟩,turn⟩:=rd s2.heap.objs.size fD;have qQ:=T.obj 0 s2.heap xJ;have IS:=Ny (Nl:=Nl) (Nf:=Nf) (js:=js) (cl:=cl) (tk:=s2.toks+([]:List (Str×Value)).length) I2 f2 qQ hk hU jG qB hj hlen tf kl iA fk
 have IM:∀b u,s2.heap.get? b=some u->fP.get? b=some u:=λb u q=>by
  have cY:=Heap.lt_size q;exact(fk.2 b (w0o (w2v cY))).trans (Heap.get?_push_of_some _ (Heap.get?_push_of_some _ q))
 have BS:tn 0 fP:=T.keep 0 s2.heap fP xJ λb hb o q=>IM b o q
 have Gs:∀b∈fp,upd H2 s2.heap.objs.size (.lst []) b=none:=λb hb=>by
  obtain⟨o,q,_⟩:=qQ b hb;rw[aP (w0o (Heap.lt_size q))];exact(f2 b hb).1
 have kJ:∀{H':Hp},(∀b∈fp,H' b=none)->∀b∈fp,ig (X.cp (Nl++Nf) scope cl (s2.heap.objs.size+1) {s2 with heap:=s2.heap.push {cls:=.type "list", dict:=none,data:=.seq ([]:List Value).toArray}} (upd H2 s2.heap.objs.size (.lst [])) fp) [] H' b:=λhn b hb=>by
  refine⟨hn b hb,(IS.ok.Cq b hb).1,IS.ok.sY b hb,.inl hb,(IS.ok.Cq b hb).2,λp hp=>(by cases hp)⟩
 have loop:∀s4:Shared,s4={s2 with heap:=fP,toks:=s2.toks+([]:List (Str×Value)).length} ->
   codeAny (model X.prog X.w) X.A (.compLoop (.ListComp elt [⟨target,iter,ifs,0⟩] scope pos) 0 (.ref it) (.ref s2.heap.objs.size) (compEnvC scope cl (s2.heap.objs.size+1) X.env))
    (compPost (model X.prog X.w) X.A X.xe (some (assign (.Name y py) X.env)) (λ_ kE=>wpAny (model X.prog X.w) X.A (pure ()) (λ_ s3=>wpAny (model X.prog X.w) X.A (pure Flow.next) (SP X pins D) X.xe s3) X.xe kE) (.ref s2.heap.objs.size) (s2.heap.objs.size+1)) s4:=by
  rintro s4 rfl;refine MH (λn s'=>∃i H',Inv (X.cp (Nl++Nf) scope cl (s2.heap.objs.size+1) {s2 with heap:=s2.heap.push {cls:=.type "list", dict:=none,data:=.seq ([]:List Value).toArray}} (upd H2 s2.heap.objs.size (.lst [])) fp) [] (List.replicate Nl.length none++pj js σ) H' s'/\tn i s'.heap/\(∀b∈fp,H' b=none)/\W i n H') ?_ m0 ⟨0,_,IS,BS,Gs,w0⟩
  rintro n s3 ⟨i,H3,I3,vM,uP,w3⟩;rcases turn i n H3 w3 with⟨stop,qn⟩|⟨go,step⟩
  .refine bB (T.done (X.cp (Nl++Nf) scope cl (s2.heap.objs.size+1) {s2 with heap:=s2.heap.push {cls:=.type "list", dict:=none,data:=.seq ([]:List Value).toArray}} (upd H2 s2.heap.objs.size (.lst [])) fp) rfl rfl rfl J i [] s3 _ H3 _ I3 (kJ uP) vM stop) λr s5 ⟨hr,I5⟩=>?_
   subst hr;obtain⟨m5,FN,_⟩:=I5.loc;obtain⟨o5,Rc,Rb,K7,KZ,RQ,RH⟩:=id FN;have J5:Inv X pins σ H3 s5:=PM I2 f2 I5 (h':=s5.heap) ⟨rfl,λ_ _=>rfl⟩
   have fC:ig X pins H3 (s2.heap.objs.size+1):=I2.pk (Nat.le_succ _) I5.free;have f1:∀b∈[s2.heap.objs.size+1],ig X pins H3 b:=λb hb=>by grind
   have J6:=J5.pinned f1 (λb hb=>by rw[w0t.mp hb];exact⟨o5,K7,λv z=>by rw[KZ]at z;cases z⟩)
   refine bB (FE _ s5 σ H3 (.ref s2.heap.objs.size) _ _ J6 rfl qn) λ_ s6 ⟨Km,H6,I6,q6⟩=>?_
   have pC:=I6.pin (s2.heap.objs.size+1,o5) (w0h _ (w0h _ (xb (w0t.mpr rfl) K7)));refine⟨m5,⟨o5,Rc,Rb,pC.1,KZ,RQ,RH⟩,λh' tE=>wpAny_pure (wpAny_pure ⟨Km,H6,?_,q6⟩)⟩
   obtain⟨g0,g1,g2,g3,g4,g5⟩:=fC;exact I6.eZ.turned (t':=s6.toks) (λb o hb e=>(tE.2 b hb).trans e) pC.2.1 g1 g3 g4 g5
  .refine bB (T.item (X.cp (Nl++Nf) scope cl (s2.heap.objs.size+1) {s2 with heap:=s2.heap.push {cls:=.type "list", dict:=none,data:=.seq ([]:List Value).toArray}} (upd H2 s2.heap.objs.size (.lst [])) fp) rfl rfl rfl J i [] s3 _ H3 _ I3 (kJ uP) vM go) λr s5 ⟨u,hr,h5⟩=>?_
   subst hr;refine bB h5 λ_ s6 ⟨x,H6,I6,r6,y6,xK,Fm⟩=>?_
   have ES:=I6.pinned (kJ Fm) (T.obj _ _ xK);refine bB (hg _ _ _ _ _ _ s6 _ H6 x u _ ES r6 (step x H6 y6)) λ_ s7 ⟨mv,H7,I7,kp,q7⟩=>?_
   refine bB (ht _ _ _ _ _ _ s7 mv H7 _ I7 q7) λok s8 ⟨H8,I8,q8⟩=>?_
   have again:∀{xZ:St}{H9:Hp}{s9:Shared},Inv (X.cp (Nl++Nf) scope cl (s2.heap.objs.size+1) {s2 with heap:=s2.heap.push {cls:=.type "list", dict:=none,data:=.seq ([]:List Value).toArray}} (upd H2 s2.heap.objs.size (.lst [])) fp) ([]++jc fp s6.heap) xZ H9 s9 ->
     Kp (List.replicate Nl.length none++pj js σ) xZ->(∃m',m'<n/\W (i+1) m' H9)->∃m,m<n/\∃i H',Inv (X.cp (Nl++Nf) scope cl (s2.heap.objs.size+1) {s2 with heap:=s2.heap.push {cls:=.type "list", dict:=none,data:=.seq ([]:List Value).toArray}} (upd H2 s2.heap.objs.size (.lst [])) fp) [] (List.replicate Nl.length none++pj js σ) H' s9/\tn i s9.heap/\(∀b∈fp,H' b=none)/\W i m H':=λ{xZ H9 s9} I9 hw ⟨m',hm,w9⟩=>by
    refine⟨m',hm,i+1,H9,I9.eZ.weak (by rw[I9.len,<- IS.len]) hw,T.keep _ _ _ xK λb hb o q=>(I9.pin (b,o) (w0h _ (w0h _ (xb hb q)))).1,λb hb=>?_,w9⟩
    obtain⟨o,q,d⟩:=T.obj _ _ xK b hb;exact(I9.pin (b,o) (w0h _ (w0h _ (xb hb q)))).2.1
   cases ok with
   |false=>exact again I8 kp (by simpa using q8)
   |true=>
    have HJ:=by simpa only[if_true]using q8
    refine bB (he _ _ _ _ _ _ s8 mv H8 _ I8 HJ) λy s9 ⟨yv,H9,I9,r9,ys,hD,hz,q9⟩=>?_
    refine bB (HE _ s9 mv H9 (.ref s2.heap.objs.size) [yv] (.ref s2.heap.objs.size) [y] (λv H'=>v=.aG/\H'=upd H9 s2.heap.objs.size (.lst (ys++[yv]))) I9 rfl (.cons r9 .nil) ⟨_,ys,yv,rfl,rfl,hD,hz,rfl,rfl⟩) λ_ S4 ⟨_,QR,ER,_,_,E_⟩=>?_
    subst E_;exact again ER kp q9
 exact codeAny_compStart_list (loop _ rfl) (T.self X.A 0 _ _ _ BS (loop _ rfl))
end
theorem HU{X:Cx}{y:Str}{py dn:Pos}{gy:TG}{elt target iter:Expr}{ifs:List Expr}{scope sc:Scope}{pos:Pos}{wi:TI}{g:TG}{tc:TT}{te:TE}{Nl Nf N:List Str}{js:List Nat}(J:X.calm=true)(hi:PI X target iter wi)
  (ok:c0 sc scope N Nf js=true)
  (hg:∀cl h1 aC aH ex,PG (X.cp (Nl++Nf) scope cl h1 aC aH ex) target g)(ht:∀cl h1 aC aH ex,uH (X.cp (Nl++Nf) scope cl h1 aC aH ex) ifs tc)(he:∀cl h1 aC aH ex,PE (X.cp (Nl++Nf) scope cl h1 aC aH ex) elt te)
  (FE:PG X (.Name y py) gy)(nY:swapsWith (.ListComp elt [⟨target,iter,ifs,0⟩] scope pos) (some (.Name y py)) dn.line X.env=pure true)
  (kj:autoParam (X.env.scope=sc) jJ)(hN:autoParam (X.N=N) jJ)(hs:∀x,foldedSetIterable iter X.env x=pure x:=by intro _;rfl):
  PS X (.Assign [.Name y py] (.ListComp elt [⟨target,iter,ifs,0⟩] scope pos) dn) (rK (lI wi Nl.length js g tc te) gy):=by
 unfold c0 at ok;simp only[w0v,w0u,beq_iff_eq,bne_iff_ne,w2o,w1c]at ok;obtain⟨⟨⟨⟨⟨⟨k1,k2⟩,k3⟩,k4⟩,k5⟩,k6⟩,k7⟩:=ok;have kind:∀x,X.env.kindOf x=sc.names.lookup x:=λx=>by rw[<- kj];rfl
 refine WE J hi k1 k2 (λx hx hl=>(k3 x hx).resolve_left λz=>z hl) (λx hx hf=>?_) (λi j y e1 e2=>?_) k5 (λy hy=>?_) (λy hy=>?_) hg ht he FE nY hs
 .grind
 .grind
 .obtain⟨z1,z2⟩:=k7 y hy;refine⟨PySem.mem_of_lookup z1,?_,?_⟩
  .rw[kj];rcases z2 with z|z
   .exact .inr (.inl z)
   .exact .inr (.inr z)
  grind
 .exact Hg (k7 y hy).1
noncomputable def rh(K:Fg):R2:=λx y H Q=>∃l b xs zs,x=.ref l/\y=.ref b/\cy K H l xs/\cy K H b zs/\xs.length+zs.length<=sizeLine/\∀p,H p=none->Q (.ref p) (upd H p (.lst (xs++zs)))
theorem OI:gT X (binaryOp .Add) (rh X.K):=by
 intro pins s σ H x y v u Q I rx ry h;obtain⟨l,b,xs,zs,rfl,rfl,C,h2,hz,q⟩:=h;cases rx;cases ry;obtain⟨aB,r1,p1,_⟩:=I.list C;obtain⟨nZ,r2,p2,_⟩:=I.list h2;obtain⟨⟨cls,dd,data,sl⟩,ho,J,n,hd⟩:=id p1.isList;obtain⟨⟨zG,uM,data2,yX⟩,r8,fO,n2,hd2⟩:=id p2.isList;simp only at J hd fO hd2;subst J hd fO hd2;have l1:=r1.length;have l2:=r2.length;refine concat_meets ⟨_,ho,rfl⟩ ⟨_,r8,rfl⟩ noFill_list_add seq_list_add PySem.F.slot_list_add PySem.F.entry_list_add (PySem.F.args_list_add_2 _ _) (list_addW l b aB.toArray nZ.toArray n n2 dd uM sl yX (by grind)) ⟨ho,r8,?_⟩;have ea:aB.toArray++nZ.toArray=(aB++nZ).toArray:=by simp
 rw[ea];exact⟨.ref _,_,I.AB (t':=s.toks) (r1.append r2) (by grind),rfl,q _ I.fresh⟩
end L2
namespace D
open PySem L2
variable{A:Around}{X:Cx}{dA:Den (List W)}{cc:Den Bool}{d da db:Den W}{G H:Hp}{es:List Expr}{js:List Nat}{e:List S}{ws:List W}{i kt:Nat}{apos cA pn pos:Pos}{K:Fg}{σ:St}{α:Type}{Z:Zt}
noncomputable def addW:W->W->Option W
 |.int i,.int j=>some (.int (i+j))
 |.str x,.str y=>if x.length+y.length<=16777216 then some (.str (x++y))else none
 |.tup xs,.tup ys=>if xs≠[]/\xs.length+ys.length<=16777216 then some (.tup (xs++ys))else none
 |.lst xs,.lst ys=>if xs.length+ys.length<=16777216 then some (.lst (xs++ys))else none
 |_,_=>none
noncomputable def mi:W->W->Option W
 |.int i,.int j=>some (.int (i-j))
 |_,_=>none
noncomputable def jA:W->W->Option W
 |.int i,.int j=>if(-(2^64)<i/\i<2^64)\/(-(2^64)<j/\j<2^64)then some (.int (i*j))else none
 |_,_=>none
noncomputable def bH:W->W->Option W
 |.int i,.int j=>if 0<j/\j<1073741824 then some (.int (i / j))else none
 |_,_=>none
noncomputable def bC:W->W->Option W
 |.int i,.int j=>if 0<j then some (.int (i%j))else none
 |_,_=>none
noncomputable def n5:W->W->Option W
 |.int i,.int j=>some (.bl (decide (i<j)))
 |_,_=>none
noncomputable def sj:W->W->Option W
 |.int i,.int j=>some (.bl (decide (i<=j)))
 |_,_=>none
noncomputable def zT:W->W->Option W
 |.int i,.int j=>some (.bl (decide (j<i)))
 |_,_=>none
noncomputable def iC:W->Option W
 |.int i=>some (.int (-i))
 |_=>none
theorem Pp:jF K (λx y H Q=>pM (λi j=>.int (i+j)) x y H Q\/((∃i j,x=.str i/\y=.str j/\i.length+j.length<=sizeLine/\Q (.str (i++j)) H)\/(rj K x y H Q\/rh K x y H Q))) addW:=by
 intro G H x y wx wy w Q s px py hf h;unfold addW at hf;split at hf
 .cases hf;cases px;cases py;exact .inl ⟨_,_,rfl,rfl,h G _ H (.refl s) rfl⟩
 .split at hf
  .rename_i hl;cases hf;cases px;cases py;exact .inr (.inl ⟨_,_,rfl,rfl,by grind [sizeLine_eq],h G _ H (.refl s) rfl⟩)
  .cases hf
 .rename_i us ws;split at hf
  .rename_i hl;cases hf;obtain⟨a,xs,rfl,ha,ra⟩:=px;obtain⟨b,ys,rfl,hb,rb⟩:=py;have l1:=ra.length;have l2:=rb.length;refine .inr (.inr (.inl ⟨a,b,xs,ys,rfl,rfl,s.tup ha,s.tup hb,λz=>hl.1 ?_,by rw[l1,l2,sizeLine_eq];exact hl.2,λz=>?_,λz p hp=>?_⟩))
   .grind
   .subst z;have:ws=[]:=by grind
    subst this;exact h G _ H (.refl s) ⟨a,xs,rfl,ha,by simpa using ra⟩
   .have g:=aQ.laid s hp (.tup (xs++ys));exact h _ _ _ g ⟨p,_,rfl,eK.of bI,aw.append (aw.mono g.gg _ ra) (aw.mono g.gg _ rb)⟩
  .cases hf
 .split at hf
  .rename_i hl;cases hf;obtain⟨a,xs,rfl,ha,ra⟩:=px;obtain⟨b,ys,rfl,hb,rb⟩:=py;have l1:=ra.length;have l2:=rb.length;refine .inr (.inr (.inr ⟨a,b,xs,ys,rfl,rfl,s.seq ha,s.seq hb,by grind [sizeLine_eq],λp hp=>?_⟩))
   have g:=aQ.laid s hp (.lst (xs++ys));exact h _ _ _ g ⟨p,_,rfl,cy.of bI,aw.append (aw.mono g.gg _ ra) (aw.mono g.gg _ rb)⟩
  .cases hf
 .cases hf
theorem ZZ:jF K (pM λi j=>.int (i-j)) mi:=by
 intro G H x y wx wy w Q s px py hf h;unfold mi at hf;split at hf
 .cases hf;cases px;cases py;exact⟨_,_,rfl,rfl,h G _ H (.refl s) rfl⟩
 .cases hf
theorem Z0:jF K (rI sF λi j=>.int (i*j)) jA:=by
 intro G H x y wx wy w Q s px py hf h;unfold jA at hf;split at hf
 .split at hf
  .rename_i J;cases hf;cases px;cases py;exact⟨_,_,rfl,rfl,J,h G _ H (.refl s) rfl⟩
  .cases hf
 .cases hf
theorem XD:jF K (rI zc λi j=>.int (i / j)) bH:=by
 intro G H x y wx wy w Q s px py hf h;unfold bH at hf;split at hf
 .split at hf
  .rename_i J;cases hf;cases px;cases py;exact⟨_,_,rfl,rfl,J,h G _ H (.refl s) rfl⟩
  .cases hf
 .cases hf
theorem Z1:jF K (rI (λ_ j=>0<j) λi j=>.int (i%j)) bC:=by
 intro G H x y wx wy w Q s px py hf h;unfold bC at hf;split at hf
 .split at hf
  .rename_i J;cases hf;cases px;cases py;exact⟨_,_,rfl,rfl,J,h G _ H (.refl s) rfl⟩
  .cases hf
 .cases hf
theorem QC:jF K (pM λi j=>.bl (decide (i<j))) n5:=by
 intro G H x y wx wy w Q s px py hf h;unfold n5 at hf;split at hf
 .cases hf;cases px;cases py;exact⟨_,_,rfl,rfl,h G _ H (.refl s) rfl⟩
 .cases hf
theorem QD:jF K (pM λi j=>.bl (decide (i<=j))) sj:=by
 intro G H x y wx wy w Q s px py hf h;unfold sj at hf;split at hf
 .cases hf;cases px;cases py;exact⟨_,_,rfl,rfl,h G _ H (.refl s) rfl⟩
 .cases hf
theorem z7t:jF K (pM λi j=>.bl (decide (j<i))) zT:=by
 intro G H x y wx wy w Q s px py hf h;unfold zT at hf;split at hf
 .cases hf;cases px;cases py;exact⟨_,_,rfl,rfl,h G _ H (.refl s) rfl⟩
 .cases hf
theorem Z2:EY K (rU λi=>.int (-i)) iC:=by
 intro G H x wx w Q s px hf h;unfold iC at hf;split at hf
 .cases hf;cases px;exact⟨_,rfl,h G _ H (.refl s) rfl⟩
 .cases hf
mutual
noncomputable def i4:W->W->Option Bool
 |.aG,.aG=>some true
 |.aG,.bl _=>some false|.aG,.int _=>some false|.aG,.str _=>some false|.aG,.tup _=>some false|.aG,.lst _=>some false
 |.bl a,.bl b=>some (a==b)
 |.bl a,.int b=>some ((if a then 1 else 0)==b)
 |.bl _,.aG=>some false|.bl _,.str _=>some false|.bl _,.tup _=>some false|.bl _,.lst _=>some false
 |.int a,.int b=>some (a==b)
 |.int a,.bl b=>some (a==(if b then 1 else 0))
 |.int _,.aG=>some false|.int _,.str _=>some false|.int _,.tup _=>some false|.int _,.lst _=>some false
 |.str a,.str b=>some (a==b)
 |.str _,.aG=>some false|.str _,.bl _=>some false|.str _,.int _=>some false|.str _,.tup _=>some false|.str _,.lst _=>some false
 |.tup _,.aG=>some false|.tup _,.bl _=>some false|.tup _,.int _=>some false|.tup _,.str _=>some false|.tup _,.lst _=>some false
 |.lst _,.aG=>some false|.lst _,.bl _=>some false|.lst _,.int _=>some false|.lst _,.str _=>some false|.lst _,.tup _=>some false
 |.tup xs,.tup ys=>de xs ys
 |.lst xs,.lst ys=>de xs ys
 |.exc _,_=>none
 |_,.exc _=>none
 |.aY _,_=>none
 |_,.aY _=>none
 |.dw _ _ _ _,_=>none
 |.fn _ _ _,_=>none
 |_,.dw _ _ _ _=>none
 |_,.fn _ _ _=>none
noncomputable def de:List W->List W->Option Bool
 |[],[]=>some true
 |[],_::_=>some false
 |_::_,[]=>some false
 |x::xs,y::ys=>match i4 x y,de xs ys with
  |some a,some b=>some (a&&b)
  |_,_=>none
end
noncomputable def aM:W->W->Option W
 |.tup ws,.int i=>cq ws i
 |.lst ws,.int i=>cq ws i
 |.str z,.int i=>if z.length<=16777216 then(cq z.cps.toList i).map λc=>.str ⟨#[c]⟩else none
 |_,_=>none
theorem aw.cq{i:Int}(r:aw K G ws xs)(h:L2.cq ws i=some w):∃x,L2.cq xs i=some x/\Rep K G w x:=by
 unfold L2.cq at h |-
 rw[r.length];cases q:jn ws.length i with
 |none=>rw[q]at h;cases h
 |some j=>
  rw[q]at h;exact r.get h
theorem QE:jF K (Mb K) aM:=by
 intro G H x y wx wy w Q s px py hf h;unfold aM at hf;split at hf
 .obtain⟨a,xs,rfl,ha,ra⟩:=px;cases py;obtain⟨v,hv,rv⟩:=ra.cq hf;exact .inr (.inl ⟨a,xs,_,v,rfl,rfl,s.tup ha,hv,h G v H (.refl s) rv⟩)
 .obtain⟨a,xs,rfl,ha,ra⟩:=px;cases py;obtain⟨v,hv,rv⟩:=ra.cq hf;exact .inl ⟨a,xs,_,v,rfl,rfl,s.seq ha,hv,h G v H (.refl s) rv⟩
 .cases px;cases py;split at hf
  .rename_i hl;obtain⟨c,J,rfl⟩:=w0e.mp hf;exact .inr (.inr ⟨_,_,c,rfl,rfl,by grind [sizeLine_eq],J,h G _ H (.refl s) rfl⟩)
  .cases hf
 .cases hf
noncomputable def S.look:S->Option W
 |.fr w=>some w
 |.own _ ws=>some (.lst ws)
 |.no=>none
 |.aY _=>none
 |.nest _=>none
 |.dw _ _ _=>none
noncomputable def iw(i:Nat)(d:Den W):Den W:=λe=>match e[i]?.bind S.look with
 |none=>.no
 |some _=>(d e).bind λk e1=>match e1[i]?.bind S.look with
  |none=>.no
  |some w=>a_ (aM w k) e1
noncomputable def AA:W->Option W
 |.str z=>if z.length<=16777216 then some (.int z.length)else none
 |.tup ws=>some (.int ws.length)
 |.lst ws=>some (.int ws.length)
 |_=>none
noncomputable def bW:List W->Option W
 |[w]=>AA w
 |_=>none
theorem Pt:pS K (λxs H Q=>∃x n,xs=[x]/\zo K x H n/\Q (.int n) H) bW:=by
 intro G H xs ws w Q s pr hf h;unfold bW at hf;split at hf
 .obtain⟨x,r,rfl,px,pr⟩:=pr;cases(show r=[]from pr);unfold AA at hf;split at hf
  .split at hf
   .rename_i hl;cases hf;cases px;exact⟨_,_,rfl,⟨by grind [sizeLine_eq],rfl⟩,h G _ H (.refl s) rfl⟩
   .cases hf
  .cases hf;obtain⟨a,xs,rfl,ha,ra⟩:=px;exact⟨_,_,rfl,.inr ⟨xs,s.tup ha,rfl⟩,h G _ H (.refl s) (by rw[ra.length];rfl)⟩
  .cases hf;obtain⟨a,xs,rfl,ha,ra⟩:=px;exact⟨_,_,rfl,.inl ⟨xs,s.seq ha,rfl⟩,h G _ H (.refl s) (by rw[ra.length];rfl)⟩
  .cases hf
 .cases hf
noncomputable def gk:W->Bool
 |.aG=>true|.bl _=>true|.int _=>true|.str _=>true|_=>false
theorem WG(h:gk w=true)(p:Rep K G w v):Rep K G' w v:=by
 cases w with
 |aG=>exact p
 |bl b=>exact p
 |int i=>exact p
 |str x=>exact p
 |_=>cases h
noncomputable def fY(i:Nat)(f:List W->Option W):Den W:=λe=>match e[i]?.bind S.look with
 |none=>.no
 |some w=>match f [w]with
  |none=>.no
  |some v=>match e[i]? with
   |some (.fr _)=>.ok v e
   |_=>if gk v=true then .ok v e else .no
section
variable{EE:L2.St->XK}{a b e:Expr}{p:Pos}{x:Str}
theorem yV(ha:DE Z X EE a d)(hb:DE Z X EE b db)(hs:gA b:=by intro _ _;rfl):DE Z X EE (.Subscript a b pos) (aq aM d db):=PE.mono (B' PJ ha hb hs) (vw QE)
theorem Rel.look{e:List S}(r:Rel K Z G σ H e){w:W}(h:e[i]?.bind S.look=some w):∃v,σ[i]?=some (some v) /\
  (Rep K G w v\/∃ws a xs u,(∀z,e[i]?≠some (.fr z))/\w=.lst ws/\v=.ref a/\H a=some u/\(u=.lst xs\/∃o,u=.cD o (.lst xs))/\G a=none/\aw K G ws xs):=by
 obtain⟨s,C,h2⟩:=w0w.mp h;cases s with
 |no=>cases h2
 |aY _=>cases h2
 |nest _=>cases h2
 |dw _ _ _=>cases h2
 |fr w'=>
  cases h2;obtain⟨v,h3,h4⟩:=r.fr C;exact⟨v,h3,.inl h4⟩
 |own b ws=>
  cases h2;obtain⟨a,xs,h3,h4,h5,h6,h7⟩:=r.own C;exact⟨.ref a,h3,.inr ⟨ws,a,xs,_,(λz y=>by rw[C]at y;cases y),rfl,rfl,h4,.inl rfl,h5,h7⟩⟩
theorem U9{K:Fg}{a:Addr}{u:HO}(s:av G H)(h:H a=some u)(hg:G a=none):av G (upd G a u)/\av (upd G a u) H:=
 ⟨sv hg _,λc o z=>by
  by_cases J:c=a
  .subst J;rw[bI]at z;cases z;exact h
  .rw[aP J]at z;exact s c o z⟩
theorem Pu(i:Nat)(hb:DE Z X EE b d)(hN:autoParam (X.N[i]?=some x) jJ)(hv:autoParam (j0 X.env.scope x) jN)(hd:autoParam ((x==("__debug__":Str))=false) jK)
  (dU:autoParam ((x==("__classdict__":Str))=false) jK)(hs:gA b:=by intro _ _;rfl):DE Z X EE (.Subscript (.Name x p) b pos) (iw i d):=by
 refine PE.mono (B' PJ (pv i hN hv hd dU) hb hs) ?_;rintro σ H Q ⟨G,e,rel,h⟩;unfold iw at h;split at h
 .exact h.elim
 .rename_i w0 Ss;obtain⟨v,hv,_⟩:=rel.look Ss;refine⟨v,hv,G,e,rel,(R.ay.mp h).imp (λk e1 h G1 u H1 r1 s1 p1=>?_) λ_ _ h=>h⟩
  split at h
  .exact h.elim
  .rename_i w hw;obtain⟨w',hf,h2⟩:=aV.mp h;obtain⟨v',yn,q⟩:=r1.look hw;rw[hv]at yn;cases yn;rcases q with q|⟨ws,a,xs,u,he,rfl,rfl,q1,qu,q2,q3⟩
   .exact QE G1 H1 v u w k w' Q r1.sub q p1 hf λG' v H' g p=>h2 G' v H' (r1.grow g) (s1.trans g.gg) p
   ·-- an item of LB own list
    unfold aM at hf;split at hf
    .rename_i heq;cases heq
    .rename_i heq;cases heq;cases p1;obtain⟨y,hy,ry⟩:=q3.cq hf;refine .inl ⟨a,xs,_,y,rfl,rfl,?_,hy,h2 G1 y H1 r1 s1 ry⟩;rcases qu with rfl|⟨o,rfl⟩
     .exact cy.of q1
     .exact .inl (.inr ⟨o,q1⟩)
    all_goals grind
theorem Z3{r:List V->Hp->VK->Prop}{f:List W->Option W}(i:Nat){id:String}{fn:Str}(J:c9 X (.builtin id) r)(hf:pS X.K r f)(hv:bootBuiltins fn=some (.builtin id))(hm:X.mg fn=none)
  (hN:autoParam (X.N[i]?=some x) jJ)(kl:autoParam (j0 X.env.scope x) jN)(hd:autoParam ((x==("__debug__":Str))=false) jK)(dU:autoParam ((x==("__classdict__":Str))=false) jK)
  (hg:autoParam (Gl X fn) jJ)(hn:autoParam (fn≠"__name__") jK)(kY:autoParam ((fn==("__debug__":Str))=false) jK)(hs:autoParam (starEach [.Name x p] X.env=(false,eval (.Name x p) X.env)::starEach [] X.env) jJ)(dJ:autoParam ((backTo pos (starEach [] X.env)).any (·.1)=false) jJ):
  DE Z X EE (.Call (.Name fn pn) [.Name x p] [] pos) (fY i f):=by
 refine PE.mono (Nw J hg hm hv (t6 (pv i hN kl hd dU) yN hs) hn kY hs dJ) ?_;rintro σ H Q ⟨G,e,rel,h⟩;unfold fY at h;split at h
 .exact h.elim
 .rename_i w hw;split at h
  .exact h.elim
  .rename_i y hy;obtain⟨v,hv,q⟩:=rel.look hw;refine⟨v,hv,?_⟩;rcases q with q|⟨ws,a,xs,u,he,rfl,rfl,q1,qu,q2,q3⟩
   .refine hf G H [v] [w] y Q rel.sub (.one q) hy λG' v H' g p=>?_
    split at h
    .exact h G' v H' (rel.grow g) g.gg p
    .split at h
     .exact h G' v H' (rel.grow g) g.gg p
     .exact h.elim
   .split at h
    .grind
    split at h
    .rename_i kj;obtain⟨s1,s2⟩:=U9 (K:=X.K) rel.sub q1 q2
     have Sf:cy X.K (upd G a u) a xs:=by
      rcases qu with rfl|⟨o,rfl⟩
      .exact cy.of bI
      .exact .inl (.inr ⟨o,bI⟩)
     refine hf (upd G a u) H [.ref a] [.lst ws] y Q s2 (.one ⟨a,xs,rfl,Sf,aw.mono s1 ws q3⟩) hy λG' v H' g p=>?_
     have g':aQ G H G H':=⟨g.hh,.refl _,rel.sub.trans g.hh,λ_ _=>rfl⟩
     exact(show ∀G' v H',_->_->Rep X.K G' y v->Q v H' from h) G v H' (rel.grow g') (.refl _) (WG kj p)
    .exact h.elim
noncomputable def dQ(i:Nat)(d:Den (List W)):List S->SR:=λe=>match e[i]? with
 |some (.own _ _)=>(d e).cQ λws e1=>match ws,e1[i]? with
  |[w],some (.own b xs)=>if xs.length<16777216 then .nx (e1.set i (.own b (xs++[w])))else .no
  |_,_=>.no
 |_=>.no
theorem Pw(i:Nat)(ha:DA Z X EE (e::es) dA)(hN:autoParam (X.N[i]?=some x) jJ)(hv:autoParam (j0 X.env.scope x) jN)(hd:autoParam ((x==("__debug__":Str))=false) jK)(dU:autoParam ((x==("__classdict__":Str))=false) jK)
  (eR:autoParam (attributeBase (.Name x p) "append" X.env (eval (.Name x p) X.env)=eval (.Name x p) X.env) jJ)
  (lV:autoParam (((backTo cA (starEach (e::es) X.env)).all (λx=>!x.1)&&(backToKw cA (keywordEach [] X.env)).all (λx=>x.1.isSome)&&decide ((e::es).length+([]:List Keyword).length+(if([]:List Keyword).isEmpty then 0 else 1)<30))=true) jJ)
  (eT:autoParam ((apos.endLine==cA.line)=true) jJ)(hs:autoParam (starEach (e::es) X.env=(false,eval e X.env)::starEach es X.env) jJ)(f9:autoParam ((backTo cA (starEach es X.env)).any (·.1)=false) jJ)
  (nY:autoParam (swapsWith (.Call (.Attribute (.Name x p) "append" apos) (e::es) [] cA) none pos.line X.env=pure false) jJ):
  DS Z X EE (.Expr (.Call (.Attribute (.Name x p) "append" apos) (e::es) [] cA) pos) (dQ i dA):=by
 refine PS.mono (Jv (ZO (pv i hN hv hd dU) ha eR lV eT hs f9) nY) ?_;rintro D σ H ⟨G,e,rel,h⟩;unfold dQ at h;split at h
 .rename_i b0 IV pE;obtain⟨a,xs,C,h2,h3,h4,h5⟩:=rel.own pE;refine⟨.ref a,C,.inl ⟨rfl,xs,cy.of h2⟩,G,e,rel,(jC h).imp (λws e1 h G1 vs H1 r1 s1 p1=>?_) λ_ _ h=>h⟩
  split at h
  .rename_i w b ys yk;obtain⟨a',zs,g1,g2,g3,g4,g5⟩:=r1.own yk;rw[C]at g1;cases g1;obtain⟨y,r,rfl,py,pr⟩:=p1;cases(show r=[]from pr);split at h
   .rename_i hl;refine⟨a,zs,y,rfl,rfl,g2,by rw[g5.length,sizeLine_eq];exact hl,?_⟩;exact h G1 σ _ (r1.mut yk C (g5.append (.one py))) s1
   .exact h.elim
  .exact h.elim
 .exact h.elim
end
noncomputable def ei(c:Den Bool)(d:Den W)(pe:List S):List W->Option (List W)
 |[]=>some []
 |w::ws=>match c (.fr w::pe)with
  |.ok true e1=>match d e1 with
   |.ok y _=>(ei c d pe ws).map (y::·)
   |_=>none
  |.ok false _=>ei c d pe ws
  |_=>none
noncomputable def gK(e:List S)(j:Nat):List S:=match e[j]? with
 |some (.own none ws)=>e.set j (.fr (.lst ws))
 |_=>e
noncomputable def a8(js:List Nat)(e:List S):List S:=js.foldl gK e
noncomputable def nB(e:List S)(j:Nat):S:=match e[j]? with
 |some (.fr w)=>.fr w
 |_=>.no
noncomputable def gb(js:List Nat)(e:List S):List S:=js.map (nB e)
noncomputable def lj(js:List Nat)(c:Den Bool)(d:Den W)(ws:List W)(e1:List S):R (List W):=
 if ws.length<=16777216 then(match ei c d (gb js (a8 js e1)) ws with
  |some out=>.ok out (a8 js e1)
  |none=>.no)else .no
noncomputable def dz(js:List Nat)(di:Den W)(c:Den Bool)(d:Den W):Den (List W):=λe=>(di e).bind λw e1=>match gQ w with
 |some ws=>lj js c d ws e1
 |none=>.no
noncomputable def cP:Den Bool:=λe=>.ok true e
theorem Rel.a8{Z:Zt}(r:Rel K Z G σ H e):∀(js:List Nat),∃G',av G G'/\Rel K Z G' σ H (a8 js e):=by
 intro js
 induction js generalizing G e with
 |nil=>exact⟨G,.refl _,r⟩
 |cons j js ih=>
  have one:∃G',av G G'/\Rel K Z G' σ H (gK e j):=by
   unfold gK;split
   .rename_i ws hw;obtain⟨v,G',_,s,_,r'⟩:=r.freeze hw;exact⟨G',s,r'⟩
   grind [av.refl]
  obtain⟨G1,s1,r1⟩:=one;obtain⟨G2,s2,r2⟩:=ih r1;exact⟨G2,s1.trans s2,r2⟩
theorem Rel.block{Z:Zt}(r:Rel K Z G σ H e)(js)(p:Rep K G w x):Rel K ⟨H,G,[]⟩ G (some x::pj js σ) H (.fr w::gb js e):=by
 have uV:∀(i:Nat)(s:S),(S.fr w::gb js e)[i]?=some s->s=.no\/∃u,s=.fr u/\((i=0/\u=w)\/∃k j,i=k+1/\js[k]?=some j/\e[j]?=some (.fr u)):=λi s h=>by
  grind [gb,nB]
 refine⟨r.sub,λi s h=>?_,?_,λi j b b' w1 w2 a C h2 _ _=>?_,λa o h _=>h,(λa h=>nomatch h),λa _=>rfl⟩
 .rcases uV i s h with rfl|⟨u,rfl,⟨rfl,rfl⟩|⟨k,j,rfl,C,h2⟩⟩
  .trivial
  .exact⟨x,rfl,p⟩
  .obtain⟨v,h3,h4⟩:=r.fr h2;refine⟨v,?_,h4⟩
   grind [pj]
 all_goals grind [gb,pj]
theorem Rel.jS{Z:Zt}(r:Rel K Z G σ H e)(hg:G a=none)(hz:Z.H a=none)(hi:a∉Z.io)(hf:i5 σ e a)(wC:H a=some (.lst ls)):Rel K Z G σ (upd H a o) e:=by
 refine⟨λc u z=>?_,λj s z=>?_,r.len,r.lD,λc u z n=>?_,λc z=>?_,r.gen⟩
 .rw[aP (jf z hg)];exact r.sub c u z
 .have y:=r.slot j s z;cases s with
  |no=>trivial
  |fr w=>exact y
  |own b2 w2=>
   obtain⟨c,ys,y1,y2,y3,y4,y5⟩:=y;refine⟨c,ys,y1,?_,y3,y4,y5⟩;rw[aP];exact y2;rintro rfl;obtain⟨c',_,z1,_⟩:=r.own z;rw[z1]at y1;cases y1;exact hf j b2 w2 z z1
  |aY kvs=>
   obtain⟨c,y1,y2,y3,y4⟩:=y;refine⟨c,y1,?_,y3,y4⟩;rw[aP (gh y2 wC (uf rfl))];exact y2
  |nest bq=>exact cu.move y (.refl _) λl o ys k1 k2 k3=>⟨by rw[aP (gh k1 wC (λz=>nomatch z))];exact k1,k2,k3⟩
  |dw sh ks ws=>exact ju.move y (.refl _) λl o ys k1 k2 k3=>⟨by rw[aP (gh k1 wC (oW rfl))];exact k1,k2,k3⟩
 .rw[aP (jf z hz)];exact r.ent c u z n
 .by_cases J:c=a
  .grind
  .rw[aP J];exact r.kO c z
structure Walk(hc:It)(xs:List V)(SQ:Hp->Prop):Prop where
 go:∀i H,SQ H->i<xs.length->hc.go i H
 k_:∀i H x H',SQ H->hc.k_ i H x H'->i<xs.length->H'=H/\xs[i]?=some x
 stop:∀i H,SQ H->xs.length<=i->hc.stop i H
theorem JY:Walk (x8 K a) xs (λH=>cy K H a xs):=
 ⟨λi H q h=>⟨xs,xs[i],q,by simp[h]⟩,λi H x H' q ⟨e,y⟩ h=>⟨e,y xs q⟩,λi H q h=>⟨xs,q,h⟩⟩
theorem JZ:Walk (x9 K a) xs (λH=>eK K H a xs):=
 ⟨λi H q h=>⟨xs,xs[i],q,by simp[h]⟩,λi H x H' q ⟨e,y⟩ h=>⟨e,y xs q⟩,λi H q h=>⟨xs,q,h⟩⟩
theorem OJ{Z:Zt}{Q:VK}(W0:Walk hc xs SQ)(r1:Rel K Z G1 σ H1 e1)(s1:av G0 G1)(rp:aw K G1 ws xs)(pB:∀G' H',av G1 G'->av G' H'->SQ H')(hl:ws.length<=16777216)
  (hz:∀p,H1 p=none->p∉Z.io)(J:ei c d (gb js e1) ws=some out)
  (h:∀G' a xs H',Rel K Z G' σ H' e1->av G0 G'->H' a=some (.lst xs)->G' a=none->Z.H a=none->i5 σ e1 a->aw K G' out xs->Q (.ref a) H'):
  ∀D,H1 D=none->∃W:Nat->Nat->Hp->Prop,(∃m,W 0 m (upd H1 D (.lst [])))/\∀i m H2,W i m H2 ->
   (hc.stop i H2/\Q (.ref D) H2)\/(hc.go i H2/\∀x H3,hc.k_ i H2 x H3->bS 0 x (List.replicate 1 none++pj js σ) H3 λom H4=>Kp (List.replicate 1 none++pj js σ) om/\(λσ H Q=>∃Z',liftT K Z' (λ_=>E0) c σ H Q) om H4 λb H5=>
    if b=true then(λσ H Q=>∃Z',rO K Z' σ H λG e=>(d e).holds (λw e'=>∀G' v H',Rel K Z' G' σ H' e'->av G G'->Rep K G' w v->Q v H') (XH K Z' (λ_=>E0) σ G)) om H5 λy H6=>∃ys,H6 D=some (.lst ys)/\ys.length<sizeLine/\∃m',m'<m/\W (i+1) m' (upd H6 D (.lst (ys++[y])))else ∃m',m'<m/\W (i+1) m' H5):=by
 intro D hD;have hlen:=rp.length
 refine⟨λi m H2=>m=ws.length-i/\i<=ws.length/\∃G2 ys done rest,Rel K Z G2 σ H2 e1/\av G1 G2/\H2 D=some (.lst ys)/\G2 D=none/\aw K G2 done ys/\done.length<=i/\ei c d (gb js e1) (ws.drop i)=some rest/\done++rest=out,
  ⟨ws.length,by omega,w0q _,G1,[],[],out,r1.grow (aQ.ny r1.sub hD _),.refl _,bI,r1.sub.free hD,rfl,w0c _,J,rfl⟩,?_⟩
 rintro i m H2 ⟨rfl,hi,G2,ys,done,rest,r2,s2,hd2,mx,rE,K1,fO,ho⟩;have cG:i5 σ e1 D:=yG r1 hD;have uZ:Z.H D=none:=p9 r1 hD
 by_cases cY:i<ws.length
 .refine .inr ⟨W0.go i H2 (pB G2 H2 s2 r2.sub) (by omega),λx H3 hy=>?_⟩
  obtain⟨rfl,hx⟩:=W0.k_ i H2 x H3 (pB G2 H2 s2 r2.sub) hy (by omega);obtain⟨w,hw,pw⟩:=rp.kX hx;rw[HS hw]at fO;refine⟨Kp.one,⟨H3,G2,[]⟩,G2,.fr w::gb js e1,r2.block js (Rep.mono s2 w pw),?_⟩;unfold ei at fO;cases qc:c (.fr w::gb js e1)with
  |no=>grind
  |ex _ _=>grind
  |ok k e2=>
   rw[qc]at fO;intro G3 H5 r3 s3;have g3:=r3.gq s3;cases k with
   |false=>
    exact⟨ws.length-(i+1),by omega,rfl,cY,G3,ys,done,rest,r2.grow g3,s2.trans s3,g3.hh _ _ hd2,by rw[g3.new D (by rw[hd2];simp)];exact mx,aw.mono s3 _ rE,by omega,fO,ho⟩
   |true=>
    refine⟨⟨H3,G2,[]⟩,G3,e2,r3,?_⟩;dsimp only at fO;cases qd:d e2 with
    |no=>grind
    |ex _ _=>grind
    |ok y e3=>
     rw[qd]at fO;intro G4 v H6 r4 s4 p4;have g4:=r4.gq (s3.trans s4);obtain⟨m8,hr,rfl⟩:=w0e.mp fO;have yj:H6 D=some (.lst ys):=g4.hh _ _ hd2;have uW:G4 D=none:=by rw[g4.new D (by rw[hd2];simp)];exact mx
     refine⟨ys,yj,?_,ws.length-(i+1),by omega,rfl,cY,G4,ys++[v],done++[y],m8,(r2.grow g4).jS uW uZ (hz D hD) cG yj,s2.trans (s3.trans s4),bI,uW,(aw.mono (s3.trans s4) _ rE).append (.one p4),by simp;omega,hr,by grind⟩;rw[rE.length,sizeLine_eq];omega
 .have:i=ws.length:=by omega
  subst this;rw[w2h]at fO;cases fO;rw[w1v]at ho;subst ho;exact .inl ⟨W0.stop _ H2 (pB G2 H2 s2 r2.sub) (by omega),h G2 D ys H2 r2 (s1.trans s2) hd2 mx uZ cG rE⟩
section
variable{EE:L2.St->XK}{elt iter a b:Expr}{ifs:List Expr}{scope sc:Scope}{pt:Pos}{x:Str}{Nf N:List Str}{di:Den W}{c:Den Bool}
noncomputable def vT(Z:Zt)(X:Cx)(EE:L2.St->XK)(ifs:List Expr)(c:Den Bool):Prop:=uH X ifs (liftT X.K Z EE c)
theorem pK:vT Z X EE [] cP:=λpins s σ H Q I ⟨G,e,r,h⟩=>X1 pins s σ H Q I (h G H r (.refl _))
noncomputable def cT(K:Fg)(c:Den Bool):TT:=λσ H Q=>∃Z',liftT K Z' (λ_=>E0) c σ H Q
noncomputable def cE(K:Fg)(d:Den W):TE:=λσ H Q=>∃Z',rO K Z' σ H λG e=>(d e).holds (λw e'=>∀G' v H',Rel K Z' G' σ H' e'->av G G'->Rep K G' w v->Q v H') (XH K Z' (λ_=>E0) σ G)
theorem Vn{D:Ends}{r:R (List W)}{k:W->List S->SR}(h:aZ K Z EE D G ((r.bind λws e'=>.ok (.lst ws) e').cQ k)):r.holds (λws e'=>aZ K Z EE D G (k (.lst ws) e')) (XH K Z EE σ G):=by
 cases r with
 |ok a e=>exact h
 |ex c e=>exact λG' H' r q=>h G' σ H' r q
 |no=>exact h
theorem Ca(ht:∀Z' cl h1 aC aH ex,vT Z' (X.cp Y scope cl h1 aC aH ex) (λ_=>E0) ifs c):∀cl h1 aC aH ex,uH (X.cp Y scope cl h1 aC aH ex) ifs (cT X.K c):=λcl h1 aC aH ex pins s σ H Q I ⟨Z',h⟩=>ht Z' cl h1 aC aH ex pins s σ H Q I h
theorem Ez(he:∀Z' cl h1 aC aH ex,DE Z' (X.cp Y scope cl h1 aC aH ex) (λ_=>E0) elt d):∀cl h1 aC aH ex,PE (X.cp Y scope cl h1 aC aH ex) elt (cE X.K d):=λcl h1 aC aH ex pins s σ H Q I ⟨Z',h⟩=>he Z' cl h1 aC aH ex pins s σ H Q I h
theorem lX(r:Rel K Z G σ H e):∀p,H p=none->p∉Z.io:=λp hp hi=>r.kO p hi hp
theorem HV:∀σ H Q,oH K Z EE (dz js di c d) σ H Q->lI (Au K (hV K Z EE di)) 1 js (bS 0) (cT K c) (cE K d) σ H Q:=by
 rintro σ H Q ⟨G,e,rel,h⟩;simp only[dz,R.ay]at h;refine⟨G,e,rel,h.imp (λw e1 h G1 v1 H1 r1 s1 p1=>?_) λ_ _ h=>h⟩
 split at h
 .rename_i ws hw;unfold lj at h;split at h
  .rename_i hl;split at h
   .rename_i out ho;obtain⟨G2,s2,r2⟩:=r1.a8 js;have p2:=Rep.mono s2 w p1;have io:=lX r2;cases w with
    |tup us=>
     cases hw;obtain⟨a,xs,rfl,hq,rp⟩:=p2;exact⟨a,rfl,.inr ⟨⟨xs,r2.sub.tup hq⟩,OJ JZ r2 (s1.trans s2) rp (λG' H' s s'=>av.tup s' (av.tup s hq)) hl io ho h⟩⟩
    |lst us=>
     cases hw;obtain⟨a,xs,rfl,hq,rp⟩:=p2;exact⟨a,rfl,.inl ⟨⟨xs,r2.sub.seq hq⟩,OJ JY r2 (s1.trans s2) rp (λG' H' s s'=>av.seq s' (av.seq s hq)) hl io ho h⟩⟩
    |_=>cases hw
   .exact h.elim
  .exact h.elim
 .exact h.elim
theorem JA(J:X.calm=true)(hi:DE Z X EE iter di)(ok:c0 sc scope N Nf js=true)
  (ht:∀Z' cl h1 aC aH ex,vT Z' (X.cp ([x]++Nf) scope cl h1 aC aH ex) (λ_=>E0) ifs c)(he:∀Z' cl h1 aC aH ex,DE Z' (X.cp ([x]++Nf) scope cl h1 aC aH ex) (λ_=>E0) elt d)
  (hg:∀cl h1 aC aH ex,PG (X.cp ([x]++Nf) scope cl h1 aC aH ex) (.Name x pt) (bS 0))
  (kj:autoParam (X.env.scope=sc) jJ)(hN:autoParam (X.N=N) jJ)(hs:∀x,foldedSetIterable iter X.env x=pure x:=by intro _;rfl):
  DF Z X EE (.ListComp elt [⟨.Name x pt,iter,ifs,0⟩] scope pos) (dz js di c d):=by
 exact PE.mono (Nz (Nl:=[x]) (tc:=cT X.K c) (te:=cE X.K d) J (yQ hi) ok hg (Ca ht) (Ez he) kj hN hs) HV
theorem Ms(i:Nat){y:Str}{py dn:Pos}(zY:X.N.Nodup)(J:X.calm=true)(hi:DE Z X EE iter di)(ok:c0 sc scope N Nf js=true)
  (ht:∀Z' cl h1 aC aH ex,vT Z' (X.cp ([x]++Nf) scope cl h1 aC aH ex) (λ_=>E0) ifs c)(he:∀Z' cl h1 aC aH ex,DE Z' (X.cp ([x]++Nf) scope cl h1 aC aH ex) (λ_=>E0) elt d)
  (hg:∀cl h1 aC aH ex,PG (X.cp ([x]++Nf) scope cl h1 aC aH ex) (.Name x pt) (bS 0))
  (kj:autoParam (X.env.scope=sc) jJ)(hN:autoParam (X.N=N) jJ)(hs:∀x,foldedSetIterable iter X.env x=pure x:=by intro _;rfl)(Ah:autoParam (X.N[i]?=some y) jJ)(Aq:autoParam (Loc X.env.scope y) jM)(Af:autoParam (X.fn y=true\/X.env.scope.names.lookup y=some .local) jL)(nY:autoParam (swapsWith (.ListComp elt [⟨.Name x pt,iter,ifs,0⟩] scope pos) (some (.Name y py)) dn.line X.env=pure true) jJ):
  DS Z X EE (.Assign [.Name y py] (.ListComp elt [⟨.Name x pt,iter,ifs,0⟩] scope pos) dn) (aJ i (g8 (dz js di c d))):=by
 refine PS.mono (HU (Nl:=[x]) (tc:=cT X.K c) (te:=cE X.K d) J (yQ hi) ok hg (Ca ht) (Ez he) (mz i zY Ah Aq Af) nY kj hN hs) ?_;rintro D σ H ⟨G,e,rel,h⟩;refine HV σ H _ ⟨G,e,rel,?_⟩;refine(Vn h).imp (λw e1 h G1 a xs H1 r1 s1 q1 q2 q3 q4 p1=>?_) λ_ _ h=>h
 obtain⟨sg,rg⟩:=r1.seen q1 q2 q3 q4;exact h _ _ H1 (rg.set (v:=.ref a) ⟨a,xs,rfl,cy.of bI,aw.mono sg w p1⟩) (s1.trans sg)
theorem UG(i:Nat){y:Str}{py dn:Pos}(zY:X.N.Nodup)(J:X.calm=true)(hi:DE Z X EE iter di)(ok:c0 sc scope N Nf js=true)
  (ht:∀Z' cl h1 aC aH ex,vT Z' (X.cp ([x]++Nf) scope cl h1 aC aH ex) (λ_=>E0) ifs c)(he:∀Z' cl h1 aC aH ex,DE Z' (X.cp ([x]++Nf) scope cl h1 aC aH ex) (λ_=>E0) elt d)
  (hg:∀cl h1 aC aH ex,PG (X.cp ([x]++Nf) scope cl h1 aC aH ex) (.Name x pt) (bS 0))
  (kj:autoParam (X.env.scope=sc) jJ)(hN:autoParam (X.N=N) jJ)(hs:∀x,foldedSetIterable iter X.env x=pure x:=by intro _;rfl)(Ah:autoParam (X.N[i]?=some y) jJ)(Aq:autoParam (Loc X.env.scope y) jM)(Af:autoParam (X.fn y=true\/X.env.scope.names.lookup y=some .local) jL)(nY:autoParam (swapsWith (.ListComp elt [⟨.Name x pt,iter,ifs,0⟩] scope pos) (some (.Name y py)) dn.line X.env=pure true) jJ):
  DS Z X EE (.Assign [.Name y py] (.ListComp elt [⟨.Name x pt,iter,ifs,0⟩] scope pos) dn) (bV i (dz js di c d)):=by
 refine PS.mono (HU (Nl:=[x]) (tc:=cT X.K c) (te:=cE X.K d) J (yQ hi) ok hg (Ca ht) (Ez he) (mz i zY Ah Aq Af) nY kj hN hs) ?_;rintro D σ H ⟨G,e,rel,h⟩;refine HV σ H _ ⟨G,e,rel,?_⟩;exact(jC h).imp (λw e1 h G1 a xs H1 r1 s1 q1 q2 q3 q4 p1=>h G1 _ H1 (r1.rG q1 q2 q3 q4 p1) s1) λ_ _ h=>h
end
mutual
noncomputable def cV:W->Nat
 |.tup ws=>aW ws+1
 |.lst ws=>aW ws+1
 |_=>0
noncomputable def aW:List W->Nat
 |[]=>0
 |w::ws=>max (cV w) (aW ws)
end
section
variable{pins:List (Addr×Obj)}{s:Shared}
mutual
theorem JB(I:Inv X pins σ H s)(sg:av G H):∀(w:W){w':W}{v:V}{k:Bool},Rep X.K G w v->Rep X.K G w' v->i4 w w'=some k->k=true
 |.aG,w',v,k,h,h',e=>by
  cases(show v=.aG from h);cases w'<;>first|(cases e;done)|(cases h';cases e;rfl)|(exfalso;obtain⟨_,_,z,_⟩:=h';first|done|cases z)|(exfalso;obtain⟨_,z,_⟩:=h';first|done|cases z)
 |.bl b,w',v,k,h,h',e=>by
  cases(show v=.bl b from h);cases w'<;>first|(cases e;done)|(cases h';cases e;exact beq_self_eq_true _)|(exfalso;obtain⟨_,_,z,_⟩:=h';first|done|cases z)|(exfalso;obtain⟨_,z,_⟩:=h';first|done|cases z)
 |.int b,w',v,k,h,h',e=>by
  cases(show v=.int b from h);cases w'<;>first|(cases e;done)|(cases h';cases e;exact beq_self_eq_true _)|(exfalso;obtain⟨_,_,z,_⟩:=h';first|done|cases z)|(exfalso;obtain⟨_,z,_⟩:=h';first|done|cases z)
 |.str b,w',v,k,h,h',e=>by
  cases(show v=.str b from h);cases w'<;>first|(cases e;done)|(cases h';cases e;exact beq_self_eq_true _)|(exfalso;obtain⟨_,_,z,_⟩:=h';first|done|cases z)|(exfalso;obtain⟨_,z,_⟩:=h';first|done|cases z)
 |.tup ws,w',v,k,h,h',e=>by
  obtain⟨a,xs,rfl,q,r⟩:=h;cases w' with
  |tup ws'=>
   obtain⟨a',jE,z,q',r'⟩:=h';cases z;have:=I.jh (sg.tup q) (sg.tup q');subst this;exact Jd I sg ws r r' (e)
  |lst ws'=>
   obtain⟨a',jE,z,q',r'⟩:=h';cases z;obtain⟨aB,_,p1,_⟩:=I.tuple (sg.tup q);obtain⟨nZ,_,p2,_⟩:=I.list (sg.seq q');exact absurd rfl (SeqAt.ne_of_list_tuple p2.isList (show s.heap.IsTuple a _ from p1))
  |aG=>cases h'
  |bl _=>cases h'
  |int _=>cases h'
  |str _=>cases h'
  |exc _=>cases e
  |aY _=>cases e
  |dw _ _ _ _=>cases e
  |fn _ _ _=>cases e
 |.lst ws,w',v,k,h,h',e=>by
  obtain⟨a,xs,rfl,q,r⟩:=h;cases w' with
  |lst ws'=>
   obtain⟨a',jE,z,q',r'⟩:=h';cases z;have:=I.kq (sg.seq q) (sg.seq q');subst this;exact Jd I sg ws r r' (e)
  |tup ws'=>
   obtain⟨a',jE,z,q',r'⟩:=h';cases z;obtain⟨aB,_,p1,_⟩:=I.tuple (sg.tup q');obtain⟨nZ,_,p2,_⟩:=I.list (sg.seq q);exact absurd rfl (SeqAt.ne_of_list_tuple p2.isList (show s.heap.IsTuple a _ from p1))
  |aG=>cases h'
  |bl _=>cases h'
  |int _=>cases h'
  |str _=>cases h'
  |exc _=>cases e
  |aY _=>cases e
  |dw _ _ _ _=>cases e
  |fn _ _ _=>cases e
 |.exc c,w',v,k,h,h',e=>by cases w'<;>cases e
 |.aY c,w',v,k,h,h',e=>by cases w'<;>cases e
 |.dw _ _ _ _,w',v,k,h,h',e=>by cases w'<;>cases e
 |.fn _ _ _,w',v,k,h,h',e=>by cases w'<;>cases e
theorem Jd(I:Inv X pins σ H s)(sg:av G H):∀(ws:List W){ws':List W}{vs:List V}{k:Bool},aw X.K G ws vs->aw X.K G ws' vs->de ws ws'=some k->k=true
 |[],ws',vs,k,h,h',e=>by
  cases h;cases ws' with
  |nil=>cases e;rfl
  |cons _ _=>obtain⟨_,_,z,_⟩:=h';cases z
 |w::ws,ws',vs,k,h,h',e=>by
  obtain⟨x,r,rfl,C,h2⟩:=h;cases ws' with
  |nil=>cases h'
  |cons w' ws'=>
   obtain⟨x',r',z,zU,s_⟩:=h';cases z;have e:(match i4 w w',de ws ws' with|some a,some b=>some (a&&b)|_,_=>none)=some k:=e;cases q1:i4 w w' with
   |none=>rw[q1]at e;cases e
   |some b1=>
    cases q2:de ws ws' with
    |none=>grind
    |some b2=>
     rw[q1,q2]at e;rw[JB I sg w C zU q1,Jd I sg ws h2 s_ q2]at e;cases e;rfl
end
theorem yH:∀{xs ys:List W}{b:Bool},de xs ys=some b->(∀(j:Nat) x y,xs[j]?=some x->ys[j]?=some y->∃k,i4 x y=some k)/\b=((List.range (min xs.length ys.length)).all (λj=>((i4 (xs.getD j .aG) (ys.getD j .aG)).getD false))&&xs.length==ys.length):=by
 intro xs
 induction xs with
 |nil=>
  intro ys b h;refine⟨λj x y hx=>by simp at hx,?_⟩
  cases ys<;>(cases h;simp)
 |cons x xs ih=>
  intro ys b h;cases ys with
  |nil=>refine⟨λj x y hx hy=>by simp at hy,?_⟩;cases h;simp
  |cons y ys=>
   have h:(match i4 x y,de xs ys with|some a,some b=>some (a&&b)|_,_=>none)=some b:=h;cases q1:i4 x y with
   |none=>rw[q1]at h;cases h
   |some b1=>
    cases q2:de xs ys with
    |none=>grind
    |some b2=>
     rw[q1,q2]at h;cases h;obtain⟨C,h2⟩:=ih q2;refine⟨λj x' y' hx hy=>?_,?_⟩
     .cases j with
      |zero=>grind
      |succ j=>exact C j x' y' (by simpa using hx) (by simpa using hy)
     .rw[h2];simp only[w1g,Nat.succ_min_succ,List.range_succ_eq_map,w3b,List.all_map]
      have e0:(i4 ((x::xs).getD 0 .aG) ((y::ys).getD 0 .aG)).getD false=b1:=by
       grind
      rw[e0,Bool.and_assoc];congr 1;congr 1;simp
theorem HW:∀{xs:List W}{j:Nat}{x:W},xs[j]?=some x->cV x<=aW xs
 |[],_,_,h=>by simp at h
 |y::ys,0,x,h=>by grind [aW]
 |y::ys,j+1,x,h=>by
  have:=HW (xs:=ys) (j:=j) (by simpa using h);simp only[aW];omega
theorem D2{xs:List α}{x d:α}(h:xs[j]?=some x):xs.getD j d=x:=by
 simp[List.getD,h]
theorem J0(I:Inv X pins σ H s)(sg:av G H)(hu:A.units<cLine)(n1:∀ws,w=.tup ws->∀ws',w'≠.tup ws')(n2:∀ws,w=.lst ws->∀ws',w'≠.lst ws')(h:Rep X.K G w v)(h':Rep X.K G w' v')(r:RelV v u)(r':RelV v' u')(e:i4 w w'=some b):SeqAt.RcAt A s u u' b:=by
 have tl:∀{ws:List W}{v:V}{u:Value},Rep X.K G (.lst ws) v->RelV v u->∃l items,u=.ref l/\s.heap.IsList l items:=λh r=>by
  obtain⟨a,xs,rfl,q,_⟩:=h;cases r;obtain⟨aB,_,p,_⟩:=I.list (sg.seq q);exact⟨a,_,rfl,p.isList⟩
 have tt:∀{ws:List W}{v:V}{u:Value},Rep X.K G (.tup ws) v->RelV v u->∃l items,u=.ref l/\s.heap.IsTuple l items:=λh r=>by
  obtain⟨a,xs,rfl,q,_⟩:=h;cases r;obtain⟨aB,_,p,_⟩:=I.tuple (sg.tup q);exact⟨a,_,rfl,p⟩
 have tn:∀{v:V}{u:Value},Rep X.K G .aG v->RelV v u->u=.none:=λh r=>by cases h;exact r
 have tb:∀{k:Bool}{v:V}{u:Value},Rep X.K G (.bl k) v->RelV v u->u=.bool k:=λh r=>by cases h;exact r
 have ti:∀{k:Int}{v:V}{u:Value},Rep X.K G (.int k) v->RelV v u->∃t,u=.int k t:=λh r=>by cases h;exact r
 have ts:∀{k:Str}{v:V}{u:Value},Rep X.K G (.str k) v->RelV v u->∃t,u=.str k t:=λh r=>by cases h;exact r
 cases w with
 |aG=>
  obtain rfl:=tn h r;cases w' with
  |aG=>obtain rfl:=tn h' r';cases e;exact .none_none
  |bl k=>obtain rfl:=tb h' r';cases e;exact .none_bool k
  |int k=>obtain⟨t,rfl⟩:=ti h' r';cases e;exact .none_int k t
  |str k=>obtain⟨t,rfl⟩:=ts h' r';cases e;exact .none_str k t
  |tup k=>obtain⟨l,it,rfl,p⟩:=tt h' r';cases e;exact .none_tuple p hu
  |lst k=>obtain⟨l,it,rfl,p⟩:=tl h' r';cases e;exact .none_list p hu
  |exc k=>cases e
  |aY k=>cases e
  |dw _ _ _ _=>cases e
  |fn _ _ _=>cases e
 |bl j=>
  obtain rfl:=tb h r;cases w' with
  |aG=>obtain rfl:=tn h' r';cases e;exact .bool_none j
  |bl k=>obtain rfl:=tb h' r';cases e;exact .bool_bool j k
  |int k=>obtain⟨t,rfl⟩:=ti h' r';cases e;exact .bool_int j k t
  |str k=>obtain⟨t,rfl⟩:=ts h' r';cases e;exact .bool_str j k t
  |tup k=>obtain⟨l,it,rfl,p⟩:=tt h' r';cases e;exact .bool_tuple j p hu
  |lst k=>obtain⟨l,it,rfl,p⟩:=tl h' r';cases e;exact .bool_list j p hu
  |exc k=>cases e
  |aY k=>cases e
  |dw _ _ _ _=>cases e
  |fn _ _ _=>cases e
 |int j=>
  obtain⟨t1,rfl⟩:=ti h r;cases w' with
  |aG=>obtain rfl:=tn h' r';cases e;exact .int_none j t1
  |bl k=>obtain rfl:=tb h' r';cases e;exact .int_bool j t1 k
  |int k=>obtain⟨t,rfl⟩:=ti h' r';cases e;exact .int_int j t1 k t
  |str k=>obtain⟨t,rfl⟩:=ts h' r';cases e;exact .int_str j t1 k t
  |tup k=>obtain⟨l,it,rfl,p⟩:=tt h' r';cases e;exact .int_tuple j t1 p hu
  |lst k=>obtain⟨l,it,rfl,p⟩:=tl h' r';cases e;exact .int_list j t1 p hu
  |exc k=>cases e
  |aY k=>cases e
  |dw _ _ _ _=>cases e
  |fn _ _ _=>cases e
 |str j=>
  obtain⟨t1,rfl⟩:=ts h r;cases w' with
  |aG=>obtain rfl:=tn h' r';cases e;exact .str_none j t1
  |bl k=>obtain rfl:=tb h' r';cases e;exact .str_bool j t1 k
  |int k=>obtain⟨t,rfl⟩:=ti h' r';cases e;exact .str_int j t1 k t
  |str k=>obtain⟨t,rfl⟩:=ts h' r';cases e;exact .str_str j t1 k t
  |tup k=>obtain⟨l,it,rfl,p⟩:=tt h' r';cases e;exact .str_tuple j t1 p hu
  |lst k=>obtain⟨l,it,rfl,p⟩:=tl h' r';cases e;exact .str_list j t1 p hu
  |exc k=>cases e
  |aY k=>cases e
  |dw _ _ _ _=>cases e
  |fn _ _ _=>cases e
 |tup j=>
  obtain⟨l1,Gd,rfl,p1⟩:=tt h r;cases w' with
  |aG=>obtain rfl:=tn h' r';cases e;exact .tuple_none p1 hu
  |bl k=>obtain rfl:=tb h' r';cases e;exact .tuple_bool k p1 hu
  |int k=>obtain⟨t,rfl⟩:=ti h' r';cases e;exact .tuple_int k t p1 hu
  |str k=>obtain⟨t,rfl⟩:=ts h' r';cases e;exact .tuple_str k t p1 hu
  |tup k=>grind
  |lst k=>obtain⟨l,it,rfl,p⟩:=tl h' r';cases e;exact .tuple_list p1 p hu
  |exc k=>cases e
  |aY k=>cases e
  |dw _ _ _ _=>cases e
  |fn _ _ _=>cases e
 |lst j=>
  obtain⟨l1,Gd,rfl,p1⟩:=tl h r;cases w' with
  |aG=>obtain rfl:=tn h' r';cases e;exact .list_none p1 hu
  |bl k=>obtain rfl:=tb h' r';cases e;exact .list_bool k p1 hu
  |int k=>obtain⟨t,rfl⟩:=ti h' r';cases e;exact .list_int k t p1 hu
  |str k=>obtain⟨t,rfl⟩:=ts h' r';cases e;exact .list_str k t p1 hu
  |lst k=>grind
  |tup k=>obtain⟨l,it,rfl,p⟩:=tt h' r';cases e;exact .list_tuple p1 p hu
  |exc k=>cases e
  |aY k=>cases e
  |dw _ _ _ _=>cases e
  |fn _ _ _=>cases e
 |exc j=>cases w'<;>cases e
 |aY j=>cases w'<;>cases e
 |dw _ _ _ _=>cases w'<;>cases e
 |fn _ _ _=>cases w'<;>cases e
theorem OK(I:Inv X pins σ H s)(sg:av G H)(hd:cV w<=0)(hu:A.units<cLine)(h:Rep X.K G w v)(h':Rep X.K G w' v')(r:RelV v u)(r':RelV v' u')(e:i4 w w'=some b):SeqAt.RcAt A s u u' b:=
 J0 I sg hu (λws z=>by grind [cV]) (λws z=>by grind [cV]) h h' r r' e
theorem Ni(h:Rep K G w v):∀x,v≠.uO x:=λx z=>by
 subst z;cases w with
 |tup ws=>obtain⟨_,_,z,_⟩:=h;cases z
 |lst ws=>obtain⟨_,_,z,_⟩:=h;cases z
 |exc c=>obtain⟨_,z,_⟩:=h;cases z
 |aY c=>obtain⟨_,z,_⟩:=h;cases z
 |dw _ _ _ _=>obtain⟨_,_,_,z,_⟩:=h;cases z
 |fn _ _ _=>obtain⟨_,_,_,_,z,_⟩:=h;cases z
 |_=>cases h
theorem Nj(rv:RelV v u)(hf:∀x,v≠.uO x)(h:SeqAt.RcAt A s u u' b)(hs:u=u'->b=true):SeqAt.EqAt A s u u' b:=λprog w E Q hq=>by
 unfold eqBool;refine wpAny_holding ?_;refine wpAny_ite_split (λuQ=>?_) (λ_=>?_)
 .have hb:=hs (eq_of_beq uQ)
  grind [wpAny_bind,wpAny_rule,wpAny_pure]
 .have z:=wpAny_bind (h prog w E (λa s'=>wpAny (model prog w) A (truthOfDropped a) Q E s') (wpAny_truthy_bool hq))
  cases v with
  |uO x=>exact absurd rfl (hf x)
  |aG=>cases rv;exact z
  |bl _=>cases rv;exact z
  |int _=>obtain⟨t,rfl⟩:=rv;exact z
  |str _=>obtain⟨t,rfl⟩:=rv;exact z
  |uI _=>obtain⟨t,rfl⟩:=rv;exact z
  |ref _=>cases rv;exact z
  |ty _=>cases rv;exact z
theorem QF(I:Inv X pins σ H s)(sg:av G H):∀(n:Nat){w w':W}{v v':V}{u u':Value}{b:Bool}{A:Around},cV w<=n->A.units+n<cLine->Rep X.K G w v->Rep X.K G w' v'->RelV v u->RelV v' u'->i4 w w'=some b->SeqAt.RcAt A s u u' b:=by
 intro n
 induction n with
 |zero=>
  grind [OK]
 |succ n ih=>
  intro w w' v v' u u' b A hd hu h h' r r' e
  have items:∀{ws ws':List W}{xs jE:List V}{aB its':List Value}{k:Bool},aW ws<=n->aw X.K G ws xs->aw X.K G ws' jE->Vals xs aB->Vals jE its'->de ws ws'=some k ->
    ∀j (C:j<aB.toArray.size) (h2:j<its'.toArray.size),SeqAt.EqAt A.in1 s aB.toArray[j] its'.toArray[j] ((i4 (ws.getD j .aG) (ws'.getD j .aG)).getD false):=by
   intro ws ws' xs jE aB its' k hd r1 r2 v1 v2 he j C h2;have l1:=r1.length;have l2:=r2.length;have m1:=v1.length;have m2:=v2.length;have i1:j<xs.length:=by rw[m1];simpa using C
   have i2:j<jE.length:=by rw[m2];simpa using h2
   obtain⟨u1,e1,xB⟩:=v1.get (w0j i1);obtain⟨u2,e2,BL⟩:=v2.get (w0j i2);obtain⟨w1,f1,p1⟩:=r1.kX (w0j i1);obtain⟨w2,f2,p2⟩:=r2.kX (w0j i2);obtain⟨b',oB⟩:=(yH he).1 j w1 w2 f1 f2;rw[D2 f1,D2 f2,oB]
   have g1:aB.toArray[j]=u1:=by
    grind
   have g2:its'.toArray[j]=u2:=by
    grind
   rw[g1,g2];have Fz:cV w1<=n:=w0l (HW f1) hd
   have F3:A.in1.units+n<cLine:=by
    grind
   refine Nj xB (Ni p1) (ih Fz F3 p1 p2 xB BL oB) λz=>?_
   subst z;have:=xB.inj BL
   grind [JB]
  cases w with
  |tup ws=>
   cases w' with
   |tup ws'=>
    obtain⟨a,xs,rfl,q1,r1⟩:=h;obtain⟨a',jE,rfl,q2,r2⟩:=h';cases r;cases r';obtain⟨aB,v1,p1,_⟩:=I.tuple (sg.tup q1);obtain⟨its',v2,p2,_⟩:=I.tuple (sg.tup q2);have e:de ws ws'=some b:=e;have z:=SeqAt.RcAt.tuples (show s.heap.IsTuple a _ from p1) (show s.heap.IsTuple a' _ from p2) (show A.units<cLine by omega) (items (by grind [cV]) r1 r2 v1 v2 e);have l1:=r1.length;have l2:=r2.length;have m1:=v1.length;have m2:=v2.length;have eb:=(yH e).2
    grind
   |_=>exact J0 I sg (by omega) (by intro ws';simp) (by intro ws';simp) h h' r r' e
  |lst ws=>
   cases w' with
   |lst ws'=>
    obtain⟨a,xs,rfl,q1,r1⟩:=h;obtain⟨a',jE,rfl,q2,r2⟩:=h';cases r;cases r';obtain⟨aB,v1,p1,_⟩:=I.list (sg.seq q1);obtain⟨its',v2,p2,_⟩:=I.list (sg.seq q2);have e:de ws ws'=some b:=e;have l1:=r1.length;have l2:=r2.length;have m1:=v1.length;have m2:=v2.length;have eb:=(yH e).2;have n1:aB.length=ws.length:=by omega
    have n2:its'.length=ws'.length:=by omega
    by_cases hl:ws.length=ws'.length
    .have z:=SeqAt.RcAt.lists p1.isList p2.isList (by grind) (show A.units<cLine by omega) (items (by grind [cV]) r1 r2 v1 v2 e)
     grind
    .have z:=SeqAt.RcAt.lists_lengths (A:=A) p1.isList p2.isList (by grind) (show A.units<cLine by omega)
     grind
   |_=>exact J0 I sg (by omega) (by intro ws';simp) (by intro ws';simp) h h' r r' e
  |_=>exact OK I sg (by simp[cV]) (by omega) h h' r r' e
theorem Je(I:Inv X pins σ H s)(sg:av G H)(hu:A.units<cLine)(n1:∀ws,w=.tup ws->∀ws',w'≠.tup ws')(n2:∀ws,w=.lst ws->∀ws',w'≠.lst ws')(h:Rep X.K G w v)(h':Rep X.K G w' v')(r:RelV v u)(r':RelV v' u')(e:i4 w w'=some b):SeqAt.RcNeAt A s u u' (!b):=by
 have tl:∀{ws:List W}{v:V}{u:Value},Rep X.K G (.lst ws) v->RelV v u->∃l items,u=.ref l/\s.heap.IsList l items:=λh r=>by
  obtain⟨a,xs,rfl,q,_⟩:=h;cases r;obtain⟨aB,_,p,_⟩:=I.list (sg.seq q);exact⟨a,_,rfl,p.isList⟩
 have tt:∀{ws:List W}{v:V}{u:Value},Rep X.K G (.tup ws) v->RelV v u->∃l items,u=.ref l/\s.heap.IsTuple l items:=λh r=>by
  obtain⟨a,xs,rfl,q,_⟩:=h;cases r;obtain⟨aB,_,p,_⟩:=I.tuple (sg.tup q);exact⟨a,_,rfl,p⟩
 have tn:∀{v:V}{u:Value},Rep X.K G .aG v->RelV v u->u=.none:=λh r=>by cases h;exact r
 have tb:∀{k:Bool}{v:V}{u:Value},Rep X.K G (.bl k) v->RelV v u->u=.bool k:=λh r=>by cases h;exact r
 have ti:∀{k:Int}{v:V}{u:Value},Rep X.K G (.int k) v->RelV v u->∃t,u=.int k t:=λh r=>by cases h;exact r
 have ts:∀{k:Str}{v:V}{u:Value},Rep X.K G (.str k) v->RelV v u->∃t,u=.str k t:=λh r=>by cases h;exact r
 cases w with
 |aG=>
  obtain rfl:=tn h r;cases w' with
  |aG=>obtain rfl:=tn h' r';cases e;exact .none_none
  |bl k=>obtain rfl:=tb h' r';cases e;exact .none_bool k
  |int k=>obtain⟨t,rfl⟩:=ti h' r';cases e;exact .none_int k t
  |str k=>obtain⟨t,rfl⟩:=ts h' r';cases e;exact .none_str k t
  |tup k=>obtain⟨l,it,rfl,p⟩:=tt h' r';cases e;exact .none_tuple p hu
  |lst k=>obtain⟨l,it,rfl,p⟩:=tl h' r';cases e;exact .none_list p hu
  |exc k=>cases e
  |aY k=>cases e
  |dw _ _ _ _=>cases e
  |fn _ _ _=>cases e
 |bl j=>
  obtain rfl:=tb h r;cases w' with
  |aG=>obtain rfl:=tn h' r';cases e;exact .bool_none j
  |bl k=>obtain rfl:=tb h' r';cases e;exact .bool_bool j k
  |int k=>obtain⟨t,rfl⟩:=ti h' r';cases e;exact .bool_int j k t
  |str k=>obtain⟨t,rfl⟩:=ts h' r';cases e;exact .bool_str j k t
  |tup k=>obtain⟨l,it,rfl,p⟩:=tt h' r';cases e;exact .bool_tuple j p hu
  |lst k=>obtain⟨l,it,rfl,p⟩:=tl h' r';cases e;exact .bool_list j p hu
  |exc k=>cases e
  |aY k=>cases e
  |dw _ _ _ _=>cases e
  |fn _ _ _=>cases e
 |int j=>
  obtain⟨t1,rfl⟩:=ti h r;cases w' with
  |aG=>obtain rfl:=tn h' r';cases e;exact .int_none j t1
  |bl k=>obtain rfl:=tb h' r';cases e;exact .int_bool j t1 k
  |int k=>obtain⟨t,rfl⟩:=ti h' r';cases e;exact .int_int j t1 k t
  |str k=>obtain⟨t,rfl⟩:=ts h' r';cases e;exact .int_str j t1 k t
  |tup k=>obtain⟨l,it,rfl,p⟩:=tt h' r';cases e;exact .int_tuple j t1 p hu
  |lst k=>obtain⟨l,it,rfl,p⟩:=tl h' r';cases e;exact .int_list j t1 p hu
  |exc k=>cases e
  |aY k=>cases e
  |dw _ _ _ _=>cases e
  |fn _ _ _=>cases e
 |str j=>
  obtain⟨t1,rfl⟩:=ts h r;cases w' with
  |aG=>obtain rfl:=tn h' r';cases e;exact .str_none j t1
  |bl k=>obtain rfl:=tb h' r';cases e;exact .str_bool j t1 k
  |int k=>obtain⟨t,rfl⟩:=ti h' r';cases e;exact .str_int j t1 k t
  |str k=>obtain⟨t,rfl⟩:=ts h' r';cases e;exact .str_str j t1 k t
  |tup k=>obtain⟨l,it,rfl,p⟩:=tt h' r';cases e;exact .str_tuple j t1 p hu
  |lst k=>obtain⟨l,it,rfl,p⟩:=tl h' r';cases e;exact .str_list j t1 p hu
  |exc k=>cases e
  |aY k=>cases e
  |dw _ _ _ _=>cases e
  |fn _ _ _=>cases e
 |tup j=>
  obtain⟨l1,Gd,rfl,p1⟩:=tt h r;cases w' with
  |aG=>obtain rfl:=tn h' r';cases e;exact .tuple_none p1 hu
  |bl k=>obtain rfl:=tb h' r';cases e;exact .tuple_bool k p1 hu
  |int k=>obtain⟨t,rfl⟩:=ti h' r';cases e;exact .tuple_int k t p1 hu
  |str k=>obtain⟨t,rfl⟩:=ts h' r';cases e;exact .tuple_str k t p1 hu
  |tup k=>grind
  |lst k=>obtain⟨l,it,rfl,p⟩:=tl h' r';cases e;exact .tuple_list p1 p hu
  |exc k=>cases e
  |aY k=>cases e
  |dw _ _ _ _=>cases e
  |fn _ _ _=>cases e
 |lst j=>
  obtain⟨l1,Gd,rfl,p1⟩:=tl h r;cases w' with
  |aG=>obtain rfl:=tn h' r';cases e;exact .list_none p1 hu
  |bl k=>obtain rfl:=tb h' r';cases e;exact .list_bool k p1 hu
  |int k=>obtain⟨t,rfl⟩:=ti h' r';cases e;exact .list_int k t p1 hu
  |str k=>obtain⟨t,rfl⟩:=ts h' r';cases e;exact .list_str k t p1 hu
  |lst k=>grind
  |tup k=>obtain⟨l,it,rfl,p⟩:=tt h' r';cases e;exact .list_tuple p1 p hu
  |exc k=>cases e
  |aY k=>cases e
  |dw _ _ _ _=>cases e
  |fn _ _ _=>cases e
 |exc j=>cases w'<;>cases e
 |aY j=>cases w'<;>cases e
 |dw _ _ _ _=>cases w'<;>cases e
 |fn _ _ _=>cases w'<;>cases e
theorem Vo(I:Inv X pins σ H s)(sg:av G H)(hd:cV w<=0)(hu:A.units<cLine)(h:Rep X.K G w v)(h':Rep X.K G w' v')(r:RelV v u)(r':RelV v' u')(e:i4 w w'=some b):SeqAt.RcNeAt A s u u' (!b):=
 Je I sg hu (λws z=>by grind [cV]) (λws z=>by grind [cV]) h h' r r' e
theorem Nk(I:Inv X pins σ H s)(sg:av G H)(hu:A.units+(n+1)<cLine)(hd:aW ws<=n)(r1:aw X.K G ws xs)(r2:aw X.K G ws' jE)(v1:Vals xs aB)(v2:Vals jE its')(he:de ws ws'=some k):
  ∀j (C:j<aB.toArray.size) (h2:j<its'.toArray.size),SeqAt.EqAt A.in1 s aB.toArray[j] its'.toArray[j] ((i4 (ws.getD j .aG) (ws'.getD j .aG)).getD false):=by
 intro j C h2;have l1:=r1.length;have l2:=r2.length;have m1:=v1.length;have m2:=v2.length;have i1:j<xs.length:=by rw[m1];simpa using C
 have i2:j<jE.length:=by rw[m2];simpa using h2
 obtain⟨u1,e1,xB⟩:=v1.get (w0j i1);obtain⟨u2,e2,BL⟩:=v2.get (w0j i2);obtain⟨w1,f1,p1⟩:=r1.kX (w0j i1);obtain⟨w2,f2,p2⟩:=r2.kX (w0j i2);obtain⟨b',oB⟩:=(yH he).1 j w1 w2 f1 f2;rw[D2 f1,D2 f2,oB]
 have g1:aB.toArray[j]=u1:=by
  grind
 have g2:its'.toArray[j]=u2:=by
  grind
 rw[g1,g2];have Fz:cV w1<=n:=w0l (HW f1) hd
 have F3:A.in1.units+n<cLine:=by
  grind
 refine Nj xB (Ni p1) (QF I sg n Fz F3 p1 p2 xB BL oB) λz=>?_
 subst z;have:=xB.inj BL
 grind [JB]
theorem XE(I:Inv X pins σ H s)(sg:av G H)(n)(hd:cV w<=n+1)(hu:A.units+(n+1)<cLine)(h:Rep X.K G w v)(h':Rep X.K G w' v')(r:RelV v u)(r':RelV v' u')(e:i4 w w'=some b):SeqAt.RcNeAt A s u u' (!b):=by
 cases w with
 |tup ws=>
  cases w' with
  |tup ws'=>
   obtain⟨a,xs,rfl,q1,r1⟩:=h;obtain⟨a',jE,rfl,q2,r2⟩:=h';cases r;cases r';obtain⟨aB,v1,p1,_⟩:=I.tuple (sg.tup q1);obtain⟨its',v2,p2,_⟩:=I.tuple (sg.tup q2);have e:de ws ws'=some b:=e;have z:=SeqAt.RcNeAt.tuples (show s.heap.IsTuple a _ from p1) (show s.heap.IsTuple a' _ from p2) (show A.units<cLine by omega) (Nk I sg hu (by grind [cV]) r1 r2 v1 v2 e);have l1:=r1.length;have l2:=r2.length;have m1:=v1.length;have m2:=v2.length;have eb:=(yH e).2
   grind
  |_=>exact Je I sg (by omega) (by intro ws';simp) (by intro ws';simp) h h' r r' e
 |lst ws=>
  cases w' with
  |lst ws'=>
   obtain⟨a,xs,rfl,q1,r1⟩:=h;obtain⟨a',jE,rfl,q2,r2⟩:=h';cases r;cases r';obtain⟨aB,v1,p1,_⟩:=I.list (sg.seq q1);obtain⟨its',v2,p2,_⟩:=I.list (sg.seq q2);have e:de ws ws'=some b:=e;have l1:=r1.length;have l2:=r2.length;have m1:=v1.length;have m2:=v2.length;have eb:=(yH e).2;have n1:aB.length=ws.length:=by omega
   have n2:its'.length=ws'.length:=by omega
   by_cases hl:ws.length=ws'.length
   .have z:=SeqAt.RcNeAt.lists p1.isList p2.isList (by grind) (show A.units<cLine by omega) (Nk I sg hu (by grind [cV]) r1 r2 v1 v2 e)
    grind
   .have z:=SeqAt.RcNeAt.lists_lengths (A:=A) p1.isList p2.isList (by grind) (show A.units<cLine by omega)
    grind
  |_=>exact Je I sg (by omega) (by intro ws';simp) (by intro ws';simp) h h' r r' e
 |_=>exact Vo I sg (by simp[cV]) (by omega) h h' r r' e
noncomputable def eq2(x y:W):Option W:=if cV x<=150 then(i4 x y).map .bl else none
noncomputable def BA(K:Fg):R2:=λx y H Q=>∃G wx wy b,av G H/\cV wx<=150/\Rep K G wx x/\Rep K G wy y/\i4 wx wy=some b/\Q (.bl b) H
theorem PV(hu:X.A.units+150<cLine):gT X (compareOp .Eq) (BA X.K):=by
 intro pins s σ H x y v u Q I rx ry h;obtain⟨G,wx,wy,b,sg,hd,hx,hy,e,q⟩:=h;exact QF I sg 150 hd hu hx hy rx ry e _ _ _ _ ⟨.bl b,H,I,rfl,q⟩
theorem QG:jF K (BA K) eq2:=by
 intro G H x y wx wy w Q s px py hf h;unfold eq2 at hf;split at hf
 .rename_i hd;obtain⟨b,hb,rfl⟩:=w0e.mp hf;exact⟨G,wx,wy,b,s,hd,px,py,hb,h G _ H (.refl s) rfl⟩
 .cases hf
noncomputable def ne2(x y:W):Option W:=if cV x<=150 then(i4 x y).map λb=>.bl (!b)else none
noncomputable def BG(K:Fg):R2:=λx y H Q=>∃G wx wy b,av G H/\cV wx<=150/\Rep K G wx x/\Rep K G wy y/\i4 wx wy=some b/\Q (.bl (!b)) H
theorem PX(hu:X.A.units+150<cLine):gT X (compareOp .NotEq) (BG X.K):=by
 intro pins s σ H x y v u Q I rx ry h;obtain⟨G,wx,wy,b,sg,hd,hx,hy,e,q⟩:=h;exact XE I sg 149 hd hu hx hy rx ry e _ _ _ _ ⟨.bl (!b),H,I,rfl,q⟩
theorem Qn:jF K (BG K) ne2:=by
 intro G H x y wx wy w Q s px py hf h;unfold ne2 at hf;split at hf
 .rename_i hd;obtain⟨b,hb,rfl⟩:=w0e.mp hf;exact⟨G,wx,wy,b,s,hd,px,py,hb,h G _ H (.refl s) rfl⟩
 .cases hf
end
noncomputable def oE:W->W->Option W
 |.aG,.aG=>some (.bl true)
 |_,.aG=>some (.bl false)
 |.bl a,.bl b=>some (.bl (a==b))
 |_,.bl _=>some (.bl false)
 |_,_=>none
noncomputable def ky:W->W->Option W
 |.aG,.aG=>some (.bl false)
 |_,.aG=>some (.bl true)
 |.bl a,.bl b=>some (.bl (!(a==b)))
 |_,.bl _=>some (.bl true)
 |_,_=>none
noncomputable def Ma:R2:=λx y H Q=>(y=.aG\/∃b,y=.bl b)/\Q (.bl (decide (x=y))) H
noncomputable def BH:R2:=λx y H Q=>(y=.aG\/∃b,y=.bl b)/\Q (.bl (!decide (x=y))) H
theorem Nm{x y:V}{v u:Value}(rx:RelV x v)(ry:RelV y u)(h:y=.aG\/∃b,y=.bl b):plainIs v u=true/\(v==u)=decide (x=y):=by
 rcases h with rfl|⟨b,rfl⟩
 .cases ry
  cases x<;>first
   |(cases rx;exact⟨rfl,by first|rfl|(rw[w2p];simp)⟩)
   |(obtain⟨t,rfl⟩:=rx;exact⟨rfl,by rw[w2p];simp⟩)
 .cases ry
  cases x<;>first
   |(cases rx;exact⟨rfl,by first|rfl|(rw[w2p];simp)⟩)
   |(obtain⟨t,rfl⟩:=rx;exact⟨rfl,by rw[w2p];simp⟩)
theorem Zs:gT X (compareOp .Is) Ma:=by
 intro pins s σ H x y v u Q I rx ry h;obtain⟨hy,q⟩:=h;obtain⟨C,h2⟩:=Nm rx ry hy;exact wpAny_is_plain C (PB I q h2.symm)
theorem XF:gT X (compareOp .IsNot) BH:=by
 intro pins s σ H x y v u Q I rx ry h;obtain⟨hy,q⟩:=h
 grind [Nm,wpAny_isNot_plain,PB]
theorem z7u{x y:V}{wx wy w:W}(px:Rep K G wx x)(py:Rep K G wy y)(h:oE wx wy=some w):(y=.aG\/∃b,y=.bl b)/\w=.bl (decide (x=y)):=by
 cases wy with
 |aG=>
  cases(show y=.aG from py);refine⟨.inl rfl,?_⟩;cases wx with
  |tup ws=>obtain⟨_,_,rfl,_⟩:=px;cases h;simp
  |lst ws=>obtain⟨_,_,rfl,_⟩:=px;cases h;simp
  |exc c=>obtain⟨_,rfl,_⟩:=px;cases h;simp
  |aY c=>obtain⟨_,rfl,_⟩:=px;cases h;simp
  |dw _ _ _ _=>obtain⟨_,_,_,rfl,_⟩:=px;cases h;simp
  |fn _ _ _=>obtain⟨_,_,_,_,rfl,_⟩:=px;cases h;simp
  |_=>cases px;cases h;simp
 |bl b=>
  cases(show y=.bl b from py);refine⟨.inr ⟨b,rfl⟩,?_⟩;cases wx with
  |tup ws=>obtain⟨_,_,rfl,_⟩:=px;cases h;simp
  |lst ws=>obtain⟨_,_,rfl,_⟩:=px;cases h;simp
  |exc c=>obtain⟨_,rfl,_⟩:=px;cases h;simp
  |aY c=>obtain⟨_,rfl,_⟩:=px;cases h;simp
  |dw _ _ _ _=>obtain⟨_,_,_,rfl,_⟩:=px;cases h;simp
  |fn _ _ _=>obtain⟨_,_,_,_,rfl,_⟩:=px;cases h;simp
  |bl k=>cases px;cases h;cases k<;>cases b<;>rfl
  |_=>cases px;cases h;simp
 |_=>cases wx<;>cases h
theorem Zu{x y:V}{wx wy w:W}(px:Rep K G wx x)(py:Rep K G wy y)(h:ky wx wy=some w):(y=.aG\/∃b,y=.bl b)/\w=.bl (!decide (x=y)):=by
 cases wy with
 |aG=>
  cases(show y=.aG from py);refine⟨.inl rfl,?_⟩;cases wx with
  |tup ws=>obtain⟨_,_,rfl,_⟩:=px;cases h;simp
  |lst ws=>obtain⟨_,_,rfl,_⟩:=px;cases h;simp
  |exc c=>obtain⟨_,rfl,_⟩:=px;cases h;simp
  |aY c=>obtain⟨_,rfl,_⟩:=px;cases h;simp
  |dw _ _ _ _=>obtain⟨_,_,_,rfl,_⟩:=px;cases h;simp
  |fn _ _ _=>obtain⟨_,_,_,_,rfl,_⟩:=px;cases h;simp
  |_=>cases px;cases h;simp
 |bl b=>
  cases(show y=.bl b from py);refine⟨.inr ⟨b,rfl⟩,?_⟩;cases wx with
  |tup ws=>obtain⟨_,_,rfl,_⟩:=px;cases h;simp
  |lst ws=>obtain⟨_,_,rfl,_⟩:=px;cases h;simp
  |exc c=>obtain⟨_,rfl,_⟩:=px;cases h;simp
  |aY c=>obtain⟨_,rfl,_⟩:=px;cases h;simp
  |dw _ _ _ _=>obtain⟨_,_,_,rfl,_⟩:=px;cases h;simp
  |fn _ _ _=>obtain⟨_,_,_,_,rfl,_⟩:=px;cases h;simp
  |bl k=>cases px;cases h;cases k<;>cases b<;>rfl
  |_=>cases px;cases h;simp
 |_=>cases wx<;>cases h
theorem z7v:jF K Ma oE:=by
 intro G H x y wx wy w Q s px py hf h;obtain⟨C,rfl⟩:=z7u px py hf;exact⟨C,h G _ H (.refl s) rfl⟩
theorem Zv:jF K BH ky:=by
 intro G H x y wx wy w Q s px py hf h;obtain⟨C,rfl⟩:=Zu px py hf;exact⟨C,h G _ H (.refl s) rfl⟩
section
variable{EE:L2.St->XK}{a b c e:Expr}{p:Pos}{x:Str}
theorem Zw(ha:DE Z X EE a da)(hb:DE Z X EE b db):DE Z X EE (.BinOp a .Sub b pos) (aq mi da db):=xw ZE ZZ ha hb
theorem Zx(ha:DE Z X EE a da)(hb:DE Z X EE b db):DE Z X EE (.BinOp a .Mult b pos) (aq jA da db):=xw ZF Z0 ha hb
theorem XG(ha:DE Z X EE a da)(hb:DE Z X EE b db):DE Z X EE (.BinOp a .FloorDiv b pos) (aq bH da db):=xw XS XD ha hb
theorem Zy(ha:DE Z X EE a da)(hb:DE Z X EE b db):DE Z X EE (.BinOp a .Mod b pos) (aq bC da db):=xw ZG Z1 ha hb
theorem JQ(ha:DE Z X EE a da):DE Z X EE (.UnaryOp .USub a pos) (mR iC da):=z7q ZH Z2 ha
theorem z7w(ha:DE Z X EE a da)(hb:DE Z X EE b db):DE Z X EE (.Compare a [.Lt] [b] pos) (aq n5 da db):=Bo Qx QC ha hb (dX _)
theorem z7x(ha:DE Z X EE a da)(hb:DE Z X EE b db):DE Z X EE (.Compare a [.LtE] [b] pos) (aq sj da db):=Bo Qy QD ha hb (dX _)
theorem Qo(hu:X.A.units+150<cLine)(ha:DE Z X EE a da)(hb:DE Z X EE b db):DE Z X EE (.Compare a [.Eq] [b] pos) (aq eq2 da db):=Bo (PV hu) QG ha hb (dX _)
theorem z7y(hu:X.A.units+150<cLine)(ha:DE Z X EE a da)(hb:DE Z X EE b db):DE Z X EE (.Compare a [.NotEq] [b] pos) (aq ne2 da db):=Bo (PX hu) Qn ha hb (dX _)
theorem z7z(ha:DE Z X EE a da)(hb:DE Z X EE b db):DE Z X EE (.Compare a [.Is] [b] pos) (aq oE da db):=Bo Zs z7v ha hb (dX _)
theorem z70(ha:DE Z X EE a da)(hb:DE Z X EE b db):DT Z X EE (.Compare a [.Lt] [b] pos) (aD (aq n5 da db)):=yO Qx QC ha hb (dX _)
theorem z71(ha:DE Z X EE a da)(hb:DE Z X EE b db):DT Z X EE (.Compare a [.LtE] [b] pos) (aD (aq sj da db)):=yO Qy QD ha hb (dX _)
theorem z72(ha:DE Z X EE a da)(hb:DE Z X EE b db):DT Z X EE (.Compare a [.Gt] [b] pos) (aD (aq zT da db)):=yO z7p z7t ha hb (dX _)
theorem z73(hu:X.A.units+150<cLine)(ha:DE Z X EE a da)(hb:DE Z X EE b db):DT Z X EE (.Compare a [.Eq] [b] pos) (aD (aq eq2 da db)):=yO (PV hu) QG ha hb (dX _)
theorem J'(hu:X.A.units+150<cLine)(ha:DE Z X EE a da)(hb:DE Z X EE b db):DT Z X EE (.Compare a [.NotEq] [b] pos) (aD (aq ne2 da db)):=yO (PX hu) Qn ha hb (dX _)
theorem Zz(ha:DE Z X EE a da)(hb:DE Z X EE b db):DT Z X EE (.Compare a [.IsNot] [b] pos) (aD (aq ky da db)):=yO XF Zv ha hb (dX _)
theorem my{k:Nat}(h:bJ k A):A.units+150<cLine:=by have:=h.un;omega
noncomputable def jx(xs:List W)(lo hi:Option Int):List W:=(xs.drop (HT.cx xs.length 0 lo)).take (HT.cx xs.length xs.length hi-HT.cx xs.length 0 lo)
theorem aw.cut{xs:List V}(r:aw K G ws xs)(lo hi:Option Int):aw K G (jx ws lo hi) (kS xs lo hi):=by
 unfold jx kS;rw[r.length];exact(r.drop _).take _
noncomputable def DO(Z:Zt)(X:Cx)(EE:L2.St->XK)(e:Option Expr)(d:Den (Option Int)):Prop:=PO X e (λσ H Q=>∃G e,Rel X.K Z G σ H e/\(d e).holds (λo e'=>∀G' H',Rel X.K Z G' σ H' e'->av G G'->Q o H') (XH X.K Z EE σ G))
noncomputable def dE:Den (Option Int):=λe=>.ok none e
noncomputable def g9(d:Den W):Den (Option Int):=λe=>(d e).bind λw e1=>match w with
 |.int i=>.ok (some i) e1
 |_=>.no
theorem PO.mono{e:Option Expr}{t t':TO}(h:PO X e t)(i:∀σ H Q,t' σ H Q->t σ H Q):PO X e t':=λpins s σ H Q I q=>h pins s σ H Q I (i σ H Q q)
theorem D3:DO Z X EE none dE:=PO.mono XW λσ H Q ⟨G,e,r,h⟩=>h G H r (.refl _)
theorem D4(h:DE Z X EE e da):DO Z X EE (some e) (g9 da):=by
 refine PO.mono (XX h) ?_;rintro σ H Q ⟨G,e,rel,h⟩;simp only[g9,R.ay]at h;refine⟨G,e,rel,h.imp (λx e1 h G1 v1 H1 r1 s1 p1=>?_) λ_ _ h=>h⟩
 cases x with
 |int i=>cases(show v1=V.int i from p1);exact⟨i,rfl,h G1 H1 r1 s1⟩
 |_=>exact h.elim
noncomputable def Me:W->Option Int->Option Int->Option W
 |.lst ws,lo,hi=>some (.lst (jx ws lo hi))
 |.tup ws,lo,hi=>if ¬(HT.cx ws.length 0 lo=0/\HT.cx ws.length ws.length hi=ws.length)then some (.tup (jx ws lo hi))else none
 |_,_,_=>none
noncomputable def ml:List W->Option W
 |[.lst ws]=>some (.tup ws)
 |[.tup ws]=>some (.tup ws)
 |_=>none
theorem ZA:pS K (λxs H Q=>∃p ys,xs=[.ref p]/\((cy K H p ys/\∀l,H l=none->Q (.ref l) (upd H l (.tup ys)))\/(eK K H p ys/\Q (.ref p) H))) ml:=by
 intro G H xs ws w Q s pr hf h;unfold ml at hf;split at hf
 .cases hf;obtain⟨x,r,rfl,px,pr⟩:=pr;cases(show r=[]from pr);obtain⟨a,ys,rfl,ha,ra⟩:=px;refine⟨a,ys,rfl,.inl ⟨s.seq ha,λl hl=>?_⟩⟩
  have g:=aQ.laid s hl (.tup ys);exact h _ _ _ g ⟨l,ys,rfl,eK.of bI,aw.mono g.gg _ ra⟩
 .cases hf;obtain⟨x,r,rfl,px,pr⟩:=pr;cases(show r=[]from pr);obtain⟨a,ys,rfl,ha,ra⟩:=px;exact⟨a,ys,rfl,.inr ⟨s.tup ha,h G _ H (.refl s) ⟨a,ys,rfl,ha,ra⟩⟩⟩
 .cases hf
theorem Nn(hm:X.mg "tuple"=none)(ha:DA Z X EE [e] dA)(hg:autoParam (Gl X "tuple") jJ)(he:autoParam (starEach [e] X.env=(false,eval e X.env)::starEach [] X.env) jJ)(dJ:autoParam ((backTo pos (starEach [] X.env)).any (·.1)=false) jJ):DE Z X EE (.Call (.Name "tuple" p) [e] [] pos) (cX ml dA):=
 Pn T7 ZA PyProof.Rows.Boot.«tuple» hm ha hg (by decide) (by decide) he dJ
theorem ZC(hm:X.mg "len"=none)(ha:DA Z X EE [e] dA)(hg:autoParam (Gl X "len") jJ)(he:autoParam (starEach [e] X.env=(false,eval e X.env)::starEach [] X.env) jJ)(dJ:autoParam ((backTo pos (starEach [] X.env)).any (·.1)=false) jJ):DE Z X EE (.Call (.Name "len" p) [e] [] pos) (cX bW dA):=
 yP Nu Pt PySem.boot_len hm ha hg (by decide) (by decide) he dJ
theorem XI(i:Nat)(hm:X.mg "len"=none)(hN:autoParam (X.N[i]?=some x) jJ)(kl:autoParam (j0 X.env.scope x) jN)(hd:autoParam ((x==("__debug__":Str))=false) jK)(dU:autoParam ((x==("__classdict__":Str))=false) jK)
  (hg:autoParam (Gl X "len") jJ)(hs:autoParam (starEach [.Name x p] X.env=(false,eval (.Name x p) X.env)::starEach [] X.env) jJ)(dJ:autoParam ((backTo pos (starEach [] X.env)).any (·.1)=false) jJ):DE Z X EE (.Call (.Name "len" pn) [.Name x p] [] pos) (fY i bW):=
 Z3 i Nu Pt PySem.boot_len hm hN kl hd dU hg (by decide) (by decide) hs dJ
noncomputable def qJ:List W->Option (List W)
 |[.lst ws]=>some ws
 |[.tup ws]=>some ws
 |_=>none
noncomputable def dList(dA:Den (List W)):Den (List W):=λe=>(dA e).bind λws e1=>a_ (qJ ws) e1
theorem XJ(hm:X.mg "list"=none)(ha:DA Z X EE [e] dA)(hg:autoParam (Gl X "list") jJ)(he:autoParam (starEach [e] X.env=(false,eval e X.env)::starEach [] X.env) jJ)(dJ:autoParam ((backTo pos (starEach [] X.env)).any (·.1)=false) jJ):DF Z X EE (.Call (.Name "list" p) [e] [] pos) (dList dA):=by
 refine PE.mono (MG Uc hg hm PyProof.Rows.Boot.«list» ha (by decide) (by decide) he dJ) ?_;rintro σ H Q ⟨G,e,rel,h⟩;simp only[dList,R.ay,aV]at h;refine⟨G,e,rel,h.imp (λws e1 h G1 vs H1 r1 s1 p1=>?_) λ_ _ h=>h⟩
 obtain⟨out,hf,h⟩:=h;unfold qJ at hf;split at hf
 .cases hf;obtain⟨y,r,rfl,py,pr⟩:=p1;cases(show r=[]from pr);obtain⟨a,ys,rfl,hq,rq⟩:=py;exact⟨a,ys,rfl,.inl (r1.sub.seq hq),Bc r1 s1 rq h⟩
 .cases hf;obtain⟨y,r,rfl,py,pr⟩:=p1;cases(show r=[]from pr);obtain⟨a,ys,rfl,hq,rq⟩:=py;exact⟨a,ys,rfl,.inr (r1.sub.tup hq),Bc r1 s1 rq h⟩
 .cases hf
noncomputable def rR:List S->SR:=λ_=>.no
theorem WH{st:Stmt}:DS Z X EE st rR:=λpins s σ H D I ⟨G,e,r,h⟩=>h.elim
end
section
variable{P:Program}{w:World}{mg:Str->Option Value}{base:Heap}
theorem PY(hF:∀ws,F ws=.no)(h:cj K F vs H Q E):False:=by
 grind [El]
theorem E8(A:uF K x x st f fd)(sc:aE N ps (ak st))(len:∀ws,F ws≠.no->ws.length=ps.length)
  (hb:∀ws,F ws≠.no->∀(bx:Value)(A:Around)(outer:List Env)(s:Shared)(H:Hp)(E:XK)(Z:Zt),bJ k (A.deeper (PyProof.Rows.envOfC x (ak st) s.heap.objs.size f bx)) ->
   ∃d,nq Z (fX (eM P w) P w K mg base N x (ak st) f bx A outer s H E) (λ_=>E) (bN st) d/\(d (init N.length ws)).fn=F ws):fN P w K mg base (eM P w) (k+1) f fd ps (cj K F):=by
 refine A.LA sc (λvs H Q E h=>?_) (λbx A outer s H vs Q E hr h=>?_)
 .grind [El,aw.length]
 .obtain⟨G,ws,sg,rp,h⟩:=h;have hn:F ws≠.no:=λz=>by rw[z]at h;exact h
  obtain⟨d,hd,he⟩:=hb ws hn bx A outer s H E ⟨H,G,[]⟩ hr;exact⟨_,hd,G,init N.length ws,Bd sg rp,D1 he h⟩
noncomputable def o4(K:Fg):Sp:=λvs H Q _=>∃(a:Addr)(ns:List Int),vs=[.ref a]/\cy K H a (ns.map V.int)/\ns.length<=63/\∀H',Q (.bl true) H'
theorem HX:∀(ns:List Int),aw K G (ns.map W.int) (ns.map V.int)
 |[]=>rfl
 |n::ns=>⟨_,_,rfl,rfl,HX ns⟩
theorem Wf(hF:∀ns:List Int,ns.length<=63->F [.lst (ns.map .int)]=.ok (.fr (.bl true)))(h:o4 K vs H Q E):cj K F vs H Q E:=by
 obtain⟨a,ns,rfl,hS,hl,q⟩:=h;refine⟨λb=>if b=a then H a else none,[.lst (ns.map .int)],λb o z=>?_,⟨.ref a,[],rfl,⟨a,ns.map V.int,rfl,?_,HX ns⟩,rfl⟩,?_⟩
 .grind
 .rcases hS with(h|⟨o,h⟩)|h
  .exact .inl (.inl (by simpa using h))
  .exact .inl (.inr ⟨o,by simpa using h⟩)
  .exact .inr h
 .rw[hF ns hl];intro G' H' v g sl;obtain⟨u,C,h2⟩:=sl;cases C;cases(show v=V.bl true from h2);exact q H'
theorem ZD{e:Value}(z:eM P w [] H s (λ_ _ _=>False) e s'):False:=by
 obtain⟨_,_,_,_,_,_,_,_,_,_,h⟩:=z;exact h
theorem cO{x:Str}{st:Stmt}{ps:List Str}{F:List W->FR}(A:At K mg x st ps)(hF:∀ws,F ws=.no:=by intro _;rfl):bZ P w K mg base 0 x ps (cj K F):=by
 obtain⟨f,fd,F0,m,b⟩:=A.ex;exact⟨f,fd,⟨λvs H Q E h=>(PY hF h).elim,λA outer s H args us vs Q E _ _ _ _ h=>(PY hF h).elim⟩,m,F0.kp,b⟩
end
section
variable{EE:L2.St->XK}{e:Expr}{d:Den Str}{n:Nat}
noncomputable def QN(Z:Zt)(X:Cx)(EE:L2.St->XK)(n:Nat)(es:List Expr)(d:Den Str):Prop:=PF X es (λacc σ H Q=>acc.length+n*1000001<=16777216/\∃G e,Rel X.K Z G σ H e/\(d e).holds (λy e'=>∀G' H',Rel X.K Z G' σ H' e'->av G G'->Q (acc++y) H') (XH X.K Z EE σ G))
end
section
variable{β:Type}{c:Prop} [Decidable c]{a:α}{e':List S}{k:α->List S->R β}{ks:α->List S->SR}{x y:R α}{s t:SR}{w:W}{v:Value}{st:S}
theorem y86:(R.ok a e).bind k=k a e:=rfl
theorem y87:(R.ex v e:R α).bind k=.ex v e:=rfl
theorem y88:(R.no:R α).bind k=.no:=rfl
theorem y41:(if c then x else y).bind k=if c then x.bind k else y.bind k:=by split<;>rfl
theorem z4a:(R.ok a e).cQ ks=ks a e:=rfl
theorem z4b:(R.ex v e:R α).cQ ks=.ex v e:=rfl
theorem z4c:(R.no:R α).cQ ks=.no:=rfl
theorem y89:(if c then x else y).cQ ks=if c then x.cQ ks else y.cQ ks:=by split<;>rfl
noncomputable def SR.seq:SR->(List S->SR)->SR
 |.nx e,b=>b e
 |r,_=>r
theorem Jy{p q:List S->SR}:au p q e=(p e).seq q:=by
 grind [au,SR.seq]
theorem DX{q:List S->SR}:(SR.nx e).seq q=q e:=rfl
theorem z4d{q:List S->SR}:(SR.rt st e).seq q=.rt st e:=rfl
theorem z4e{q:List S->SR}:(SR.ex v e).seq q=.ex v e:=rfl
theorem z4f{q:List S->SR}:(SR.bk e).seq q=.bk e:=rfl
theorem z4g{q:List S->SR}:(SR.ct e).seq q=.ct e:=rfl
theorem z4h{q:List S->SR}:(SR.no).seq q=.no:=rfl
theorem y9a{q:List S->SR}:(if c then s else t).seq q=if c then s.seq q else t.seq q:=by split<;>rfl
theorem z74:(SR.nx e).fn=.ok (.fr .aG):=rfl
theorem z75:(SR.rt st e).fn=.ok st:=rfl
theorem z76:(SR.ex v e).fn=.ex v:=rfl
theorem z77:(SR.no).fn=.no:=rfl
theorem z4i:(if c then s else t).fn=if c then s.fn else t.fn:=by split<;>rfl
theorem x89:a_ (some a) e=.ok a e:=rfl
theorem x9a:a_ (none:Option α) e=.no:=rfl
theorem y1f{o p:Option α}:a_ (if c then o else p) e=if c then a_ o e else a_ p e:=by split<;>rfl
noncomputable def uz(i:Nat)(e:List S):Option S->R W
 |some (.fr w)=>.ok w e
 |some (.own none ws)=>.ok (.lst ws) (e.set i (.fr (.lst ws)))
 |_=>.no
theorem z4j:ae i e=uz i e e[i]?:=by
 grind [ae,uz]
theorem z4k:uz i e (some (.fr w))=.ok w e:=rfl
theorem y9b:uz i e (some (.own none ws))=.ok (.lst ws) (e.set i (.fr (.lst ws))):=rfl
theorem Q4:dC w e=.ok w e:=rfl
theorem z78{f:W->W->Option W}:aq f da db e=(da e).bind λx e1=>(db e1).bind λy e2=>a_ (f x y) e2:=rfl
theorem z79{f:W->Option W}:mR f da e=(da e).bind λx e1=>a_ (f x) e1:=rfl
noncomputable def vP(e:List S):W->R Bool
 |.bl k=>.ok k e
 |_=>.no
theorem y9c:aD da e=(da e).bind λx e1=>vP e1 x:=rfl
theorem y9d{b:Bool}:vP e (.bl b)=.ok b e:=rfl
theorem z4l:kU da e=(da e).bind λx e1=>a_ (mj x) e1:=rfl
theorem z4m{p q:Den Bool}:iM p q e=(p e).bind λx e1=>if x=true then q e1 else .ok false e1:=rfl
theorem z8a{p q:Den Bool}:wk p q e=(p e).bind λx e1=>if x=true then .ok true e1 else q e1:=rfl
theorem z4n{p:Den Bool}:lT p e=(p e).bind λx e1=>.ok (!x) e1:=rfl
noncomputable def zz(q:Den W)(e:List S):W->R W
 |.bl true=>q e
 |.bl false=>.ok (.bl false) e
 |_=>.no
theorem y9e{p q:Den W}:c_ p q e=(p e).bind λx e1=>zz q e1 x:=rfl
theorem z4o{q:Den W}{b:Bool}:zz q e (.bl b)=if b=true then q e else .ok (.bl false) e:=by cases b<;>rfl
noncomputable def AO(e:List S):W->R W
 |.bl k=>.ok (.bl (!k)) e
 |_=>.no
theorem y9f{p:Den W}:j8 p e=(p e).bind λx e1=>AO e1 x:=rfl
theorem z4p{b:Bool}:AO e (.bl b)=.ok (.bl (!b)) e:=rfl
theorem z8b{p:Den Bool}{q q':Den W}:zJ p q q' e=(p e).bind λx e1=>if x=true then q e1 else q' e1:=rfl
theorem z4q:ah e=.ok [] e:=rfl
theorem y9g{p:Den W}{q:Den (List W)}:ab p q e=(p e).bind λx e1=>(q e1).bind λxs e2=>.ok (x::xs) e2:=rfl
theorem z4r{p:Den (List W)}:bP p e=(p e).bind λxs e1=>if xs.length<=16777216 then .ok (.tup xs) e1 else .no:=rfl
theorem z4s{p:Den (List W)}:cC p e=(p e).bind λxs e1=>if xs.length<=16777216 then .ok xs e1 else .no:=rfl
theorem Xn{p:Den (List W)}:g8 p e=(p e).bind λxs e1=>.ok (.lst xs) e1:=rfl
theorem z8c{f:List W->Option W}{p:Den (List W)}:cX f p e=(p e).bind λxs e1=>a_ (f xs) e1:=rfl
theorem y9h{p:Den (List W)}:dList p e=(p e).bind λxs e1=>a_ (qJ xs) e1:=rfl
theorem z8d:dG e=.nx e:=rfl
theorem z8e:rR e=.no:=rfl
theorem y9i:fy d e=(d e).cQ λ_ e'=>.nx e':=rfl
theorem z4t:a9 d e=(d e).cQ λw e'=>.rt (.fr w) e':=rfl
theorem y9j{d:Den (List W)}:lB d e=(d e).cQ λw e'=>.rt (.own none w) e':=rfl
noncomputable def retS(e:List S):Option S->SR
 |some (.own none ws)=>.rt (.own none ws) e
 |some (.fr w)=>.rt (.fr w) e
 |_=>.no
theorem y9k:iN i e=retS e e[i]?:=by
 grind [iN,retS]
theorem y9l:retS e (some (.own none ws))=.rt (.own none ws) e:=rfl
theorem z4u:retS e (some (.fr w))=.rt (.fr w) e:=rfl
theorem z4v{p:Den Bool}{q q':List S->SR}:bt p q q' e=(p e).cQ λx e1=>if x=true then q e1 else q' e1:=rfl
theorem z4w:aJ i d e=(d e).cQ λw e'=>.nx (e'.set i (.fr w)):=rfl
theorem y9m{d:Den (List W)}:bV i d e=(d e).cQ λw e'=>.nx (e'.set i (.own none w)):=rfl
noncomputable def iJ(e:List S):FR->R W
 |.ok (.fr w)=>.ok w e
 |.ok (.own none ws)=>.ok (.lst ws) e
 |.ok (.aY kvs)=>.ok (.aY kvs) e
 |.ex c=>.ex c e
 |_=>.no
theorem y42{kvs:Dd}:iJ e (.ok (.aY kvs))=.ok (.aY kvs) e:=rfl
theorem y9n{F:List W->FR}{d:Den (List W)}:ax F d e=(d e).bind λws e1=>iJ e1 (F ws):=by
 unfold ax;congr 1
theorem y9o:iJ e (.ok (.fr w))=.ok w e:=rfl
theorem y43:iJ e (.ok (.own none ws))=.ok (.lst ws) e:=rfl
theorem y9p:iJ e (.ex v)=.ex v e:=rfl
theorem y9q:iJ e .no=.no:=rfl
theorem y44{f g:FR}:iJ e (if c then f else g)=if c then iJ e f else iJ e g:=by split<;>rfl
noncomputable def mJ(e:List S):FR->R (List W)
 |.ok (.own none ws)=>.ok ws e
 |.ex c=>.ex c e
 |_=>.no
theorem y1g:mJ e (.ok (.own none ws))=.ok ws e:=rfl
theorem y45:mJ e (.ex v)=.ex v e:=rfl
theorem y1h{f g:FR}:mJ e (if c then f else g)=if c then mJ e f else mJ e g:=by split<;>rfl
noncomputable def wo(i:Nat)(b:List S->SR)(e:List S):Option (List W)->SR
 |some ws=>dH i b ws e
 |none=>.no
theorem z4x{b:List S->SR}:j7 i d b e=(d e).cQ λw e1=>wo i b e1 (gQ w):=by
 unfold j7;congr 1
theorem y9r{g:List W->Option (List W)}{d:Den (List W)}{b:List S->SR}:gZ i g d b e=(d e).cQ λw e1=>wo i b e1 (g w):=by
 unfold gZ;congr 1
theorem y1i{b:List S->SR}:wo i b e (some ws)=dH i b ws e:=rfl
noncomputable def SR.turn:SR->(List S->SR)->SR
 |.nx e,k=>k e
 |.ct e,k=>k e
 |.bk e,_=>.nx e
 |.rt s e,_=>.rt s e
 |.ex c e,_=>.ex c e
 |.no,_=>.no
theorem Jf{b:List S->SR}:dH i b (w::ws) e=(b (e.set i (.fr w))).turn (dH i b ws):=by
 show(match b (e.set i (.fr w))with|.nx e'=>dH i b ws e'|.ct e'=>dH i b ws e'|.bk e'=>.nx e'|.rt s e'=>.rt s e'|.ex c e'=>.ex c e'|.no=>.no)=_;cases b (e.set i (.fr w))<;>rfl
theorem Il{q:List S->SR}:(SR.nx e).turn q=q e:=rfl
theorem y9s{q:List S->SR}:(SR.ct e).turn q=q e:=rfl
theorem y9t{q:List S->SR}:(SR.bk e).turn q=.nx e:=rfl
theorem y9u{q:List S->SR}:(SR.rt st e).turn q=.rt st e:=rfl
theorem y9v{q:List S->SR}:(SR.ex v e).turn q=.ex v e:=rfl
theorem y9w{q:List S->SR}:(SR.no).turn q=.no:=rfl
theorem y46{q:List S->SR}:(if c then s else t).turn q=if c then s.turn q else t.turn q:=by split<;>rfl
theorem yL{p:Den Bool}{b:List S->SR}{n:Nat}:bc p b (n+1) e=(p e).cQ λx e1=>if x=true then(b e1).turn (bc p b n)else .nx e1:=by
 show(p e).cQ _=_;congr 1;funext x e1
 split
 .cases b e1<;>rfl
 .rfl
noncomputable def lG(k:W->R W):Option W->R W
 |none=>.no
 |some w=>k w
theorem z4y:iw i d e=lG (λ_=>(d e).bind λk e1=>lG (λw=>a_ (aM w k) e1) (e1[i]?.bind S.look)) (e[i]?.bind S.look):=by
 grind [iw,lG]
theorem y1j{k:W->R W}:lG k (some w)=k w:=rfl
theorem z8f:S.look (.fr w)=some w:=rfl
theorem z4z{b:Option Nat}:S.look (.own b ws)=some (.lst ws):=rfl
noncomputable def qy(e:List S)(y:Option W):Option S->R W
 |some (.fr _)=>a_ y e
 |_=>match y with
  |none=>.no
  |some v=>if gk v=true then .ok v e else .no
theorem z40{f:List W->Option W}:fY i f e=lG (λw=>qy e (f [w]) e[i]?) (e[i]?.bind S.look):=by
 unfold fY lG;cases q:e[i]? with
 |none=>rfl
 |some s=>
  cases s with
  |no=>rfl
  |aY _=>rfl
  |nest _=>rfl
  |dw _ _ _=>rfl
  |fr w=>
   show(match f [w]with|none=>R.no|some v=>R.ok v e)=qy e (f [w]) (some (.fr w));generalize f [w]=y;cases y<;>rfl
  |own b ws=>
   grind [qy]
theorem z41{y:Option W}:qy e y (some (.fr w))=a_ y e:=rfl
theorem y9x{b:Option Nat}{v:W}:qy e (some v) (some (.own b ws))=if gk v=true then .ok v e else .no:=rfl
noncomputable def zC(i:Nat)(e:List S):List W->Option S->SR
 |[w],some (.own b xs)=>if xs.length<16777216 then .nx (e.set i (.own b (xs++[w])))else .no
 |_,_=>.no
noncomputable def w6(k:SR):Option S->SR
 |some (.own _ _)=>k
 |_=>.no
theorem z42{d:Den (List W)}:dQ i d e=w6 ((d e).cQ λws e1=>zC i e1 ws e1[i]?) e[i]?:=by
 unfold dQ w6;cases e[i]? with
 |none=>rfl
 |some s=>cases s with
  |own b xs=>
   dsimp only;try congr 1
  |_=>rfl
theorem z8g{k:SR}{b:Option Nat}:w6 k (some (.own b ws))=k:=rfl
theorem z8h{b:Option Nat}{xs:List W}:zC i e [w] (some (.own b xs))=if xs.length<16777216 then .nx (e.set i (.own b (xs++[w])))else .no:=rfl
theorem y1k:dE e=.ok none e:=rfl
noncomputable def vi(e:List S):W->R (Option Int)
 |.int i=>.ok (some i) e
 |_=>.no
theorem y9y:g9 d e=(d e).bind λw e1=>vi e1 w:=rfl
theorem y47{i:Int}:vi e (.int i)=.ok (some i) e:=rfl
noncomputable def mK(e:List S):Option (List W)->R (List W)
 |some out=>.ok out e
 |none=>.no
theorem y9z:lj js cc d ws e=if ws.length<=16777216 then mK (a8 js e) (ei cc d (gb js (a8 js e)) ws)else .no:=by
 grind [lj,mK]
noncomputable def uK(js:List Nat)(cc:Den Bool)(d:Den W)(e:List S):Option (List W)->R (List W)
 |some ws=>lj js cc d ws e
 |none=>.no
theorem y90{di:Den W}:dz js di cc d e=(di e).bind λw e1=>uK js cc d e1 (gQ w):=by
 unfold dz;congr 1
theorem x9b:uK js cc d e (some ws)=lj js cc d ws e:=rfl
theorem x9c{out:List W}:mK e (some out)=.ok out e:=rfl
theorem z43:cP e=.ok true e:=rfl
theorem Ya{j:Nat}(h:e[j]?=some (.fr w)):gK e j=e:=by unfold gK;rw[h]
theorem y48:a8 [] e=e:=rfl
theorem y1l{j:Nat}:a8 (j::js) e=a8 js (gK e j):=rfl
theorem y92:gb [] e=[]:=rfl
theorem y49{j:Nat}:gb (j::js) e=nB e j::gb js e:=rfl
theorem Z4{j:Nat}(h:e[j]?=some (.fr w)):nB e j=.fr w:=by unfold nB;rw[h]
theorem Vp{pe:List S}:ei cc d pe (w::ws)=(match cc (.fr w::pe)with
  |.ok true e1=>(match d e1 with|.ok y _=>(ei cc d pe ws).map (y::·)|_=>none)
  |.ok false _=>ei cc d pe ws
  |_=>none):=rfl
end
section
variable{i j:Int}{x y:Str}{b c:Bool}{us:List W}{w:W}
theorem z45:addW (.int i) (.int j)=some (.int (i+j)):=rfl
theorem z46:addW (.str x) (.str y)=if x.length+y.length<=16777216 then some (.str (x++y))else none:=rfl
theorem z47:addW (.lst ws) (.lst us)=if ws.length+us.length<=16777216 then some (.lst (ws++us))else none:=rfl
theorem z48:mi (.int i) (.int j)=some (.int (i-j)):=rfl
theorem z49:jA (.int i) (.int j)=if(-18446744073709551616<i/\i<18446744073709551616)\/(-18446744073709551616<j/\j<18446744073709551616)then some (.int (i*j))else none:=rfl
theorem y93:bH (.int i) (.int j)=if 0<j/\j<1073741824 then some (.int (i / j))else none:=rfl
theorem z5a:bC (.int i) (.int j)=if 0<j then some (.int (i%j))else none:=rfl
theorem z8i:n5 (.int i) (.int j)=some (.bl (decide (i<j))):=rfl
theorem z8j:sj (.int i) (.int j)=some (.bl (decide (i<=j))):=rfl
theorem z8k:zT (.int i) (.int j)=some (.bl (decide (j<i))):=rfl
theorem z8l:iC (.int i)=some (.int (-i)):=rfl
theorem z8m:eq2 (.int i) (.int j)=some (.bl (decide (i=j))):=by
 show some (W.bl (i==j))=_;congr 2
theorem z8n:eq2 (.str x) (.str y)=some (.bl (decide (x=y))):=by
 show some (W.bl (x==y))=_;congr 2
theorem z8o:eq2 (.bl b) (.bl c)=some (.bl (decide (b=c))):=by
 show some (W.bl (b==c))=_;congr 2
theorem z8p:ne2 (.int i) (.int j)=some (.bl (!decide (i=j))):=by
 show some (W.bl (!(i==j)))=_;congr 2
theorem z8q:ne2 (.str x) (.str y)=some (.bl (!decide (x=y))):=by
 show some (W.bl (!(x==y)))=_;congr 2
theorem z8r:ne2 (.bl b) (.bl c)=some (.bl (!decide (b=c))):=by
 show some (W.bl (!(b==c)))=_;congr 2
theorem z8s:oE (.bl b) (.bl c)=some (.bl (decide (b=c))):=by
 show some (W.bl (b==c))=_;congr 2
theorem z8t:oE .aG .aG=some (.bl true):=rfl
theorem z8u:oE (.bl b) .aG=some (.bl false):=rfl
theorem z8v:oE (.int i) .aG=some (.bl false):=rfl
theorem z8w:oE (.str x) .aG=some (.bl false):=rfl
theorem z8x:oE (.tup ws) .aG=some (.bl false):=rfl
theorem z8y:oE (.lst ws) .aG=some (.bl false):=rfl
theorem z5b:ky (.bl b) (.bl c)=some (.bl (!decide (b=c))):=by
 show some (W.bl (!(b==c)))=_;congr 2
theorem z5c:ky .aG .aG=some (.bl false):=rfl
theorem z5d:ky (.bl b) .aG=some (.bl true):=rfl
theorem z5e:ky (.int i) .aG=some (.bl true):=rfl
theorem z5f:ky (.str x) .aG=some (.bl true):=rfl
theorem z5g:ky (.tup ws) .aG=some (.bl true):=rfl
theorem z5h:ky (.lst ws) .aG=some (.bl true):=rfl
theorem Sz:aM (.tup ws) (.int i)=cq ws i:=rfl
theorem Sy:aM (.lst ws) (.int i)=cq ws i:=rfl
theorem z8z:bW [.tup ws]=some (.int ws.length):=rfl
theorem z80:bW [.lst ws]=some (.int ws.length):=rfl
theorem z81:ml [.lst ws]=some (.tup ws):=rfl
theorem z82:ml [.tup ws]=some (.tup ws):=rfl
theorem z83:qJ [.lst ws]=some ws:=rfl
theorem z84:qJ [.tup ws]=some ws:=rfl
theorem z85:mj (.bl b)=some b:=rfl
theorem z86:mj (.int i)=some (i != 0):=rfl
theorem z87:mj .aG=some false:=rfl
theorem z88:mj (.tup ws)=some (!ws.isEmpty):=rfl
theorem z89:mj (.lst ws)=some (!ws.isEmpty):=rfl
theorem z9a:gQ (.tup ws)=some ws:=rfl
theorem z9b:gQ (.lst ws)=some ws:=rfl
theorem S6:gk (.int i)=true:=rfl
theorem S5:gk (.bl b)=true:=rfl
theorem S8:gk (.str x)=true:=rfl
theorem S7:gk .aG=true:=rfl
theorem Tb{lo hi:Option Int}:Me (.lst ws) lo hi=some (.lst (jx ws lo hi)):=rfl
theorem at0{xs:List α}:cq xs 0=xs[0]?:=by
 cases xs with
 |nil=>rfl
 |cons a l=>exact p_ (j:=0) rfl
theorem at1{xs:List α}:cq xs 1=xs[1]?:=by
 cases xs with
 |nil=>rfl
 |cons a l=>
  cases l with
  |nil=>rfl
  |cons b l=>exact p_ (j:=1) rfl
theorem at2{xs:List α}:cq xs 2=xs[2]?:=by
 cases xs with
 |nil=>rfl
 |cons a l=>
  cases l with
  |nil=>rfl
  |cons b l=>
   cases l with
   |nil=>rfl
   |cons c l=>exact p_ (j:=2) rfl
theorem Z8{xs:List α}{k:Int}(h0:0<=k):cq xs k=xs[k.toNat]?:=by
 unfold cq jn
 grind
theorem T'{a b:String}(h:Str.ofString a=Str.ofString b):a=b:=by
 rw[Str.ofString_eq_toList,Str.ofString_eq_toList]at h;have C:(a.toList.map Char.toNat).toArray=(b.toList.map Char.toNat).toArray:=congrArg Str.cps h;have h2:a.toList.map Char.toNat=b.toList.map Char.toNat:=by simpa using congrArg Array.toList C
 have h3:a.toList=b.toList:=by
  have inj:∀c d:Char,c.toNat=d.toNat->c=d:=λc d e=>by
   apply Char.ext;exact UInt32.toNat_inj.mp e
  exact(w3t inj).mp h2
 exact String.toList_inj.mp h3
theorem z5j{a b:String}:(Str.ofString a=Str.ofString b)=(a=b):=propext ⟨T',λh=>by rw[h]⟩
end
noncomputable def uw:W->Option W
 |.lst ws=>some (.tup ws.reverse)
 |_=>none
noncomputable def ip:List W->Option (List Bool)
 |[]=>some []
 |.bl b::ws=>(ip ws).map (b::·)
 |_=>none
noncomputable def all1:List W->Option W
 |[.lst ws]=>(ip ws).map λbs=>.bl (bs.all id)
 |_=>none
noncomputable def max2:List W->Option W
 |[.int i,.int j]=>some (.int (if j>i then j else i))
 |_=>none
noncomputable def min2:List W->Option W
 |[.int i,.int j]=>some (.int (if j<i then j else i))
 |_=>none
noncomputable def pF:List W->Option W
 |[.int i]=>some (.int i)
 |[.bl b]=>some (.int (if b then 1 else 0))
 |_=>none
theorem Mt:∀{ws:List W}{bs:List Bool},ip ws=some bs->ws=bs.map .bl
 |[],bs,h=>by cases h;rfl
 |.bl b::ws,bs,h=>by
  obtain⟨cs,C,rfl⟩:=w0e.mp (show(ip ws).map (b::·)=some bs from h);rw[Mt C];rfl
 |.aG::ws,bs,h=>by cases h
 |.int _::ws,bs,h=>by cases h
 |.str _::ws,bs,h=>by cases h
 |.tup _::ws,bs,h=>by cases h
 |.lst _::ws,bs,h=>by cases h
 |.exc _::ws,bs,h=>by cases h
theorem Mu:∀{bs:List Bool}{xs:List V},aw K G (bs.map W.bl) xs->xs=bs.map V.bl
 |[],xs,h=>h
 |b::bs,xs,h=>by
  obtain⟨x,r,rfl,C,h2⟩:=h;rw[Mu h2,show x=V.bl b from C];rfl
theorem Z9:pS K (λxs H Q=>∃p ys,xs=[.ref p]/\cy K H p ys/\(∀y∈ys,∃b,y=.bl b)/\Q (.bl (ys.all λy=>decide (y=.bl true))) H) all1:=by
 intro G H xs ws w Q s pr hf h;unfold all1 at hf;split at hf
 .obtain⟨bs,hb,rfl⟩:=w0e.mp hf;have:=Mt hb;subst this;obtain⟨x,r,rfl,px,pr⟩:=pr;cases(show r=[]from pr);obtain⟨a,ys,rfl,ha,ra⟩:=px;have:=Mu ra;subst this;refine⟨a,_,rfl,s.seq ha,λy hy=>?_,h G _ H (.refl s) ?_⟩
  .grind
  .show V.bl _=V.bl _
   grind [List.all_map]
 .cases hf
theorem Z_:pS K (λxs H Q=>∃i j,xs=[.int i,.int j]/\Q (.int (if j<i then j else i)) H) min2:=by
 intro G H xs ws w Q s pr hf h;unfold min2 at hf;split at hf
 .cases hf;obtain⟨x,r,rfl,px,y,r2,rfl,py,pr⟩:=pr;cases(show r2=[]from pr);cases px;cases py;exact⟨_,_,rfl,h G _ H (.refl s) rfl⟩
 .cases hf
theorem z5m:pS K (λxs H Q=>(∃i,xs=[.int i]/\Q (.int i) H)\/∃k,xs=[.bl k]/\Q (.int (if k then 1 else 0)) H) pF:=by
 intro G H xs ws w Q s pr hf h;unfold pF at hf;split at hf
 .cases hf;obtain⟨x,r,rfl,px,pr⟩:=pr;cases(show r=[]from pr);cases px;exact .inl ⟨_,rfl,h G _ H (.refl s) rfl⟩
 .cases hf;obtain⟨x,r,rfl,px,pr⟩:=pr;cases(show r=[]from pr);cases px;exact .inr ⟨_,rfl,h G _ H (.refl s) rfl⟩
 .cases hf
section
variable{EE:L2.St->XK}{a b c e:Expr}{p p1 p2 qT dI:Pos}{x:Str}
theorem z5n(J:X.calm=true)(hm:X.mg "all"=none)(ha:DA Z X EE [e] dA)(hg:autoParam (Gl X "all") jJ)(he:autoParam (starEach [e] X.env=(false,eval e X.env)::starEach [] X.env) jJ)(dJ:autoParam ((backTo pos (starEach [] X.env)).any (·.1)=false) jJ):DE Z X EE (.Call (.Name "all" p) [e] [] pos) (cX all1 dA):=
 yP (Ww J) Z9 PyProof.Rows.Boot.«all» hm ha hg (by decide) (by decide) he dJ
theorem Yb(J:X.calm=true)(hm:X.mg "min"=none)(ha:DA Z X EE [a,b] dA)(hg:autoParam (Gl X "min") jJ)(he:autoParam (starEach [a,b] X.env=(false,eval a X.env)::starEach [b] X.env) jJ)(dJ:autoParam ((backTo pos (starEach [b] X.env)).any (·.1)=false) jJ):DE Z X EE (.Call (.Name "min" p) [a,b] [] pos) (cX min2 dA):=
 yP (Vg J) Z_ PyProof.Rows.Boot.«min» hm ha hg (by decide) (by decide) he dJ
theorem Yc(hm:X.mg "int"=none)(ha:DA Z X EE [e] dA)(hg:autoParam (Gl X "int") jJ)(he:autoParam (starEach [e] X.env=(false,eval e X.env)::starEach [] X.env) jJ)(dJ:autoParam ((backTo pos (starEach [] X.env)).any (·.1)=false) jJ):DE Z X EE (.Call (.Name "int" p) [e] [] pos) (cX pF dA):=
 Pn Vh z5m PyProof.Rows.Boot.«int» hm ha hg (by decide) (by decide) he dJ
end
theorem y5a:uw (.lst ws)=some (.tup ws.reverse):=rfl
theorem z5o{i:Int}:max2 [.int i,.int j]=some (.int (if j>i then j else i)):=rfl
theorem z5p{i:Int}:min2 [.int i,.int j]=some (.int (if j<i then j else i)):=rfl
theorem z9c{i:Int}:pF [.int i]=some (.int i):=rfl
theorem z9d:pF [.bl b]=some (.int (if b then 1 else 0)):=rfl
theorem KA:((0:Nat):Int)=0:=rfl
theorem KC:((1:Nat):Int)=1:=rfl
theorem Bt{b:List S->SR}(I:Nat->List S->Prop):∀(ws:List W)(k:Nat)(e:List S),I k e->(∀(j:Nat)(w:W)(e:List S),ws[j]?=some w->I (k+j) e->∃e',b (e.set i (.fr w))=.nx e'/\I (k+j+1) e')->∃e',dH i b ws e=.nx e'/\I (k+ws.length) e'
 |[],k,e,h0,_=>⟨e,rfl,h0⟩
 |w::ws,k,e,h0,h=>by
  obtain⟨e1,C,h2⟩:=h 0 w e rfl h0
  obtain⟨e2,h3,h4⟩:=Bt I ws (k+1) e1 h2 λj u e hu hI=>by
   have z:=h (j+1) u e (by simpa using hu) (by grind);rw[show k+(j+1)+1=k+1+j+1 by omega]at z;exact z
  grind [Jf,Il]
theorem Vq:(dY lo hi).length=(hi-lo).toNat:=by simp[dY]
theorem Vr(h:(dY lo hi)[j]?=some w):w=.int (lo+j)/\j<(hi-lo).toNat:=by
 grind [dY]
theorem A_(n)(hn:(hi-lo).toNat=n)(I:Nat->List S->Prop)(e)(h0:I 0 e)(h:∀(j:Nat)(e:List S),j<n->I j e->∃e',b (e.set i (.fr (.int (lo+j))))=.nx e'/\I (j+1) e'):∃e',dH i b (dY lo hi) e=.nx e'/\I n e':=by
 obtain⟨e',C,h2⟩:=Bt (b:=b) (i:=i) I (dY lo hi) 0 e h0 λj w e hw hI=>by
  obtain⟨rfl,hj⟩:=Vr hw
  grind
 rw[Vq,hn,w1w]at h2;exact⟨e',C,h2⟩
noncomputable def nO(i:Nat)(dv dk:Den W):List S->SR:=λe=>(dv e).cQ λw e1=>match e1[i]? with
 |some (.own _ _)=>(dk e1).cQ λk e2=>match k,e2[i]? with
  |.int k,some (.own b ws)=>match jn ws.length k with
   |some j=>.nx (e2.set i (.own b (ws.set j w)))
   |none=>.no
  |_,_=>.no
 |_=>.no
section
variable{EE:L2.St->XK}{e k:Expr}{dk:Den W}{p dt:Pos}{x:Str}
theorem PZ(i:Nat)(he:DE Z X EE e d)(hk:DE Z X EE k dk)(hN:autoParam (X.N[i]?=some x) jJ)(hv:autoParam (j0 X.env.scope x) jN)(hd:autoParam ((x==("__debug__":Str))=false) jK)(dU:autoParam ((x==("__classdict__":Str))=false) jK)
  (ha:∀v,assign (.Subscript (.Name x p) k dt) X.env v=(do
   let ov <- holding [v] (eval (.Name x p) X.env)
   let iv <- holding [v,ov] (eval k X.env)
   standAt dt
   holding [v,ov,iv] (setItem ov iv v)
   release [v,ov,iv] []):=by intro _;rfl)
  (hs:autoParam (swapsWithSole [.Subscript (.Name x p) k dt] e pos.line X.env=pure false) jJ)(hw:autoParam (swappedStores [.Subscript (.Name x p) k dt] e X.env=pure none) jJ)
  (C:autoParam ((assignEach [.Subscript (.Name x p) k dt] X.env).map (·.2)=[assign (.Subscript (.Name x p) k dt) X.env]) jJ):
  DS Z X EE (.Assign [.Subscript (.Name x p) k dt] e pos) (nO i d dk):=by
 refine PS.mono (JU he (Pz (pv i hN hv hd dU) hk Nx ha) hs hw C) ?_;rintro D σ H ⟨G,e,rel,h⟩;refine⟨G,e,rel,(jC h).imp (λw e1 h G1 v1 H1 r1 s1 p1=>?_) λ_ _ h=>h⟩
 split at h
 .rename_i b0 IV pE;obtain⟨a,xs,q1,q2,q3,q4,q5⟩:=r1.own pE;refine⟨.ref a,q1,G1,e1,r1,(jC (σ:=σ) h).imp (λkw e2 h G2 v2 H2 r2 s2 p2=>?_) λ_ _ h G' H' r s=>h G' H' r (s1.trans s)⟩
  .split at h
   .rename_i kk b ws nv;obtain⟨a',zs,g1,g2,g3,g4,g5⟩:=r2.own nv;rw[q1]at g1;cases g1;cases p2;split at h
    .rename_i j hj;refine⟨a,zs,_,j,rfl,rfl,g2,by rw[g5.length];exact hj,?_⟩;exact h G2 σ _ (r2.mut nv q1 (g5.set j (Rep.mono s2 w p1))) (s1.trans s2)
    .exact h.elim
   .exact h.elim
 .exact h.elim
end
noncomputable def Ko(K:Fg)(r:V->List V->Hp->VK->Prop)(f:W->List W->Option W):Prop:=∀(G H:Hp)(x:V)(xs:List V)(wx:W)(ws:List W)(w:W)(Q:VK),av G H->Rep K G wx x->aw K G ws xs->f wx ws=some w->(∀G' v H',aQ G H G' H'->Rep K G' w v->Q v H')->r x xs H Q
noncomputable def lF(T:String):W->Bool
 |.str _=>T=="str"
 |.lst _=>T=="list"
 |_=>false
noncomputable def jl(T:String)(f:W->List W->Option W)(d:Den W)(dA:Den (List W)):Den W:=λe=>(d e).bind λx e1=>if lF T x=true then(dA e1).bind λws e2=>a_ (f x ws) e2 else .no
section
variable{EE:L2.St->XK}{o e:Expr}{p:Pos}{x:Str}
theorem Yd{T id:String}{name:Str}{r:V->List V->Hp->VK->Prop}{f:W->List W->Option W}(pa:PlainAttrs T)(slot:Slot T name id)(Ap:typeOf (.builtin id)=pure (.type "method_descriptor"))(hm:x_ X id r)(hf:Ko X.K r f)(ho:DE Z X EE o d)(ha:DA Z X EE (e::es) dA)
  (eR:autoParam (attributeBase o name X.env (eval o X.env)=eval o X.env) jJ)
  (lV:autoParam (((backTo cA (starEach (e::es) X.env)).all (λx=>!x.1)&&(backToKw cA (keywordEach [] X.env)).all (λx=>x.1.isSome)&&decide ((e::es).length+([]:List Keyword).length+(if([]:List Keyword).isEmpty then 0 else 1)<30))=true) jJ)
  (eT:autoParam ((apos.endLine==cA.line)=true) jJ)(hs:autoParam (starEach (e::es) X.env=(false,eval e X.env)::starEach es X.env) jJ)(f9:autoParam ((backTo cA (starEach es X.env)).any (·.1)=false) jJ):
  DE Z X EE (.Call (.Attribute o name apos) (e::es) [] cA) (jl T f d dA):=by
 refine PE.mono (Qz pa slot Ap hm ho ha eR lV eT hs f9) ?_;rintro σ H Q ⟨G,e,rel,h⟩;simp only[jl,R.ay]at h;refine⟨G,e,rel,h.imp (λwx e1 h G1 v1 H1 r1 s1 p1=>?_) λ_ _ h=>h⟩
 split at h
 .rename_i hk;refine⟨?_,G1,e1,r1,(R.ay.mp h).imp (λws e2 h G2 vs H2 r2 s2 p2=>?_) λ_ _ h=>XH.trans s1 h⟩
  .cases wx with
   |str z=>cases p1;exact(by simpa [lF]using hk:T="str")
   |lst ws=>
    obtain⟨a,xs,rfl,q,_⟩:=p1;exact .inl ⟨by simpa [lF]using hk,xs,r1.sub.seq q⟩
   |_=>cases hk
  .obtain⟨w,hw,h⟩:=aV.mp h;exact hf G2 H2 v1 vs wx ws w Q r2.sub (Rep.mono s2 wx p1) p2 hw λG' v H' g p=>h G' v H' (r2.grow g) ((s1.trans s2).trans g.gg) p
 .exact h.elim
end
noncomputable def SR.dD(r:SR)(k:List S->SR):SR:=match r with
 |.nx e'=>k e'
 |.ct e'=>k e'
 |.bk e'=>.nx e'
 |.rt s e'=>.rt s e'
 |.ex c e'=>.ex c e'
 |.no=>.no
structure QX(P:Program)(w:World)(K:Fg)(d:Addr)(tb:List (Str×Int)):Prop where
 tab:∀h,K.In h->PyProof.Rows.StrTab P w h d (PySem.W.kdpD tb)
 obj:∃o,K.lookup d=some o/\o.cls=.type "dict" /\ o.dict=none
section
variable{w:W}
noncomputable def w_(i:Nat)(e:List S)(b:Option Nat)(ws:List W)(w:W):Option Nat->SR
 |some j=>.nx (e.set i (.own b (ws.set j w)))
 |none=>.no
noncomputable def w8(i:Nat)(e:List S)(w:W):W->Option S->SR
 |.int k,some (.own b ws)=>w_ i e b ws w (jn ws.length k)
 |_,_=>.no
noncomputable def AV(i:Nat)(dk:Den W)(w:W)(e:List S):Option S->SR
 |some (.own _ _)=>(dk e).cQ λk e2=>w8 i e2 w k e2[i]?
 |_=>.no
theorem z5q{dv:Den W}:nO i dv dk e=(dv e).cQ λw e1=>AV i dk w e1 e1[i]?:=by
 unfold nO;congr 1
theorem y5b:AV i dk w e (some (.own b ws))=(dk e).cQ λk e2=>w8 i e2 w k e2[i]?:=rfl
theorem y5c:w8 i e w (.int k) (some (.own b ws))=w_ i e b ws w (jn ws.length k):=rfl
theorem L0:w_ i e b ws w (some j)=.nx (e.set i (.own b (ws.set j w))):=rfl
noncomputable def Fh(i:Nat)(e:List S)(b:Option Nat)(xs:List W):Option (List W)->SR
 |some ys=>if xs.length+ys.length<=16777216 then .nx (e.set i (.own b (xs++ys)))else .no
 |none=>.no
theorem y1q:Fh i e b xs (some ys)=if xs.length+ys.length<=16777216 then .nx (e.set i (.own b (xs++ys)))else .no:=rfl
theorem y97:jl T f d dA e=(d e).bind λx e1=>if lF T x=true then(dA e1).bind λws e2=>a_ (f x ws) e2 else .no:=rfl
theorem z5r:lF "str" (.str z)=true:=rfl
theorem z5s:lF "list" (.lst ws)=true:=rfl
end
noncomputable def d8(i j:Nat)(b:List S->SR):List (W×W)->List S->SR
 |[],e=>.nx e
 |p::ps,e=>(b ((e.set i (.fr p.1)).set j (.fr p.2))).dD (d8 i j b ps)
noncomputable def jk(i j:Nat)(d:Den (List (W×W)))(b:List S->SR):List S->SR:=λe=>(d e).cQ λps e1=>d8 i j b ps e1
noncomputable def dy(c:Den Bool)(d:Den W)(pe:List S):List (W×W)->Option (List W)
 |[]=>some []
 |p::ps=>match c (.fr p.1::.fr p.2::pe)with
  |.ok true e1=>match d e1 with
   |.ok y _=>(dy c d pe ps).map (y::·)
   |_=>none
  |.ok false _=>dy c d pe ps
  |_=>none
noncomputable def j6(js:List Nat)(c:Den Bool)(d:Den W)(ps:List (W×W))(e1:List S):R (List W):=
 if ps.length<=16777216 then(match dy c d (gb js (a8 js e1)) ps with
  |some out=>.ok out (a8 js e1)
  |none=>.no)else .no
noncomputable def c5(js:List Nat)(di:Den (List (W×W)))(c:Den Bool)(d:Den W):Den (List W):=λe=>(di e).bind λps e1=>j6 js c d ps e1
structure mI(K:Fg)(G1:Hp)(hc:It)(ps:List (W×W)):Prop where
 go:∀(i:Nat)(G H:Hp),av G1 G->av G H->i<ps.length->hc.go i H
 k_:∀(i:Nat)(G H:Hp)(x:V)(H':Hp),av G1 G->av G H->hc.k_ i H x H'->∀u v,ps[i]?=some (u,v) ->
  aQ G H G H'/\∀(m n:Nat)(σ:St)(Q:St->Hp->Prop),(∀y z,Rep K G u y->Rep K G v z->Q ((σ.set m (some y)).set n (some z)) H')->pA K 2 (f7 (bS m) (f7 (bS n) pq)) x σ H' Q
 stop:∀(i:Nat)(G H:Hp),av G1 G->av G H->ps.length<=i->hc.stop i H
noncomputable def u9(K:Fg)(Z:Zt)(EE:L2.St->XK)(d:Den (List (W×W))):TI:=λσ H R=>rO K Z σ H λG e=>(d e).holds (λps e1=>∀G1 H1 hc,Rel K Z G1 σ H1 e1->av G G1->mI K G1 hc ps->R hc H1) (XH K Z EE σ G)
noncomputable def DI(Z:Zt)(X:Cx)(EE:L2.St->XK)(tg iter:Expr)(d:Den (List (W×W))):Prop:=PI X tg iter (u9 X.K Z EE d)
theorem PI.mono(h:PI X tg iter wi)(m:∀σ H R,Tq σ H R->wi σ H R):PI X tg iter Tq:=λpins s σ H R I q=>h pins s σ H R I (m σ H R q)
theorem Vs{Z:Zt}(r:Rel K Z G' σ H e)(s:av G1 G')(pu:Rep K G' p.1 x)(pv:Rep K G' p.2 y)
  (h:aZ K Z EE D G1 (d8 i j s1 (p::ps) e))(hP:∀gS gu mE uN,Rel K Z gS gu mE uN->av G1 gS->aZ K Z EE D G1 (d8 i j s1 ps uN)->Pv gu mE):
  fB K Z EE s1 {D with nx:=Pv,ct:=Pv,bk:=D.nx} ((σ.set i (some x)).set j (some y)) H:=by
 refine⟨G',_,(r.set pu).set pv,?_⟩;unfold d8 at h;cases q:s1 ((e.set i (.fr p.1)).set j (.fr p.2))with
 |nx e'=>rw[q]at h;exact λgS gu mE n9 kE=>hP gS gu mE e' n9 (s.trans kE) h
 |ct e'=>rw[q]at h;exact λgS gu mE n9 kE=>hP gS gu mE e' n9 (s.trans kE) h
 |bk e'=>rw[q]at h;exact λgS gu mE n9 kE=>h gS gu mE n9 (s.trans kE)
 |rt t e'=>rw[q]at h;exact λgS gu v mE n9 kE p=>h gS gu v mE n9 (s.trans kE) p
 |ex c e'=>rw[q]at h;exact λgS gu mE n9 kE=>h gS gu mE n9 (s.trans kE)
 |no=>rw[q]at h;exact h
theorem Mv{ps:List (W×W)}(h:ps[k]?=some p):ps.drop k=p::ps.drop (k+1):=by
 grind [List.drop_eq_getElem_cons]
theorem Rel.we{Z:Zt}(r:Rel K Z G σ H e)(js)(q:Rep K G u y)(p:Rep K G w x):Rel K ⟨H,G,[]⟩ G (some y::some x::pj js σ) H (.fr u::.fr w::gb js e):=by
 have b:=r.block js p
 have uV:∀(i:Nat)(s:S),(S.fr w::gb js e)[i]?=some s->s=.no\/∃u,s=.fr u:=λi s h=>by
  grind [gb,nB]
 refine⟨b.sub,λi s h=>?_,?_,λi j b1 b2 w1 w2 a C h2 _ _=>?_,b.ent,b.kO,b.gen⟩
 .cases i with
  |zero=>cases h;exact⟨y,rfl,q⟩
  |succ i=>
   rw[w0x]at h;have z:=b.slot i s h
   grind
 all_goals grind [len]
theorem WQ{Z:Zt}{Q:VK}(W0:mI K G1 hc ps)(r1:Rel K Z G1 σ H1 e1)(s1:av G0 G1)(hl:ps.length<=16777216)
  (hz:∀p,H1 p=none->p∉Z.io)(J:dy c d (gb js e1) ps=some out)
  (h:∀G' a xs H',Rel K Z G' σ H' e1->av G0 G'->H' a=some (.lst xs)->G' a=none->Z.H a=none->i5 σ e1 a->aw K G' out xs->Q (.ref a) H'):
  ∀D,H1 D=none->∃W:Nat->Nat->Hp->Prop,(∃m,W 0 m (upd H1 D (.lst [])))/\∀i m H2,W i m H2 ->
   (hc.stop i H2/\Q (.ref D) H2)\/(hc.go i H2/\∀x H3,hc.k_ i H2 x H3->pA K 2 (f7 (bS 0) (f7 (bS 1) pq)) x (List.replicate 2 none++pj js σ) H3 λom H4=>Kp (List.replicate 2 none++pj js σ) om/\cT K c om H4 λb H5=>
    if b=true then cE K d om H5 λy H6=>∃ys,H6 D=some (.lst ys)/\ys.length<sizeLine/\∃m',m'<m/\W (i+1) m' (upd H6 D (.lst (ys++[y])))else ∃m',m'<m/\W (i+1) m' H5):=by
 intro D hD
 refine⟨λi m H2=>m=ps.length-i/\i<=ps.length/\∃G2 ys done rest,Rel K Z G2 σ H2 e1/\av G1 G2/\H2 D=some (.lst ys)/\G2 D=none/\aw K G2 done ys/\done.length<=i/\dy c d (gb js e1) (ps.drop i)=some rest/\done++rest=out,
  ⟨ps.length,by omega,w0q _,G1,[],[],out,r1.grow (aQ.ny r1.sub hD _),.refl _,bI,r1.sub.free hD,rfl,w0c _,J,rfl⟩,?_⟩
 rintro i m H2 ⟨rfl,hi,G2,ys,done,rest,r2,s2,hd2,mx,rE,K1,fO,ho⟩;have cG:i5 σ e1 D:=yG r1 hD;have uZ:Z.H D=none:=p9 r1 hD
 by_cases cY:i<ps.length
 .refine .inr ⟨W0.go i G2 H2 s2 r2.sub cY,λx H3 hy=>?_⟩
  have hp:ps[i]?=some ((ps[i]).1,(ps[i]).2):=by grind
  obtain⟨g3,FD⟩:=W0.k_ i G2 H2 x H3 s2 r2.sub hy _ _ hp;have Im:=r2.grow g3;have Cv:H3 D=some (.lst ys):=g3.hh _ _ hd2;rw[Mv hp]at fO;refine FD 0 1 _ _ λyv zv py pz=>⟨Kp.two,⟨H3,G2,[]⟩,G2,.fr (ps[i]).1::.fr (ps[i]).2::gb js e1,Im.we js py pz,?_⟩
  unfold dy at fO;cases qc:c (.fr (ps[i]).1::.fr (ps[i]).2::gb js e1)with
  |no=>grind
  |ex _ _=>grind
  |ok k e2=>
   rw[qc]at fO;intro G3 H5 r3 s3;have g3:=r3.gq s3;cases k with
   |false=>
    exact⟨ps.length-(i+1),by omega,rfl,cY,G3,ys,done,rest,Im.grow g3,s2.trans s3,g3.hh _ _ Cv,by rw[g3.new D (by rw[Cv];simp)];exact mx,aw.mono s3 _ rE,by omega,fO,ho⟩
   |true=>
    refine⟨⟨H3,G2,[]⟩,G3,e2,r3,?_⟩;dsimp only at fO;cases qd:d e2 with
    |no=>grind
    |ex _ _=>grind
    |ok y e3=>
     rw[qd]at fO;intro G4 v H6 r4 s4 p4;have g4:=r4.gq (s3.trans s4);obtain⟨m8,hr,rfl⟩:=w0e.mp fO;have yj:H6 D=some (.lst ys):=g4.hh _ _ Cv;have uW:G4 D=none:=by rw[g4.new D (by rw[Cv];simp)];exact mx
     refine⟨ys,yj,?_,ps.length-(i+1),by omega,rfl,cY,G4,ys++[v],done++[y],m8,(Im.grow g4).jS uW uZ (hz D hD) cG yj,s2.trans (s3.trans s4),bI,uW,(aw.mono (s3.trans s4) _ rE).append (.one p4),by simp;omega,hr,by grind⟩;rw[rE.length,sizeLine_eq];omega
 .have:i=ps.length:=by omega
  subst this;rw[w2h]at fO;cases fO;rw[w1v]at ho;subst ho;exact .inl ⟨W0.stop _ G2 H2 s2 r2.sub (by omega),h G2 D ys H2 r2 (s1.trans s2) hd2 mx uZ cG rE⟩
section
variable{EE:L2.St->XK}{elt iter e a:Expr}{body:List Stmt}{ifs:List Expr}{scope sc:Scope}{pt p1 p2 p3:Pos}{x y:Str}{Nf N:List Str}{di:Den (List (W×W))}{c:Den Bool}{s1:List S->SR}
theorem D5(i j:Nat)(hN:X.N.Nodup)(hp:PassesOwn (model X.prog X.w) X.A X.env X.xe)(J:X.calm=true)(hl:DI Z X EE (.Tuple [.Name x p1,.Name y p2] kt p3) e di)(hb:nq Z X EE body s1)
  (hi:autoParam (X.N[i]?=some x) jJ)(hx:autoParam (Loc X.env.scope x) jM)(hf:autoParam (X.fn x=true\/X.env.scope.names.lookup x=some .local) jL)
  (hj:autoParam (X.N[j]?=some y) jJ)(hy:autoParam (Loc X.env.scope y) jM)(Ae:autoParam (X.fn y=true\/X.env.scope.names.lookup y=some .local) jL)
  (hn:autoParam ((assignEach [.Name x p1,.Name y p2] X.env).length=2) jJ)(i9:autoParam ((assignEach [.Name x p1,.Name y p2] X.env).findIdx? (·.1)=none) jJ)
  (g1:autoParam ((assignEach [.Name x p1,.Name y p2] X.env).map (·.2)=assign (.Name x p1) X.env::(assignEach [.Name y p2] X.env).map (·.2)) jJ)(g2:autoParam ((assignEach [.Name y p2] X.env).map (·.2)=assign (.Name y p2) X.env::(assignEach [] X.env).map (·.2)) jJ)
  (hs:∀x,foldedSetIterable e X.env x=pure x:=by intro _;rfl):
  DS Z X EE (.For (.Tuple [.Name x p1,.Name y p2] kt p3) e body [] pos) (jk i j di s1):=by
 refine PS.mono (JV hp J hl (JT J (yF (mz i hN hi hx hf) (yF (mz j hN hj hy Ae) Jw g2) g1) hn i9) hb hs) ?_;rintro D σ H ⟨G,e,rel,h⟩;refine⟨G,e,rel,(jC h).imp (λps e1 h G1 H1 hc r1 q1 W0=>?_) λ_ _ h=>h⟩
 have h:=aZ.trans q1 h;refine⟨λk m aS H'=>m=ps.length-k/\k<=ps.length/\∃G' e',Rel X.K Z G' aS H' e'/\av G1 G'/\aZ X.K Z EE D G1 (d8 i j s1 (ps.drop k) e'),⟨ps.length,by omega,w0q _,G1,e1,r1,.refl _,h⟩,?_⟩
 rintro k m aS H' ⟨rfl,hk,G',e',r',s',h'⟩
 by_cases cY:k<ps.length
 .refine .inr ⟨W0.go k G' H' s' r'.sub cY,λgu mE=>∃G' e',Rel X.K Z G' gu mE e'/\av G1 G'/\aZ X.K Z EE D G1 (d8 i j s1 (ps.drop (k+1)) e'),?_,λv H2 hy=>?_⟩
  .rintro gu mE ⟨gS,uN,n9,kE,rT⟩;exact⟨ps.length-(k+1),by omega,rfl,cY,gS,uN,n9,kE,rT⟩
  .have hp:ps[k]?=some ((ps[k]).1,(ps[k]).2):=by grind
   obtain⟨g3,FD⟩:=W0.k_ k G' H' v H2 s' r'.sub hy _ _ hp;rw[Mv hp]at h';exact FD i j aS _ λy z py pz=>Vs (p:=((ps[k]).1,(ps[k]).2)) (r'.grow g3) s' py pz h' λgS gu mE uN n9 kE rT=>⟨gS,uN,n9,kE,rT⟩
 .have:k=ps.length:=by omega
  subst this;rw[w2h]at h';exact .inl ⟨W0.stop _ G' H' s' r'.sub (by omega),h' G' aS H' r' s'⟩
theorem US:∀σ H Q,oH K Z EE (c5 js di c d) σ H Q->lI (u9 K Z EE di) 2 js (pA K 2 (f7 (bS 0) (f7 (bS 1) pq))) (cT K c) (cE K d) σ H Q:=by
 rintro σ H Q ⟨G,e,rel,h⟩;simp only[c5,R.ay]at h;refine⟨G,e,rel,h.imp (λps e1 h G1 H1 hc r1 s1 W0=>?_) λ_ _ h=>h⟩
 unfold j6 at h;split at h
 .rename_i hl;split at h
  .rename_i out ho;obtain⟨G2,s2,r2⟩:=r1.a8 js;have W1:mI K G2 hc ps:=⟨λi G H a=>W0.go i G H (s2.trans a),λi G H x H' a=>W0.k_ i G H x H' (s2.trans a),λi G H a=>W0.stop i G H (s2.trans a)⟩
   exact WQ W1 r2 (s1.trans s2) hl (lX r2) ho h
  .exact h.elim
 .exact h.elim
theorem yI(J:X.calm=true)(hi:DI Z X EE (.Tuple [.Name x p1,.Name y p2] kt p3) iter di)(ok:c0 sc scope N Nf js=true)
  (ht:∀Z' cl h1 aC aH ex,vT Z' (X.cp ([x,y]++Nf) scope cl h1 aC aH ex) (λ_=>E0) ifs c)(he:∀Z' cl h1 aC aH ex,DE Z' (X.cp ([x,y]++Nf) scope cl h1 aC aH ex) (λ_=>E0) elt d)
  (hg:∀cl h1 aC aH ex,PG (X.cp ([x,y]++Nf) scope cl h1 aC aH ex) (.Tuple [.Name x p1,.Name y p2] kt p3) (pA X.K 2 (f7 (bS 0) (f7 (bS 1) pq))))
  (kj:autoParam (X.env.scope=sc) jJ)(hN:autoParam (X.N=N) jJ)(hs:∀x,foldedSetIterable iter X.env x=pure x:=by intro _;rfl):
  DF Z X EE (.ListComp elt [⟨.Tuple [.Name x p1,.Name y p2] kt p3,iter,ifs,0⟩] scope pos) (c5 js di c d):=by
 exact PE.mono (Nz (Nl:=[x,y]) (tc:=cT X.K c) (te:=cE X.K d) J hi ok hg (Ca ht) (Ez he) kj hN hs) US
noncomputable def cK:List W->Option (List (W×W))
 |[]=>some []
 |.tup [u,v]::ws=>(cK ws).map ((u,v)::·)
 |_=>none
noncomputable def k9(d:Den W):Den (List (W×W)):=λe=>(d e).bind λw e1=>match gQ w with
 |some ws=>a_ (cK ws) e1
 |none=>.no
theorem MI:∀{ws:List W}{ps:List (W×W)},cK ws=some ps->ws.length=ps.length/\∀(i:Nat) u v,ps[i]?=some (u,v)->ws[i]?=some (.tup [u,v])
 |[],ps,h=>by cases h;grind
 |w::ws,ps,h=>by
  unfold cK at h;split at h
  .rename_i z;cases z
  .rename_i u v ws' z;cases z;obtain⟨q,hq,rfl⟩:=w0e.mp h;obtain⟨C,h2⟩:=MI hq
   grind
  .cases h
theorem HY(W0:Walk hc xs SQ)(rp:aw K G1 ws xs)(hp:cK ws=some ps)(pB:∀G' H',av G1 G'->av G' H'->SQ H'):mI K G1 hc ps:=by
 obtain⟨hl,hg⟩:=MI hp;have hx:=rp.length;refine⟨λi G H a b h=>W0.go i H (pB G H a b) (by omega),λi G H x H' a b hy u v h=>?_,λi G H a b h=>W0.stop i H (pB G H a b) (by omega)⟩
 have cY:i<ps.length:=(w0b.mp h).1;obtain⟨rfl,wI⟩:=W0.k_ i H x H' (pB G H a b) hy (by omega);refine⟨aQ.refl b,λm n σ Q hQ=>?_⟩
 obtain⟨w,hw,pw⟩:=rp.kX wI;rw[hg i u v h]at hw;cases hw;have pw:=Rep.mono a _ pw;obtain⟨c,ys,rfl,hq,y1,q1,rfl,p1,y2,q2,rfl,p2,rfl⟩:=pw;exact⟨c,[y1,y2],rfl,b.tup hq,rfl,y1,[y2],rfl,y2,[],rfl,rfl,hQ y1 y2 p1 p2⟩
theorem DP(hl:DE Z X EE l d0):DI Z X EE tg l (k9 d0):=by
 refine PI.mono (yQ hl) ?_;rintro σ H RR ⟨G,e,rel,h⟩;simp only[k9,R.ay]at h;refine⟨G,e,rel,h.imp (λw e1 h G1 v1 H1 r1 s1 p1=>?_) λ_ _ h=>h⟩
 split at h
 .rename_i ws hw;obtain⟨ps,hp,h⟩:=aV.mp h;cases w with
  |tup us=>
   cases (hw);obtain⟨a,xs,rfl,hq,rp⟩:=p1;exact⟨a,rfl,.inr ⟨⟨xs,r1.sub.tup hq⟩,h _ _ _ r1 s1 (HY JZ rp hp λG' H' s s'=>av.tup s' (av.tup s hq))⟩⟩
  |lst us=>
   cases (hw);obtain⟨a,xs,rfl,hq,rp⟩:=p1;exact⟨a,rfl,.inl ⟨⟨xs,r1.sub.seq hq⟩,h _ _ _ r1 s1 (HY JY rp hp λG' H' s s'=>av.seq s' (av.seq s hq))⟩⟩
  |_=>cases hw
 .exact h.elim
theorem Vt{fp:List Addr}{b:Addr}(I:Inv X pins σ H s)(k:∀b o,b∉fp->s.heap.get? b=some o->h'.get? b=some o)(hf:∀b∈fp,ig X pins H b)(hp:s.heap.objs.size<=b)(new:aU X.prog X.w (upd H b o) h' b o):Inv X pins σ (upd H b o) {s with heap:=h',toks:=t'}:=by
 have hn:H b=none:=I.aR.fresh hp;have ne:∀c u,H c=some u->c≠b:=λc u e=>jf e hn
 have SF:∀c u,H c=some u->c∉fp:=λc u e z=>by rw[(hf c z).1]at e;cases e
 have lt:∀c o,s.heap.get? c=some o->c≠b:=λc o e=>w0o (w0n (Heap.lt_size e) hp)
 refine I.step (g':=s.gens) (d':=s.drawn) (ch:=fp) (λc J=>?_) (λc o _ _ J e _=>k c o J e) (λc o _ _ J e _=>⟨o.slots,k c o J e⟩) (λc o _ e n=>by grind [aP])
  (λc o J e=>⟨o,k c o J e⟩) (λc xs e=>by grind [aP]) (λc o u e=>by grind [aP]) (λc ps e=>⟨#[],by grind [aP]⟩) (λm hm=>?_) (λc u e=>?_) I.bare
 .obtain⟨f0,f1,f2,f3,f4,f5⟩:=hf c J
  grind
 .obtain⟨o,es,ep,ho,r⟩:=hm;exact⟨o,es,ep,k _ o (λz=>(hf _ z).2.1 rfl) ho,r⟩
 .by_cases hb:c=b
  .grind [bI]
  .rw[aP hb]at e;refine(I.aR c u e).fR (λd v hd q=>k d v ?_ q) (λd q=>by grind [aP]) λd xs _ q=>by grind [aP]
   grind
end
theorem yR{x y:Str}{p1 p2 p3:Pos}(hN:X.N.Nodup)(J:X.calm=true)
  (hi:autoParam (X.N[0]?=some x) jJ)(hx:autoParam (Loc X.env.scope x) jM)(hf:autoParam (X.fn x=true\/X.env.scope.names.lookup x=some .local) jL)
  (hj:autoParam (X.N[1]?=some y) jJ)(hy:autoParam (Loc X.env.scope y) jM)(Ae:autoParam (X.fn y=true\/X.env.scope.names.lookup y=some .local) jL)
  (hn:autoParam ((assignEach [.Name x p1,.Name y p2] X.env).length=2) jJ)(i9:autoParam ((assignEach [.Name x p1,.Name y p2] X.env).findIdx? (·.1)=none) jJ)
  (g1:autoParam ((assignEach [.Name x p1,.Name y p2] X.env).map (·.2)=assign (.Name x p1) X.env::(assignEach [.Name y p2] X.env).map (·.2)) jJ)(g2:autoParam ((assignEach [.Name y p2] X.env).map (·.2)=assign (.Name y p2) X.env::(assignEach [] X.env).map (·.2)) jJ):
  PG X (.Tuple [.Name x p1,.Name y p2] kt p3) (pA X.K 2 (f7 (bS 0) (f7 (bS 1) pq))):=
 JT J (yF (mz 0 hN hi hx hf) (yF (mz 1 hN hj hy Ae) Jw g2) g1) hn i9
section
variable{w:W}{ps:List (W×W)}{c:Prop} [Decidable c]{s t:SR}{k:List S->SR}{st:S}
theorem y98:jk i j di b e=(di e).cQ λps e1=>d8 i j b ps e1:=rfl
theorem y5e:(SR.nx e).dD k=k e:=rfl
theorem y5f:(SR.ct e).dD k=k e:=rfl
theorem y5g:(SR.bk e).dD k=.nx e:=rfl
theorem y5h:(SR.rt st e).dD k=.rt st e:=rfl
theorem y5i:(SR.ex v e).dD k=.ex v e:=rfl
theorem y5j:(SR.no).dD k=.no:=rfl
theorem y1t:(if c then s else t).dD k=if c then s.dD k else t.dD k:=by split<;>rfl
noncomputable def vL(e:List S):Option (List W)->R (List (W×W))
 |some ws=>a_ (cK ws) e
 |none=>.no
theorem z5t:k9 d e=(d e).bind λw e1=>vL e1 (gQ w):=by
 unfold k9;congr 1
theorem x9e:vL e (some ws)=a_ (cK ws) e:=rfl
theorem y5k:j6 js cc d ps e=if ps.length<=16777216 then mK (a8 js e) (dy cc d (gb js (a8 js e)) ps)else .no:=by
 grind [j6,mK]
theorem y5l:c5 js di cc d e=(di e).bind λps e1=>j6 js cc d ps e1:=rfl
theorem UT{pe:List S}{p:W×W}:dy cc d pe (p::ps)=(match cc (.fr p.1::.fr p.2::pe)with
  |.ok true e1=>(match d e1 with|.ok y _=>(dy cc d pe ps).map (y::·)|_=>none)
  |.ok false _=>dy cc d pe ps
  |_=>none):=rfl
theorem Dx:∀(ps:List (W×W)),(∀p∈ps,∃e1,cc (.fr p.1::.fr p.2::pe)=.ok (q p) e1/\(q p=true->∃e2,d e1=.ok (g p) e2))->dy cc d pe ps=some ((ps.filter q).map g)
 |[],_=>rfl
 |p::ps,h=>by
  obtain⟨e1,C,h2⟩:=h p (by simp);have ih:=Dx ps λu hu=>h u (by simp[hu])
  rw[UT,C,ih]
  grind
end
theorem Vu(l)(items)(n)(x)(u)(dd)(sl)(hc0:¬(!Builtin.List.listFitsIndex x)=true)(hc1:¬items.size*x.toNat>(2^63-1) / 8)(fO:¬Builtin.List.listTooLong (items.size*x.toNat)=true):
  Meets (Builtin.«list.__mul__» ⟨[.ref l,.int x u],[]⟩) (λ_ R s=>s.heap.get? l=some {cls:=.type "list", dict:=dd,data:=.seq items n,slots:=sl}/\R (.ok (.ret (Value.ref s.heap.objs.size))) {s with heap:=s.heap.push {cls:=Value.type "list", data:=Data.seq (List.foldl (λx1 x2=>x1++x2) #[] (List.replicate (if items.isEmpty=true then 0 else x.toNat) items))},toks:=s.toks}):=
 .of_wp λprog w A R s h=>by
  obtain⟨hp,g,d,tk,os⟩:=s;obtain⟨hl,h⟩:=h;have hsz:=PySem.AutoListH.joined_fits fO
  wp_walk;refine wpAny_ite_false (decide_eq_false (w3i.mpr hsz)) ?_;wp_walk;exact⟨_,rfl,h⟩
theorem Vv(a)(t)(l)(items)(n)(dd)(sl):
  Meets (Builtin.«int.__rmul__» ⟨[.int a t,.ref l],[]⟩) (λ_ R s=>s.heap.get? l=some {cls:=.type "list", dict:=dd,data:=.seq items n,slots:=sl}/\R (.ok (.ret Value.notImplemented)) s):=
 .of_wp λprog w A R s h=>by obtain⟨hp,g,d,tk,os⟩:=s;obtain⟨hl,h⟩:=h;wp_walk;exact⟨_,rfl,h⟩
noncomputable def vF(K:Fg):R2:=λx y H Q=>∃l k xs,x=.ref l/\y=.int k/\cy K H l xs/\-(2^63)<=k/\k<2^63/\xs.length*k.toNat<=sizeLine /\
 ∀p,H p=none->Q (.ref p) (upd H p (.lst (List.replicate k.toNat xs).flatten))
theorem OL:gT X (binaryOp .Mult) (vF X.K):=by
 intro pins s σ H x y v u Q I rx ry h;obtain⟨l,k,xs,rfl,rfl,hH,C,h2,hz,q⟩:=h;cases rx;obtain⟨t,rfl⟩:=ry;obtain⟨aB,r,p1,_⟩:=I.list hH;obtain⟨⟨cls,dd,data,sl⟩,ho,J,n,hd⟩:=id p1.isList;simp only at J hd;subst J hd;have hl:=r.length;have hlen:aB.toArray.size*k.toNat<=sizeLine:=by grind
 have qA:¬aB.toArray.size*k.toNat>(2^63-1) / 8:=by
  grind [sizeLine]
 have qC:¬(!Builtin.List.listFitsIndex k)=true:=by
  simp_all [fitsIndex_both]
 have Am:¬Builtin.List.listTooLong (aB.toArray.size*k.toNat)=true:=by
  simp_all [qP]
 have nV:List.foldl (λx1 x2=>x1++x2) #[] (List.replicate (if aB.toArray.isEmpty=true then 0 else k.toNat) aB.toArray)=(List.replicate k.toNat aB).flatten.toArray:=by
  have f0:∀m:Nat,List.foldl (λx1 x2=>x1++x2) #[] (List.replicate m aB.toArray)=(List.replicate m aB).flatten.toArray:=λm=>by
   grind [HD]
  rw[f0];cases aB with
  |nil=>simp
  |cons a r'=>rw[if_neg (by simp)]
 refine wpAny_binaryOp_repeat_ref (T:="list") (U:="int") (by decide) ⟨_,ho,rfl⟩ (λs'=>typeIs_int s' k t) noFill_list_mul F.fills_int_mul F.slot_int_rmul repeat_list F.slot_int_index.lookup
  (PySem.call_meets F.slot_int_rmul (typeIs_int s k t) F.entry_int_rmul (F.args_int_rmul_2 _ _) (Vv k t l aB.toArray n dd sl)
   ⟨ho,rfl,⟨_,ho,rfl⟩,PySem.call_meets F.slot_list_mul ⟨_,ho,rfl⟩ F.entry_list_mul (F.args_list_mul_2 _ _) (Vu l aB.toArray n k t dd sl qC qA Am) ⟨ho,?_⟩⟩)
 rw[nV];exact⟨.ref _,_,I.AB (t':=s.toks) (r.rep k.toNat) (by grind [len_rep]),rfl,q _ I.fresh⟩
noncomputable def kD:W->W->Option W
 |.lst ws,.int k=>if qR k=true/\ws.length*k.toNat<=16777216 then some (.lst (List.replicate k.toNat ws).flatten)else none
 |_,_=>none
theorem DQ(r:aw K G ws xs):∀k:Nat,aw K G (List.replicate k ws).flatten (List.replicate k xs).flatten
 |0=>rfl
 |k+1=>by
  rw[w1x,w1x,w2u,w2u];exact r.append (DQ r k)
theorem z5u:jF K (vF K) kD:=by
 intro G H x y wx wy w Q s px py hf h;unfold kD at hf;split at hf
 .rename_i ws k;split at hf
  .rename_i J;cases hf;cases(show y=V.int k from py);obtain⟨l,xs,rfl,hq,rp⟩:=px;have hb:=Bq J.1;refine⟨l,k,xs,rfl,rfl,s.seq hq,by omega,by omega,by rw[sizeLine_eq,rp.length];exact J.2,λp hp=>?_⟩
   have g:aQ G H (upd G p (.lst (List.replicate k.toNat xs).flatten)) (upd H p (.lst (List.replicate k.toNat xs).flatten)):=aQ.laid s hp _;exact h _ _ _ g ⟨p,_,rfl,cy.of bI,aw.mono g.gg _ (DQ rp _)⟩
  .cases hf
 .cases hf
theorem P0{Z:Zt}(ha:DE Z X EE a da)(hb:DE Z X EE b db):DE Z X EE (.BinOp a .Mult b pos) (aq kD da db):=xw OL z5u ha hb
theorem JR:kD (.lst ws) (.int k)=if qR k=true/\ws.length*k.toNat<=16777216 then some (.lst (List.replicate k.toNat ws).flatten)else none:=rfl
noncomputable def lW(x:Int):List Int->Option Nat
 |[]=>none
 |y::ys=>if y=x then some 0 else(lW x ys).map (·+1)
theorem Np:∀{ys:List Int}{j:Nat},lW x ys=some j->ys[j]?=some x/\∀(m:Nat)(y:Int),m<j->ys[m]?=some y->y≠x
 |[],j,h=>by cases h
 |y::ys,j,h=>by
  unfold lW at h;split at h
  .grind
  .rename_i hy;obtain⟨k,C,rfl⟩:=w0e.mp h;obtain⟨h2,h3⟩:=Np C
   grind
noncomputable def eu:List W->Option (List Int)
 |[]=>some []
 |.int x::r=>(eu r).map (x::·)
 |_=>none
theorem Jg:∀{ws:List W}{ys:List Int}{xs:List V},eu ws=some ys->aw K G ws xs->xs=ys.map V.int
 |[],ys,xs,h,r=>by cases h;cases(show xs=[]from r);rfl
 |w::ws,ys,xs,h,r=>by
  unfold eu at h;split at h
  .rename_i z;cases z
  .rename_i y r' z;cases z;obtain⟨Cf,C,rfl⟩:=w0e.mp h;obtain⟨v,vs,rfl,p1,p2⟩:=r;cases(show v=V.int y from p1);rw[Jg C p2];rfl
  .cases h
noncomputable def f_:W->List W->Option W
 |.lst ws,[.int x]=>match eu ws with
  |some ys=>match lW x ys with
   |some j=>some (.int j)
   |none=>none
  |none=>none
 |_,_=>none
noncomputable def oY(K:Fg):V->List V->Hp->VK->Prop:=λv vs H Q=>∃b ys x j,v=.ref b/\vs=[.int x]/\cy K H b (ys.map V.int)/\lW x ys=some j/\Q (.int (j:Nat)) H
theorem OM:∀{ys:List Int}{aB:List Value},Vals (ys.map V.int) aB->∀(m:Nat)(u:Value),aB[m]?=some u->∃y t,ys[m]?=some y/\u=.int y t
 |[],aB,h,m,u,hu=>by cases h;simp at hu
 |y::ys,aB,h,m,u,hu=>by
  cases h with
  |cons r t=>
   obtain⟨k,rfl⟩:=r;cases m with
   |zero=>grind
   |succ m=>simpa using OM t m u (by simpa using hu)
theorem Vw:x_ X "list.index" (oY X.K):=by
 intro pins s σ H x vs v us Q I rx rv h;obtain⟨b,ys,x0,j,rfl,rfl,hB,hj,q⟩:=h;cases rx;obtain⟨u,rfl,ru⟩:=rv.one;obtain⟨t,rfl⟩:=ru;obtain⟨aB,r,pl,hz⟩:=I.list hB;obtain⟨⟨cls,dd,data,sl⟩,ho,J,n,hd⟩:=pl.isList;simp only at J hd;subst J hd;obtain⟨C,h2⟩:=Np hj;have hlen:=r.length;rw[w0a]at hlen hz;have hjl:j<ys.length:=(w0b.mp C).1;have RW:=iB
 let e:Value->Bool:=λu=>match u with|.int y _=>y==x0|_=>false
 have at':∀(m:Nat)(hm:m<aB.toArray.size),∃y k,ys[m]?=some y/\aB.toArray[m]=.int y k:=λm hm=>by
  have RZ:m<aB.length:=by simpa using hm
  obtain⟨y,k,z1,z2⟩:=OM r m aB[m] (w0j RZ)
  grind
 refine call_meets F.slot_list_index ⟨_,ho,rfl⟩ F.entry_list_index (F.args_list_index_2 _ _) (SeqAt.list_indexAt b aB.toArray n dd sl (.int x0 t) e j (by grind) (by omega) ?_ ?_) ⟨ho,?_,?_⟩
 .grind
 .grind
 .intro y hy;obtain⟨m,hm,rfl⟩:=Array.mem_iff_getElem.mp hy;obtain⟨y,k,z1,z2⟩:=at' m hm;rw[z2]
  grind [SeqAt.EqAt.int_int]
 .exact⟨.int j,H,I.tok _,⟨_,rfl⟩,q⟩
theorem Vx:Ko K (oY K) f_:=by
 intro G H x xs wx ws w Q s px pr hf h;unfold f_ at hf;split at hf
 .rename_i us x0;obtain⟨y,r,rfl,py,pr⟩:=pr;cases(show r=[]from pr);cases py;split at hf
  .rename_i ys hy;split at hf
   .rename_i j hj;cases hf;obtain⟨a,cs,rfl,hq,rp⟩:=px;have:=Jg hy rp;subst this;exact⟨a,ys,x0,j,rfl,rfl,s.seq hq,hj,h G _ H (.refl s) rfl⟩
   .cases hf
  .cases hf
 .cases hf
section
variable{EE:L2.St->XK}{o e:Expr}
theorem Vy(ho:DE Z X EE o d)(ha:DA Z X EE [e] dA)
  (eR:autoParam (attributeBase o "index" X.env (eval o X.env)=eval o X.env) jJ)
  (lV:autoParam (((backTo cA (starEach [e] X.env)).all (λx=>!x.1)&&(backToKw cA (keywordEach [] X.env)).all (λx=>x.1.isSome)&&decide ([e].length+([]:List Keyword).length+(if([]:List Keyword).isEmpty then 0 else 1)<30))=true) jJ)
  (eT:autoParam ((apos.endLine==cA.line)=true) jJ)(hs:autoParam (starEach [e] X.env=(false,eval e X.env)::starEach [] X.env) jJ)(f9:autoParam ((backTo cA (starEach [] X.env)).any (·.1)=false) jJ):
  DE Z X EE (.Call (.Attribute o "index" apos) [e] [] cA) (jl "list" f_ d dA):=
 Yd PySem.F.plainAttrs_list PySem.F.slot_list_index PySem.F.type_list_index Vw Vx ho ha eR lV eT hs f9
end
section
variable{w:World}{s:Shared}
theorem Ua(gi:s.heap.IsTupleIter j b k)(gt:s.heap.IsTuple b vs)(gx:vs[k]?=some x)
  (hQ:∀h',h'.IsTupleIter j b (k+1)->Heap.SameBut j s.heap h'->Q x {s with heap:=h'}):wpAny (model prog w) A (Builtin.SmallTypes.nextOf (.ref j)) Q E s:=by
 obtain⟨o,ho,J,hd⟩:=id gi;obtain⟨ot,FV,_,m,Fy⟩:=gt;unfold Builtin.SmallTypes.nextOf;refine wpAny_bind (wpAny_callSpecial?_slot (name:=Str.ofString "__next__") gi.typeIs F.slot_tuple_iterator_next (wpAny_call_entry F.slot_tuple_iterator_next gi.typeIs F.entry_tuple_iterator_next ?_ (F.args_tuple_iterator_next_1 _)));show wpAny _ _ (field (.ref j) 0 >>= _) _ _ s;refine wpAny_bind (wpAny_field ho hd (x:=.ref b) rfl ?_);show wpAny _ _ (if(Value.ref b==Value.none)=true then _ else _) _ _ s;rw[if_neg (show ¬((Value.ref b==Value.none)=true)from w1k)];show wpAny _ _ (field (.ref j) 1 >>= _) _ _ s;refine wpAny_bind (wpAny_field ho hd (x:=.int k 0) rfl ?_);show wpAny _ _ (seqItems? (.ref b) >>= _) _ _ s;refine wpAny_bind (wpAny_seqItems FV Fy ?_);simp only[w1f,gx];refine wpAny_bind (wpAny_setField ho hd (by simp) (wpAny_pure ⟨x,rfl,wpAny_pure (hQ _ ⟨_,Heap.get?_update_self _ ho (Obj.isFreed_of_fields (Obj.data_mapFields hd _)),(Obj.cls_mapFields ..).trans J,by grind [Obj.data_mapFields,rawInt]⟩ (Heap.SameBut.update ..))⟩))
theorem Up(hh:A.handled=none)(gi:s.heap.IsTupleIter j b k)(gt:s.heap.IsTuple b vs)(gx:vs[k]?=none)
  (hE:∀h' e,Heap.ExtBut j s.heap h'->(∃o,h'.get? e=some o/\o.cls=.type "StopIteration")->E (.ref e) {s with heap:=h'}):wpAny (model prog w) A (Builtin.SmallTypes.nextOf (.ref j)) Q E s:=by
 obtain⟨o,ho,J,hd⟩:=id gi;obtain⟨ot,FV,_,m,Fy⟩:=gt;unfold Builtin.SmallTypes.nextOf;refine wpAny_bind (wpAny_callSpecial?_slot (name:=Str.ofString "__next__") gi.typeIs F.slot_tuple_iterator_next (wpAny_call_entry F.slot_tuple_iterator_next gi.typeIs F.entry_tuple_iterator_next ?_ (F.args_tuple_iterator_next_1 _)));show wpAny _ _ (field (.ref j) 0 >>= _) _ _ s;refine wpAny_bind (wpAny_field ho hd (x:=.ref b) rfl ?_);show wpAny _ _ (if(Value.ref b==Value.none)=true then _ else _) _ _ s;rw[if_neg (show ¬((Value.ref b==Value.none)=true)from w1k)];show wpAny _ _ (field (.ref j) 1 >>= _) _ _ s;refine wpAny_bind (wpAny_field ho hd (x:=.int k 0) rfl ?_);show wpAny _ _ (seqItems? (.ref b) >>= _) _ _ s;refine wpAny_bind (wpAny_seqItems FV Fy ?_);simp only[w1f,gx];refine wpAny_bind (wpAny_rule (wpAny_bind (wpAny_setField ho hd (by simp) ?_)));show wpAny _ _ (newExc (.type "StopIteration") [] >>= _) _ _ _;refine wpAny_bind ?_;simp only[newExc,newTuple];refine wpAny_bind (wpAny_newObj_type ?_ (by size_fits));refine wpAny_bind (m:=firstArgMember _ _) (wpAny_of_eq (a:=Value.none) (by first|rfl|(simp only[firstArgMember];rfl)) (wpAny_newObj_type ?_ (by size_fits)));simp only[raiseNew];refine wpAny_bind (wpAny_handled ?_)
 first|rw[show A.in1.handled=none from hh]|rw[hh]
 refine wpAny_bind (wpAny_pure (wpAny_throw (hE _ _ (((Heap.SameBut.update ..).extBut.push _).push _) ⟨_,Heap.get?_push_size _ rfl,rfl⟩)))
noncomputable def cR(t:Bool)(j b:Addr)(k:Nat)(h:Heap):Prop:=if t=true then h.IsTupleIter j b k else h.IsListIter j b k
noncomputable def eC(t:Bool)(b:Addr)(vs:Array Value)(h:Heap):Prop:=if t=true then h.IsTuple b vs else h.IsList b vs
theorem cR.keep(x:cR t j b k h)(e:∀o,h.get? j=some o->h'.get? j=some o):cR t j b k h':=by
 cases t with
 |true=>obtain⟨o,ho,r⟩:=(show h.IsTupleIter j b k from x);exact⟨o,e o ho,r⟩
 |false=>obtain⟨o,ho,r⟩:=(show h.IsListIter j b k from x);exact⟨o,e o ho,r⟩
theorem cR.obj(x:cR t j b k h):∃o,h.get? j=some o/\∀v,o.data≠.cell v:=by
 cases t with
 |true=>obtain⟨o,ho,c,d⟩:=(show h.IsTupleIter j b k from x);grind
 |false=>obtain⟨o,ho,c,d⟩:=(show h.IsListIter j b k from x);grind
theorem eC.keep(x:eC t b vs h)(e:∀o,h.get? b=some o->h'.get? b=some o):eC t b vs h':=by
 cases t with
 |true=>obtain⟨o,ho,r⟩:=(show h.IsTuple b vs from x);exact⟨o,e o ho,r⟩
 |false=>obtain⟨o,ho,r⟩:=(show h.IsList b vs from x);exact⟨o,e o ho,r⟩
theorem JC(gi:cR t j b k s.heap)(gt:eC t b vs s.heap)(gx:vs[k]?=some x)
  (hQ:∀h',cR t j b (k+1) h'->Heap.SameBut j s.heap h'->Q x {s with heap:=h'}):wpAny (model prog w) A (Builtin.SmallTypes.nextOf (.ref j)) Q E s:=by
 cases t with
 |true=>exact Ua gi gt gx hQ
 |false=>exact wpAny_nextOf_list_item gi gt gx hQ
theorem PR(hh:A.handled=none)(gi:cR t j b k s.heap)(gt:eC t b vs s.heap)(gx:vs[k]?=none)
  (hE:∀h' e,Heap.ExtBut j s.heap h'->(∃o,h'.get? e=some o/\o.cls=.type "StopIteration")->E (.ref e) {s with heap:=h'}):wpAny (model prog w) A (Builtin.SmallTypes.nextOf (.ref j)) Q E s:=by
 cases t with
 |true=>exact Up hh gi gt gx hE
 |false=>exact wpAny_nextOf_list_end hh gi gt gx hE
structure Apart(z I O i j a b:Addr):Prop where
 Iz:I≠z
 Oz:O≠z
 iz:i≠z
 jz:j≠z
 IO:I≠O
 Ii:I≠i
 Ij:I≠j
 Oi:O≠i
 Oj:O≠j
 ij:i≠j
 az:a≠z
 aO:a≠O
 ai:a≠i
 aj:a≠j
 bz:b≠z
 bO:b≠O
 bi:b≠i
 bj:b≠j
theorem Ye{i:Addr}{Q:Value->Shared->Prop}(D:Apart z I O i j a b)
  (gz:IsZip s.heap z I O .none)(gI:IsPair s.heap I (.ref i) (.ref j))(gO:IsPair s.heap O p q)
  (g1:cR t i a k s.heap)(g2:cR u j b k s.heap)(l1:eC t a xs s.heap)(l2:eC u b ys s.heap)(hx:xs[k]?=some x)(hy:ys[k]?=some y)
  (hQ:∀h',IsZip h' z I O (rawInt s.heap.objs.size)->IsPair h' O x y->cR t i a (k+1) h'->cR u j b (k+1) h'->IsPair h' s.heap.objs.size x y->h'.objs.size=s.heap.objs.size+1 ->
   (∀c o,c≠z->c≠O->c≠i->c≠j->s.heap.get? c=some o->h'.get? c=some o)->Q (.ref s.heap.objs.size) {s with heap:=h'}):
  wpAny (model prog w) A (Builtin.«zip.__next__» ⟨[.ref z],[]⟩) (λfin s'=>∃v,fin=.done (.ret v)/\Q v s') E s:=by
 show wpAny _ _ (field (.ref z) 2 >>= _) _ _ _;refine wpAny_bind (wpAny_field gz rfl (x:=.bool false) rfl ?_);show wpAny _ _ (field (.ref z) 3 >>= _) _ _ _;refine wpAny_bind (wpAny_field gz rfl (x:=.ref I) rfl (wpAny_bind (wpAny_seqItems gI rfl ?_)));show wpAny _ _ (Builtin.SmallTypes.ownedTupleIsFree (.ref z) >>= _) _ _ _;refine wpAny_bind ?_;unfold Builtin.SmallTypes.ownedTupleIsFree;refine wpAny_bind (wpAny_field gz rfl (x:=.none) rfl (wpAny_pure ?_));simp only[if_true];refine wpAny_bind (wpAny_rule (wpAny_bind (wpAny_field gz rfl (x:=.ref O) rfl (wpAny_bind (wpAny_setField_rec gz (by simp) λha za sa=>?_)))))
 replace za:IsZip ha z I O .ellipsis:=za
 refine wpAny_bind ?_;simp only[List.zipIdx_cons,List.zipIdx_nil,w2e,w3g];refine wpAny_bind (wpAny_bind (wpAny_onRaise ?_));show wpAny _ _ (Builtin.SmallTypes.nextOf (.ref i) >>= _) _ _ _;refine wpAny_bind (JC (s:={s with heap:=ha}) (g1.keep λo e=>sa.extBut _ _ D.iz e) (l1.keep λo e=>sa.extBut _ _ D.az e) hx λhb ib sb=>wpAny_pure ?_)
 have Ob:IsPair hb O p q:=sb.extBut _ _ D.Oi (sa.extBut _ _ D.Oz gO);refine wpAny_bind (wpAny_seqItems Ob rfl (wpAny_bind (wpAny_updateSeq_pair Ob λJ Oc sc=>?_)))
 replace Oc:IsPair J O x q:=Oc
 refine wpAny_bind (wpAny_letGo (wpAny_pure (wpAny_bind (wpAny_bind (wpAny_onRaise ?_)))));show wpAny _ _ (Builtin.SmallTypes.nextOf (.ref j) >>= _) _ _ _;refine wpAny_bind (JC (s:={s with heap:=J}) (g2.keep λo e=>sc.extBut _ _ D.Oj.symm (sb.extBut _ _ D.ij.symm (sa.extBut _ _ D.jz e))) (l2.keep λo e=>sc.extBut _ _ D.bO (sb.extBut _ _ D.bi (sa.extBut _ _ D.bz e))) hy λhd jd sd=>wpAny_pure ?_)
 have Od:IsPair hd O x q:=sd.extBut _ _ D.Oj Oc;refine wpAny_bind (wpAny_seqItems Od rfl (wpAny_bind (wpAny_updateSeq_pair Od λhe Oe se=>?_)))
 replace Oe:IsPair he O x y:=Oe
 refine wpAny_bind (wpAny_letGo (wpAny_pure (wpAny_pure (wpAny_bind (wpAny_seqItems Oe rfl (wpAny_bind (wpAny_newTuple ?_)))))));have sz:he.objs.size=s.heap.objs.size:=by rw[se.1,sd.1,sc.1,sb.1,sa.1]
 have ze:IsZip he z I O .ellipsis:=se.extBut _ _ D.Oz.symm (sd.extBut _ _ D.jz.symm (sc.extBut _ _ D.Oz.symm (sb.extBut _ _ D.iz.symm za)));have ke:∀c o,c≠z->c≠O->c≠i->c≠j->s.heap.get? c=some o->he.get? c=some o:=λc o c1 c2 c3 c4 e=>se.extBut _ _ c2 (sd.extBut _ _ c4 (sc.extBut _ _ c2 (sb.extBut _ _ c3 (sa.extBut _ _ c1 e))))
 have ie:cR t i a (k+1) he:=ib.keep λo e=>se.extBut _ _ D.Oi.symm (sd.extBut _ _ D.ij (sc.extBut _ _ D.Oi.symm e))
 have je:cR u j b (k+1) he:=jd.keep λo e=>se.extBut _ _ D.Oj.symm e
 have EJ:z<he.objs.size:=Heap.lt_size ze;show wpAny _ _ (Builtin.SmallTypes.ownedTupleHandOut (.ref z) (.ref he.objs.size) >>= _) _ _ _;refine wpAny_bind ?_;unfold Builtin.SmallTypes.ownedTupleHandOut;have zf:IsZip (he.push {cls:=.type "tuple", data:=.seq #[x,y]}) z I O .ellipsis:=Heap.get?_push_of_some _ ze;refine wpAny_bind (wpAny_setField_rec zf (by simp) λhg zg sg=>?_)
 replace zg:IsZip hg z I O (rawInt he.objs.size):=zg
 refine wpAny_setField_rec zg (by simp) λhk zk sk=>?_
 replace zk:IsZip hk z I O (rawInt he.objs.size):=zk
 have up:∀c o,c≠z->he.get? c=some o->hk.get? c=some o:=λc o c1 e=>sk.extBut _ _ c1 (sg.extBut _ _ c1 (Heap.get?_push_of_some _ e))
 have Tk:IsPair hk he.objs.size x y:=sk.extBut _ _ (w3e EJ) (sg.extBut _ _ (w3e EJ) (Heap.get?_push_size _ rfl));have nk:hk.objs.size=he.objs.size+1:=by rw[sk.1,sg.1,Heap.size_push]
 rw[sz]at zk Tk nk;refine wpAny_pure ⟨_,rfl,?_⟩;show Q (.ref he.objs.size) _;rw[sz];exact hQ hk zk (up _ _ D.Oz Oe) (ie.keep λo e=>up _ o D.iz e) (je.keep λo e=>up _ o D.jz e) Tk nk λc o c1 c2 c3 c4 e=>up c o c1 (ke c o c1 c2 c3 c4 e)
theorem z5v{i:Addr}(hh:A.handled=none)(D:Apart z I O i j a b)
  (gz:IsZip s.heap z I O .none)(gI:IsPair s.heap I (.ref i) (.ref j))(gO:IsPair s.heap O p q)
  (g1:cR t i a k s.heap)(g2:cR u j b k s.heap)(l1:eC t a xs s.heap)(l2:eC u b ys s.heap)(Ac:xs[k]?=none\/ys[k]?=none)
  (hE:∀h' e,(∀c o,c≠z->c≠O->c≠i->c≠j->s.heap.get? c=some o->h'.get? c=some o)->(∃o,h'.get? e=some o/\o.cls=.type "StopIteration")->E (.ref e) {s with heap:=h'}):
  wpAny (model prog w) A (Builtin.«zip.__next__» ⟨[.ref z],[]⟩) Q E s:=by
 show wpAny _ _ (field (.ref z) 2 >>= _) _ _ _;refine wpAny_bind (wpAny_field gz rfl (x:=.bool false) rfl ?_);show wpAny _ _ (field (.ref z) 3 >>= _) _ _ _;refine wpAny_bind (wpAny_field gz rfl (x:=.ref I) rfl (wpAny_bind (wpAny_seqItems gI rfl ?_)));show wpAny _ _ (Builtin.SmallTypes.ownedTupleIsFree (.ref z) >>= _) _ _ _;refine wpAny_bind ?_;unfold Builtin.SmallTypes.ownedTupleIsFree;refine wpAny_bind (wpAny_field gz rfl (x:=.none) rfl (wpAny_pure ?_));simp only[if_true];refine wpAny_bind (wpAny_rule (wpAny_bind (wpAny_field gz rfl (x:=.ref O) rfl (wpAny_bind (wpAny_setField_rec gz (by simp) λha za sa=>?_)))))
 replace za:IsZip ha z I O .ellipsis:=za
 refine wpAny_bind ?_;simp only[List.zipIdx_cons,List.zipIdx_nil,w2e,w3g];refine wpAny_bind (wpAny_bind (wpAny_onRaise ?_));show wpAny _ _ (Builtin.SmallTypes.nextOf (.ref i) >>= _) _ _ _;cases hx:xs[k]? with
 |none=>
  refine wpAny_bind (PR (s:={s with heap:=ha}) hh (g1.keep λo e=>sa.extBut _ _ D.iz e) (l1.keep λo e=>sa.extBut _ _ D.az e) hx λhb e sb ge=>?_)
  obtain⟨oe,FP,Fv⟩:=ge;have zb:IsZip hb z I O .ellipsis:=sb _ _ D.iz.symm za;have nz:e≠z:=λx=>by grind
  refine wpAny_setField_rec zb (by simp) λJ _ sc=>hE J e (λc o c1 _ c3 _ x=>sc.extBut _ _ c1 (sb _ _ c3 (sa.extBut _ _ c1 x))) ⟨oe,sc.extBut _ _ nz FP,Fv⟩
 |some x=>
  have hy:ys[k]?=none:=by grind
  refine wpAny_bind (JC (s:={s with heap:=ha}) (g1.keep λo e=>sa.extBut _ _ D.iz e) (l1.keep λo e=>sa.extBut _ _ D.az e) hx λhb ib sb=>wpAny_pure ?_)
  have Ob:IsPair hb O p q:=sb.extBut _ _ D.Oi (sa.extBut _ _ D.Oz gO);refine wpAny_bind (wpAny_seqItems Ob rfl (wpAny_bind (wpAny_updateSeq_pair Ob λJ Oc sc=>?_)))
  refine wpAny_bind (wpAny_letGo (wpAny_pure (wpAny_bind (wpAny_bind (wpAny_onRaise ?_)))));show wpAny _ _ (Builtin.SmallTypes.nextOf (.ref j) >>= _) _ _ _;refine wpAny_bind (PR (s:={s with heap:=J}) hh (g2.keep λo e=>sc.extBut _ _ D.Oj.symm (sb.extBut _ _ D.ij.symm (sa.extBut _ _ D.jz e))) (l2.keep λo e=>sc.extBut _ _ D.bO (sb.extBut _ _ D.bi (sa.extBut _ _ D.bz e))) hy λhd e sd ge=>?_)
  obtain⟨oe,FP,Fv⟩:=ge;have zd:IsZip hd z I O .ellipsis:=sd _ _ D.jz.symm (sc.extBut _ _ D.Oz.symm (sb.extBut _ _ D.iz.symm za));have nz:e≠z:=λx=>by grind
  refine wpAny_setField_rec zd (by simp) λhe _ se=>hE he e (λc o c1 c2 c3 c4 x=>se.extBut _ _ c1 (sd _ _ c4 (sc.extBut _ _ c2 (sb.extBut _ _ c3 (sa.extBut _ _ c1 x))))) ⟨oe,se.extBut _ _ nz FP,Fv⟩
theorem Yq{i:Addr}(D:Apart z I O i j a b)
  (gz:IsZip s.heap z I O .none)(gI:IsPair s.heap I (.ref i) (.ref j))(gO:IsPair s.heap O p q)
  (g1:cR t i a k s.heap)(g2:cR u j b k s.heap)(l1:eC t a xs s.heap)(l2:eC u b ys s.heap)(hx:xs[k]?=some x)(hy:ys[k]?=some y)
  (hQ:∀h',IsZip h' z I O (rawInt s.heap.objs.size)->IsPair h' O x y->cR t i a (k+1) h'->cR u j b (k+1) h'->IsPair h' s.heap.objs.size x y->h'.objs.size=s.heap.objs.size+1 ->
   (∀c o,c≠z->c≠O->c≠i->c≠j->s.heap.get? c=some o->h'.get? c=some o)->Q (some (.ref s.heap.objs.size)) {s with heap:=h'}):wpAny (model prog w) A (pyNext (.ref z)) Q E s:=by
 have hT:s.TypeIs (.ref z) "zip":=⟨_,gz,rfl⟩;unfold pyNext;exact wpAny_bind (wpAny_attempt (wpAny_callSpecial?_slot (name:=Str.ofString "__next__") hT F.slot_zip_next (wpAny_call_entry F.slot_zip_next hT F.entry_zip_next (Ye D gz gI gO g1 g2 l1 l2 hx hy λh' a1 a2 a3 a4 a5 a6 a7=>wpAny_pure (hQ h' a1 a2 a3 a4 a5 a6 a7)) (F.args_zip_next_1 _))))
theorem Yr{i:Addr}(hh:A.handled=none)(D:Apart z I O i j a b)
  (gz:IsZip s.heap z I O .none)(gI:IsPair s.heap I (.ref i) (.ref j))(gO:IsPair s.heap O p q)
  (g1:cR t i a k s.heap)(g2:cR u j b k s.heap)(l1:eC t a xs s.heap)(l2:eC u b ys s.heap)(Ac:xs[k]?=none\/ys[k]?=none)
  (hQ:∀h',(∀c o,c≠z->c≠O->c≠i->c≠j->s.heap.get? c=some o->h'.get? c=some o)->Q none {s with heap:=h'}):wpAny (model prog w) A (pyNext (.ref z)) Q E s:=by
 have hT:s.TypeIs (.ref z) "zip":=⟨_,gz,rfl⟩;unfold pyNext;refine wpAny_bind (wpAny_attempt (wpAny_callSpecial?_slot (name:=Str.ofString "__next__") hT F.slot_zip_next (wpAny_call_entry F.slot_zip_next hT F.entry_zip_next (z5v hh D gz gI gO g1 g2 l1 l2 Ac λh' e hk he=>?_) (F.args_zip_next_1 _))))
 obtain⟨o,ho,J⟩:=he;exact wpAny_bind (wpAny_isInstance (T:="StopIteration") (b:=true) ⟨o,ho,J⟩ isSubtype_stop (wpAny_pure (hQ _ hk)))
end
noncomputable def Ge(t:Bool):String:=if t=true then "tuple_iterator" else "list_iterator"
noncomputable abbrev Ci(t:Bool)(h:Heap)(a:Addr):Heap:=h.push {cls:=.type (Ge t),data:=.fields #[.ref a,.int 0 0]}
noncomputable abbrev EK(t u:Bool)(h:Heap)(a b:Addr):Heap:=(Ci t h a).push {cls:=.type (Ge u),data:=.fields #[.ref b,.int 0 0]}
noncomputable abbrev EL(t u:Bool)(h:Heap)(a b:Addr):Heap:=(EK t u h a b).push {cls:=.type "tuple", data:=.seq #[.ref h.objs.size,.ref (Ci t h a).objs.size]}
noncomputable abbrev EM(t u:Bool)(h:Heap)(a b:Addr):Heap:=(EL t u h a b).push {cls:=.type "tuple", data:=.seq #[.none,.none]}
noncomputable abbrev xX(t u:Bool)(h:Heap)(a b:Addr):Heap:=(EM t u h a b).push {cls:=.type "zip", data:=.fields #[.none,.bool false,.bool false,.ref (EK t u h a b).objs.size,.ref (EL t u h a b).objs.size]}
theorem z5w(t u)(a b)(xs ys):
  Meets (Builtin.«zip.__new__» ⟨[.type "zip", .ref a,.ref b],[]⟩) (λ_ R s=>eC t a xs s.heap/\eC u b ys s.heap/\R (.ok (.ret (.ref (EM t u s.heap a b).objs.size))) {s with heap:=xX t u s.heap a b}):=
 .of_wp λprog w A R s hyp=>by
  obtain⟨hp,g,d,tk,os⟩:=s;obtain⟨g1,g2,h⟩:=hyp;have Sg:=sub_zip;have q2:eC u b ys (Ci t hp a):=g2.keep λo e=>Heap.get?_push_of_some _ e
  cases t with
  |false=>
   have p1:Heap.IsList (Shared.heap ⟨hp,g,d,tk,os⟩) a xs:=g1;cases u with
   |false=>
    have p2:Heap.IsList (Shared.heap ⟨hp.push {cls:=.type "list_iterator", data:=.fields #[.ref a,.int 0 0]},g,d,tk,os⟩) b ys:=q2
    wp_walk using wpAny_pyIter_list p1,wpAny_pyIter_list p2
    exact⟨_,rfl,h⟩
   |true=>
    have p2:Heap.IsTuple (Shared.heap ⟨hp.push {cls:=.type "list_iterator", data:=.fields #[.ref a,.int 0 0]},g,d,tk,os⟩) b ys:=q2
    wp_walk using wpAny_pyIter_list p1,wpAny_pyIter_tuple p2
    exact⟨_,rfl,h⟩
  |true=>
   have p1:Heap.IsTuple (Shared.heap ⟨hp,g,d,tk,os⟩) a xs:=g1;cases u with
   |false=>
    have p2:Heap.IsList (Shared.heap ⟨hp.push {cls:=.type "tuple_iterator", data:=.fields #[.ref a,.int 0 0]},g,d,tk,os⟩) b ys:=q2
    wp_walk using wpAny_pyIter_tuple p1,wpAny_pyIter_list p2
    exact⟨_,rfl,h⟩
   |true=>
    have p2:Heap.IsTuple (Shared.heap ⟨hp.push {cls:=.type "tuple_iterator", data:=.fields #[.ref a,.int 0 0]},g,d,tk,os⟩) b ys:=q2
    wp_walk using wpAny_pyIter_tuple p1,wpAny_pyIter_tuple p2
    exact⟨_,rfl,h⟩
section
variable{s:Shared}
theorem NK(e:h.get? j=some o)(c:o.cls=.type (Ge t))(d:o.data=.fields #[.ref a,.int 0 0]):cR t j a 0 h:=by
 cases t with
 |true=>exact(show h.IsTupleIter j a 0 from⟨o,e,c,d⟩)
 |false=>exact(show h.IsListIter j a 0 from⟨o,e,c,d⟩)
theorem Vl(g1:eC t a xs s.heap)(g2:eC u b ys s.heap)
  (h:∀h',IsZip h' (s.heap.objs.size+4) (s.heap.objs.size+2) (s.heap.objs.size+3) .none->IsPair h' (s.heap.objs.size+2) (.ref s.heap.objs.size) (.ref (s.heap.objs.size+1)) ->
   IsPair h' (s.heap.objs.size+3) .none .none->cR t s.heap.objs.size a 0 h'->cR u (s.heap.objs.size+1) b 0 h'->(∀c o,s.heap.get? c=some o->h'.get? c=some o)->Q (.ref (s.heap.objs.size+4)) {s with heap:=h'}):
  wpAny (model prog w) A (call (.type "zip") [.ref a,.ref b]) Q E s:=by
 refine callType_new F.called_zip (by decide) (F.typeCall_zip_2 _ _) (F.newCall_zip_2 _ _) (λobj=>F.args_object_init_3 obj _ _) F.entry_zip_new (z5w t u a b xs ys) ⟨g1,g2,?_⟩
 have n1:(Ci t s.heap a).objs.size=s.heap.objs.size+1:=Heap.size_push ..;have n2:(EK t u s.heap a b).objs.size=s.heap.objs.size+2:=by rw[Heap.size_push,n1]
 have n3:(EL t u s.heap a b).objs.size=s.heap.objs.size+3:=by rw[Heap.size_push,n2]
 have n4:(EM t u s.heap a b).objs.size=s.heap.objs.size+4:=by rw[Heap.size_push,n3]
 have k5:(xX t u s.heap a b).get? (EM t u s.heap a b).objs.size=some _:=Heap.get?_push_size _ rfl;have k4:(xX t u s.heap a b).get? (EL t u s.heap a b).objs.size=some _:=Heap.get?_push_of_some _ (Heap.get?_push_size _ rfl);have k3:(xX t u s.heap a b).get? (EK t u s.heap a b).objs.size=some _:=Heap.get?_push_of_some _ (Heap.get?_push_of_some _ (Heap.get?_push_size _ rfl));have k2:(xX t u s.heap a b).get? (Ci t s.heap a).objs.size=some _:=Heap.get?_push_of_some _ (Heap.get?_push_of_some _ (Heap.get?_push_of_some _ (Heap.get?_push_size _ rfl)));have k1:(xX t u s.heap a b).get? s.heap.objs.size=some _:=Heap.get?_push_of_some _ (Heap.get?_push_of_some _ (Heap.get?_push_of_some _ (Heap.get?_push_of_some _ (Heap.get?_push_size _ rfl))));have up:∀c o,s.heap.get? c=some o->(xX t u s.heap a b).get? c=some o:=λc o e=>Heap.get?_push_of_some _ (Heap.get?_push_of_some _ (Heap.get?_push_of_some _ (Heap.get?_push_of_some _ (Heap.get?_push_of_some _ e))))
 show _/\_;rw[n2,n3,n4]at k5;rw[n1,n2]at k3;rw[n3]at k4;rw[n1]at k2;rw[n4];exact⟨⟨_,k5,rfl⟩,h _ k5 k3 k4 (NK k1 rfl rfl) (NK k2 rfl rfl) up⟩
end
noncomputable def nu(K:Fg)(t:Bool)(H:Hp)(a:Addr)(xs:List V):Prop:=if t=true then eK K H a xs else cy K H a xs
theorem yS(I:Inv X pins σ H s)(h:nu X.K t H a xs):∃aB:List Value,Vals xs aB/\eC t a aB.toArray s.heap:=by
 cases t with
 |true=>
  obtain⟨aB,r,p,_⟩:=I.tuple h;exact⟨aB,r,(show s.heap.IsTuple a aB.toArray from p)⟩
 |false=>
  obtain⟨aB,r,p,_⟩:=I.list h;exact⟨aB,r,p.isList⟩
theorem PU(I:Inv X pins σ H s)(h:nu X.K t H a xs)(h':nu X.K t H a ys):xs=ys:=by
 cases t with
 |true=>exact I.jh h h'
 |false=>exact I.kq h h'
theorem eC.obj(x:eC t a vs h):∃o,h.get? a=some o/\o.cls=.type (if t=true then "tuple" else "list"):=by
 cases t with
 |true=>obtain⟨o,ho,c,_⟩:=(show h.IsTuple a vs from x);exact⟨o,ho,c⟩
 |false=>obtain⟨o,ho,c,_⟩:=(show h.IsList a vs from x);exact⟨o,ho,c⟩
theorem Uq{fp:List Addr}(I:Inv X pins σ H s)(k:∀b o,b∉fp->s.heap.get? b=some o->h'.get? b=some o)(hf:∀b∈fp,ig X pins H b):Inv X pins σ H {s with heap:=h',toks:=t'}:=by
 have SF:∀c u,H c=some u->c∉fp:=λc u e z=>by rw[(hf c z).1]at e;cases e
 refine I.step (g':=s.gens) (d':=s.drawn) (ch:=fp) (λc J=>?_) (λc o _ _ J e _=>k c o J e) (λc o _ _ J e _=>⟨o.slots,k c o J e⟩) (λc o _ e n=>n)
  (λc o J e=>⟨o,k c o J e⟩) (λc xs e=>e) (λc o u e=>e) (λc ps e=>⟨#[],by rw[e];simp⟩) (λm hm=>?_) (λc u e=>?_) I.bare
 .obtain⟨f0,f1,f2,f3,f4,f5⟩:=hf c J
  grind
 .obtain⟨o,es,ep,ho,r⟩:=hm;exact⟨o,es,ep,k _ o (λz=>(hf _ z).2.1 rfl) ho,r⟩
 .refine(I.aR c u e).fR (λd v hd q=>k d v ?_ q) (λd q=>q) λd xs _ q=>q
  grind
noncomputable def EV(K:Fg)(t u:Bool)(a b:Addr):It:=
  ⟨λi H=>∃xs ys x y,nu K t H a xs/\nu K u H b ys/\xs[i]?=some x/\ys[i]?=some y,
   λi H v H'=>∃c x y,v=.ref c/\H c=none/\(∀xs,nu K t H a xs->xs[i]?=some x)/\(∀ys,nu K u H b ys->ys[i]?=some y)/\H'=upd H c (.tup [x,y]),
   λi H=>∃xs ys,nu K t H a xs/\nu K u H b ys/\(xs.length<=i\/ys.length<=i)⟩
theorem WR(t u)(a b z I O i j)(D:Apart z I O i j a b):
  Turn P w K (.Tuple elts kt pt) (EV K t u a b) [z,I,O,i,j] z (λk h=>IsZip h z I O .none/\IsPair h I (.ref i) (.ref j)/\(∃p q,IsPair h O p q)/\cR t i a k h/\cR u j b k h) where
 mem:=by simp
 obj:=λk h ⟨s1,s2,⟨p,q,s3⟩,s4,s5⟩ c J=>by
  simp only[w0m,w2y,or_false]at J
  grind [cR.obj]
 keep:=λk h h' ⟨s1,s2,⟨p,q,s3⟩,s4,s5⟩ f=>⟨f z (by simp) _ s1,f I (by simp) _ s2,⟨p,q,f O (by simp) _ s3⟩,s4.keep λo e=>f i (by simp) o e,s5.keep λo e=>f j (by simp) o e⟩
 item:=by
  intro X hP hw hK J k pins s σ H E Iv hf st hg;subst hP hw hK;obtain⟨s1,s2,⟨p,q,s3⟩,s4,s5⟩:=st;obtain⟨xs,ys,x,y,q1,q2,hx,hy⟩:=hg;obtain⟨Lj,r1,p1⟩:=yS Iv q1;obtain⟨Lk,r2,p2⟩:=yS Iv q2;obtain⟨ux,Sn,S1⟩:=r1.get hx;obtain⟨uy,So,S2⟩:=r2.get hy;refine Yq D s1 s2 s3 s4 s5 p1 p2 (x:=ux) (y:=uy) (by simpa using Sn) (by simpa using So) λC z1 o1 i1 j1 t1 n1 k1=>⟨_,rfl,?_⟩
  refine wpAny_letOwnedTupleGo_zip z1 λh2 z2 b2=>?_
  have b2:Heap.SameBut z C h2:=b2;have EJ:z<s.heap.objs.size:=Heap.lt_size s1;have uV:H s.heap.objs.size=none:=Iv.aR.fresh (w0c _);have t2:IsPair h2 s.heap.objs.size ux uy:=(b2.2 _ (w3e EJ)).trans t1;have I1:IsPair C I (.ref i) (.ref j):=k1 I _ D.Iz D.IO D.Ii D.Ij s2;refine⟨.ref s.heap.objs.size,upd H s.heap.objs.size (.tup [x,y]),?_,rfl,⟨_,x,y,rfl,uV,λjE h'=>by grind [PU],λCf h'=>by grind [PU],rfl⟩,⟨z2,(b2.2 _ D.Iz).trans I1,⟨ux,uy,(b2.2 _ D.Oz).trans o1⟩,i1.keep λo e=>(b2.2 _ D.iz).trans e,j1.keep λo e=>(b2.2 _ D.jz).trans e⟩,λc J=>?_⟩
  .show L2.Inv X pins σ _ {s with heap:=h2,toks:=s.toks};refine Vt (fp:=[z,I,O,i,j]) Iv (λc o J q=>?_) hf (w0c _) ⟨?_,[ux,uy],.cons S1 (.cons S2 .nil),⟨_,t2,rfl,?_⟩,⟨_,t2,rfl⟩⟩
   .simp only[w0m,w2y,or_false,not_or]at J;exact(b2.2 c J.1).trans (k1 c o J.1 J.2.2.1 J.2.2.2.1 J.2.2.2.2 q)
   all_goals grind [sizeLine_eq]
  .have:c≠s.heap.objs.size:=by
    obtain⟨o,q,_⟩:∃o,s.heap.get? c=some o/\True:=by
     simp only[w0m,w2y,or_false]at J
     grind [cR.obj]
    exact w0o (Heap.lt_size q)
   rw[aP this];exact(hf c J).1
 done:=by
  intro X hP hw hK J k pins s σ H E Iv hf st hg;subst hP hw hK;obtain⟨s1,s2,⟨p,q,s3⟩,s4,s5⟩:=st;obtain⟨xs,ys,q1,q2,hlen⟩:=hg;obtain⟨Lj,r1,p1⟩:=yS Iv q1;obtain⟨Lk,r2,p2⟩:=yS Iv q2;have l1:=r1.length;have l2:=r2.length;refine Yr (Iv.ok.hd J) D s1 s2 s3 s4 s5 p1 p2 (by grind) λh' k1=>⟨rfl,?_⟩
  have uU:∀c∈[z,I,O,i,j],ig X pins H c:=hf;refine Uq (fp:=[z,I,O,i,j]) (t':=s.toks) Iv (λc o J q=>?_) uU
  grind
 self:=λ_ _ _ _ _ ⟨s1,_⟩ h=>wpAny_pyIter_zip s1 h
theorem Vm(n a b:Nat)(ha:a<n)(hb:b<n):Apart (n+4) (n+2) (n+3) n (n+1) a b where
 Iz:=by grind
 Oz:=by grind
 iz:=by grind
 jz:=by grind
 IO:=by grind
 Ii:=by grind
 Ij:=by grind
 Oi:=by grind
 Oj:=by grind
 ij:=by grind
 az:=by grind
 aO:=by grind
 ai:=by grind
 aj:=by grind
 bz:=by grind
 bO:=by grind
 bi:=by grind
 bj:=by grind
section
variable{EE:L2.St->XK}{a1 a2:Expr}{pt:Pos}
noncomputable def F7(K:Fg)(ta:TA):TI:=λσ H R=>ta σ H λvs H1=>∃t u a b,vs=[.ref a,.ref b]/\(∃xs,nu K t H1 a xs)/\(∃ys,nu K u H1 b ys)/\R (EV K t u a b) H1
theorem z5x{elts:List Expr}{ta:TA}{p:Pos}(hg:Gl X "zip")(hm:X.mg "zip"=none)(ha:PA X [a1,a2] ta)(hs:autoParam (starEach [a1,a2] X.env=[(false,eval a1 X.env),(false,eval a2 X.env)]) jJ)(pZ:autoParam (starEach [a2] X.env=[(false,eval a2 X.env)]) jJ):
  PI X (.Tuple elts kt pt) (.Call (.Name "zip" p) [a1,a2] [] pos) (F7 X.K ta):=by
 intro pins s σ H R I h;refine PyProof.Rows.Call_ (vy I hg hm PyProof.Rows.boot_zip (PyProof.Rows.callWith_type1 (bB (ha pos pins s σ H _ I h) λus s1 ⟨vs,H1,I1,r1,q1⟩=>?_) (by rw[hs,pZ]) (by rw[pZ];rfl)))
 obtain⟨t,u,a,b,e,⟨xs,hx⟩,⟨ys,hy⟩,q⟩:=q1;subst e;cases r1 with
 |cons r rr=>
  cases rr with
  |cons r' rr=>
   cases rr;cases r;cases r';obtain⟨Lj,v1,p1⟩:=yS I1 hx;obtain⟨Lk,v2,p2⟩:=yS I1 hy;obtain⟨oa,ea,_⟩:=p1.obj;obtain⟨ob,eb,_⟩:=p2.obj;have la:=Heap.lt_size ea;have lb:=Heap.lt_size eb;refine Vl p1 p2 λh' z1 i1 o1 k1 k2 up=>?_
   refine wpAny_pyIter_zip z1 ?_
   have D:Apart (s1.heap.objs.size+4) (s1.heap.objs.size+2) (s1.heap.objs.size+3) s1.heap.objs.size (s1.heap.objs.size+1) a b:=by
    grind [Vm]
   refine⟨s1.heap.objs.size+4,[s1.heap.objs.size+4,s1.heap.objs.size+2,s1.heap.objs.size+3,s1.heap.objs.size,s1.heap.objs.size+1],_,_,H1,rfl,I1.kept (t':=s1.toks) up,WR t u a b _ _ _ _ _ D,⟨z1,i1,⟨_,_,o1⟩,k1,k2⟩,λc J=>?_,q⟩
   simp only[w0m,w2y,or_false]at J;rcases J with rfl|rfl|rfl|rfl|rfl<;>exact I1.pk (by omega) (I1.aR.fresh (by omega))
noncomputable def jD(dA:Den (List W)):Den (List (W×W)):=λe=>(dA e).bind λws e1=>match ws with
 |[x,y]=>match gQ x,gQ y with
  |some us,some vs=>.ok (us.zip vs) e1
  |_,_=>.no
 |_=>.no
theorem ON(h:gQ w=some us)(p:Rep K G w v):∃t a xs,v=.ref a/\nu K t G a xs/\aw K G us xs:=by
 cases w with
 |tup l=>
  cases h;obtain⟨a,xs,rfl,hq,rp⟩:=p;exact⟨true,a,xs,rfl,hq,rp⟩
 |lst l=>
  cases h;obtain⟨a,xs,rfl,hq,rp⟩:=p;exact⟨false,a,xs,rfl,hq,rp⟩
 |_=>cases h
theorem oV(s:av G H)(h:nu K t G a xs):nu K t H a xs:=by
 cases t with
 |true=>exact s.tup h
 |false=>exact s.seq h
theorem VI(r1:aw K G1 us xs)(r2:aw K G1 vs ys)(C:nu K t G1 a xs)(h2:nu K u G1 b ys):mI K G1 (EV K t u a b) (us.zip vs):=by
 have l1:=r1.length;have l2:=r2.length;have lz:(us.zip vs).length=min us.length vs.length:=List.length_zip ..;refine⟨λi G H s s' h=>⟨xs,ys,xs[i]'(by omega),ys[i]'(by omega),oV s' (oV s C),oV s' (oV s h2),by simp,by simp⟩,λi G H x H' s s' hy p q h=>?_,λi G H s s' h=>⟨xs,ys,oV s' (oV s C),oV s' (oV s h2),by omega⟩⟩
 obtain⟨c,x1,y1,rfl,hn,Su,Sw,rfl⟩:=hy;obtain⟨hu,hv⟩:=List.getElem?_zip_eq_some.mp h;obtain⟨w1,Le,SO⟩:=r1.kX (Su xs (oV s' (oV s C)));obtain⟨w2,Lf,SS⟩:=r2.kX (Sw ys (oV s' (oV s h2)));rw[hu]at Le;rw[hv]at Lf;cases Le;cases Lf;exact⟨aQ.ny s' hn _,λm n σ Q hQ=>⟨c,[x1,y1],rfl,eK.of bI,rfl,x1,[y1],rfl,y1,[],rfl,rfl,hQ _ _ (Rep.mono s _ SO) (Rep.mono s _ SS)⟩⟩
theorem z5y{elts:List Expr}{p:Pos}(hm:X.mg "zip"=none)(ha:DA Z X EE [a1,a2] dA)(hg:autoParam (Gl X "zip") jJ)(hs:autoParam (starEach [a1,a2] X.env=[(false,eval a1 X.env),(false,eval a2 X.env)]) jJ)(pZ:autoParam (starEach [a2] X.env=[(false,eval a2 X.env)]) jJ):
  DI Z X EE (.Tuple elts kt pt) (.Call (.Name "zip" p) [a1,a2] [] pos) (jD dA):=by
 refine PI.mono (z5x hg hm ha hs pZ) ?_;rintro σ H RR ⟨G,e,rel,h⟩;simp only[jD,R.ay]at h;refine⟨G,e,rel,h.imp (λws e1 h G1 vs H1 r1 s1 p1=>?_) λ_ _ h=>h⟩
 split at h
 .rename_i w1 w2;split at h
  .rename_i us ws hu hw;obtain⟨y1,r,rfl,q1,y2,r',rfl,q2,q3⟩:=p1;cases(show r'=[]from q3);obtain⟨t,a,xs,rfl,hx,rx⟩:=ON hu q1;obtain⟨u,b,ys,rfl,hy,ry⟩:=ON hw q2;exact⟨t,u,a,b,rfl,⟨xs,oV r1.sub hx⟩,⟨ys,oV r1.sub hy⟩,h _ _ _ r1 s1 (VI rx ry hx hy)⟩
  .exact h.elim
 .exact h.elim
end
noncomputable def nh(e:List S):List W->R (List (W×W))
 |[x,y]=>match gQ x,gQ y with
  |some us,some vs=>.ok (us.zip vs) e
  |_,_=>.no
 |_=>.no
theorem z5z:jD dA e=(dA e).bind λws e1=>nh e1 ws:=by
 unfold jD;congr 1
theorem y5n:nh e [.tup us,.tup vs]=.ok (us.zip vs) e:=rfl
theorem y5o:nh e [.lst us,.lst vs]=.ok (us.zip vs) e:=rfl
theorem y5p:nh e [.tup us,.lst vs]=.ok (us.zip vs) e:=rfl
theorem y5q:nh e [.lst us,.tup vs]=.ok (us.zip vs) e:=rfl
noncomputable def lu(i:Nat)(f:List W->List W):List S->SR:=λe=>match e[i]? with
 |some (.own b ws)=>.nx (e.set i (.own b (f ws)))
 |_=>.no
theorem aw.rev:∀{ws:List W}{xs:List V},aw K G ws xs->aw K G ws.reverse xs.reverse
 |[],xs,h=>by cases(show xs=[]from h);exact rfl
 |w::ws,xs,h=>by
  obtain⟨v,vs,rfl,p,r⟩:=h;rw[w1t,w1t];exact(aw.rev r).append (.one p)
section
variable{EE:L2.St->XK}{x:Str}{p:Pos}
theorem Z5(i:Nat)(hN:autoParam (X.N[i]?=some x) jJ)(hv:autoParam (j0 X.env.scope x) jN)(hd:autoParam ((x==("__debug__":Str))=false) jK)(dU:autoParam ((x==("__classdict__":Str))=false) jK)
  (eR:autoParam (attributeBase (.Name x p) "reverse" X.env (eval (.Name x p) X.env)=eval (.Name x p) X.env) jJ)(eT:autoParam ((apos.endLine==cA.line)=true) jJ)(nY:autoParam (swapsWith (.Call (.Attribute (.Name x p) "reverse" apos) [] [] cA) none pos.line X.env=pure false) jJ):
  DS Z X EE (.Expr (.Call (.Attribute (.Name x p) "reverse" apos) [] [] cA) pos) (lu i List.reverse):=by
 refine PS.mono (Jv (ZM PySem.F.plainAttrs_list PySem.F.slot_list_reverse PySem.F.type_list_reverse UB (pv i hN hv hd dU) eR eT) nY) ?_;rintro D σ H ⟨G,e,rel,h⟩;unfold lu at h;split at h
 .rename_i b ws he;obtain⟨a,xs,C,h2,h3,h4,h5⟩:=rel.own he;refine⟨.ref a,C,.inl ⟨rfl,xs,cy.of h2⟩,a,xs,rfl,rfl,h2,?_⟩;exact h G σ _ (rel.mut he C (aw.rev h5)) (.refl _)
 .exact h.elim
end
section
variable{EE:L2.St->XK}{o e a b c:Expr}{dc:Den W}{p1 p2 p3:Pos}{x y:Str}
noncomputable def g_(i j:Nat)(d:Den W):List S->SR:=λe=>(d e).cQ λw e1=>match w with
 |.tup [u,v]=>.nx ((e1.set i (.fr u)).set j (.fr v))
 |_=>.no
theorem Ys(i j:Nat)(hN:X.N.Nodup)(J:X.calm=true)(he:DE Z X EE e d)
  (hi:autoParam (X.N[i]?=some x) jJ)(hx:autoParam (Loc X.env.scope x) jM)(hf:autoParam (X.fn x=true\/X.env.scope.names.lookup x=some .local) jL)
  (hj:autoParam (X.N[j]?=some y) jJ)(hy:autoParam (Loc X.env.scope y) jM)(Ae:autoParam (X.fn y=true\/X.env.scope.names.lookup y=some .local) jL)
  (hn:autoParam ((assignEach [.Name x p1,.Name y p2] X.env).length=2) jJ)(i9:autoParam ((assignEach [.Name x p1,.Name y p2] X.env).findIdx? (·.1)=none) jJ)
  (g1:autoParam ((assignEach [.Name x p1,.Name y p2] X.env).map (·.2)=assign (.Name x p1) X.env::(assignEach [.Name y p2] X.env).map (·.2)) jJ)(g2:autoParam ((assignEach [.Name y p2] X.env).map (·.2)=assign (.Name y p2) X.env::(assignEach [] X.env).map (·.2)) jJ)
  (hs:autoParam (swapsWithSole [.Tuple [.Name x p1,.Name y p2] kt p3] e pos.line X.env=pure false) jJ)(hw:autoParam (swappedStores [.Tuple [.Name x p1,.Name y p2] kt p3] e X.env=pure none) jJ)
  (C:autoParam ((assignEach [.Tuple [.Name x p1,.Name y p2] kt p3] X.env).map (·.2)=[assign (.Tuple [.Name x p1,.Name y p2] kt p3) X.env]) jJ):
  DS Z X EE (.Assign [.Tuple [.Name x p1,.Name y p2] kt p3] e pos) (g_ i j d):=by
 refine PS.mono (JU he (JT J (yF (mz i hN hi hx hf) (yF (mz j hN hj hy Ae) Jw g2) g1) hn i9) hs hw C) ?_;rintro D σ H ⟨G,e,rel,h⟩;refine⟨G,e,rel,(jC h).imp (λw e1 h G1 v1 H1 r1 q1 p1=>?_) λ_ _ h=>h⟩
 split at h
 .rename_i u v;obtain⟨c,ys,rfl,hq,y1,z1,rfl,p1,y2,z2,rfl,p2,rfl⟩:=p1;exact⟨c,[y1,y2],rfl,r1.sub.tup hq,rfl,y1,[y2],rfl,y2,[],rfl,rfl,h G1 _ H1 ((r1.set p1).set p2) q1⟩
 .exact h.elim
end
noncomputable def qL(i:Nat)(f:List W->List W)(e:List S):Option S->SR
 |some (.own b ws)=>.nx (e.set i (.own b (f ws)))
 |_=>.no
theorem z0d:lu i f e=qL i f e e[i]?:=by
 grind [lu,qL]
theorem y5r:qL i f e (some (.own b ws))=.nx (e.set i (.own b (f ws))):=rfl
noncomputable def vJ(i j:Nat)(e:List S):W->SR
 |.tup [u,v]=>.nx ((e.set i (.fr u)).set j (.fr v))
 |_=>.no
theorem z0e:g_ i j d e=(d e).cQ λw e1=>vJ i j e1 w:=by
 unfold g_;congr 1
theorem z51:vJ i j e (.tup [u,v])=.nx ((e.set i (.fr u)).set j (.fr v)):=rfl
theorem OO:∀ns:List Int,eu (ns.map .int)=some ns
 |[]=>rfl
 |n::ns=>by rw[w0p];show(eu (ns.map .int)).map (n::·)=_;rw[OO ns];rfl
noncomputable def iQ:S->S
 |.own _ ws=>.fr (.lst ws)
 |.aY kvs=>.fr (.aY kvs)
 |.nest bq=>.fr (.lst (bq.map W.lst))
 |.dw sh ks ws=>.fr (.dw false sh ks ws)
 |s=>s
theorem aX.m7{Z:Zt}(sg:av G G')(hf:∀l o ys,o9 Z G H l o ys->G' l=some (.cD o (.lst ys))):∀{ls:List Addr}{bq:List (List W)},aX K Z G H ls bq->aw K G' (bq.map W.lst) (ls.map V.ref)
 |[],[],_=>rfl
 |l::ls,ws::bq,⟨⟨o,ys,C,h4⟩,h⟩=>⟨.ref l,ls.map V.ref,rfl,⟨l,ys,rfl,.inl (.inr ⟨o,hf l o ys C⟩),aw.mono sg ws h4⟩,h.m7 sg hf⟩
 |[],_::_,h=>h.elim
 |_::_,[],h=>h.elim
noncomputable def dW(e:List S):List S:=e.map iQ
noncomputable def eg(e:List S):R W->R W
 |.ok w _=>if gk w=true then .ok w e else .no
 |.ex c _=>.ex c e
 |.no=>.no
noncomputable def cU(d:Den W):Den W:=λe=>eg e (d (dW e))
noncomputable def eh(e:List S):R Bool->R Bool
 |.ok b _=>.ok b e
 |.ex c _=>.ex c e
 |.no=>.no
noncomputable def cB(d:Den Bool):Den Bool:=λe=>eh e (d (dW e))
theorem Rel.hide{Z:Zt}(r:Rel K Z G σ H e):Rel K ⟨H,H,[]⟩ H σ H (dW e):=by
 have g:∀(i:Nat)(s:S),(dW e)[i]?=some s->∃s0,e[i]?=some s0/\s=iQ s0:=λi s h=>by
  unfold dW at h
  grind
 refine⟨.refl _,λi s h=>?_,by grind [dW,len],λi j b b' ws ws' a C _ _ _=>?_,λa o h _=>h,(λa h=>nomatch h),λa _=>rfl⟩
 .obtain⟨s0,h0,rfl⟩:=g i s h;have q:=r.slot i s0 h0;cases s0 with
  |no=>trivial
  |fr w=>
   obtain⟨u,q1,q2⟩:=q;exact⟨u,q1,Rep.mono r.sub w q2⟩
  |own b ws=>
   obtain⟨a,xs,q1,q2,q3,q4,q5⟩:=q;exact⟨.ref a,q1,a,xs,rfl,cy.of q2,aw.mono r.sub ws q5⟩
  |aY kvs=>
   obtain⟨a,q1,q2,_⟩:=q;exact⟨.ref a,q1,a,rfl,q2⟩
  |nest bq=>
   obtain⟨a,ls,q1,q2,_,q4⟩:=q;exact⟨.ref a,q1,a,_,rfl,cy.of (r.sub _ _ q2),q4.m7 r.sub λl o ys z=>z.1⟩
  |dw sh ks ws=>
   obtain⟨a,kvs,kas,q1,q2,_,_,q5,q6,q7⟩:=q;exact⟨.ref a,q1,a,kvs,kas,rfl,q2,q5,q6.mono r.sub,aw.mono r.sub ws q7.m7⟩
 .obtain⟨s0,_,h2⟩:=g i _ C;cases s0 with
  |_=>cases h2
theorem Rel.back{Z:Zt}(r:Rel K Z G σ H e)(r2:Rel K ⟨H,H,[]⟩ G2 σ H2 e2):Rel K Z G σ H2 e:=by
 have hh:av H H2:=λa o h=>r2.ent a o h (λz=>nomatch z)
 exact r.grow ⟨hh,.refl _,λa o h=>hh a o (r.sub a o h),λ_ _=>rfl⟩
theorem WS(h:gk w=true)(p:Rep K G w v):Rep K G' w v:=by
 cases w with
 |aG=>exact p
 |bl b=>exact p
 |int b=>exact p
 |str b=>exact p
 |_=>cases h
theorem VJ{Z:Zt}{e:PySem.Expr}(he:∀Z',DE Z' X EE e d):DE Z X EE e (cU d):=by
 intro pins s σ H Q I hq;obtain⟨G,e0,rel,h⟩:=hq;refine he ⟨H,H,[]⟩ pins s σ H Q I ⟨H,dW e0,rel.hide,?_⟩;unfold cU eg at h;cases q:d (dW e0)with
 |ok w e2=>
  rw[q]at h;dsimp only at h;split at h
  .rename_i hs;intro G2 v H2 r2 s2 p;exact h G v H2 (rel.back r2) (.refl _) (WS hs p)
  .exact h.elim
 |ex k e2=>
  rw[q]at h;intro G2 H2 r2 s2;exact h G H2 (rel.back r2) (.refl _)
 |no=>rw[q]at h;exact h.elim
theorem VL{Z:Zt}{e:PySem.Expr}(he:∀Z',DT Z' X EE e c):DT Z X EE e (cB c):=by
 intro pins s σ H Q I hq;obtain⟨G,e0,rel,h⟩:=hq;refine he ⟨H,H,[]⟩ pins s σ H Q I ⟨H,dW e0,rel.hide,?_⟩;unfold cB eh at h;cases q:c (dW e0)with
 |ok w e2=>
  rw[q]at h;intro G2 H2 r2 s2;exact h G H2 (rel.back r2) (.refl _)
 |ex k e2=>
  rw[q]at h;intro G2 H2 r2 s2;exact h G H2 (rel.back r2) (.refl _)
 |no=>rw[q]at h;exact h.elim
section
variable [Decidable p]
theorem y2d:cU d e=eg e (d (dW e)):=rfl
theorem x9g{d:Den Bool}:cB d e=eh e (d (dW e)):=rfl
theorem y2e:eg e (.ok w e')=if gk w=true then .ok w e else .no:=rfl
theorem y2f:eg e (.ex v e')=.ex v e:=rfl
theorem x9h:eh e (.ok k e')=.ok k e:=rfl
theorem x9i:eh e (.ex v e')=.ex v e:=rfl
theorem x9j:eg e (if p then x else y)=if p then eg e x else eg e y:=by split<;>rfl
theorem x6r:eh e (if p then x else y)=if p then eh e x else eh e y:=by split<;>rfl
theorem y5t:dW []=[]:=rfl
theorem y2g:dW (s::e)=iQ s::dW e:=rfl
theorem y5u:iQ (.own b ws)=.fr (.lst ws):=rfl
theorem z0f:iQ (.fr w)=.fr w:=rfl
theorem z0g:iQ .no=.no:=rfl
end
end D
namespace L2
open PySem PySem.Spec PyProof.Rows
structure QQ(outer:List Env)(H H':Hp)(h h':Heap)(e:Addr)(cls:Value)(B:Heap):Prop where
 fR:B.StaysIn h'
 bare:B.get? e=none
 ff:h'.FunFrames B outer
 tr:∃a0 fl,h'.TracedAtW B e cls a0 fl
 old:∀b o,h.get? b=some o->H b=none->b∉iE outer->B.get? b=some o
 qb:∀b u o,H' b=some u->h'.get? b=some o->B.get? b=some o
 all:∀b o,h.get? b=some o->b∈iE outer\/∃o',B.get? b=some o'
 new:h.get? e=none
end L2
namespace D
open PySem L2
noncomputable def lr(c:Den Bool)(d:Den W)(pe:List S):List W->Option (Value ⊕ List W)
 |[]=>some (.inr [])
 |w::ws=>match c (.fr w::pe)with
  |.ok true e1=>match d e1 with
   |.ok y _=>(lr c d pe ws).map (Sum.map id (y::·))
   |.ex k _=>some (.inl k)
   |.no=>none
  |.ok false _=>lr c d pe ws
  |.ex k _=>some (.inl k)
  |.no=>none
noncomputable def lS(e:List S):Option (Value ⊕ List W)->R (List W)
 |some (.inr out)=>.ok out e
 |some (.inl k)=>.ex k e
 |none=>.no
noncomputable def nL(js:List Nat)(c:Den Bool)(d:Den W)(ws:List W)(e1:List S):R (List W):=
 if ws.length<=16777216 then lS (a8 js e1) (lr c d (gb js (a8 js e1)) ws)else .no
theorem y5v:nL js cc d ws e=if ws.length<=16777216 then lS (a8 js e) (lr cc d (gb js (a8 js e)) ws)else .no:=rfl
theorem y2h:lS e (some (.inr out))=.ok out e:=rfl
theorem y2i:lS e (some (.inl k))=.ex k e:=rfl
section
variable{X:Cx}{Z:Zt}{EE:L2.St->XK}{elt iter a b:Expr}{ifs:List Expr}{scope sc:Scope}{pos pt:Pos}{x:Str}{Nf N:List Str}{js:List Nat}{di:Den W}{dA:Den (List W)}{c:Den Bool}{d:Den W}
theorem z52(h:(nL js c d ws e1).holds P Ex):ws.length<=16777216/\∃out,lr c d (gb js (a8 js e1)) ws=some out/\Sum.elim (λk=>Ex k (a8 js e1)) (λo=>P o (a8 js e1)) out:=by
 unfold nL at h;split at h
 .rename_i hl;cases ho:lr c d (gb js (a8 js e1)) ws with
  |none=>rw[ho]at h;exact h.elim
  |some out=>rw[ho]at h;exact⟨hl,out,rfl,by cases out<;>exact h⟩
 .exact h.elim
end
end D
namespace L2
open PySem PySem.Spec PyProof.Rows
noncomputable def EZ(t:SetTable):Prop:=t.place.toList.Pairwise (·<·)/\t.dummies=#[]
noncomputable def IP:Value->Int
 |.int n _=>n
 |_=>0
structure Cj(prog:Program)(w:World)(es:Array (Int×Value))(t:SetTable)(S:List Int):Prop where
 el:ElemsOf (intKind prog w) es.toList
 sz:es.size<scanBound
 fit:t.fits es.size=true
 rise:EZ t
 led:t.led=!w.params.followText "set-order"
 whole:∀e∈es.toList,∃n k,e.2=Value.int n k
 perm:(es.toList.map λe=>IP e.2).Perm S
noncomputable def rH(S:List Int)(k:Int):List Int:=if k∈S then S else S++[k]
theorem f6:∀(ns S:List Int),(ns.foldl rH S).length<=S.length+ns.length
 |[],S=>by simp
 |n::ns,S=>by
  have:=f6 ns (rH S n)
  grind [rH]
namespace SI
theorem own:Manifest.owners.lookup (String.ofList ['r','o','t','a','r','e','t','i','_','t','e','s'].reverse)=some Manifest.sig_set_iterator:=by kernel_rfl
theorem next:Slot "set_iterator" "__next__" "set_iterator.__next__":=.of (owner:="set_iterator") (n:="__next__") (by rw[typeLookup_type,builtinLookup_eq_fast];kernel_rfl) (by decide +kernel) (by decide +kernel) (by decide +kernel) (by first|exact .inl (by decide +kernel)|exact .inr (by decide +kernel)) (by rw[isSubtype_type];kernel_rfl)
theorem iter:Slot "set_iterator" "__iter__" "set_iterator.__iter__":=.of (owner:="set_iterator") (n:="__iter__") (by rw[typeLookup_type,builtinLookup_eq_fast];kernel_rfl) (by decide +kernel) (by decide +kernel) (by decide +kernel) (by first|exact .inl (by decide +kernel)|exact .inr (by decide +kernel)) (by rw[isSubtype_type];kernel_rfl)
end SI
open PySem PySem.Spec PyProof.Rows
end L2
namespace D
open PySem L2
section
variable(l:Addr)(items:Array Value)(n:Nat)(k:Int)(u:Tok)(dd:Option Addr)(sl:Array (Option Value))
theorem WT(C:¬(k < -(2^63)||k>=2^63)=true)(h2:¬(items.isEmpty||k==1)=true)(h3:¬(k<=0||items.isEmpty)=true)(h4:¬items.size*k>(2^63-1) / 8)(h5:¬Builtin.Tuple.tupleTooMany (items.size*k)=true)(h6:(List.foldl (λx1 x2=>x1++x2) #[] (List.replicate k.toNat items)).size<=sizeLine):
  Meets (Builtin.«tuple.__mul__» ⟨[.ref l,.int k u],[]⟩) (λ_ R s=>s.heap.get? l=some {cls:=.type "tuple", dict:=dd,data:=.seq items n,slots:=sl}/\R (.ok (.ret (Value.ref s.heap.objs.size))) {s with heap:=s.heap.push {cls:=Value.type "tuple", data:=Data.seq (List.foldl (λx1 x2=>x1++x2) #[] (List.replicate k.toNat items))}}):=
 .of_wp λprog w A R s h=>by
  obtain⟨hp,g,d,tk,os⟩:=s;obtain⟨hl,h⟩:=h
  wp_walk
  refine wpAny_ite_split (λz=>absurd z C) λ_=>?_
  wp_walk
  refine wpAny_ite_split (λz=>absurd z h4) λ_=>?_
  wp_walk
  exact⟨_,rfl,h⟩
theorem WU(C:¬(k < -(2^63)||k>=2^63)=true)(h2:¬(items.isEmpty||k==1)=true)(h3:(k<=0||items.isEmpty)=true):
  Meets (Builtin.«tuple.__mul__» ⟨[.ref l,.int k u],[]⟩) (λ_ R s=>s.heap.get? l=some {cls:=.type "tuple", dict:=dd,data:=.seq items n,slots:=sl}/\R (.ok (.ret (Value.ref s.heap.objs.size))) {s with heap:=s.heap.push {cls:=Value.type "tuple", data:=Data.seq #[]}}):=
 .of_wp λprog w A R s h=>by
  obtain⟨hp,g,d,tk,os⟩:=s;obtain⟨hl,h⟩:=h
  wp_walk
  refine wpAny_ite_split (λz=>absurd z C) λ_=>?_
  wp_walk
  exact⟨_,rfl,h⟩
theorem WV(C:¬(k < -(2^63)||k>=2^63)=true)(h2:(items.isEmpty||k==1)=true):
  Meets (Builtin.«tuple.__mul__» ⟨[.ref l,.int k u],[]⟩) (λ_ R s=>s.heap.get? l=some {cls:=.type "tuple", dict:=dd,data:=.seq items n,slots:=sl}/\R (.ok (.ret (Value.ref l))) s):=
 .of_wp λprog w A R s h=>by
  obtain⟨hp,g,d,tk,os⟩:=s;obtain⟨hl,h⟩:=h
  wp_walk
  refine wpAny_ite_split (λz=>absurd z C) λ_=>?_
  wp_walk
  exact⟨_,rfl,h⟩
theorem VM:Meets (Builtin.«int.__rmul__» ⟨[.int k u,.ref l],[]⟩) (λ_ R s=>s.heap.get? l=some {cls:=.type "tuple", dict:=dd,data:=.seq items n,slots:=sl}/\R (.ok (.ret Value.notImplemented)) s):=
 .of_wp λprog w A R s h=>by obtain⟨hp,g,d,tk,os⟩:=s;obtain⟨hl,h⟩:=h;wp_walk;exact⟨_,rfl,h⟩
end
variable{X:Cx}{dA:Den (List W)}{e:Expr}{p:Pos}{Z:Zt}
theorem UU:fillsNumberSlot (.type "tuple") "mul"=pure false:=
 fillsNumberSlot_seq (id:="tuple.__mul__") (r:=some (.builtin "tuple.__rmul__")) PySem.F.slot_tuple_mul.lookup (by decide +kernel) PySem.F.slot_tuple_rmul.lookup (by decide +kernel)
theorem UW:seqRepeat? (.type "tuple")=pure (some (.builtin "tuple.__mul__")):=by
 unfold seqRepeat?;rw[seqSlot_of (T:="tuple") (name:="__mul__") (id:="tuple.__mul__") PySem.F.slot_tuple_mul.lookup (by decide +kernel),seqSlot_of (T:="tuple") (name:="__rmul__") (id:="tuple.__rmul__") PySem.F.slot_tuple_rmul.lookup (by decide +kernel)];rfl
noncomputable def vG(K:Fg):R2:=λx y H Q=>∃l k xs,x=.ref l/\y=.int k/\eK K H l xs/\xs≠[]/\-(2^63)<=k/\k<2^63/\xs.length*k.toNat<=sizeLine /\
 (k=1->Q (.ref l) H)/\(k≠1->∀p,H p=none->Q (.ref p) (upd H p (.tup (List.replicate k.toNat xs).flatten)))
theorem Mw(aB:List Value)(m):List.foldl (λx1 x2=>x1++x2) #[] (List.replicate m aB.toArray)=(List.replicate m aB).flatten.toArray:=by
 grind [HD]
theorem Yt:gT X (binaryOp .Mult) (vG X.K):=by
 intro pins s σ H x y v u Q I rx ry h;obtain⟨l,k,xs,rfl,rfl,hH,pX,C,h2,hz,q1,q2⟩:=h;cases rx;obtain⟨t,rfl⟩:=ry;obtain⟨aB,r,p1,_⟩:=I.tuple hH;obtain⟨⟨cls,dd,data,sl⟩,ho,J,n,hd⟩:=id p1;simp only at J hd;subst J hd;have hl:=r.length;have qC:¬(k < -(2^63)||k>=2^63)=true:=by simp;omega
 have RE:aB.toArray.isEmpty=false:=by
  grind
 have top:∀{Q':Value->Shared->Prop},(wpAny (model X.prog X.w) X.A (call (.builtin "tuple.__mul__") [.ref l,.int k t]) Q' X.xe s)->wpAny (model X.prog X.w) X.A (binaryOp .Mult (.ref l) (.int k t)) Q' X.xe s:=λ{Q'} hq=>by
  refine wpAny_binaryOp_repeat_ref (T:="tuple") (U:="int") (by decide) ⟨_,ho,rfl⟩ (λs'=>typeIs_int s' k t) UU PySem.F.fills_int_mul PySem.F.slot_int_rmul UW PySem.F.slot_int_index.lookup
   (PySem.call_meets PySem.F.slot_int_rmul (typeIs_int s k t) PySem.F.entry_int_rmul (PySem.F.args_int_rmul_2 _ _) (VM l aB.toArray n k t dd sl) ⟨ho,rfl,⟨_,ho,rfl⟩,hq⟩)
 by_cases tj:k=1
 .subst tj;exact top (PySem.call_meets PySem.F.slot_tuple_mul ⟨_,ho,rfl⟩ PySem.F.entry_tuple_mul (PySem.F.args_tuple_mul_2 _ _) (WV l aB.toArray n 1 t dd sl qC (by simp)) ⟨ho,.ref l,H,I,rfl,q1 rfl⟩)
 .have s_:¬(aB.toArray.isEmpty||k==1)=true:=by grind
  have fr:=I.aR.fresh (w0c s.heap.objs.size)
  by_cases yl:k<=0
  .refine top (PySem.call_meets PySem.F.slot_tuple_mul ⟨_,ho,rfl⟩ PySem.F.entry_tuple_mul (PySem.F.args_tuple_mul_2 _ _) (WU l aB.toArray n k t dd sl qC s_ (by simp[yl])) ⟨ho,?_⟩);have e:k.toNat=0:=by omega
   have z:=q2 tj _ fr;rw[e]at z;exact⟨.ref s.heap.objs.size,_,I.laid (t':=s.toks) (λb o e=>Heap.get?_push_of_some _ e) (w0c _) (show aU X.prog X.w _ _ _ (.tup (List.replicate 0 xs).flatten)from⟨w0q _,[],.nil,PyProof.Rows.IsTup.new _ _,_,Heap.get?_push_size _ rfl,rfl⟩),rfl,z⟩
  .have hlen:aB.length*k.toNat<=sizeLine:=by rw[<- hl];exact hz
   have uS:((aB.toArray.size:Nat):Int)*k=((aB.length*k.toNat:Nat):Int):=by
    grind
   have sl8:(sizeLine:Int)<=(2^63-1) / 8:=by decide
   have hfl:(List.replicate k.toNat aB).flatten.length=k.toNat*aB.length:=len_rep ..;refine top (PySem.call_meets PySem.F.slot_tuple_mul ⟨_,ho,rfl⟩ PySem.F.entry_tuple_mul (PySem.F.args_tuple_mul_2 _ _) (WT l aB.toArray n k t dd sl qC s_ (by grind) (by rw[uS];omega) (by rw[uS];unfold Builtin.Tuple.tupleTooMany;grind) (by grind [Mw])) ⟨ho,?_⟩);rw[Mw];exact⟨.ref s.heap.objs.size,_,I.laid (t':=s.toks) (λb o e=>Heap.get?_push_of_some _ e) (w0c _) (show aU X.prog X.w _ _ _ (.tup (List.replicate k.toNat xs).flatten)from⟨by grind [len_rep],_,r.rep k.toNat,PyProof.Rows.IsTup.new _ _,_,Heap.get?_push_size _ rfl,rfl⟩),rfl,q2 tj _ fr⟩
noncomputable def rD:W->W->Option W
 |.tup ws,.int k=>if qR k=true/\ws≠[]/\ws.length*k.toNat<=16777216 then some (.tup (List.replicate k.toNat ws).flatten)else none
 |_,_=>none
theorem Yu:jF K (vG K) rD:=by
 intro G H x y wx wy w Q s px py hf h;unfold rD at hf;split at hf
 .rename_i ws k;split at hf
  .rename_i J;cases hf;cases(show y=V.int k from py);obtain⟨l,xs,rfl,hq,rp⟩:=px;have hb:=Bq J.1;refine⟨l,k,xs,rfl,rfl,s.tup hq,λz=>J.2.1 (by subst z;exact List.length_eq_zero_iff.mp rp.length.symm),by omega,by omega,by rw[sizeLine_eq,rp.length];exact J.2.2,λhk=>?_,λhk p hp=>?_⟩
   .subst hk;have e:(List.replicate (1:Int).toNat ws).flatten=ws:=by simp
    rw[e]at h;exact h G _ H (.refl s) ⟨l,xs,rfl,hq,rp⟩
   .have g:aQ G H (upd G p (.tup (List.replicate k.toNat xs).flatten)) (upd H p (.tup (List.replicate k.toNat xs).flatten)):=aQ.laid s hp _;exact h _ _ _ g ⟨p,_,rfl,eK.of bI,aw.mono g.gg _ (DQ rp _)⟩
  .cases hf
 .cases hf
theorem Yv{Z:Zt}(ha:DE Z X EE a da)(hb:DE Z X EE b db):DE Z X EE (.BinOp a .Mult b pos) (aq rD da db):=xw Yt Yu ha hb
theorem Yw(h0:0<=k)(C:k<=100000):rD (.tup [.bl b]) (.int k)=some (.tup ((List.replicate k.toNat b).map .bl)):=by
 show(if qR k=true/\[W.bl b]≠[]/\[W.bl b].length*k.toNat<=16777216 then some (W.tup (List.replicate k.toNat [W.bl b]).flatten)else none)=_;rw[if_pos ⟨t_ (by omega) (by omega),by simp,by simp;omega⟩]
 simp_all
noncomputable def vD(K:Fg):R2:=λx y H Q=>∃a b ys,x=.ref a/\y=.ref b/\eK K H a []/\eK K H b ys/\Q (.ref b) H
open PyProof.Rows in
theorem tQ:gT X (binaryOp .Add) (vD X.K):=by
 intro pins s σ H x y v u Q I rx ry h;obtain⟨a,b,ys,rfl,rfl,ha,hb,q⟩:=h;cases rx;cases ry;obtain⟨aB,r1,p1,_⟩:=I.tuple ha;obtain⟨nZ,r2,p2,_⟩:=I.tuple hb;cases r1;obtain⟨⟨cls,dd,data,sl⟩,ho,J,n,hd⟩:=id p1;obtain⟨⟨zG,uM,data2,yX⟩,r8,fO,n2,hd2⟩:=id p2;simp only at J hd fO hd2;subst J hd fO hd2;exact concat_meets ⟨_,ho,rfl⟩ ⟨_,r8,rfl⟩ noFill_tuple_add seq_tuple_add PySem.F.slot_tuple_add PySem.F.entry_tuple_add (PySem.F.args_tuple_add_2 _ _) (tuple_addW0 a b _ _ n n2 dd uM sl yX rfl) ⟨ho,r8,.ref b,H,I,rfl,q⟩
noncomputable def bY:W->W->Option W
 |.tup xs,.tup ys=>if xs.length+ys.length<=16777216 then some (.tup (xs++ys))else none
 |x,y=>addW x y
theorem Uy:bY (.tup xs) (.tup ys)=if xs.length+ys.length<=16777216 then some (.tup (xs++ys))else none:=rfl
theorem z0l:bY (.int i) (.int j)=some (.int (i+j)):=rfl
theorem z0m:bY (.lst xs) (.lst ys)=if xs.length+ys.length<=16777216 then some (.lst (xs++ys))else none:=rfl
theorem z0n:bY (.str x) (.str y)=if x.length+y.length<=16777216 then some (.str (x++y))else none:=rfl
theorem Yx:jF K (λx y H Q=>vD K x y H Q\/(pM (λi j=>.int (i+j)) x y H Q\/((∃i j,x=.str i/\y=.str j/\i.length+j.length<=sizeLine/\Q (.str (i++j)) H)\/(rj K x y H Q\/rh K x y H Q)))) bY:=by
 intro G H x y wx wy w Q s px py hf h;unfold bY at hf;split at hf
 .rename_i xs ys;split at hf
  .rename_i hl
   by_cases h0:xs=[]
   .subst h0;cases hf;obtain⟨a,vs,rfl,hq,rp⟩:=px;obtain⟨b,us,rfl,K9,rE⟩:=py;cases(show vs=[]from rp);exact .inl ⟨a,b,us,rfl,rfl,s.tup hq,s.tup K9,h G _ H (.refl s) ⟨b,us,rfl,K9,rE⟩⟩
   .exact .inr (Pp G H x y (.tup xs) (.tup ys) w Q s px py (by show(if xs≠[]/\xs.length+ys.length<=16777216 then some (W.tup (xs++ys))else none)=some w;grind) h)
  .cases hf
 .exact .inr (Pp G H x y _ _ w Q s px py hf h)
theorem Yy{Z:Zt}(ha:DE Z X EE a da)(hb:DE Z X EE b db):DE Z X EE (.BinOp a .Add b pos) (aq bY da db):=xw (tQ.or (w4.or (n6.or (tR.or OI)))) Yx ha hb
mutual
noncomputable def toD:W->Option PyData
 |.aG=>some .none
 |.bl b=>some (.bool b)
 |.int i=>some (.int i)
 |.str x=>some (.str x)
 |.tup ws=>(fw ws).map .tuple
 |.lst ws=>(fw ws).map .list
 |.exc _=>none
 |.aY _=>none
 |.dw _ _ _ _=>none
 |.fn _ _ _=>none
noncomputable def fw:List W->Option (List PyData)
 |[]=>some []
 |w::ws=>match toD w,fw ws with
  |some d,some ds=>some (d::ds)
  |_,_=>none
end
section
variable{pins:List (Addr×Obj)}{σ:St}{H G:Hp}{s:Shared}
mutual
theorem MJ(I:Inv X pins σ H s)(sg:av G H):∀(w:W){v:V}{u:Value}{d:PyData},Rep X.K G w v->RelV v u->toD w=some d->∃as,Reads s.heap u d as
 |.aG,v,u,d,p,r,h=>by
  cases(show v=.aG from p);cases(show u=Value.none from r);cases h;exact⟨_,.none⟩
 |.bl b,v,u,d,p,r,h=>by
  cases(show v=.bl b from p);cases(show u=Value.bool b from r);cases h;exact⟨_,.bool b⟩
 |.int i,v,u,d,p,r,h=>by
  cases(show v=.int i from p);obtain⟨t,rfl⟩:=(show ∃t,u=Value.int i t from r);cases h;exact⟨_,.int i t⟩
 |.str x,v,u,d,p,r,h=>by
  cases(show v=.str x from p);obtain⟨t,rfl⟩:=(show ∃t,u=Value.str x t from r);cases h;exact⟨_,.str x t⟩
 |.tup ws,v,u,d,p,r,h=>by
  obtain⟨a,xs,rfl,hq,rp⟩:=p;cases(show u=Value.ref a from r);obtain⟨ds,C,rfl⟩:=w0e.mp (show(fw ws).map PyData.tuple=some d from h);obtain⟨aB,rv,⟨o,ho,J,n,hd⟩,_⟩:=I.tuple (sg.tup hq);obtain⟨as,ra⟩:=HF I sg ws rp rv C;exact⟨_,.tuple ho J hd (by simpa using ra)⟩
 |.lst ws,v,u,d,p,r,h=>by
  obtain⟨a,xs,rfl,hq,rp⟩:=p;cases(show u=Value.ref a from r);obtain⟨ds,C,rfl⟩:=w0e.mp (show(fw ws).map PyData.list=some d from h);obtain⟨aB,rv,pl,_⟩:=I.list (sg.seq hq);obtain⟨o,ho,J,n,hd⟩:=pl.isList;obtain⟨as,ra⟩:=HF I sg ws rp rv C;exact⟨_,.list ho J hd (by simpa using ra)⟩
 |.exc c,v,u,d,p,r,h=>by cases h
 |.aY c,v,u,d,p,r,h=>by cases h
 |.dw _ _ _ _,v,u,d,p,r,h=>by cases h
 |.fn _ _ _,v,u,d,p,r,h=>by cases h
theorem HF(I:Inv X pins σ H s)(sg:av G H):∀(ws:List W){xs:List V}{aB:List Value}{ds:List PyData},aw X.K G ws xs->Vals xs aB->fw ws=some ds->∃as,ReadsAll s.heap aB ds as
 |[],xs,aB,ds,p,r,h=>by
  cases(show xs=[]from p);cases r;cases h;exact⟨_,.nil⟩
 |w::ws,xs,aB,ds,p,r,h=>by
  obtain⟨x,xr,rfl,p1,p2⟩:=p;cases r with
  |cons r1 r2=>
   unfold fw at h;split at h
   .rename_i d0 KH C h2;cases h;obtain⟨as,q1⟩:=MJ I sg w p1 r1 C;obtain⟨bs,q2⟩:=HF I sg ws p2 r2 h2;exact⟨_,.cons q1 q2⟩
   .cases h
end
end
theorem noDicts:∀(w:W){d:PyData},toD w=some d->d.hasDict=false
 |.aG,d,h=>by cases h;rfl
 |.bl b,d,h=>by cases h;rfl
 |.int i,d,h=>by cases h;rfl
 |.str x,d,h=>by cases h;rfl
 |.tup ws,d,h=>by
  obtain⟨ds,C,rfl⟩:=w0e.mp (show(fw ws).map PyData.tuple=some d from h);exact go ws C
 |.lst ws,d,h=>by
  obtain⟨ds,C,rfl⟩:=w0e.mp (show(fw ws).map PyData.list=some d from h);exact go ws C
 |.exc c,d,h=>by cases h
 |.aY c,d,h=>by cases h
 |.dw _ _ _ _,d,h=>by cases h
 |.fn _ _ _,d,h=>by cases h
where
 go:∀(ws:List W){ds:List PyData},fw ws=some ds->PyData.hasDictAll ds=false
 |[],ds,h=>by cases h;rfl
 |w::ws,ds,h=>by
  unfold fw at h;split at h
  .rename_i d0 KH C h2;cases h;show(PyData.hasDict d0||PyData.hasDictAll KH)=false;rw[noDicts w C,go ws h2];rfl
  .cases h
theorem UX(hu:X.A.units+150<cLine)(hg:X.A.guards=some []):c9 X (.builtin "repr") (λxs H Q=>∃x w d G,xs=[x]/\av G H/\Rep X.K G w x/\(∃a,x=.ref a)/\toD w=some d/\d.showable=true/\d.depth<=100/\d.shown.length<=sizeLine/\Q (.str d.shown) H):=by
 intro pins s σ H xs us Q I r h;obtain⟨x,w,d,G,rfl,sg,p,⟨a,rfl⟩,hd,C,h2,h3,q⟩:=h;obtain⟨u,rfl,rx⟩:=vals1 r;obtain⟨as,rr⟩:=MJ I sg w p rx hd;cases(show u=Value.ref a from rx);refine repr_of_reads' rr C (PyData.noDict_hsm (noDicts w hd)) hg (by omega) (λ_ _ e=>e) (λh' u' tk hk=>?_) h3
 exact⟨.str d.shown,H,I.kept (t':=tk) hk,⟨u',rfl⟩,q⟩
noncomputable def cb:List W->Option W
 |[.tup ws]=>(toD (.tup ws)).bind λd=>if d.showable=true/\d.depth<=100/\d.shown.length<=16777216 then some (.str d.shown)else none
 |[.lst ws]=>(toD (.lst ws)).bind λd=>if d.showable=true/\d.depth<=100/\d.shown.length<=16777216 then some (.str d.shown)else none
 |_=>none
theorem Yz:pS K (λxs H Q=>∃x w d G,xs=[x]/\av G H/\Rep K G w x/\(∃a,x=.ref a)/\toD w=some d/\d.showable=true/\d.depth<=100/\d.shown.length<=sizeLine/\Q (.str d.shown) H) cb:=by
 intro G H xs ws w Q s pr hf h;unfold cb at hf;split at hf
 .obtain⟨x,r,rfl,px,pr⟩:=pr;cases(show r=[]from pr);obtain⟨d,hd,hf⟩:=w0w.mp hf;split at hf
  .rename_i J;cases hf;exact⟨x,_,d,G,rfl,s,px,(by obtain⟨a,_,e,_⟩:=px;exact⟨a,e⟩),hd,J.1,J.2.1,by rw[sizeLine_eq];exact J.2.2,h G _ H (.refl s) rfl⟩
  .cases hf
 .obtain⟨x,r,rfl,px,pr⟩:=pr;cases(show r=[]from pr);obtain⟨d,hd,hf⟩:=w0w.mp hf;split at hf
  .rename_i J;cases hf;exact⟨x,_,d,G,rfl,s,px,(by obtain⟨a,_,e,_⟩:=px;exact⟨a,e⟩),hd,J.1,J.2.1,by rw[sizeLine_eq];exact J.2.2,h G _ H (.refl s) rfl⟩
  .cases hf
 .cases hf
section
variable{EE:L2.St->XK}{pos:Pos}
theorem OP(hu:X.A.units+150<cLine)(RL:X.A.guards=some [])(hm:X.mg "repr"=none)(ha:DA Z X EE [e] dA)(hg:autoParam (Gl X "repr") jJ)(he:autoParam (starEach [e] X.env=(false,eval e X.env)::starEach [] X.env) jJ)(dJ:autoParam ((backTo pos (starEach [] X.env)).any (·.1)=false) jJ):DE Z X EE (.Call (.Name "repr" p) [e] [] pos) (cX cb dA):=
 yP (UX hu RL) Yz PyProof.Rows.Boot.«repr» hm ha hg (by decide) (by decide) he dJ
end
mutual
noncomputable def ba:W->Bool
 |.aG=>true
 |.bl _=>true
 |.int i=>decide (0<=i/\i<512)
 |.tup ws=>aI ws
 |.lst ws=>aI ws
 |_=>false
noncomputable def aI:List W->Bool
 |[]=>true
 |w::ws=>ba w&&aI ws
end
mutual
noncomputable def pR:W->Nat
 |.int i=>(PyData.int i).weight
 |.tup ws=>d_ ws
 |.lst ws=>d_ ws
 |_=>0
noncomputable def d_:List W->Nat
 |[]=>0
 |w::ws=>pR w+1+d_ ws
end
theorem VN:∀n:Fin 32,(PyData.int ((n.val:Nat):Int)).weight<=8:=by decide +kernel
theorem D6{n:Nat}(h:n<32):pR (.int (n:Int))<=8:=VN ⟨n,h⟩
theorem UY:∀n:Fin 512,(PyData.int ((n.val:Nat):Int)).weight<=16:=by decide +kernel
theorem WW{n:Nat}(h:n<512):pR (.int (n:Int))<=16:=UY ⟨n,h⟩
theorem ML:∀n:Fin 512,PyData.showable (.int ((n.val:Nat):Int))=true/\PyData.leavesShort 8 (.int ((n.val:Nat):Int))=true:=by decide +kernel
mutual
theorem DR:∀(w:W),ba w=true->∃d,toD w=some d/\d.showable=true/\d.leavesShort 8=true/\d.depth=cV w/\d.weight=pR w
 |.aG,_=>⟨.none,rfl,rfl,rfl,rfl,rfl⟩
 |.bl b,_=>⟨.bool b,rfl,rfl,rfl,rfl,rfl⟩
 |.tup ws,h=>by
  obtain⟨ds,C,h2,h3,h4,h5⟩:=HG ws h;exact⟨.tuple ds,by show(fw ws).map _=_;rw[C];rfl,h2,h3,by show PyData.depthAll ds+1=_;rw[h4];rfl,by show PyData.weightAll ds=_;rw[h5];rfl⟩
 |.lst ws,h=>by
  obtain⟨ds,C,h2,h3,h4,h5⟩:=HG ws h;exact⟨.list ds,by show(fw ws).map _=_;rw[C];rfl,h2,h3,by show PyData.depthAll ds+1=_;rw[h4];rfl,by show PyData.weightAll ds=_;rw[h5];rfl⟩
 |.int i,h=>by
  have h:decide (0<=i/\i<512)=true:=h;have h:=of_decide_eq_true h;obtain⟨n,rfl⟩:∃n:Fin 512,i=((n.val:Nat):Int):=⟨⟨i.toNat,by omega⟩,by simp;omega⟩;exact⟨.int _,rfl,(ML n).1,(ML n).2,rfl,rfl⟩
 |.str i,h=>by cases h
 |.exc i,h=>by cases h
 |.aY i,h=>by cases h
 |.dw _ _ _ _,h=>by cases h
 |.fn _ _ _,h=>by cases h
theorem HG:∀(ws:List W),aI ws=true->∃ds,fw ws=some ds/\PyData.showableAll ds=true/\PyData.leavesShortAll 8 ds=true/\PyData.depthAll ds=aW ws/\PyData.weightAll ds=d_ ws
 |[],_=>⟨[],rfl,rfl,rfl,rfl,rfl⟩
 |w::ws,h=>by
  have h:(ba w&&aI ws)=true:=h;rw[w0v]at h;obtain⟨d,d1,d2,d3,d4,d5⟩:=DR w h.1;obtain⟨ds,C,h2,h3,h4,h5⟩:=HG ws h.2;refine⟨d::ds,?_,?_,?_,?_,?_⟩
  .unfold fw;rw[d1,C]
  .grind [PyData.showableAll]
  .grind [PyData.leavesShortAll]
  .show max d.depth (PyData.depthAll ds)=_;rw[d4,h4];rfl
  .show d.weight+1+PyData.weightAll ds=_;rw[d5,h5];rfl
end
theorem NL(C:aI ws=true)(h2:aW ws<=90)(h3:d_ ws<=1000000):∃x:Str,cb [.lst ws]=some (.str x):=by
 obtain⟨d,d1,d2,d3,d4,d5⟩:=DR (.lst ws) C;refine⟨d.shown,?_⟩;show(toD (.lst ws)).bind _=_;rw[d1];show(if d.showable=true/\d.depth<=100/\d.shown.length<=16777216 then some (W.str d.shown)else none)=_;have hw:d.weight<=2^20:=by rw[d5];exact w0l h3 (by decide)
 have hs:=PyData.shown_fits (B:=8) (by decide) (by decide) d3 hw;rw[sizeLine_eq]at hs;exact if_pos ⟨d2,by rw[d4];show aW ws+1<=100;omega,hs⟩
theorem yq:∀bs:List Bool,aI (bs.map .bl)=true/\aW (bs.map .bl)=0/\d_ (bs.map .bl)=bs.length
 |[]=>⟨rfl,rfl,rfl⟩
 |b::bs=>by
  obtain⟨C,h2,h3⟩:=yq bs;refine⟨C,?_,?_⟩
  .show max 0 (aW (bs.map .bl))=0;omega
  .show 0+1+d_ (bs.map .bl)=_;grind
open PySem L2 PySem.Spec PyProof.Rows
section
variable{a:Expr}{ta:TA}{p2 pos dI:Pos}
theorem YA{vs:List V}{us:List Value}(hl:vs.length=us.length)(h:∀(i:Nat)(C:i<vs.length)(h2:i<us.length),RelV vs[i] us[i]):Vals vs us:=by
 induction vs generalizing us with
 |nil=>
  cases us with
  |nil=>exact .nil
  |cons u us=>simp at hl
 |cons v vs ih=>
  cases us with
  |nil=>simp at hl
  |cons u us=>
   refine .cons (h 0 (by simp) (by simp)) (ih (by simpa using hl) λi C h2=>?_)
   have:=h (i+1) (by simpa using C) (by simpa using h2)
   simpa using this
end
end D
namespace L2
open PySem PySem.Spec PyProof.Rows
section
variable{κ:Type} [DecidableEq κ]
noncomputable def eJ(kvs:List (κ×V))(k:κ):Option V:=(kvs.find? λkv=>decide (kv.1=k)).map (·.2)
noncomputable def putK(kvs:List (κ×V))(k:κ)(v:V):List (κ×V):=
 if(kvs.any λkv=>decide (kv.1=k))=true then kvs.map (λkv=>if kv.1=k then(kv.1,v)else kv)else kvs++[(k,v)]
theorem Bi{k:κ}(e:p.1=k):eJ (p::r) k=some p.2:=by simp[eJ,w2q,e]
theorem Bj{k:κ}(e:¬p.1=k):eJ (p::r) k=eJ r k:=by simp[eJ,w2q,e]
theorem DU(k):∀kvs:List (κ×V),(kvs.any λkv=>decide (kv.1=k))=(eJ kvs k).isSome
 |[]=>rfl
 |p::r=>by
  rw[List.any_cons]
  by_cases e:p.1=k
  .simp_all [Bi]
  .rw[Bj e,decide_eq_false e,Bool.false_or];exact DU k r
theorem L8(kvs)(k:κ)(v):(putK kvs k v).length<=kvs.length+1:=by
 grind [putK]
theorem NM{k:κ}(v)(h:eJ kvs k=none):putK kvs k v=kvs++[(k,v)]:=by
 simp_all [putK,DU]
theorem kQ.gC(r:kQ o u):o.isSome=u.isSome:=by
 cases o with
 |none=>cases u with
  |none=>rfl
  |some _=>exact(show False from r).elim
 |some _=>cases u with
  |none=>exact(show False from r).elim
  |some _=>rfl
theorem KV.val(r:KV kvs vs)(k:κ):kQ (eJ kvs k) (valueAt vs k):=by
 unfold KV at r
 induction r with
 |nil=>exact True.intro
 | @cons p q ps qs h t ih=>
  obtain⟨C,h2⟩:=h
  by_cases e:p.1=k
  .have e':q.1=k:=C.symm.trans e;have b:valueAt (q::qs) k=some q.2:=by simp[valueAt,w2q,e']
   rw[Bi e,b];exact h2
  simp_all [valueAt,Bj]
theorem KV.any(r:KV kvs vs)(k:κ):(kvs.any λkv=>decide (kv.1=k))=vs.any λkv=>decide (kv.1=k):=by
 unfold KV at r
 induction r with
 |nil=>rfl
 |cons h t ih=>grind
theorem KV.xy(r:KV kvs vs)(k:κ)(ry:RelV y u):
  KV (kvs.map λkv=>if kv.1=k then(kv.1,y)else kv) (vs.map λkv=>if kv.1=k then(kv.1,u)else kv):=by
 unfold KV at r |-
 induction r with
 |nil=>exact .nil
 | @cons p q ps qs h t ih=>
  rw[w0p,w0p];refine .cons ?_ ih
  grind
theorem KV.put(r:KV kvs vs)(k:κ)(ry:RelV y u):KV (putK kvs k y) (stored vs k u):=by
 unfold putK stored;rw[r.any k]
 by_cases e:(vs.any λkv=>decide (kv.1=k))=true
 .rw[if_pos e,if_pos e];exact r.xy k ry
 .rw[if_neg e,if_neg e];exact Paired.snoc r ⟨rfl,ry⟩
theorem KV.length{kvs:List (κ×V)}{vs:List (κ×Value)}(r:KV kvs vs):kvs.length=vs.length:=Paired.length r
end
variable{a:Addr}{H:Hp}{σ:St}
theorem EA(r:RelV (kV k) u):(c6 P w).is k u=true:=by
 cases k with
 |inl i=>obtain⟨t,e⟩:=(show ∃t,u=Value.int i t from r);grind [Ul]
 |inr x=>obtain⟨t,e⟩:=(show ∃t,u=Value.str x t from r);grind [Um]
abbrev KT(sh:Sh)(H:Hp):List (Kx×V)->List (Kx×Addr×Value)->Prop:=Paired λp q=>p.1=q.1/\(bT H p.1 (.ref q.2.1)/\eN p.1 sh/\p.1.depth<=7)/\RelV p.2 q.2.2
theorem KT.val(r:KT sh H kvs xs)(k):kQ (eJ kvs k) ((atKey xs k).map (·.2)):=by
 induction r with
 |nil=>exact True.intro
 | @cons p q ps qs h t ih=>
  obtain⟨C,_,h2⟩:=h
  by_cases e:p.1=k
  .have e':q.1=k:=C.symm.trans e;have b:atKey (q::qs) k=some q.2:=by simp[atKey,w2q,e']
   rw[Bi e,b];exact h2
  simp_all [atKey,Bj]
theorem KT.xy(r:KT sh H kvs xs)(k)(ry:RelV y u):
  KT sh H (kvs.map λkv=>if kv.1=k then(kv.1,y)else kv) (xs.map (putAt k u)):=by
 induction r with
 |nil=>exact .nil
 | @cons p q ps qs h t ih=>
  rw[w0p,w0p];refine .cons ?_ ih;obtain⟨C,h2,h3⟩:=h;unfold putAt
  grind
theorem KT.put(r:KT sh H kvs xs)(k)(hb:bT H k (.ref b)/\eN k sh/\k.depth<=7)(ry:RelV y u):
  KT sh H (putK kvs k y) (storedH xs k b u):=by
 have e:(kvs.any λkv=>decide (kv.1=k))=(atKey xs k).isSome:=by
  rw[DU,(r.val k).gC,w2w]
 unfold putK storedH;rw[e]
 by_cases q:(atKey xs k).isSome=true
 .rw[if_pos q,if_pos q];exact r.xy k ry
 simp_all [Paired.snoc]
noncomputable def eW(kvs:List (Kx×V))(kas:List Addr)(k:Kx)(b:Addr):List Addr:=if(eJ kvs k).isSome=true then kas else kas++[b]
theorem KT.eW(r:KT sh H kvs xs)(ka:xs.map (·.2.1)=kas)(k):(storedH xs k b u).map (·.2.1)=L2.eW kvs kas k b:=by
 unfold storedH L2.eW;rw[(r.val k).gC,w2w]
 by_cases q:(atKey xs k).isSome=true
 .rw[if_pos q,if_pos q,w0s,<- ka];refine w0r λx _=>?_
  show(putAt k u x).2.1=x.2.1
  grind [putAt]
 grind
theorem KT.keeps(r:KT sh H kvs xs)(ht:∀b u,ee u->H b=some u->H' b=some u):KT sh H' kvs xs:=
 Paired.wR r λ_ _ z=>⟨z.1,⟨bT.keeps ht _ z.2.1.1,z.2.1.2⟩,z.2.2⟩
section
variable{P:Program}{w:World}{h:Heap}
theorem Qp(ok:d7 P w H h)(e:Rd H a u):aU P w H h a u:=e.ok ok
theorem Cc(ok:d7 P w H h)(e:Rd H a (.dK kvs)):kvs.length<=sizeLine/\(a==sysModules)=false/\∃vs,KV kvs vs/\h.DictOf (c6 P w) a vs:=
 show aU P w H h a (.dK kvs)from Qp ok e
theorem Qq(ok:d7 P w H h)(e:H a=some (.dK kvs)):kvs.length<=sizeLine/\(a==sysModules)=false/\∃vs,KV kvs vs/\h.DictOf (c6 P w) a vs:=Cc ok (.inl e)
theorem IsTup.seq{aB:List Value}(p:IsTup h a aB.toArray):∃o n,h.get? a=some o/\o.cls=.type "tuple" /\ o.data=.seq aB.toArray n:=by
 obtain⟨o,C,h2,n,h3⟩:=p
 grind
mutual
theorem bT.is(ok:d7 P w H h):∀(k:Kx){x:V}{v:Value},bT H k x->RelV x v->o_ h k v
 |.aG,x,v,e,r=>by cases(show x=.aG from e);exact r
 |.bl b,x,v,e,r=>by cases(show x=.bl b from e);exact r
 |.int b,x,v,e,r=>by cases(show x=.int b from e);exact r
 |.str b,x,v,e,r=>by cases(show x=.str b from e);exact r
 |.tup ks,x,v,e,r=>by
  obtain⟨a,xs,rfl,q,rs⟩:=e;cases(show v=Value.ref a from r);obtain⟨_,aB,rv,p,_⟩:=(show aU P w H h a (.tup xs)from Rd.ok q ok);obtain⟨o,n,C,h2,h3⟩:=IsTup.seq p;exact⟨a,o,aB.toArray,n,rfl,C,h2,h3,by simpa using eO.are ok ks rs rv⟩
theorem eO.are(ok:d7 P w H h):∀(ks:List Kx){xs:List V}{vs:List Value},eO H ks xs->Vals xs vs->iG h ks vs
 |[],xs,vs,e,r=>by
  cases(show xs=[]from e);cases r;rfl
 |k::ks,xs,vs,e,r=>by
  obtain⟨x,r0,rfl,C,h2⟩:=e;cases r with
  |cons q t=>exact⟨_,_,rfl,bT.is ok k C q,eO.are ok ks h2 t⟩
end
theorem Bu(ok:d7 P w H h)(e:bT H k (.ref a)/\eN k sh/\k.depth<=7):(d6 P w sh).is h k a:=⟨bT.is ok k e.1 rfl,e.2⟩
theorem Cd(ok:d7 P w H h)(e:Rd H a (.dT sh kvs kas)):kvs.length<=sizeLine/\(a==sysModules)=false /\
  ∃xs,KT sh H kvs xs/\xs.map (·.2.1)=kas/\h.DictOfH (d6 P w sh) a xs:=by
 obtain⟨z,y,xs,r,ka,o,es,ep,C,h2,h3,h4,h5⟩:=(show aU P w H h a (.dT sh kvs kas)from Qp ok e);refine⟨z,y,xs,r,ka,o,es,ep,C,h2,h3,h4,λx hx=>?_,h5⟩
 have all:∀{l:List (Kx×V)}{m:List (Kx×Addr×Value)},KT sh H l m->∀x∈m,(d6 P w sh).is h x.1 x.2.1:=by
  intro l m q
  induction q with
  |nil=>grind
  | @cons p q ps qs hq t ih=>
   intro x hx;rcases w0m.mp hx with e|hx
   .subst e;exact Bu ok (by grind)
   .exact ih x hx
 exact all r x hx
theorem Qr(ok:d7 P w H h)(e:H a=some (.dT sh kvs kas)):kvs.length<=sizeLine/\(a==sysModules)=false /\
  ∃xs,KT sh H kvs xs/\xs.map (·.2.1)=kas/\h.DictOfH (d6 P w sh) a xs:=Cd ok (.inl e)
end
noncomputable def fT(H:Hp)(a:Addr)(y:V)(r:Option V):Prop:=
 (∃kvs k,Rd H a (.dK kvs)/\y=kV k/\r=eJ kvs k)\/∃sh kvs kas k b,Rd H a (.dT sh kvs kas)/\y=.ref b/\(bT H k (.ref b)/\eN k sh/\k.depth<=7)/\r=eJ kvs k
noncomputable def lN(H:Hp)(a:Addr)(y v:V)(H':Hp):Prop:=
 (∃kvs k,H a=some (.dK kvs)/\y=kV k/\kvs.length<sizeLine/\H'=upd H a (.dK (putK kvs k v))) \/
 ∃sh kvs kas k b,H a=some (.dT sh kvs kas)/\y=.ref b/\(bT H k (.ref b)/\eN k sh/\k.depth<=7)/\kvs.length<sizeLine/\H'=upd H a (.dT sh (putK kvs k v) (eW kvs kas k b))
theorem fT.k{kvs:List (Key×V)}{k:Key}(e:H a=some (.dK kvs)):fT H a (kV k) (eJ kvs k):=.inl ⟨kvs,k,.inl e,rfl,rfl⟩
theorem fT.t{b:Addr}{sh:Sh}{kvs:List (Kx×V)}{kas:List Addr}{k:Kx}(e:Rd H a (.dT sh kvs kas))(eb:bT H k (.ref b)/\eN k sh/\k.depth<=7):fT H a (.ref b) (eJ kvs k):=.inr ⟨sh,kvs,kas,k,b,e,rfl,eb,rfl⟩
theorem lN.k{kvs:List (Key×V)}{k:Key}{v:V}(e:H a=some (.dK kvs))(hl:kvs.length<sizeLine):lN H a (kV k) v (upd H a (.dK (putK kvs k v))):=.inl ⟨kvs,k,e,rfl,hl,rfl⟩
theorem lN.t{b:Addr}{sh:Sh}{kvs:List (Kx×V)}{kas:List Addr}{k:Kx}{v:V}(e:H a=some (.dT sh kvs kas))(eb:bT H k (.ref b)/\eN k sh/\k.depth<=7)(hl:kvs.length<sizeLine):
  lN H a (.ref b) v (upd H a (.dT sh (putK kvs k v) (eW kvs kas k b))):=.inr ⟨sh,kvs,kas,k,b,e,rfl,eb,hl,rfl⟩
theorem Inv.big(I:Inv X pins σ H s):sysModules<s.heap.objs.size:=by
 have h:mainGlobals<s.heap.objs.size:=(I.mod.glob.keeps I.bk).lt;exact Nat.lt_trans (by decide) h
theorem Jh{A:Around}(hu:A.units+20<cLine):(d6 P w sh).room A.in1:=by
 show A.in1.units+8<cLine
 grind
theorem VO(hu:A.units+20<cLine)(I:Inv X pins σ H s)(g:fT H a y (some v))(ry:RelV y u)(h:∀w' s',Inv X pins σ H s'->RelV v w'->Q w' s'):
  wpAny (model X.prog X.w) A (getItem (.ref a) u) Q E s:=by
 rcases g with⟨kvs,k,e,ey,l⟩|⟨sh,kvs,kas,k,b,e,ey,eb,l⟩
 .subst ey;obtain⟨z,hd,vs,rel,dd⟩:=Cc I.aR e;obtain⟨w',hw,ui⟩:=kQ.some_of (v:=v) (o:=valueAt vs k) (by rw[l];exact rel.val k);exact wpAny_getItem_of (EA ry) dd.mapOf hw (h w' _ (I.tok _) ui)
 .subst ey;cases(show u=Value.ref b from ry);obtain⟨z,hd,xs,rel,_,dd⟩:=Cd I.aR e;obtain⟨w',hw,ui⟩:=kQ.some_of (v:=v) (o:=(atKey xs k).map (·.2)) (by rw[l];exact rel.val k);obtain⟨p,hp,wF⟩:=w0e.mp hw;refine wpAny_getItem_heap (Jh hu) (Bu I.aR eb) dd hp ?_;rw[wF];exact h w' _ (I.tok _) ui
theorem YB(hu:A.units+20<cLine)(I:Inv X pins σ H s)(g:fT H a y o)(ry:RelV y u)(h:∀s',Inv X pins σ H s'->Q (.bool (!o.isSome)) s'):
  wpAny (model X.prog X.w) A (compareOp .NotIn u (.ref a)) Q E s:=by
 rcases g with⟨kvs,k,e,ey,l⟩|⟨sh,kvs,kas,k,b,e,ey,eb,l⟩
 .subst ey;obtain⟨z,hd,vs,rel,dd⟩:=Cc I.aR e;refine wpAny_notIn_of (EA ry) hd dd.mapOf ?_;rw[<- (rel.val k).gC,<- l];exact h _ (I.tok _)
 .subst ey;cases(show u=Value.ref b from ry);obtain⟨z,hd,xs,rel,_,dd⟩:=Cd I.aR e;refine wpAny_notIn_heap (Jh hu) (Bu I.aR eb) hd dd ?_;have q:=(rel.val k).gC;rw[w2w]at q;rw[<- q,<- l];exact h _ (I.tok _)
theorem D7(I:Inv X pins σ H s)(mu:zr (H a))(hs:Heap.SameBut a s.heap h')(he:∃q,h'.get? a=some q)(new:aU X.prog X.w (upd H a ob) h' a ob):
  Inv X pins σ (upd H a ob) {s with heap:=h',toks:=t'}:=
 I.write (x:=a) (e:=a) mu (.inl rfl) (λb q hb z=>(hs.2 b hb).trans z) he new
theorem P2(z:kvs.length<=sizeLine)(hd:(a==sysModules)=false)(rel:KV kvs vs)(dd:h'.DictOf (c6 P w) a vs):
  aU P w H' h' a (.dK kvs):=⟨z,hd,vs,rel,dd⟩
theorem VP(hu:A.units+20<cLine)(I:Inv X pins σ H s)(g:lN H a y v H')(ry:RelV y u)(rv:RelV v r)(h:∀s',Inv X pins σ H' s'->Q () s'):
  wpAny (model X.prog X.w) A (setItem (.ref a) u r) Q E s:=by
 rcases g with⟨kvs,k,e,ey,l,eH⟩|⟨sh,kvs,kas,k,b,e,ey,eb,l,eH⟩
 .subst ey eH;obtain⟨z,hd,vs,rel,dd⟩:=Qq I.aR e;have hz:vs.length<=sizeLine:=by grind [KV.length]
  have hl:(putK kvs k v).length<=sizeLine:=by grind [L8]
  refine wpAny_setItem_pairs (hsz:=hz) (EA ry) dd λh' sT hs=>h _ ?_
  have he:∃q,h'.get? a=some q:=let ⟨q,_,_,hq,_⟩:=sT;⟨q,hq⟩;exact D7 I (by rw[e];exact True.intro) hs he (P2 hl hd (rel.put k rv) sT)
 .subst ey eH;cases(show u=Value.ref b from ry);obtain⟨z,hd,xs,rel,ka,dd⟩:=Qr I.aR e;have hz:xs.length<=sizeLine:=by grind [Paired.length]
  have hl:(putK kvs k v).length<=sizeLine:=by grind [L8]
  refine wpAny_setItem_heap (hsz:=hz) (Jh hu) (Bu I.aR eb) dd λh' sT hs=>h _ ?_
  obtain⟨q,es,ep,hq,h2,h3,h4,_,h5⟩:=sT;refine D7 I (by rw[e];exact True.intro) hs ⟨q,hq⟩ ⟨hl,hd,_,(rel.put k eb rv).keeps λc u ys ec=>?_,rel.eW ka k,q,es,ep,hq,h2,h3,h4,h5⟩
  rw[aP (gh ec e (λz=>by subst z;exact ys))]
  exact ec
theorem z9e(I:Inv X pins σ H s)(e:Rd H a (.dK kvs))(h:∀t s',Inv X pins σ H s'->Q (.int kvs.length t) s'):wpAny (model X.prog X.w) A (call (.builtin "len") [.ref a]) Q E s:=by
 obtain⟨z,hd,vs,rel,dd⟩:=Cc I.aR e;refine call_len_dict hd dd (by grind [KV.length,sizeLine_eq]) ?_;rw[<- rel.length];exact h _ _ (I.tok _)
noncomputable def sJ(i:Expr):Prop:=∀ov iv,subscripted i false ov iv=operate [ov,iv] (getItem ov iv)
theorem YC{id:String}
  (hl:typeLookup (.type T) "__getitem__"=pure (some (.builtin id)))(hs:sJ slice)
  (h:wpAny (model prog w) A (eval value env) (λo aK=>wpAny (model prog w) A (eval slice env) (λi ni=>ni.TypeIs o T/\wpAny (model prog w) A (getItem o i) Q E ni) E aK) E s):
  wpAny (model prog w) A (eval (.Subscript value slice pos) env) Q E s:=by
 refine Subscript_ (wpAny_mono h (λo aK fP=>wpAny_mono fP (λi ni wJ=>?_) λ_ _ x=>x) λ_ _ x=>x)
 obtain⟨hT,wJ⟩:=wJ;unfold subscriptTail;refine wpAny_bind ?_;rw[getitemInPython_of_ne hT.not_modules];refine wpAny_bind (wpAny_specialOf hT hl ?_)
 have fin:wpAny (model prog w) A (subscripted slice false o i) (λr BU=>wpAny (model prog w) A (letTemporaryGo value o r >>= λ_=>pure r) Q E BU) E ni:=by
  rw[hs o i];exact wpAny_operating (wpAny_mono wJ (λr BU F6=>wpAny_bind (wpAny_letTemporaryGo (wpAny_pure F6))) λ_ _ x=>x)
 grind [wpAny_pure,wpAny_bind]
theorem Ur(I:Inv X pins σ H s)(g:fT H a y o):s.TypeIs (.ref a) "dict":=by
 rcases g with⟨kvs,k,e,_,_⟩|⟨sh,kvs,kas,k,b,e,_,_,_⟩
 .obtain⟨_,_,vs,_,dd⟩:=Cc I.aR e;exact dd.typeIs
 .obtain⟨_,_,xs,_,_,dd⟩:=Cd I.aR e;exact dd.typeIs
noncomputable def BX(td ty:TE):TE:=λσ H Q=>td σ H λx H1=>ty σ H1 λy H2=>∃a v,x=.ref a/\fT H2 a y (some v)/\Q v H2
noncomputable def um(ty td:TE):TE:=λσ H Q=>ty σ H λy H1=>td σ H1 λx H2=>∃a o,x=.ref a/\fT H2 a y o/\Q (.bl (!o.isSome)) H2
noncomputable def BN(td ty tv:TE):TS:=λD σ H=>tv σ H λv H1=>td σ H1 λx H2=>ty σ H2 λy H3=>∃a H4,x=.ref a/\lN H3 a y v H4/\D.nx σ H4
theorem OQ(hu:X.A.units+20<cLine)(ho:PE X o td)(hi:PE X i ty)(hs:sJ i):PE X (.Subscript o i pos) (BX td ty):=by
 intro pins s σ H Q I h;refine YC PySem.F.slot_dict_getitem.lookup hs (bB (ho pins s σ H _ I h) λu s1 ⟨x,H1,I1,rx,q1⟩=>bB (hi pins s1 σ H1 _ I1 q1) λiv s2 ⟨y,H2,I2,ry,a,v,ex,g,q2⟩=>?_)
 subst ex;obtain rfl:u=Value.ref a:=rx;exact⟨Ur I2 g,VO hu I2 g ry λw' s3 I3 ui=>⟨v,H2,I3,ui,q2⟩⟩
theorem MM(hu:X.A.units+20<cLine)(hi:PE X i ty)(ho:PE X o td):PC X .NotIn i o (um ty td):=by
 intro pins s σ H Q I h;refine bB (hi pins s σ H _ I h) λiv s1 ⟨y,H1,I1,ry,q1⟩=>bB (ho pins s1 σ H1 _ I1 q1) λu s2 ⟨x,H2,I2,rx,a,ov,ex,g,q2⟩=>?_
 subst ex;obtain rfl:u=Value.ref a:=rx;exact YB hu I2 g ry λs3 I3=>⟨.bl (!ov.isSome),H2,I3,rfl,q2⟩
theorem JD(hu:X.A.units+20<cLine)(ho:PE X o td)(hi:PE X i ty)(hv:PE X value tv)(hs:swapsWith value (some (.Subscript o i pos')) pos.line X.env=pure false):
  PS X (.Assign [.Subscript o i pos'] value pos) (BN td ty tv):=by
 intro pins s σ H D I h;refine wpAny_Assign_Subscript (bB (hv pins s σ H _ I h) λr s1 ⟨v,H1,I1,rv,q1⟩=>bB (ho pins s1 σ H1 _ I1 q1) λu s2 ⟨x,H2,I2,rx,q2⟩=>bB (hi pins s2 σ H2 _ I2 q2) λiv s3 ⟨y,H3,I3,ry,a,H4,ex,g,q3⟩=>?_) hs
 subst ex;obtain rfl:u=Value.ref a:=rx;exact VP hu I3 g ry rv λs4 I4=>⟨σ,H4,I4,q3⟩
theorem WI(h:Heap)(hb:sysModules<h.objs.size):aU P w H (h.push {cls:=.type "dict", data:=.dict #[]}) h.objs.size (.dK []):=
 ⟨w0q _,beq_eq_false_iff_ne.mpr (Ne.symm (w0o hb)),[],.nil,Heap.DictOf.new h⟩
theorem NN(h:Heap)(hb:sysModules<h.objs.size):aU P w H (h.push {cls:=.type "dict", data:=.dict #[]}) h.objs.size (.dT sh [] []):=
 ⟨w0q _,beq_eq_false_iff_ne.mpr (Ne.symm (w0o hb)),[],.nil,rfl,_,#[],0,Heap.get?_push_size _ rfl,⟨rfl,rfl,rfl⟩,rfl,rfl,List.nodup_nil⟩
noncomputable def xP(sh:Sh):TE:=λ_ H Q=>∀p,H p=none->Q (.ref p) (upd H p (.dT sh [] []))
theorem WJ:PE X (.Dict [] [] pos) (xP sh):=λpins s σ H Q I h=>
 wpAny_Dict_empty ⟨.ref s.heap.objs.size,_,I.laid (a:=s.heap.objs.size) (o:=.dT sh [] []) (t':=s.toks) (λ_ _ q=>Heap.get?_push_of_some _ q) (w0c _) (NN s.heap I.big),rfl,h _ (I.aR.fresh (w0c _))⟩
theorem Inv.swapAt(I:Inv X pins σ H s)(e:H a=some u)(ht:¬ee u)(hb:∀ps,u≠.nF ps)(hf:∀o v,X.aH a≠some (.cD o v))(hw:∀x,u≠.own x)(ok:d7 X.prog X.w H s.heap->aU X.prog X.w (upd H a u') s.heap a u'):Inv X pins σ (upd H a u') s:=by
 have up:∀b,H b=none->upd H a u' b=none:=λb n=>by
  grind [aP]
 refine⟨I.ok,I.os,I.bare,⟨I.base.keep,I.base.slot,λb ob q n hx=>up b (I.base.free b ob q n hx),I.base.there,λb xs q=>?_,λb ob v q=>?_,λb ps q=>?_⟩,I.loc,I.cell,up _ I.free,λx c q=>up c (I.fA x c q),λp hp=>?_,λb v q=>?_,I.len⟩
 .have z:=I.base.i0 b xs q
  grind [ee,aP]
 .by_cases oB:b=a
  .grind
  .rw[aP oB];exact I.base.a8 b ob v q
 .obtain⟨more,z⟩:=I.base.gR b ps q
  grind [aP]
 .obtain⟨q1,q2,q3⟩:=I.pin p hp
  grind
 .by_cases oB:b=a
  .grind [bI,aR]
  .rw[aP oB]at q;refine(I.aR b v q).fR (λ_ _ _ z=>z) (λc z=>?_) λc xs tl z=>?_
   all_goals grind [aP]
theorem Inv.oA(I:Inv X pins σ H s)(e:H a=some (.lst xs))(q:s.heap.get? a=some o):Inv X pins σ (upd H a (.cD o (.lst xs))) s:=
 I.swapAt e (λz=>z) (λ_ z=>nomatch z) (λob v z=>by have:=I.base.a8 a ob v z;grind) (λ_ z=>nomatch z) λok=>⟨q,(ok a _ e).fR (λ_ _ _ z=>z) (λc z=>by rw[aP (gh z e (λy=>nomatch y))];exact z) λc xs tl z=>by rw[aP (gh z e (λy=>by subst y;exact tl))];exact z⟩
theorem Inv.vd(I:Inv X pins σ H s)(e:H a=some (.cD o (.lst xs)))(hf:∀o v,X.aH a≠some (.cD o v)):Inv X pins σ (upd H a (.lst xs)) s:=
 I.swapAt e (λz=>z) (λ_ z=>nomatch z) hf (λ_ z=>nomatch z) λok=>(ok a _ e).2.fR (λ_ _ _ z=>z) (λc z=>by rw[aP (gh z e (λy=>nomatch y))];exact z) λc xs tl z=>by rw[aP (gh z e (λy=>by subst y;exact tl))];exact z
theorem YD(hl:PE X l tl):PE X l (λσ H Q=>tl σ H λv H1=>∃a xs,v=.ref a/\H1 a=some (.lst xs)/\∀o,Q v (upd H1 a (.cD o (.lst xs)))):=by
 intro pins s σ H Q I h;refine bB (hl pins s σ H _ I h) λv s1 ⟨x,H1,I1,r1,q1⟩=>?_
 obtain⟨a,xs,rfl,e,q⟩:=q1;obtain⟨aB,_,⟨o,n,g,_⟩,_⟩:=I1.list (cy.of e);exact⟨.ref a,_,I1.oA e g,r1,q o⟩
end L2
namespace D
open PySem L2 PySem.Spec PyProof.Rows
open PyProof.Rows (envOfC)
section
variable{X:Cx}{Z:Zt}{EE:L2.St->XK}{a b c e:Expr}{es:List Expr}{da db d:Den W}{dF dA:Den (List W)}{x:Str}{pos p dt:Pos}
noncomputable def yo:S->Bool
 |.nest _=>true
 |_=>false
end
theorem y2o:iQ (.nest bq)=.fr (.lst (bq.map W.lst)):=rfl
end D
namespace L2
open PySem PySem.Spec PyProof.Rows
section
variable{X:Cx}
noncomputable def BJ(X:Cx):V->V->V->Hp->(Hp->Prop)->Prop:=λo i v H Q=>∃l ob ys,o=.ref l/\H l=some (.cD ob (.lst ys))/\(∀o v,X.aH l≠some (.cD o v))/\vH o i v (upd H l (.lst ys)) Q
theorem WK:vV X (BJ X):=by
 intro pins s σ H o i v ov iv u Q I ro ri rv hq;obtain⟨l,ob,ys,rfl,e,hf,q⟩:=hq;exact Nx pins s σ _ _ i v ov iv u Q (I.vd e hf) ro ri rv q
end
end L2
namespace D
open PySem L2 PySem.Spec PyProof.Rows
section
variable{K:Fg}{Z:Zt}{G H:Hp}{ls:List Addr}{bq:List (List W)}
theorem aX.mem:∀{ls:List Addr}{bq:List (List W)},aX K Z G H ls bq->∀l∈ls,∃o ys,o9 Z G H l o ys
 |[],_,_,_,hl=>nomatch hl
 |l::ls,ws::bq,⟨⟨o,ys,C,_⟩,h⟩,c,J=>by
  rcases w0m.mp J with rfl|J
  .exact⟨o,ys,C⟩
  .exact h.mem c J
 |_::_,[],h,_,_=>h.elim
theorem aX.snoc{a:Addr}{ws:List W}(hn:∃o ys,o9 Z G H a o ys/\aw K G ws ys):∀{ls:List Addr}{bq:List (List W)},aX K Z G H ls bq->aX K Z G H (ls++[a]) (bq++[ws])
 |[],[],_=>⟨hn,trivial⟩
 |_::_,_::_,⟨C,h⟩=>⟨C,h.snoc hn⟩
 |[],_::_,h=>h.elim
 |_::_,[],h=>h.elim
theorem aX.len:∀{ls:List Addr}{bq:List (List W)},aX K Z G H ls bq->ls.length=bq.length
 |[],[],_=>rfl
 |_::_,_::_,⟨_,h⟩=>by rw[w1g,w1g,h.len]
 |[],_::_,h=>h.elim
 |_::_,[],h=>h.elim
theorem aX.at:∀{ls:List Addr}{bq:List (List W)}{j:Nat}{ws:List W},aX K Z G H ls bq->bq[j]?=some ws->∃l o ys,ls[j]?=some l/\o9 Z G H l o ys/\aw K G ws ys
 |l::ls,_::bq,0,_,⟨⟨o,ys,C,h2⟩,_⟩,e=>by grind
 |_::ls,_::bq,j+1,_,⟨_,h⟩,e=>by
  obtain⟨l,o,ys,C,h2⟩:=h.at e
  grind
 |[],[],_,_,_,e=>by simp at e
 |[],_::_,_,_,h,_=>h.elim
 |_::_,[],_,_,h,_=>h.elim
noncomputable def mG(K:Fg)(G H:Hp):List Addr->List (List W)->Prop
 |[],[]=>True
 |l::ls,ws::bq=>(∃ys,(H l=some (.lst ys)\/∃o,H l=some (.cD o (.lst ys)))/\aw K G ws ys)/\mG K G H ls bq
 |[],_::_=>False
 |_::_,[]=>False
theorem aX.B9{H':Hp}:∀{ls:List Addr}{bq:List (List W)},aX K Z G H ls bq->(∀l∈ls,H' l=H l)->mG K G H' ls bq
 |[],[],_,_=>trivial
 |l::ls,_::bq,⟨⟨o,ys,C,h2⟩,h⟩,e=>⟨⟨ys,.inr ⟨o,by rw[e l (by simp)];exact C.1⟩,h2⟩,h.B9 λl hl=>e l (by simp[hl])⟩
 |[],_::_,h,_=>h.elim
 |_::_,[],h,_=>h.elim
theorem aX.u_{a:Addr}{ws':List W}{Cf:List V}(rp:aw K G ws' Cf):∀{ls:List Addr}{bq:List (List W)}{j:Nat},aX K Z G H ls bq->ls.Nodup->ls[j]?=some a->mG K G (upd H a (.lst Cf)) ls (bq.set j ws')
 |l::ls,_::bq,0,⟨_,h⟩,hn,e=>by
  cases e;refine⟨⟨Cf,.inl bI,rp⟩,h.B9 λc J=>aP λz=>?_⟩
  grind
 |l::ls,_::bq,j+1,⟨⟨o,ys,C,h2⟩,h⟩,hn,e=>by
  have hj:ls[j]?=some a:=e;refine⟨⟨ys,.inr ⟨o,?_⟩,h2⟩,h.u_ rp (w1r.mp hn).2 hj⟩;rw[aP];exact C.1
  grind
 |[],[],_,_,_,e=>by simp at e
 |[],_::_,_,h,_,_=>h.elim
 |_::_,[],_,h,_,_=>h.elim
theorem mG.some{H:Hp}:∀{ls:List Addr}{bq:List (List W)},mG K G H ls bq->∀l∈ls,H l≠none
 |[],_,_,_,hl=>nomatch hl
 |l::ls,_::bq,⟨⟨ys,C,_⟩,h⟩,c,J=>by
  rcases w0m.mp J with rfl|J
  .grind
  .exact h.some c J
 |_::_,[],h,_,_=>h.elim
theorem mG.m7{H G':Hp}(sg:av G G'):∀{ls:List Addr}{bq:List (List W)},mG K G H ls bq->(∀l∈ls,G' l=H l)->aw K G' (bq.map W.lst) (ls.map V.ref)
 |[],[],_,_=>rfl
 |l::ls,ws::bq,⟨⟨ys,C,h2⟩,h⟩,e=>by
  refine⟨.ref l,ls.map V.ref,rfl,⟨l,ys,rfl,?_,aw.mono sg ws h2⟩,h.m7 sg λl hl=>e l (by simp[hl])⟩
  have e0:=e l (by simp);rcases C with C|⟨o,C⟩
  .grind [cy.of]
  .exact .inl (.inr ⟨o,by rw[e0,C]⟩)
 |[],_::_,h,_=>h.elim
 |_::_,[],h,_=>h.elim
end
section
variable{K:Fg}
theorem Rel.nest(r:Rel K Z G σ H e){i:Nat}(h:e[i]?=some (.nest bq)):∃a ls,σ[i]?=some (some (.ref a))/\G a=some (.lst (ls.map V.ref))/\ls.Nodup/\aX K Z G H ls bq:=by
 obtain⟨a,ls,C,h2,h3,h4⟩:=r.slot i _ h
 grind
theorem Rel.opened(r:Rel K Z G σ H e)(he:e[i]?=some (.nest bq))(hv:σ[i]?=some (some (.ref a)))(ha:G a=some (.lst (ls.map V.ref)))(fj:aX K Z G H ls bq)
  (hT:∀s∈e.set i .no,yo s=false)(hH:∀c,c∉ls->H' c=H c)(Ag:mG K G H' ls uA):∃G',av G G'/\Rep K G' (.lst (uA.map W.lst)) (.ref a)/\Rel K Z G' σ H' (e.set i (.fr (.lst (uA.map W.lst)))):=by
 classical
 have out:∀c u,G c=some u->c∉ls:=λc u h J=>by
  obtain⟨o,ys,C⟩:=fj.mem c J;rw[C.2.1]at h;cases h
 have sg:av G (λc=>if c∈ls then H' c else G c):=λc u h=>by
  grind
 have jH:∀c,c∉ls->(λc=>if c∈ls then H' c else G c) c=G c:=λc J=>if_neg J
 have rp:Rep K (λc=>if c∈ls then H' c else G c) (.lst (uA.map W.lst)) (.ref a):=⟨a,_,rfl,cy.of (sg _ _ ha),Ag.m7 sg λl hl=>if_pos hl⟩
 have hi:i<e.length:=(w0b.mp he).1
 have lt:∀c o,H c=some o->(∀ob ys,o≠.cD ob (.lst ys))->c∉ls:=λc o h pX J=>by
  obtain⟨ob,ys,C⟩:=fj.mem c J;rw[C.1]at h;grind
 refine⟨_,sg,rp,λc u z=>?_,λj s z=>?_,by simpa using r.len,λj k b1 b2 w1 w2 c z1 z2 z3 z4=>?_,λc u z n=>?_,λc z=>?_,λc z=>?_⟩
 .by_cases J:c∈ls
  .grind
  .rw[show(if c∈ls then H' c else G c)=G c from if_neg J]at z;rw[hH c J];exact r.sub c u z
 .by_cases hj:j=i
  .subst hj;rw[w0i hi]at z;cases z;exact⟨.ref a,by rw[hv];rfl,rp⟩
  .rw[w0f (λz=>hj z.symm)]at z
   have nW:yo s=false:=hT s (w0d (i:=j) (by grind));have y:=r.slot j s z;cases s with
   |no=>trivial
   |fr w=>
    obtain⟨u,y1,y2⟩:=y;exact⟨u,y1,Rep.mono sg w y2⟩
   |own b ws=>
    obtain⟨c,xs,y1,y2,y3,y4,y5⟩:=y;have J:=lt c _ y2 (λ_ _ z=>nomatch z)
    exact⟨c,xs,y1,by rw[hH c J];exact y2,(jH c J).trans y3,y4,aw.mono sg ws y5⟩
   |aY kvs=>
    obtain⟨c,y1,y2,y3,y4⟩:=y;have J:=lt c _ y2 (λ_ _ z=>by cases kvs<;>cases z)
    exact⟨c,y1,by rw[hH c J];exact y2,(jH c J).trans y3,y4⟩
   |nest _=>cases nW
   |dw sh ks ws=>
    refine ju.move y sg λc kv ka k1 k2 k3=>?_
    have J:=lt c _ k1 (λ_ _=>oW rfl)
    grind
 .have old:∀(k:Nat)(bb:Option Nat)(ww:List W),(e.set i (S.fr (.lst (uA.map W.lst))))[k]?=some (.own bb ww)->e[k]?=some (.own bb ww):=λk bb ww z=>by
   grind
  exact r.lD _ _ _ _ _ _ _ (old _ _ _ z1) (old _ _ _ z2) z3 z4
 .have J:c∉ls:=λJ=>by
   obtain⟨_,_,C⟩:=fj.mem c J;rw[C.2.2]at z;cases z
  rw[hH c J];exact r.ent c u z n
 .by_cases J:c∈ls
  .exact Ag.some c J
  .rw[hH c J];exact r.kO c z
 .have J:c∉ls:=λJ=>by
   obtain⟨_,_,C⟩:=fj.mem c J;exact z C.2.2
  show(if c∈ls then H' c else G c)=Z.G c;rw[if_neg J];exact r.gen c z
theorem Rel.uj(r:Rel K Z G σ H e)(q:cu K Z G H bq (some v)):Rel K Z G (σ.set i (some v)) H (e.set i (.nest bq)):=by
 refine⟨r.sub,λj s z=>?_,by simpa using r.len,λj k b1 b2 w1 w2 c z1 z2 z3 z4=>?_,r.ent,r.kO,r.gen⟩
 .by_cases hj:j=i
  .subst hj
   have hi:j<e.length:=by
    grind
   rw[w0i hi]at z;cases z;rw[w0i (by rw[<- r.len];exact hi)];exact q
  .rw[w0f (λz=>hj z.symm)]at z |-
   exact r.slot j s z
 .have old:∀(k:Nat)(bb:Option Nat)(ww:List W),(e.set i (S.nest bq))[k]?=some (.own bb ww)->k≠i/\e[k]?=some (.own bb ww):=λk bb ww z=>by
   grind
  obtain⟨n1,q1⟩:=old _ _ _ z1;obtain⟨n2,q2⟩:=old _ _ _ z2;rw[w0f (λz=>n1 z.symm)]at z3
  rw[w0f (λz=>n2 z.symm)]at z4
  exact r.lD _ _ _ _ _ _ _ q1 q2 z3 z4
end
variable{X:Cx}{EE:L2.St->XK}{pos:Pos}{K:Fg}
noncomputable def jj(d:Den (List W))(pe:List S):List W->Option (List (List W))
 |[]=>some []
 |w::ws=>match d (.fr w::pe)with
  |.ok y _=>(jj d pe ws).map (y::·)
  |_=>none
noncomputable def oK(i:Nat)(e:List S):Option (List (List W))->SR
 |some out=>.nx (e.set i (.nest out))
 |none=>.no
noncomputable def oM(i:Nat)(js:List Nat)(d:Den (List W))(e:List S):Option (List W)->SR
 |some ws=>if ws.length<=16777216 then oK i (a8 js e) (jj d (gb js (a8 js e)) ws)else .no
 |none=>.no
noncomputable def lC(i:Nat)(js:List Nat)(di:Den W)(d:Den (List W)):List S->SR:=λe=>(di e).cQ λw e1=>oM i js d e1 (gQ w)
noncomputable def cF(K:Fg)(d:Den (List W)):TE:=λσ H Q=>∃Z',oH K Z' (λ_=>E0) d σ H Q
noncomputable def Kz(K:Fg)(d:Den (List W)):TE:=λσ H Q=>cF K d σ H λv H1=>∃a xs,v=.ref a/\H1 a=some (.lst xs)/\∀o,Q v (upd H1 a (.cD o (.lst xs)))
theorem OR{Q:VK}(W0:Walk hc xs SQ)(r1:Rel K Z G1 σ H1 e1)(s1:av G0 G1)(rp:aw K G1 ws xs)(pB:∀G' H',av G1 G'->av G' H'->SQ H')(hl:ws.length<=16777216)
  (hz:∀p,H1 p=none->p∉Z.io)(J:jj d (gb js e1) ws=some out)
  (h:∀G' a ls H',Rel K Z G' σ H' e1->av G0 G'->H' a=some (.lst (ls.map V.ref))->G' a=none->Z.H a=none->i5 σ e1 a->ls.Nodup->aX K Z G' H' ls out->Q (.ref a) H'):
  ∀D,H1 D=none->∃W:Nat->Nat->Hp->Prop,(∃m,W 0 m (upd H1 D (.lst [])))/\∀i m H2,W i m H2 ->
   (hc.stop i H2/\Q (.ref D) H2)\/(hc.go i H2/\∀x H3,hc.k_ i H2 x H3->bS 0 x (List.replicate 1 none++pj js σ) H3 λom H4=>Kp (List.replicate 1 none++pj js σ) om/\cT K cP om H4 λb H5=>
    if b=true then Kz K d om H5 λy H6=>∃ys,H6 D=some (.lst ys)/\ys.length<sizeLine/\∃m',m'<m/\W (i+1) m' (upd H6 D (.lst (ys++[y])))else ∃m',m'<m/\W (i+1) m' H5):=by
 intro D hD;have hlen:=rp.length
 refine⟨λi m H2=>m=ws.length-i/\i<=ws.length/\∃G2 ls done rest,Rel K Z G2 σ H2 e1/\av G1 G2/\H2 D=some (.lst (ls.map V.ref))/\G2 D=none/\ls.Nodup/\aX K Z G2 H2 ls done/\ls.length=i/\jj d (gb js e1) (ws.drop i)=some rest/\done++rest=out,
  ⟨ws.length,by omega,w0q _,G1,[],[],out,r1.grow (aQ.ny r1.sub hD _),.refl _,bI,r1.sub.free hD,.nil,trivial,rfl,J,rfl⟩,?_⟩
 rintro i m H2 ⟨rfl,hi,G2,ls,done,rest,r2,s2,hd2,mx,FO,fj,RY,fO,ho⟩;have cG:i5 σ e1 D:=yG r1 hD;have uZ:Z.H D=none:=p9 r1 hD
 by_cases cY:i<ws.length
 .refine .inr ⟨W0.go i H2 (pB G2 H2 s2 r2.sub) (by omega),λx H3 hy=>?_⟩
  obtain⟨rfl,hx⟩:=W0.k_ i H2 x H3 (pB G2 H2 s2 r2.sub) hy (by omega);obtain⟨w,hw,pw⟩:=rp.kX hx;rw[HS hw]at fO;refine⟨Kp.one,⟨H3,G2,[]⟩,G2,.fr w::gb js e1,r2.block js (Rep.mono s2 w pw),?_⟩;intro G3 H5 r3 s3;rw[if_pos rfl];refine⟨⟨H3,G2,[]⟩,G3,.fr w::gb js e1,r3,?_⟩;unfold jj at fO;cases qd:d (.fr w::gb js e1)with
  |no=>grind
  |ex _ _=>grind
  |ok y e3=>
   rw[qd]at fO;intro G4 a xs H6 r4 s4 q1 q2 q3 q4 p4;have q3:H3 a=none:=q3;refine⟨a,xs,rfl,q1,λo=>?_⟩
   have g4:=r4.gq (s3.trans s4);obtain⟨m8,hr,rfl⟩:=w0e.mp fO;have Rp:D≠a:=jf hd2 q3;have yj:H6 D=some (.lst (ls.map V.ref)):=g4.hh _ _ hd2;have uW:G4 D=none:=by rw[g4.new D (by rw[hd2];simp)];exact mx
   have r6:=((r2.grow g4).jS (o:=.cD o (.lst xs)) q2 (p9 r2 q3) (lX r2 a q3) (yG r2 q3) q1);have K0:(upd H6 a (.cD o (.lst xs))) D=some (.lst (ls.map V.ref)):=by grind [aP]
   have r7:=r6.jS (o:=.lst (ls.map V.ref++[.ref a])) uW uZ (hz D hD) cG K0
   have nV:∀c∈ls,c≠a/\c≠D:=λc jG=>by
    obtain⟨oc,yc,C⟩:=fj.mem c jG;exact⟨jf C.1 q3,gh C.1 hd2 (λz=>nomatch z)⟩
   refine⟨ls.map V.ref,K0,by rw[w0a,sizeLine_eq];omega,ws.length-(i+1),by omega,rfl,cY,G4,ls++[a],done++[y],m8,?_,s2.trans (s3.trans s4),?_,uW,?_,?_,by simp[RY],hr,by grind⟩
   .exact r7
   .rw[bI,w0g];rfl
   .grind
   .refine aX.snoc ⟨o,xs,⟨by rw[aP (λz=>Rp z.symm),bI],q2,p9 r2 q3⟩,p4⟩ ?_
    refine fj.move (s3.trans s4) λl ob ys k1 k2 k3=>⟨?_,by rw[g4.new l (by rw[k1];simp)];exact k2,k3⟩
    rw[aP (gh k1 hd2 (λz=>nomatch z)),aP (jf k1 q3)]
    exact g4.hh _ _ k1
 .have:i=ws.length:=by omega
  subst this;rw[w2h]at fO;cases fO;rw[w1v]at ho;subst ho;exact .inl ⟨W0.stop _ H2 (pB G2 H2 s2 r2.sub) (by omega),h G2 D ls H2 r2 (s1.trans s2) hd2 mx uZ cG FO fj⟩
section
variable{Z:Zt}{elt iter:Expr}{scope sc:Scope}{pt:Pos}{x:Str}{Nf N:List Str}{js:List Nat}{di:Den W}{d:Den (List W)}
theorem YE(i:Nat){y:Str}{py dn:Pos}(zY:X.N.Nodup)(J:X.calm=true)(hi:DE Z X EE iter di)(ok:c0 sc scope N Nf js=true)
  (he:∀Z' cl h1 aC aH ex,DF Z' (X.cp ([x]++Nf) scope cl h1 aC aH ex) (λ_=>E0) elt d)
  (hg:∀cl h1 aC aH ex,PG (X.cp ([x]++Nf) scope cl h1 aC aH ex) (.Name x pt) (bS 0))
  (kj:autoParam (X.env.scope=sc) jJ)(hN:autoParam (X.N=N) jJ)(hs:∀x,foldedSetIterable iter X.env x=pure x:=by intro _;rfl)(Ah:autoParam (X.N[i]?=some y) jJ)(Aq:autoParam (Loc X.env.scope y) jM)(Af:autoParam (X.fn y=true\/X.env.scope.names.lookup y=some .local) jL)(nY:autoParam (swapsWith (.ListComp elt [⟨.Name x pt,iter,[],0⟩] scope pos) (some (.Name y py)) dn.line X.env=pure true) jJ):
  DS Z X EE (.Assign [.Name y py] (.ListComp elt [⟨.Name x pt,iter,[],0⟩] scope pos) dn) (lC i js di d):=by
 have hE:∀cl h1 aC aH ex,PE (X.cp ([x]++Nf) scope cl h1 aC aH ex) elt (cF X.K d):=λcl h1 aC aH ex pins s σ H Q I ⟨Z',h⟩=>he Z' cl h1 aC aH ex pins s σ H Q I h
 refine PS.mono (HU (Nl:=[x]) (tc:=cT X.K cP) (te:=Kz X.K d) J (yQ hi) ok hg (Ca λ_ _ _ _ _ _=>pK) (λcl h1 aC aH ex=>YD (hE cl h1 aC aH ex)) (mz i zY Ah Aq Af) nY kj hN hs) ?_
 rintro D σ H ⟨G,e,rel,h⟩;refine⟨G,e,rel,(jC h).imp (λw e1 h G1 v1 H1 r1 s1 p1=>?_) λ_ _ h=>h⟩
 unfold oM at h;split at h
 .rename_i ws hw;split at h
  .rename_i hl;unfold oK at h;split at h
   .rename_i out ho;obtain⟨G2,s2,r2⟩:=r1.a8 js;have p2:=Rep.mono s2 w p1;have io:=lX r2
    have fin:∀G' a ls H',Rel X.K Z G' σ H' (a8 js e1)->av G G'->H' a=some (.lst (ls.map V.ref))->G' a=none->Z.H a=none->i5 σ (a8 js e1) a->ls.Nodup->aX X.K Z G' H' ls out->D.nx (σ.set i (some (.ref a))) H':=λG' a ls H' r s q1 q2 q3 q4 hn fj=>by
     obtain⟨sg,rg⟩:=r.seen q1 q2 q3 q4;exact h _ _ H' (rg.uj (v:=.ref a) ⟨a,ls,rfl,bI,hn,fj.move sg λl o ys k1 k2 k3=>⟨k1,by rw[aP (gh k1 q1 (λz=>nomatch z))];exact k2,k3⟩⟩) (s.trans sg)
    cases w with
    |tup us=>
     cases hw;obtain⟨a,xs,rfl,hq,rp⟩:=p2;exact⟨a,rfl,.inr ⟨⟨xs,r2.sub.tup hq⟩,OR (Q:=λx H1=>bS i x σ H1 D.nx) JZ r2 (s1.trans s2) rp (λG' H' s s'=>av.tup s' (av.tup s hq)) hl io ho fin⟩⟩
    |lst us=>
     cases hw;obtain⟨a,xs,rfl,hq,rp⟩:=p2;exact⟨a,rfl,.inl ⟨⟨xs,r2.sub.seq hq⟩,OR (Q:=λx H1=>bS i x σ H1 D.nx) JY r2 (s1.trans s2) rp (λG' H' s s'=>av.seq s' (av.seq s hq)) hl io ho fin⟩⟩
    |_=>cases hw
   .exact h.elim
  .exact h.elim
 .exact h.elim
end
noncomputable def tI(a:Int)(k2:W)(e2:List S):Option S->R W
 |some (.nest bq)=>match k2 with
  |.int b=>a_ ((cq bq a).bind λws=>cq ws b) e2
  |_=>.no
 |_=>.no
noncomputable def tH(i:Nat)(d2:Den W)(k1:W)(e1:List S):Option S->R W
 |some (.nest bq)=>match k1 with
  |.int a=>if(cq bq a).isSome=true then(d2 e1).bind λk2 e2=>tI a k2 e2 e2[i]? else .no
  |_=>.no
 |_=>.no
noncomputable def tG(k:R W):Option S->R W
 |some (.nest _)=>k
 |_=>.no
noncomputable def ph(i:Nat)(d1 d2:Den W):Den W:=λe=>tG ((d1 e).bind λk1 e1=>tH i d2 k1 e1 e1[i]?) e[i]?
theorem E4{e:List S}(h:e.all (λs=>!yo s)=true):∀s∈e,yo s=false:=λs hs=>by
 grind
theorem NO{AD:List Addr}(h:ls.map V.ref=AD.map V.ref):ls=AD:=by
 induction ls generalizing AD with
 |nil=>simp_all
 |cons a ls ih=>cases AD with
  |nil=>cases h
  |cons b AD=>
   grind
theorem aX.cq(h:aX K Z G H ls bq)(e:L2.cq bq i=some ws):∃j l o ys,jn bq.length i=some j/\ls[j]?=some l/\L2.cq (ls.map V.ref) i=some (.ref l)/\o9 Z G H l o ys/\aw K G ws ys:=by
 have hl:=h.len;unfold L2.cq at e;cases q:jn bq.length i with
 |none=>rw[q]at e;cases e
 |some j=>
  rw[q]at e;obtain⟨l,o,ys,C,h2,h3⟩:=h.at e
  grind [L2.cq]
section
variable{Z:Zt}{a b k:Expr}{es:List Expr}{d1 d2 dk dv:Den W}{dA:Den (List W)}{x:Str}{p dn dt:Pos}
theorem P4(i:Nat)(C:DE Z X EE a d1)(h2:DE Z X EE b d2)(hN:autoParam (X.N[i]?=some x) jJ)(hv:autoParam (j0 X.env.scope x) jN)(hd:autoParam ((x==("__debug__":Str))=false) jK)(dU:autoParam ((x==("__classdict__":Str))=false) jK)
  (pY:gA a:=by intro _ _;rfl)(pZ:gA b:=by intro _ _;rfl):DE Z X EE (.Subscript (.Subscript (.Name x p) a dn) b pos) (ph i d1 d2):=by
 refine PE.mono (B' jI (B' jI (pv i hN hv hd dU) C pY) h2 pZ) ?_;rintro σ H Q ⟨G,e,rel,h⟩;unfold ph tG at h;split at h
 .rename_i IW pE;obtain⟨aa,ls,g1,g2,g3,g4⟩:=rel.nest pE;rw[R.ay]at h;refine⟨.ref aa,g1,G,e,rel,h.imp (λk1 e1 h G1 v1 H1 r1 s1 p1=>?_) λ_ _ h=>h⟩
  unfold tH at h;split at h
  .rename_i IX yk;split at h
   .rename_i n1;split at h
    .rename_i mU;cases p1;obtain⟨a1,Gm,f1,f2,f3,f4⟩:=r1.nest yk;rw[g1]at f1;cases f1;obtain⟨ws,F5⟩:=w1s.mp mU;obtain⟨j,l,o,ys,_,m1,m2,m3,m4⟩:=f4.cq F5;refine⟨aa,_,n1,_,rfl,rfl,cy.of (r1.sub _ _ f2),m2,G1,e1,r1,?_⟩;rw[R.ay]at h;refine h.imp (λk2 e2 h G2 v2 H2 r2 s2 p2=>?_) λ_ _ h=>XH.trans s1 h
     unfold tI at h;split at h
     .rename_i IY nv;split at h
      .rename_i n2;rw[aV]at h;obtain⟨w,hw,h⟩:=h;cases p2;obtain⟨a2,Gn,u1,u2,u3,u4⟩:=r2.nest nv;rw[g1]at u1;cases u1;have wC:Gm=Gn:=NO (by have z:=s2 _ _ f2;rw[u2]at z;injection z with z;injection z with z;first|exact z|exact z.symm);subst wC;obtain⟨Tr,wH,hw⟩:=w0w.mp hw;obtain⟨j2,l2,o2,yZ,_,t1,t2,t3,t4⟩:=u4.cq wH;rw[m2]at t2;injection t2 with t2;injection t2 with t2;subst t2
       obtain⟨v,Sq,SN⟩:=t4.cq hw;exact⟨l,yZ,n2,v,rfl,rfl,.inl (.inr ⟨o2,t3.1⟩),Sq,h G2 v H2 r2 (s1.trans s2) SN⟩
      .exact h.elim
     .exact h.elim
    .exact h.elim
   .exact h.elim
  .exact h.elim
 .exact h.elim
noncomputable def jq(i:Nat)(f:List W->List W->Option (List W))(a:Int)(as:List W)(e2:List S):Option S->SR
 |some (.nest bq)=>match jn bq.length a,(cq bq a).bind λws=>f ws as with
  |some j,some ws'=>if(e2.set i .no).all (λs=>!yo s)=true then .nx (e2.set i (.fr (.lst ((bq.set j ws').map W.lst))))else .no
  |_,_=>.no
 |_=>.no
noncomputable def oJ(i:Nat)(f:List W->List W->Option (List W))(dA:Den (List W))(k1:W)(e1:List S):Option S->SR
 |some (.nest bq)=>match k1 with
  |.int a=>if(cq bq a).isSome=true then(dA e1).cQ λas e2=>jq i f a as e2 e2[i]? else .no
  |_=>.no
 |_=>.no
noncomputable def oI(k:SR):Option S->SR
 |some (.nest _)=>k
 |_=>.no
noncomputable def oy(i:Nat)(f:List W->List W->Option (List W))(dk:Den W)(dA:Den (List W)):List S->SR:=λe=>oI ((dk e).cQ λk1 e1=>oJ i f dA k1 e1 e1[i]?) e[i]?
noncomputable def kC(w:W)(ws:List W):List W->Option (List W)
 |[.int n]=>(jn ws.length n).map λj=>ws.set j w
 |_=>none
noncomputable def tP(d:Den W):Den (List W):=λe=>(d e).bind λw e1=>.ok [w] e1
noncomputable def mN(i:Nat)(dv dk d2:Den W):List S->SR:=λe=>(dv e).cQ λw e1=>oy i (kC w) dk (tP d2) e1
theorem OS(i:Nat)(hz:Z.H=X.aH)(tF:DE Z X EE a dv)(hk:DE Z X EE k dk)(h2:DE Z X EE b d2)(hN:autoParam (X.N[i]?=some x) jJ)(hv:autoParam (j0 X.env.scope x) jN)(hd:autoParam ((x==("__debug__":Str))=false) jK)(dU:autoParam ((x==("__classdict__":Str))=false) jK)
  (hs:gA k:=by intro _ _;rfl)
  (ha:∀v,assign (.Subscript (.Subscript (.Name x p) k dn) b dt) X.env v=(do
   let ov <- holding [v] (eval (.Subscript (.Name x p) k dn) X.env)
   let iv <- holding [v,ov] (eval b X.env)
   standAt dt
   holding [v,ov,iv] (setItem ov iv v)
   release [v,ov,iv] []):=by intro _;rfl)
  (pY:autoParam (swapsWithSole [.Subscript (.Subscript (.Name x p) k dn) b dt] a pos.line X.env=pure false) jJ)(hw:autoParam (swappedStores [.Subscript (.Subscript (.Name x p) k dn) b dt] a X.env=pure none) jJ)
  (C:autoParam ((assignEach [.Subscript (.Subscript (.Name x p) k dn) b dt] X.env).map (·.2)=[assign (.Subscript (.Subscript (.Name x p) k dn) b dt) X.env]) jJ):
  DS Z X EE (.Assign [.Subscript (.Subscript (.Name x p) k dn) b dt] a pos) (mN i dv dk d2):=by
 refine PS.mono (JU tF (Pz (B' jI (pv i hN hv hd dU) hk hs) h2 WK ha) pY hw C) ?_;rintro D σ H ⟨G,e,rel,h⟩;refine⟨G,e,rel,(jC h).imp (λw e0 h G0 v0 H0 r0 s0 p0=>?_) λ_ _ h=>h⟩
 unfold oy oI at h;split at h
 .rename_i IW pE;obtain⟨aa,ls,g1,g2,g3,g4⟩:=r0.nest pE;refine⟨.ref aa,g1,G0,e0,r0,(jC (σ:=σ) h).imp (λk1 e1 h G1 v1 H1 r1 s1 p1=>?_) λ_ _ h=>XH.trans s0 h⟩
  unfold oJ at h;split at h
  .rename_i IX yk;split at h
   .rename_i n1;split at h
    .rename_i mU;cases p1;obtain⟨a1,Gm,f1,f2,f3,f4⟩:=r1.nest yk;rw[g1]at f1;cases f1;obtain⟨ws,F5⟩:=w1s.mp mU;obtain⟨j,l,o,ys,_,m1,m2,m3,m4⟩:=f4.cq F5;refine⟨aa,_,n1,_,rfl,rfl,cy.of (r1.sub _ _ f2),m2,G1,e1,r1,?_⟩
     have h:aZ X.K Z EE D G ((d2 e1).cQ λw2 e2=>jq i (kC w) n1 [w2] e2 e2[i]?):=by
      unfold tP at h;cases q:d2 e1 with
      |ok w2 e2=>rw[q]at h;exact h
      |ex c e2=>rw[q]at h;exact h
      |no=>rw[q]at h;exact h
     refine(jC (σ:=σ) h).imp (λw2 e2 h G2 v2 H2 r2 s2 p2=>?_) λ_ _ h=>XH.trans (s0.trans s1) h
     unfold jq at h;split at h
     .rename_i IY nv;split at h
      .rename_i j2 ws' RN RG;split at h
       .rename_i hT;obtain⟨a2,Gn,u1,u2,u3,u4⟩:=r2.nest nv;rw[g1]at u1;cases u1;have wC:Gm=Gn:=NO (by have z:=s2 _ _ f2;rw[u2]at z;injection z with z;injection z with z;first|exact z|exact z.symm);subst wC;obtain⟨Tr,wH,Cw⟩:=w0w.mp RG;obtain⟨j3,l2,o2,yZ,t0,t1,t2,t3,t4⟩:=u4.cq wH;rw[RN]at t0;cases t0;rw[m2]at t2;injection t2 with t2;injection t2 with t2;subst t2
        unfold kC at Cw;split at Cw
        .rename_i n2 rZ;injection rZ with rZ _
         subst rZ;cases p2;obtain⟨j4,hj4,rfl⟩:=w0e.mp Cw;refine⟨l,o2,yZ,rfl,t3.1,λ_ _ z=>(by rw[<- hz,t3.2.2]at z;cases z),l,yZ,n2,j4,rfl,rfl,bI,by grind [aw.length],?_⟩
         rw[show ∀u,upd (upd H2 l (.lst yZ)) l u=upd H2 l u from λu=>by grind [upd]]
         obtain⟨G',sg,_,r'⟩:=r2.opened (H':=upd H2 l (.lst (yZ.set j4 v0))) nv g1 u2 u4 (E4 hT) (λc J=>aP λz=>J (by grind)) (u4.u_ (t4.set j4 (Rep.mono (s1.trans s2) w p0)) u3 t1)
         exact h G' σ _ r' (((s0.trans s1).trans s2).trans sg)
        .cases Cw
       .exact h.elim
      .exact h.elim
     .exact h.elim
    .exact h.elim
   .exact h.elim
  .exact h.elim
 .exact h.elim
end
theorem z0w:lC i js di d e=(di e).cQ λw e1=>oM i js d e1 (gQ w):=rfl
theorem x9o:oM i js d e (some ws)=if ws.length<=16777216 then oK i (a8 js e) (jj d (gb js (a8 js e)) ws)else .no:=rfl
theorem x9p:oK i e (some bq)=.nx (e.set i (.nest bq)):=rfl
theorem z53:ph i d1 d2 e=tG ((d1 e).bind λk1 e1=>tH i d2 k1 e1 e1[i]?) e[i]?:=rfl
theorem z54:tG k (some (.nest bq))=k:=rfl
theorem z55:tH i d2 (.int a) e (some (.nest bq))=if(cq bq a).isSome=true then(d2 e).bind λk2 e2=>tI a k2 e2 e2[i]? else .no:=rfl
theorem z56:tI a (.int b) e (some (.nest bq))=a_ ((cq bq a).bind λws=>cq ws b) e:=rfl
theorem z0x:oy i f dk dA e=oI ((dk e).cQ λk1 e1=>oJ i f dA k1 e1 e1[i]?) e[i]?:=rfl
theorem z0y:oI k (some (.nest bq))=k:=rfl
theorem z0z:oJ i f dA (.int a) e (some (.nest bq))=if(cq bq a).isSome=true then(dA e).cQ λas e2=>jq i f a as e2 e2[i]? else .no:=rfl
theorem OT(C:jn bq.length a=some j)(h2:(cq bq a).bind (λws=>f ws us)=some ws')(h3:(e.set i .no).all (λs=>!yo s)=true):jq i f a us e (some (.nest bq))=.nx (e.set i (.fr (.lst ((bq.set j ws').map W.lst)))):=by
 show(match jn bq.length a,(cq bq a).bind λws=>f ws us with|some j,some ws'=>_|_,_=>_)=_
 grind
theorem z00{dv:Den W}:mN i dv dk d2 e=(dv e).cQ λw e1=>oy i (kC w) dk (tP d2) e1:=rfl
theorem z57:tP d e=(d e).bind λw e1=>.ok [w] e1:=rfl
theorem Z6{n:Nat}(C:n<ws.length):kC w ws [.int (n:Int)]=some (ws.set n w):=by
 show(jn ws.length (n:Int)).map _=_;unfold jn;simp[C]
end D
namespace L2
open PySem PySem.Spec PyProof.Rows
section
variable{σ:St}{H:Hp}{s:Shared}{a:Addr}{sh:Sh}{kvs:List (Kx×V)}{kas:List Addr}
theorem UZ(hd:(d==sysModules)=false):
  MeetsIn prog w (Builtin.«dict.__len__» ⟨[.ref d],[]⟩) (λ_ R s=>∃o es ep,s.heap.get? d=some o/\o.data=.dict es ep/\R (.ok (.ret (.int es.size s.toks))) {s with toks:=s.toks+1}):=
 .of_wp λA R s ⟨o,es,ep,ho,pD,h⟩=>by
  show wpAny _ _ (dictSize d >>= _) _ _ s;unfold dictSize;refine wpAny_bind (wpAny_bind (wpAny_dictEntries ho pD (wpAny_pure ?_)));show wpAny _ _ (Builtin.Dict.pendingCount d >>= _) _ _ s;refine wpAny_bind (wpAny_pendingCount_other hd ?_);refine wpAny_ret_mkInt ?_
  grind
theorem Z7(I:Inv X pins σ H s)(e:Rd H a (.dT sh kvs kas))(h:∀t s',Inv X pins σ H s'->Q (.int kvs.length t) s'):wpAny (model X.prog X.w) A (call (.builtin "len") [.ref a]) Q E s:=by
 obtain⟨z,hd,xs,rel,_,dd⟩:=Cd I.aR e;have hT:=dd.typeIs;obtain⟨o,es,ep,ho,_,pD,RF,_⟩:=dd;have hsz:es.size=kvs.length:=by rw[size_of_entries RF,Paired.length rel]
 rw[sizeLine_eq]at z;refine Calls.call_function_entry kind_len plain_len entry_len (args_len1 _) ?_
 unfold Builtin.«len»;refine wpAny_bind (m:=oneArg "len" _) (wpAny_pure ?_)
 refine wpAny_bind (m:=callSpecial? (.ref a) (Str.ofString "__len__")) (wpAny_callSpecial?_slot (name:=Str.ofString "__len__") hT F.slot_dict_len
  (call_meetsIn F.slot_dict_len hT F.entry_dict_len (F.args_dict_len_1 _) (UZ hd) ⟨o,es,ep,ho,pD,?_⟩))
 rw[hsz];show wpAny _ _ _ _ _ {s with toks:=s.toks+1};refine wpAny_bind (wpAny_holding (wpAny_pure ?_));refine wpAny_bind (wpAny_letGo ?_);show wpAny _ _ (if((kvs.length:Nat):Int)<0 then _ else _) _ _ _;rw[if_neg (by omega)];show wpAny _ _ (if((kvs.length:Nat):Int)>=2^63 then _ else _) _ _ _;rw[if_neg (by omega)];exact wpAny_bind (wpAny_mkInt (wpAny_pure ⟨_,rfl,h _ _ (I.tok _)⟩))
noncomputable def BF:List V->Hp->VK->Prop:=λxs H Q=>∃a sh kvs kas,xs=[.ref a]/\Rd H a (.dT sh kvs kas)/\Q (.int kvs.length) H
theorem VQ:c9 X (.builtin "len") BF:=by
 intro pins s σ H xs us Q I r h;obtain⟨a,sh,kvs,kas,rfl,e,q⟩:=h;obtain⟨u,rfl,rx⟩:=vals1 r;cases(show u=Value.ref a from rx);exact Z7 I e λt s' I'=>⟨.int kvs.length,H,I',⟨t,rfl⟩,q⟩
theorem Inv.sZ(I:Inv X pins σ H s)(e:H a=some (.dT sh kvs kas))(q:s.heap.get? a=some o):Inv X pins σ (upd H a (.cD o (.dT sh kvs kas))) s:=
 I.swapAt e (λz=>z) (λ_ z=>nomatch z) (λob v z=>by have:=I.base.a8 a ob v z;grind) (λ_ z=>nomatch z) λok=>⟨q,(ok a _ e).fR (λ_ _ _ z=>z) (λc z=>by rw[aP (gh z e (λy=>nomatch y))];exact z) λc xs tl z=>by rw[aP (gh z e (λy=>by subst y;exact tl))];exact z⟩
theorem Yh(hl:PE X l tl):PE X l (λσ H Q=>tl σ H λv H1=>∃a sh kvs kas,v=.ref a/\H1 a=some (.dT sh kvs kas)/\∀o,Q v (upd H1 a (.cD o (.dT sh kvs kas)))):=by
 intro pins s σ H Q I h;refine bB (hl pins s σ H _ I h) λv s1 ⟨x,H1,I1,r1,q1⟩=>?_
 obtain⟨a,sh,kvs,kas,rfl,e,q⟩:=q1;obtain⟨_,_,_,_,_,o,_,_,g,_⟩:=I1.aR a _ e;exact⟨.ref a,_,I1.sZ e g,r1,q o⟩
end
noncomputable def jY(h:Heap)(d:Addr)(es:Array DictEntry)(ep:Nat):Prop:=∃o,h.get? d=some o/\o.ExactDict/\o.data=.dict es ep
section
variable{s:Shared}
theorem jY.typeIs(h:jY s.heap d es ep):s.TypeIs (.ref d) "dict":=let ⟨o,ho,J,_⟩:=h;⟨o,ho,J.1⟩
theorem WL(hd:(d==sysModules)=false)(hm:jY s.heap d es ep)
  (hQ:Q (.ref s.heap.objs.size) {s with heap:=s.heap.push {cls:=.type "dict_keyiterator", data:=.fields #[.ref d,.int 0 0,.int es.size 0,.int ep 0]}}):wpAny (model prog w) A (pyIter (.ref d)) Q E s:=by
 have hT:=hm.typeIs;obtain⟨o,ho,_,pD⟩:=hm;refine wpAny_pyIter_slot hT F.slot_dict_iter (wpAny_call_entry F.slot_dict_iter hT F.entry_dict_iter ?_ (F.args_dict_iter_1 _));unfold Builtin.«dict.__iter__»;refine wpAny_bind ?_;unfold Builtin.Dict.dictSlotNone;refine wpAny_bind (wpAny_notOrdered_dict hT ?_);show wpAny _ _ (pure (Value.ref d)) _ _ s;refine wpAny_pure ?_;show wpAny _ _ (Builtin.Dict.showsAll d >>= _) _ _ s;unfold Builtin.Dict.showsAll;rw[if_neg (by grind)];refine wpAny_bind (wpAny_pure (wpAny_bind (wpAny_dictEntries ho pD (wpAny_bind (wpAny_dictEpoch ho pD ?_)))));refine wpAny_bind (wpAny_newObj_type (wpAny_pure ⟨_,rfl, "dict_keyiterator", _,⟨_,Heap.get?_push_size _ rfl,rfl⟩,F.slot_dict_keyiterator_next.lookup,?_⟩))
 simpa [rawInt]using hQ
theorem WM(hit:s.heap.IsKeyIter it d i es.size ep)(hm:jY s.heap d es ep)(hx)
  (hQ:∀h',h'.IsKeyIter it d (i+1) es.size ep->Heap.SameBut it s.heap h'->Q (some es[i].key) {s with heap:=h'}):wpAny (model prog w) A (pyNext (.ref it)) Q E s:=by
 obtain⟨o,ho,J,hd⟩:=id hit;obtain⟨od,An,_,Aa⟩:=hm;unfold pyNext
 refine wpAny_bind (wpAny_attempt (wpAny_callSpecial?_slot (name:=Str.ofString "__next__") hit.typeIs F.slot_dict_keyiterator_next
  (wpAny_call_entry F.slot_dict_keyiterator_next hit.typeIs F.entry_dict_keyiterator_next ?_ (F.args_dict_keyiterator_next_1 _))))
 refine wpAny_bind (wpAny_pure (wpAny_bind (wpAny_bind ?_)))
 first|refine wpAny_bind (wpAny_typeNameOfWhole_keyiter hit.typeIs (wpAny_pure ?_))|refine wpAny_bind (wpAny_typeNameOf_keyiter hit.typeIs (wpAny_pure ?_))
 refine wpAny_bind (wpAny_fieldsOf ho hd ?_);have wD:Builtin.Dict_items.ownsTuple "dict_keyiterator"=false:=by decide
 simp only[wD,w2l,if_false];show wpAny _ _ (if(Value.ref d==Value.none)=true then _ else _) _ _ s;rw[if_neg (show ¬((Value.ref d==Value.none)=true)from w1k)];refine wpAny_bind (wpAny_pure (wpAny_bind (wpAny_dictEntries An Aa ?_)));rw[if_neg (by simp)];refine wpAny_bind (wpAny_pure (wpAny_bind (wpAny_dictEpoch An Aa ?_)));rw[if_neg (by simp)];refine wpAny_pure ?_;simp only[show ¬((i:Int)<0)from by omega,if_false,w1f,Array.getElem?_eq_getElem hx];refine wpAny_bind ?_
 first|refine wpAny_bind (wpAny_typeNameOfWhole_keyiter hit.typeIs (wpAny_pure ?_))|refine wpAny_bind (wpAny_typeNameOf_keyiter hit.typeIs (wpAny_pure ?_))
 refine wpAny_bind (wpAny_isOneOf_keyiter hit.typeIs ?_);show wpAny _ _ (setField (.ref it) 1 (rawInt ((i:Int)+1)) >>= _) _ _ s;refine wpAny_bind (wpAny_setField ho hd (by simp) ?_)
 have FG:(s.heap.update it (Obj.mapFields (·.setIfInBounds 1 (rawInt ((i:Int)+1))))).IsKeyIter it d (i+1) es.size ep:=
  ⟨_,Heap.get?_update_self _ ho (Obj.isFreed_of_fields (Obj.data_mapFields hd _)),(Obj.cls_mapFields ..).trans J,by grind [Obj.data_mapFields,rawInt]⟩
 refine wpAny_bind (wpAny_holding ?_);refine wpAny_bind (wpAny_isOneOf_keyiter (s:={s with heap:=s.heap.update it (Obj.mapFields (·.setIfInBounds 1 (rawInt ((i:Int)+1))))}) FG.typeIs ?_)
 simp_all [wpAny,Heap.SameBut.update]
theorem Yi(hh:A.handled=none)(hit:s.heap.IsKeyIter it d i es.size ep)(hm:jY s.heap d es ep)(hx:es.size<=i)
  (hQ:∀h',Heap.ExtBut it s.heap h'->Q none {s with heap:=h'}):wpAny (model prog w) A (pyNext (.ref it)) Q E s:=by
 obtain⟨o,ho,J,hd⟩:=id hit;obtain⟨od,An,_,Aa⟩:=hm;unfold pyNext
 refine wpAny_bind (wpAny_attempt (wpAny_callSpecial?_slot (name:=Str.ofString "__next__") hit.typeIs F.slot_dict_keyiterator_next
  (wpAny_call_entry F.slot_dict_keyiterator_next hit.typeIs F.entry_dict_keyiterator_next ?_ (F.args_dict_keyiterator_next_1 _))))
 refine wpAny_bind (wpAny_pure (wpAny_bind (wpAny_bind ?_)))
 first|refine wpAny_bind (wpAny_typeNameOfWhole_keyiter hit.typeIs (wpAny_pure ?_))|refine wpAny_bind (wpAny_typeNameOf_keyiter hit.typeIs (wpAny_pure ?_))
 refine wpAny_bind (wpAny_fieldsOf ho hd ?_);have wD:Builtin.Dict_items.ownsTuple "dict_keyiterator"=false:=by decide
 simp only[wD,w2l,if_false];show wpAny _ _ (if(Value.ref d==Value.none)=true then _ else _) _ _ s;rw[if_neg (show ¬((Value.ref d==Value.none)=true)from w1k)];refine wpAny_bind (wpAny_pure (wpAny_bind (wpAny_dictEntries An Aa ?_)));rw[if_neg (by simp)];refine wpAny_bind (wpAny_pure (wpAny_bind (wpAny_dictEpoch An Aa ?_)));rw[if_neg (by simp)];refine wpAny_pure ?_;simp only[show ¬((i:Int)<0)from by omega,if_false,w1f,Array.getElem?_eq_none hx];refine wpAny_bind ?_
 first|refine wpAny_bind (wpAny_typeNameOfWhole_keyiter hit.typeIs (wpAny_pure ?_))|refine wpAny_bind (wpAny_typeNameOf_keyiter hit.typeIs (wpAny_pure ?_))
 show wpAny _ _ (setField (.ref it) 0 .none >>= _) _ _ s;refine wpAny_bind (wpAny_setField ho hd (by simp) ?_);show wpAny _ _ (newExc (.type "StopIteration") [] >>= _) _ _ _;refine wpAny_bind ?_;simp only[newExc,newTuple];refine wpAny_bind (wpAny_newObj_type ?_ (by size_fits));refine wpAny_bind (m:=firstArgMember _ _) (wpAny_of_eq (a:=Value.none) (by first|rfl|(simp only[firstArgMember];rfl)) ?_);refine wpAny_newObj_type ?_ (by size_fits);simp only[raiseNew];refine wpAny_bind (wpAny_handled ?_);rw[show A.in1.handled=none from hh];refine wpAny_bind (wpAny_pure (wpAny_throw ?_));refine wpAny_bind (wpAny_isInstance (T:="StopIteration") (b:=true) ⟨_,Heap.get?_push_size _ rfl,rfl⟩ isSubtype_stop ?_);exact wpAny_pure (hQ _ (((Heap.SameBut.update ..).extBut.push _).push _))
end
noncomputable def EU(d:Addr)(o:Obj)(sh:Sh)(kvs:List (Kx×V))(kas:List Addr):It:=
 ⟨λi H=>H d=some (.cD o (.dT sh kvs kas))/\i<kas.length,λi H x H'=>H'=H/\∃b,kas[i]?=some b/\x=.ref b,λi H=>H d=some (.cD o (.dT sh kvs kas))/\kas.length<=i⟩
theorem VR{K:Fg}(hx:o.ExactDict)(hd:o.data=.dict es ep)(hk:es.toList.map (·.key)=kas.map Value.ref):
  Turn P w K tg (EU d o sh kvs kas) [it] it (λi h=>h.IsKeyIter it d i es.size ep) where
 mem:=by simp
 obj:=λi h st b hb=>by
  have e:b=it:=by simpa using hb
  subst e;obtain⟨o,e,c,d⟩:=st
  grind
 keep:=λi h h' st k=>by
  obtain⟨o,e,r⟩:=st;exact⟨o,k it (by simp) o e,r⟩
 item:=by
  intro X hP hw hK J i pins s σ H E I hf st hg;subst hP hw hK;obtain⟨hq,hi⟩:=hg;have Ft:jY s.heap d es ep:=⟨o,(I.aR d _ hq).1,hx,hd⟩;have hl:es.size=kas.length:=by have:=congrArg List.length hk;simpa using this
  obtain⟨f0,f1,f2,f3,f4,f5⟩:=hf it (by simp);have qE:i<es.size:=by rw[hl];exact hi
  refine WM st Ft qE λh' oi sb=>?_
  have I1:Inv X pins σ H {s with heap:=h'}:=I.turned (t':=s.toks) (λb o hb e=>(sb.2 b hb).trans e) f0 f1 f3 f4 f5
  obtain⟨o',e,c,d'⟩:=id oi
  have FJ:es[i].key=Value.ref kas[i]:=by
   have z:=congrArg (λl=>l[i]?) hk
   grind
  refine⟨_,rfl,Ey (s:={s with heap:=h'}) e c d' (by decide) ⟨.ref kas[i],H,I1,FJ,⟨rfl,kas[i],w0j hi,rfl⟩,oi,λb hb=>(hf b hb).1⟩⟩
 done:=by
  intro X hP hw hK J i pins s σ H E I hf st hg;subst hP hw hK;obtain⟨hq,hi⟩:=hg;have Ft:jY s.heap d es ep:=⟨o,(I.aR d _ hq).1,hx,hd⟩;have hl:es.size=kas.length:=by have:=congrArg List.length hk;simpa using this
  obtain⟨f0,f1,f2,f3,f4,f5⟩:=hf it (by simp);exact Yi (I.ok.hd J) st Ft (by rw[hl];exact hi) λh' eb=>⟨rfl,I.turned (t':=s.toks) (λb o hb e=>eb b o hb e) f0 f1 f3 f4 f5⟩
 self:=λ_ _ _ _ _ st h=>wpAny_pyIter_keyiter st h
noncomputable def Ar(tl:TE):TI:=λσ H R=>tl σ H λx H1=>∃a o sh kvs kas,x=.ref a/\H1 a=some (.cD o (.dT sh kvs kas))/\R (EU a o sh kvs kas) H1
theorem Yj(hl:PE X l tl):PI X tg l (Ar tl):=by
 intro pins s σ H R I h;refine bB (hl pins s σ H _ I h) λv s1 ⟨x,H1,I1,r1,q1⟩=>?_
 obtain⟨a,o,sh,kvs,kas,e,hq,q⟩:=q1;subst e;cases r1;obtain⟨g0,_⟩:=I1.aR a _ hq;obtain⟨_,F1,xs,rel,RS,o',es,ep,g1,g2,g3,g4,_⟩:=(I1.aR a _ hq).2;rw[g0]at g1;cases g1
 have hk:es.toList.map (·.key)=kas.map Value.ref:=by
  rw[g4,w0s,<- RS,w0s];rfl
 refine WL F1 ⟨o,g0,g2,g3⟩ ?_;refine⟨s1.heap.objs.size,[s1.heap.objs.size],_,_,_,rfl,I1.kept (t':=s1.toks) λb o e=>Heap.get?_push_of_some _ e,VR (o:=o) (sh:=sh) (kvs:=kvs) (kas:=kas) g2 g3 hk,⟨_,Heap.get?_push_size _ rfl,rfl,rfl⟩,λb hb=>?_,q⟩
 have e:b=s1.heap.objs.size:=by simpa using hb
 subst e;exact I1.pk (w0c _) (I1.aR.fresh (w0c _))
noncomputable def BE:List V->Hp->VK->Prop:=λxs H Q=>∃a kvs,xs=[.ref a]/\Rd H a (.dK kvs)/\Q (.int kvs.length) H
theorem VS:c9 X (.builtin "len") BE:=by
 intro pins s σ H xs us Q I r h;obtain⟨a,kvs,rfl,e,q⟩:=h;obtain⟨u,rfl,rx⟩:=vals1 r;cases(show u=Value.ref a from rx);exact z9e I e λt s' I'=>⟨.int kvs.length,H,I',⟨t,rfl⟩,q⟩
end L2
namespace D
open PySem L2 PySem.Spec PyProof.Rows
open Classical
variable{a b:Addr}{fz:Bool}{X:Cx}{d dk:Den W}{G H:Hp}{σ:L2.St}{EE:L2.St->XK}{ks:List Kx}{e:List S}{ws:List W}{i:Nat}{pos:Pos}{K:Fg}{sh:Sh}{x:Str}{v:V}{Z:Zt}
mutual
noncomputable def yp:W->Option Kx
 |.aG=>some .aG
 |.bl b=>some (.bl b)
 |.int i=>some (.int i)
 |.str x=>some (.str x)
 |.tup ws=>(iT ws).map .tup
 |_=>none
noncomputable def iT:List W->Option (List Kx)
 |[]=>some []
 |w::ws=>match yp w,iT ws with
  |some k,some ks=>some (k::ks)
  |_,_=>none
end
noncomputable def du(K:Fg):Prop:=∀a o,K.lookup a=some o->o.cls≠.type "tuple"
theorem eK.rd{xs:List V}(hK:du K)(q:eK K G a xs):Rd G a (.tup xs):=by
 rcases q with q|⟨o,aB,n,C,h2,_⟩
 .exact q
 .exact absurd h2 (hK a o C)
mutual
theorem P5{K:Fg}{G H:Hp}(hK:du K)(s:av G H):∀(w:W){k:Kx}{v:V},yp w=some k->Rep K G w v->bT H k v
 |.bl b,k,v,e,r=>by cases e;exact r
 |.int b,k,v,e,r=>by cases e;exact r
 |.str b,k,v,e,r=>by cases e;exact r
 |.tup ws,k,v,e,r=>by
  have e:(iT ws).map Kx.tup=some k:=e;obtain⟨ks,C,rfl⟩:=w0e.mp e;obtain⟨a,xs,rfl,q,rs⟩:=r;refine⟨a,xs,rfl,?_,OU hK s ws C rs⟩;rcases eK.rd hK q with z|⟨o,z⟩
  .exact .inl (s _ _ z)
  .exact .inr ⟨o,s _ _ z⟩
 |.aG,k,v,e,r=>by cases e;exact r
 |.lst _,k,v,e,r=>by cases e
 |.exc _,k,v,e,r=>by cases e
 |.aY _,k,v,e,r=>by cases e
 |.dw _ _ _ _,k,v,e,r=>by cases e
 |.fn _ _ _,k,v,e,r=>by cases e
theorem OU{K:Fg}{G H:Hp}(hK:du K)(s:av G H):∀(ws:List W){ks:List Kx}{vs:List V},iT ws=some ks->aw K G ws vs->eO H ks vs
 |[],ks,vs,e,r=>by cases e;exact r
 |w::ws,ks,vs,e,r=>by
  have e:(match yp w,iT ws with|some k,some ks=>some (k::ks)|_,_=>none)=some ks:=e;split at e
  .rename_i k0 Ll C h2;cases e;obtain⟨x,xs,rfl,r1,r2⟩:=r;exact⟨x,xs,rfl,P5 hK s w C r1,OU hK s ws h2 r2⟩
  .cases e
end
noncomputable def gN:W->Option Kx
 |.tup ws=>(iT ws).map .tup
 |_=>none
theorem yJ(hK:du K)(s:av G H){w:W}{k:Kx}(e:gN w=some k)(r:Rep K G w v):∃b,v=.ref b/\bT H k (.ref b):=by
 cases w with
 |tup ws=>
  have z:=P5 hK s (.tup ws) e r;obtain⟨a,xs,rfl,q,rs⟩:=r;exact⟨a,rfl,z⟩
 |_=>cases e
noncomputable def fits(k:Kx)(sh:Sh):Prop:=eN k sh/\k.depth<=7
mutual
noncomputable def wK:Kx->W
 |.aG=>.aG
 |.bl b=>.bl b
 |.int i=>.int i
 |.str x=>.str x
 |.tup ks=>.tup (wKs ks)
noncomputable def wKs:List Kx->List W
 |[]=>[]
 |k::ks=>wK k::wKs ks
end
mutual
theorem NP{K:Fg}{G:Hp}:∀(k:Kx){v:V},bT G k v->Rep K G (wK k) v
 |.aG,_,h=>h
 |.bl _,_,h=>h
 |.int _,_,h=>h
 |.str _,_,h=>h
 |.tup ks,_,h=>by
  obtain⟨a,xs,rfl,q,r⟩:=h;exact⟨a,xs,rfl,.inl q,Mx ks r⟩
theorem Mx{K:Fg}{G:Hp}:∀(ks:List Kx){vs:List V},eO G ks vs->aw K G (wKs ks) vs
 |[],_,h=>h
 |k::ks,_,⟨v,r,e,C,h2⟩=>⟨v,r,e,NP k C,Mx ks h2⟩
end
theorem MN:∀{ks:List Kx}{bs:List Addr},cS G ks bs->aw K G (ks.map wK) (bs.map V.ref)
 |[],[],_=>rfl
 |k::ks,b::bs,h=>⟨.ref b,bs.map V.ref,rfl,NP k h.1,MN h.2⟩
 |[],_::_,h=>h.elim
 |_::_,[],h=>h.elim
theorem cS.snoc{k:Kx}(hk:bT G k (.ref b)):∀{ks:List Kx}{bs:List Addr},cS G ks bs->cS G (ks++[k]) (bs++[b])
 |[],[],_=>⟨hk,trivial⟩
 |_::_,_::_,h=>⟨h.1,cS.snoc hk h.2⟩
 |[],_::_,h=>h.elim
 |_::_,[],h=>h.elim
noncomputable def ja:List Kx->List W->Kx->Option W
 |k::ks,w::ws,x=>if k=x then some w else ja ks ws x
 |_,_,_=>none
theorem Bv{K:Fg}{G:Hp}{x:Kx}:∀{kvs:List (Kx×V)}{ws:List W},aw K G ws (kvs.map (·.2)) ->
  (∀w,ja (kvs.map (·.1)) ws x=some w->∃v,eJ kvs x=some v/\Rep K G w v)/\(ja (kvs.map (·.1)) ws x=none->eJ kvs x=none)
 |[],ws,r=>by
  cases ws with
  |nil=>exact⟨(λw z=>nomatch z),λ_=>rfl⟩
  |cons w ws=>obtain⟨_,_,z,_⟩:=r;cases z
 |p::kvs,[],r=>by cases(show _=[]from r)
 |p::kvs,w::ws,r=>by
  obtain⟨v,rr,z,C,h2⟩:=r;cases z;have ih:=Bv (x:=x) h2
  by_cases e:p.1=x
  all_goals simp_all [ja,Bi,Bj]
theorem sH.rd{kvs:List (Kx×V)}{kas:List Addr}(s:av G H)(h:sH fz G a sh kvs kas):Rd H a (kh sh kvs kas):=by
 cases fz with
 |true=>obtain⟨o,h⟩:=h;exact .inr ⟨o,s _ _ h⟩
 |false=>exact .inl (s _ _ h)
theorem AL{t:Kx}(kr:bT H t (.ref b))(J:fits t sh):sh.p5=false:=by
 cases sh with
 |int=>
  cases t with
  |int i=>exact nomatch (show V.ref b=V.int i from kr)
  |_=>exact J.1.elim
 |str=>
  cases t with
  |str i=>exact nomatch (show V.ref b=V.str i from kr)
  |_=>exact J.1.elim
 |_=>rfl
noncomputable def Cz(w d:W):Option W:=match gN w,d with
 |some k,.dw _ sh ks ws=>if fits k sh then some (.bl (ja ks ws k).isSome)else none
 |_,_=>none
noncomputable def kZ(w d:W):Option W:=match gN w,d with
 |some k,.dw _ sh ks ws=>if fits k sh then some (.bl (!(ja ks ws k).isSome))else none
 |_,_=>none
noncomputable def p6(d w:W):Option W:=match gN w,d with
 |some k,.dw _ sh ks ws=>if fits k sh then ja ks ws k else none
 |_,_=>none
noncomputable def mW:List W->Option W
 |[.dw _ _ ks _]=>some (.int ks.length)
 |_=>none
theorem P6{k:Kx}(s:av G H)(p:Rep K G (.dw fz sh ks ws) v)(kr:bT H k (.ref b))(J:fits k sh):
  ∃a o,v=.ref a/\fT H a (.ref b) o/\(∀w,ja ks ws k=some w->∃u,o=some u/\Rep K G w u)/\(ja ks ws k=none->o=none):=by
 obtain⟨a,kvs,kas,rfl,C,rfl,h3,h4⟩:=p;refine⟨a,_,rfl,fT.t (by have:=C.rd s;rwa [qa (AL kr J)]at this) ⟨kr,J⟩,?_⟩;exact Bv h4
theorem Yk(hK:du K):jF K (λy x H Q=>∃a o,x=.ref a/\fT H a y o/\Q (.bl (!o.isSome)) H) kZ:=by
 intro G H x y wx wy w Q s px py hf h;unfold kZ at hf;split at hf
 .rename_i k fz sh ks ws hk;split at hf
  .rename_i J;cases hf;obtain⟨b,rfl,kr⟩:=yJ hK s hk px;obtain⟨a,o,rfl,g,g1,g2⟩:=P6 s py kr J;refine⟨a,o,rfl,g,h G _ H (.refl s) ?_⟩;show V.bl (!o.isSome)=V.bl (!(ja ks ws k).isSome);cases q:ja ks ws k with
   |none=>rw[g2 q];rfl
   |some w=>grind
  .cases hf
 .cases hf
theorem z6a(hK:du K):jF K (λx y H Q=>∃a v,x=.ref a/\fT H a y (some v)/\Q v H) p6:=by
 intro G H x y wx wy w Q s px py hf h;unfold p6 at hf
 grind [yJ,P6,aQ.refl]
noncomputable def vE:List V->Hp->VK->Prop:=λxs H Q=>∃a sh kvs kas,xs=[.ref a]/\Rd H a (kh sh kvs kas)/\Q (.int kvs.length) H
theorem VT:c9 X (.builtin "len") vE:=by
 intro pins s σ H xs us Q I r h;obtain⟨a,sh,kvs,kas,e1,e2,q⟩:=h;cases hI:sh.p5 with
 |false=>rw[qa hI]at e2;exact VQ pins s σ H xs us Q I r ⟨a,sh,kvs,kas,e1,e2,q⟩
 |true=>
  rw[show kh sh kvs kas=.dK (kvs.map λp=>(Ln p.1,p.2))from if_pos hI]at e2
  exact VS pins s σ H xs us Q I r ⟨a,_,e1,e2,by grind⟩
theorem Yl:pS K vE mW:=by
 intro G H xs ws w Q s pr hf h;unfold mW at hf;split at hf
 .rename_i fz sh ks vs;cases hf;obtain⟨x,r,rfl,px,pr⟩:=pr;cases(show r=[]from pr);obtain⟨a,kvs,kas,rfl,C,rfl,h3,h4⟩:=px;refine⟨a,sh,kvs,kas,rfl,C.rd s,h G _ H (.refl s) ?_⟩;show V.int _=V.int _;rw[w0a]
 .cases hf
section
variable{a b e k o:Expr}{es:List Expr}{da db:Den W}{dA:Den (List W)}{p dt:Pos}{body:List Stmt}{s1:List S->SR}
theorem Ym(hK:du X.K)(hu:X.A.units+150<cLine)(ha:DE Z X EE a da)(hb:DE Z X EE b db)(hm:autoParam (behindInMarks .NotIn b=false) jJ):DT Z X EE (.Compare a [.NotIn] [b] pos) (aD (aq kZ da db)):=
 PT.mono (Py (MM (by omega) ha hb) hm) λσ H Q h=>vw (Yk hK) σ H _ (HR h)
theorem z6b(hK:du X.K)(hu:X.A.units+150<cLine)(ha:DE Z X EE a da)(hb:DE Z X EE b db)(hs:sJ b:=by intro _ _;rfl):DE Z X EE (.Subscript a b pos) (aq p6 da db):=
 PE.mono (OQ (by omega) ha hb hs) (vw (z6a hK))
theorem Yn(hm:X.mg "len"=none)(ha:DA Z X EE [e] dA)(hg:autoParam (Gl X "len") jJ)(he:autoParam (starEach [e] X.env=(false,eval e X.env)::starEach [] X.env) jJ)(dJ:autoParam ((backTo pos (starEach [] X.env)).any (·.1)=false) jJ):DE Z X EE (.Call (.Name "len" p) [e] [] pos) (cX mW dA):=
 yP VT Yl PySem.boot_len hm ha hg (by decide) (by decide) he dJ
noncomputable def eU:S->Bool
 |.dw _ _ _=>true
 |.aY _=>true
 |_=>false
theorem Rel.Q6{e:List S}(r:Rel K Z G σ H e)(h:e[i]?=some (.dw sh ks ws)):∃a kvs kas,σ[i]?=some (some (.ref a))/\H a=some (kh sh kvs kas)/\G a=none/\Z.H a=none/\kvs.map (·.1)=ks/\cM sh G ks kas/\dM K Z G sh ws (kvs.map (·.2)):=by
 obtain⟨a,kvs,kas,C,h2,h3,h4,h5,h6,h7⟩:=r.slot i _ h;refine⟨a,kvs,kas,?_,h2,h3,h4,h5,h6,h7⟩;cases q:σ[i]? with
 |none=>rw[q]at C;cases C
 |some z=>rw[q]at C;rw[show z=some (V.ref a)from C]
theorem Rel.dw{e:List S}(r:Rel K Z G σ H e)(h:e[i]?=some (.dw sh ks ws)):∃a kvs kas,σ[i]?=some (some (.ref a))/\H a=some (kh sh kvs kas)/\G a=none/\Z.H a=none/\kvs.map (·.1)=ks/\cM sh G ks kas/\aw K G ws (kvs.map (·.2)):=by
 obtain⟨a,kvs,kas,C,h2,h3,h4,h5,h6,h7⟩:=r.Q6 h;exact⟨a,kvs,kas,C,h2,h3,h4,h5,h6,h7.m7⟩
theorem Rel.xG{e:List S}(r:Rel K Z G σ H e){s:S}(hs:∀b ws,s≠.own b ws)(q:eD K Z G H s (some v)):Rel K Z G (σ.set i (some v)) H (e.set i s):=by
 refine⟨r.sub,λj t z=>?_,by simpa using r.len,λj k b1 b2 w1 w2 c z1 z2 z3 z4=>?_,r.ent,r.kO,r.gen⟩
 .by_cases hj:j=i
  .subst hj
   have hi:j<e.length:=by
    have:=(w0b.mp z).1;simpa using this
   rw[w0i hi]at z;cases z;rw[w0i (by rw[<- r.len];exact hi)];exact q
  .rw[w0f (λz=>hj z.symm)]at z |-
   exact r.slot j t z
 .have old:∀(k:Nat)(bb:Option Nat)(ww:List W),(e.set i s)[k]?=some (.own bb ww)->k≠i/\e[k]?=some (.own bb ww):=λk bb ww z=>by
   by_cases hk:k=i
   .subst hk
    have hi:k<e.length:=by
     have:=(w0b.mp z).1;simpa using this
    rw[w0i hi]at z;cases z;exact absurd rfl (hs _ _)
   .rw[w0f (λz=>hk z.symm)]at z;exact⟨hk,z⟩
  obtain⟨n1,q1⟩:=old _ _ _ z1;obtain⟨n2,q2⟩:=old _ _ _ z2;rw[w0f (λz=>n1 z.symm)]at z3
  rw[w0f (λz=>n2 z.symm)]at z4
  exact r.lD _ _ _ _ _ _ _ q1 q2 z3 z4
theorem Rel.vf{e:List S}(r:Rel K Z G σ H e){ks':List Kx}{ws':List W}{a:Addr}{kvs':List (Kx×V)}{wM:List Addr}(h:e[i]?=some (.dw sh ks ws))(ha:σ[i]?=some (some (.ref a)))(ho:∀s∈e.set i .no,eU s=false)
  (h5:kvs'.map (·.1)=ks')(h6:cM sh G ks' wM)(h7:dM K Z G sh ws' (kvs'.map (·.2))):Rel K Z G σ (upd H a (kh sh kvs' wM)) (e.set i (.dw sh ks' ws')):=by
 obtain⟨a',kvs,kas,C,h2,h3,h4,_⟩:=r.dw h;rw[ha]at C;cases C;have hi:i<e.length:=(w0b.mp h).1;refine⟨λc o z=>?_,λj s z=>?_,by simpa using r.len,λj k b1 b2 w1 w2 c z1 z2 z3 z4=>?_,λc o z n=>?_,λc z=>?_,r.gen⟩
 .rw[aP (jf z h3)];exact r.sub c o z
 .by_cases hj:j=i
  .subst hj;rw[w0i hi]at z;cases z;exact⟨a,kvs',wM,by rw[ha];rfl,bI,h3,h4,h5,h6,h7⟩
  .rw[w0f (λz=>hj z.symm)]at z
   have y:=r.slot j s z;cases s with
   |no=>trivial
   |fr w=>exact y
   |own b2 w2=>
    obtain⟨c,ys,y1,y2,y3,y4,y5⟩:=y;refine⟨c,ys,y1,?_,y3,y4,y5⟩;rw[aP (gh y2 h2 (λz=>oW rfl z.symm))];exact y2
   |aY _=>
    have:=ho _ (w0d (i:=j) (by rw[w0f (λz=>hj z.symm)];exact z))
    cases this
   |nest bq=>exact cu.move y (.refl _) λl o ys k1 k2 k3=>⟨by rw[aP (gh k1 h2 (λz=>oW rfl z.symm))];exact k1,k2,k3⟩
   |dw _ _ _=>
    have:=ho _ (w0d (i:=j) (by rw[w0f (λz=>hj z.symm)];exact z))
    cases this
 .have old:∀(k:Nat)(bb:Option Nat)(ww:List W),(e.set i (S.dw sh ks' ws'))[k]?=some (.own bb ww)->e[k]?=some (.own bb ww):=λk bb ww z=>by
   by_cases hk:k=i
   .subst hk;rw[w0i hi]at z;cases z
   .rw[w0f (λz=>hk z.symm)]at z;exact z
  exact r.lD _ _ _ _ _ _ _ (old _ _ _ z1) (old _ _ _ z2) z3 z4
 .rw[aP (jf z h4)];exact r.ent c o z n
 .by_cases J:c=a
  .subst J;rw[bI];exact λz=>nomatch z
  .rw[aP J];exact r.kO c z
noncomputable def mP(i:Nat)(sh:Sh):List S->SR:=λe=>.nx (e.set i (.dw sh [] []))
theorem OV(i:Nat)(sh:Sh){pos' kg:Pos}(hN:X.N.Nodup)(hI:autoParam (sh.p5=false) jJ)(hi:autoParam (X.N[i]?=some x) jJ)(hx:autoParam (Loc X.env.scope x) jM)(hs:autoParam (swapsWith (.Dict [] [] kg) (some (.Name x pos')) pos.line X.env=pure false) jJ)(hf:autoParam (X.fn x=true\/X.env.scope.names.lookup x=some .local) jL):
  DS Z X EE (.Assign [.Name x pos'] (.Dict [] [] kg) pos) (mP i sh):=by
 refine PS.mono (vB i hN (WJ (sh:=sh)) hi hx hs hf) ?_;rintro D σ H ⟨G,e,rel,h⟩;intro q hq;have g:=aQ.ny rel.sub hq (.dT sh [] []);exact h G _ _ ((rel.grow g).xG (s:=.dw sh [] []) (λ_ _ z=>nomatch z) ⟨q,[],[],rfl,by rw[qa hI];exact bI,rel.sub.free hq,p9 rel hq,rfl,.of trivial hI,.nil⟩) (.refl _)
noncomputable def oQ(i:Nat)(w kw:W)(e:List S):Option S->SR
 |some (.dw sh ks ws)=>match gN kw with
  |some x=>if ks.length<16777216/\(e.set i .no).all (λs=>!eU s)=true/\fits x sh/\ja ks ws x=none/\sh.Ga=false then .nx (e.set i (.dw sh (ks++[x]) (ws++[w])))else .no
  |none=>.no
 |_=>.no
noncomputable def oO(i:Nat)(dk:Den W)(w:W)(e1:List S):Option S->SR
 |some (.dw _ _ _)=>(dk e1).cQ λkw e2=>oQ i w kw e2 e2[i]?
 |_=>.no
noncomputable def ly(i:Nat)(d dk:Den W):List S->SR:=λe=>(d e).cQ λw e1=>oO i dk w e1 e1[i]?
theorem Yo(i:Nat)(hK:du X.K)(hu:X.A.units+150<cLine)(he:DE Z X EE e d)(hk:DE Z X EE k dk)(hN:autoParam (X.N[i]?=some x) jJ)(hv:autoParam (j0 X.env.scope x) jN)(hd:autoParam ((x==("__debug__":Str))=false) jK)(dU:autoParam ((x==("__classdict__":Str))=false) jK)
  (hs:autoParam (swapsWith e (some (.Subscript (.Name x p) k dt)) pos.line X.env=pure false) jJ):DS Z X EE (.Assign [.Subscript (.Name x p) k dt] e pos) (ly i d dk):=by
 refine PS.mono (JD (by omega) (pv i hN hv hd dU) hk he hs) ?_;rintro D σ H ⟨G,e,rel,h⟩;refine⟨G,e,rel,(jC h).imp (λw e1 h G1 v1 H1 r1 s1 p1=>?_) λ_ _ h=>h⟩
 unfold oO at h;split at h
 .rename_i S' Ll IV pE;obtain⟨a,Gi,Gf,q1,q2,_⟩:=r1.dw pE;refine⟨.ref a,q1,G1,e1,r1,(jC (σ:=σ) h).imp (λkw e2 h G2 v2 H2 r2 s2 p2=>?_) λ_ _ h G' H' r s=>h G' H' r (s1.trans s)⟩
  unfold oQ at h;split at h
  .rename_i sh ks ws nv;obtain⟨a',kvs,kas,g1,g2,g3,g4,g5,g6,g7⟩:=r2.dw nv;rw[q1]at g1;cases g1;split at h
   .rename_i t tj;split at h
    .rename_i J;obtain⟨b,rfl,kr⟩:=yJ hK (.refl G2) tj p2;have Az:bT H2 t (.ref b):=bT.keeps (λ_ _ _ z=>r2.sub _ _ z) t kr
     subst g5;have hI:=AL kr J.2.2.1;rw[qa hI]at g2;have nV:eJ kvs t=none:=(Bv g7).2 J.2.2.2.1;refine⟨a,_,rfl,lN.t g2 ⟨Az,J.2.2.1⟩ (by rw[sizeLine_eq];have:=J.1;rw[w0a]at this;exact this),?_⟩;rw[NM v1 nV,show eW kvs kas t b=kas++[b] by unfold eW;rw[nV];rfl,<- qa hI];refine h G2 σ _ (r2.vf (ks':=kvs.map (·.1)++[t]) (ws':=ws++[w]) nv q1 (λs hs=>?_) (by rw[w0g];rfl) (.of (cS.snoc kr (g6.g hI)) hI) ?_) (s1.trans s2)
     .have:=w0u.mp J.2.1 s hs;simpa using this
     .rw[w0g];exact .of J.2.2.2.2 (g7.append (.one (Rep.mono s2 w p1)))
    .exact h.elim
   .exact h.elim
  .exact h.elim
 .exact h.elim
end
noncomputable def fm:Int->List Int->Int
 |x,[]=>x
 |x,y::ys=>fm (if x<y then y else x) ys
theorem JE:∀(ys:List Int)(x:Int),(fm x ys=x\/fm x ys∈ys)/\x<=fm x ys/\∀y∈ys,y<=fm x ys
 |[],x=>⟨.inl rfl,Int.le_refl _,λy hy=>nomatch hy⟩
 |y::ys,x=>by
  obtain⟨C,h2,h3⟩:=JE ys (if x<y then y else x);have e:fm x (y::ys)=fm (if x<y then y else x) ys:=rfl
  grind
theorem VU(J:X.calm=true):c9 X (.builtin "max") (λxs H Q=>∃p n ns,xs=[.ref p]/\cy X.K H p ((n::ns).map V.int)/\Q (.int (fm n ns)) H):=by
 intro pins s σ H xs us Q I r h;obtain⟨p,n,ns,rfl,hq,q⟩:=h;obtain⟨u,rfl,rx⟩:=vals1 r;cases rx;obtain⟨aB,r',pl,hz⟩:=I.list hq;have hl:=pl.isList;have cY:p<s.heap.objs.size:=by obtain⟨_,e,_⟩:=hl;exact Heap.lt_size e
 have hh:X.A.in1.handled=none:=I.ok.hd J;have hlen:aB.length=(n::ns).length:=by have:=r'.length;grind
 have tF:∀(i:Nat)(v:Value),aB.toArray[i]?=some v->∃t,v=Value.int ((n::ns).getD i 0) t:=λi v hv=>by
  have yn:aB[i]?=some v:=by simpa using hv
  have hi:i<(n::ns).length:=by grind
  obtain⟨u,hu,ru⟩:=r'.get (i:=i) (x:=V.int ((n::ns).getD i 0)) (by grind);rw[yn]at hu;cases hu;exact ru
 refine call_max_walk (wpAny_pyIter_list hl ⟨s.heap.objs.size,[s.heap.objs.size,p],[s.heap.objs.size],_,_,_,_,rfl,Walks.list hh s.heap.objs.size p (w0o cY) aB.toArray,⟨⟨_,Heap.get?_push_size _ rfl,rfl,rfl⟩,hl.push _⟩,λb hb=>?_,by grind,CmpOf.ints_gt (λi=>(n::ns).getD i 0) tF,λv h' tk hP hk=>?_⟩)
 .show b<(s.heap.push _).objs.size;rw[Heap.size_push]
  grind
 .obtain⟨t,rfl⟩:=tF _ _ hP;obtain⟨b1,b2⟩:=argBest_gt (λi=>(n::ns).getD i 0) (aB.toArray.size-1)
  have e:(n::ns).getD (argBest (λi j=>decide ((n::ns).getD i 0>(n::ns).getD j 0)) (aB.toArray.size-1)) 0=fm n ns:=by
   obtain⟨m1,m2,m3⟩:=JE ns n;have hsz:aB.toArray.size=ns.length+1:=by grind
   generalize argBest (λi j=>decide ((n::ns).getD i 0>(n::ns).getD j 0)) (aB.toArray.size-1)=k at b1 b2
   have hk:k<(n::ns).length:=by simp;omega
   have ge:(n::ns).getD k 0<=fm n ns:=by
    grind [List.getElem_mem]
   have le:fm n ns<=(n::ns).getD k 0:=by
    have:∃j,j<=ns.length/\(n::ns).getD j 0=fm n ns:=by
     rcases m1 with z|z
     .exact⟨0,w0q _,by simp[z]⟩
     grind [List.mem_iff_getElem]
    grind
   omega
  rw[e];refine⟨.int (fm n ns),H,I.kept (t':=tk) λb o uR=>hk b o (λz=>?_) (Heap.get?_push_of_some _ uR),⟨t,rfl⟩,q⟩
  rw[w0t]at z;exact absurd (Heap.lt_size uR) (by grind)
noncomputable def l4:List W->Option W
 |[.lst ws]=>match eu ws with
  |some (n::ns)=>some (.int (fm n ns))
  |_=>none
 |_=>none
theorem Yp:pS K (λxs H Q=>∃p n ns,xs=[.ref p]/\cy K H p ((n::ns).map V.int)/\Q (.int (fm n ns)) H) l4:=by
 intro G H xs ws w Q s pr hf h;unfold l4 at hf;split at hf
 .obtain⟨x,r,rfl,px,pr⟩:=pr;cases(show r=[]from pr);split at hf
  .rename_i n ns nW;cases hf;obtain⟨a,cs,rfl,hq,rp⟩:=px;have:=Jg nW rp;subst this;exact⟨a,n,ns,rfl,s.seq hq,h G _ H (.refl s) rfl⟩
  .cases hf
 .cases hf
section
variable{e:Expr}{dA:Den (List W)}{p:Pos}
theorem YH(J:X.calm=true)(hm:X.mg "max"=none)(ha:DA Z X EE [e] dA)(hg:autoParam (Gl X "max") jJ)(he:autoParam (starEach [e] X.env=(false,eval e X.env)::starEach [] X.env) jJ)(dJ:autoParam ((backTo pos (starEach [] X.env)).any (·.1)=false) jJ):DE Z X EE (.Call (.Name "max" p) [e] [] pos) (cX l4 dA):=
 yP (VU J) Yp PyProof.Rows.Boot.«max» hm ha hg (by decide) (by decide) he dJ
end
theorem z6c{n:Int}{ns:List Int}:l4 [.lst ((n::ns).map .int)]=some (.int (fm n ns)):=by
 show(match eu ((n::ns).map .int)with|some (n::ns)=>some (W.int (fm n ns))|_=>none)=_;rw[OO]
section
variable{w kw dflt:W}{x:Kx}
theorem z1b:mP i sh e=.nx (e.set i (.dw sh [] [])):=rfl
theorem z1c:ly i d dk e=(d e).cQ λw e1=>oO i dk w e1 e1[i]?:=rfl
theorem z1d:oO i dk w e (some (.dw sh ks ws))=(dk e).cQ λkw e2=>oQ i w kw e2 e2[i]?:=rfl
theorem JF(hk:gN kw=some x)(C:ks.length<16777216)(h2:(e.set i .no).all (λs=>!eU s)=true)(h3:fits x sh)(h4:ja ks ws x=none)(h5:autoParam (sh.Ga=false) jJ):oQ i w kw e (some (.dw sh ks ws))=.nx (e.set i (.dw sh (ks++[x]) (ws++[w]))):=by
 show(match gN kw with|some x=>_|none=>_)=_
 grind
theorem Bw(hk:gN w=some x)(J:fits x sh):kZ w (.dw fz sh ks ws)=some (.bl (!(ja ks ws x).isSome)):=by
 simp_all [kZ]
theorem Ce(hk:gN w=some x)(J:fits x sh):p6 (.dw fz sh ks ws) w=ja ks ws x:=by
 simp_all [p6]
theorem z6d:mW [.dw fz sh ks ws]=some (.int ks.length):=rfl
theorem z1e:iQ (.dw sh ks ws)=.fr (.dw false sh ks ws):=rfl
end
noncomputable def iZ(K:Fg)(a:Addr):Bool:=match K.lookup a with
 |some o=>(match o.cls with
  |.type n=>n=="tuple"
  |_=>false)
 |none=>false
noncomputable def dS(K:Fg):Fg:=K.filter λp=>!iZ K p.1
theorem Df{q:Addr->Bool}:∀{K:Fg}{o:Obj},(K.filter λp=>q p.1).lookup a=some o->K.lookup a=some o/\q a=true
 |[],_,h=>by cases h
 |(b,u)::K,o,h=>by
  by_cases hq:q b=true
  .rw[List.filter_cons_of_pos (p:=λp:Addr×Obj=>q p.1) (a:=(b,u)) hq]at h
   by_cases e:a=b
   .grind
   .rw[show List.lookup a ((b,u)::(K.filter λp=>q p.1))=List.lookup a (K.filter λp=>q p.1) by grind]at h
    obtain⟨C,h2⟩:=Df h
    grind
  .rw[List.filter_cons_of_neg (p:=λp:Addr×Obj=>q p.1) (a:=(b,u)) hq]at h
   obtain⟨C,h2⟩:=Df h
   grind
theorem WN{h:Heap}(X:K.In h):(dS K).In h:=λa o e=>X a o (Df (q:=λa=>!iZ K a) e).1
theorem y56:du (dS K):=λa o e z=>by
 obtain⟨C,h2⟩:=Df (q:=λa=>!iZ K a) e
 grind [iZ]
theorem q1q{o:Obj}(h:K.lookup a=some o)(t:iZ K a=false):(dS K).lookup a=some o:=by
 have gen:∀(l:Fg)(q:Addr->Bool),q a=true->l.lookup a=some o->(l.filter λp=>q p.1).lookup a=some o:=by
  intro l q hq
  induction l with
  |nil=>intro h;cases h
  |cons p l ih=>
   grind
 exact gen K (λa=>!iZ K a) (by rw[t];rfl) h
theorem q3y{r:Option Value}(h:PySem.W.nsIn K a x=some r)(t:iZ K a=false):PySem.W.nsIn (dS K) a x=some r:=by
 grind [W.nsIn,q1q]
noncomputable def xS(K:Fg):Value->Bool
 |.ref a=>iZ K a
 |_=>false
theorem x6t{cd:Value}(h:PySem.W.codeIn K cd x=true)(t:xS K cd=false):PySem.W.codeIn (dS K) cd x=true:=by
 cases cd with
 |ref a=>
  unfold PySem.W.codeIn at h |-
  dsimp only at h |-
  cases q:K.lookup a with
  |none=>rw[q]at h;cases h
  |some o=>rw[q1q q t];rw[q]at h;exact h
 |_=>cases h
noncomputable def funAt(K:Fg)(a:Addr):Bool:=!iZ K a&&(match K.lookup a with
 |some ⟨_,_,.func _,_⟩=>true
 |_=>false)
noncomputable def lk{κ:Type} [DecidableEq κ](kvs:List (κ×Sv))(x:κ):Option Sv:=(kvs.find? λp=>decide (p.1=x)).map (·.2)
noncomputable def putL{κ:Type} [DecidableEq κ](kvs:List (κ×Sv))(x:κ)(v:Sv):List (κ×Sv):=if(kvs.any λp=>decide (p.1=x))=true then kvs.map (λp=>if p.1=x then(p.1,v)else p)else kvs++[(x,v)]
theorem J4 [DecidableEq κ](x):∀kvs:List (κ×Sv),eJ (wN kvs) x=(lk kvs x).map sV
 |[]=>rfl
 |p::r=>by
  have ih:=J4 x r
  by_cases h:p.1=x
  all_goals simp_all [wN,Bi,lk,Bj]
theorem z6e [DecidableEq κ](x)(v)(kvs:List (κ×Sv)):putK (wN kvs) x (sV v)=wN (putL kvs x v):=by
 unfold putK putL wN;rw[List.any_map];have e:((λkv:κ×V=>decide (kv.1=x)) ∘ λp:κ×Sv=>(p.1,sV p.2))=λp:κ×Sv=>decide (p.1=x):=rfl
 rw[e];split
 .rw[w0s,w0s];refine w0r λp _=>?_
  grind
 grind
noncomputable def tJ:W->Option Key
 |.int i=>some (.inl i)
 |.str x=>some (.inr x)
 |_=>none
noncomputable def Mi:W->Option Sv
 |.int i=>some (.inl i)
 |.bl b=>some (.inr b)
 |_=>none
noncomputable def Ej:Sv->W
 |.inl i=>.int i
 |.inr b=>.bl b
theorem JG(p:Rep K G w v)(h:tJ w=some k):v=kV k:=by
 cases w<;>cases h<;>exact p
theorem z6f(p:Rep K G w v)(h:Mi w=some k):v=sV k:=by
 cases w<;>cases h<;>exact p
theorem VV(k):Rep K G (Ej k) (sV k):=by cases k<;>rfl
noncomputable def qx:W->Option (List (Key×Sv))
 |.aY (.k kvs)=>some kvs
 |_=>none
theorem NQ(h:qx w=some kvs):w=.aY (.k kvs):=by
 cases w with
 |aY d=>cases d<;>cases h;rfl
 |_=>cases h
noncomputable def tM(w d:W):Option W:=(tJ w).bind λk=>(qx d).map λkvs=>.bl (!(lk kvs k).isSome)
noncomputable def Aw(d w:W):Option W:=(tJ w).bind λk=>(qx d).bind λkvs=>(lk kvs k).map Ej
theorem YI:jF K (λy x H Q=>∃a o,x=.ref a/\fT H a y o/\Q (.bl (!o.isSome)) H) tM:=by
 intro G H x y wx wy w Q s px py hf h;obtain⟨k,hk,hf⟩:=w0w.mp hf;obtain⟨kvs,hd,hf⟩:=w0e.mp hf;cases hf;cases JG px hk;cases NQ hd;obtain⟨e,rfl,he⟩:=py;refine⟨e,_,rfl,fT.k (k:=k) (s _ _ he),h G _ H (.refl s) ?_⟩;rw[J4,w2w];rfl
theorem z6g:jF K (λx y H Q=>∃a v,x=.ref a/\fT H a y (some v)/\Q v H) Aw:=by
 intro G H x y wx wy w Q s px py hf h;obtain⟨k,hk,hf⟩:=w0w.mp hf;obtain⟨kvs,hd,hf⟩:=w0w.mp hf;obtain⟨v,hv,rfl⟩:=w0e.mp hf;cases JG py hk;cases NQ hd;obtain⟨e,rfl,he⟩:=px;have g:=fT.k (k:=k) (s _ _ he);rw[J4,hv]at g;exact⟨e,_,rfl,g,h G _ H (.refl s) (VV v)⟩
section
variable{a b e k:Expr}{da db:Den W}{p dt:Pos}
theorem YJ(hu:X.A.units+150<cLine)(ha:DE Z X EE a da)(hb:DE Z X EE b db)(hm:autoParam (behindInMarks .NotIn b=false) jJ):DT Z X EE (.Compare a [.NotIn] [b] pos) (aD (aq tM da db)):=
 PT.mono (Py (MM (by omega) ha hb) hm) λσ H Q h=>vw YI σ H _ (HR h)
theorem z6h(hu:X.A.units+150<cLine)(ha:DE Z X EE a da)(hb:DE Z X EE b db)(hs:sJ b:=by intro _ _;rfl):DE Z X EE (.Subscript a b pos) (aq Aw da db):=
 PE.mono (OQ (by omega) ha hb hs) (vw z6g)
theorem Rel.aY{e:List S}(r:Rel K Z G σ H e){kvs:Dd}(h:e[i]?=some (.aY kvs)):∃a,σ[i]?=some (some (.ref a))/\H a=some (dO kvs)/\G a=none/\Z.H a=none:=by
 obtain⟨a,C,h2,h3,h4⟩:=r.slot i _ h;refine⟨a,?_,h2,h3,h4⟩;cases q:σ[i]? with
 |none=>rw[q]at C;cases C
 |some z=>rw[q]at C;rw[show z=some (.ref a)from C]
theorem Rel.xF{e:List S}(r:Rel K Z G σ H e){kvs:Dd}{a:Addr}(h2:H a=some (dO kvs))(h3:G a=none)(h4:Z.H a=none):Rel K Z G (σ.set i (some (.ref a))) H (e.set i (.aY kvs)):=by
 refine⟨r.sub,λj s z=>?_,by simpa using r.len,λj k b1 b2 w1 w2 c z1 z2 z3 z4=>?_,r.ent,r.kO,r.gen⟩
 .by_cases hj:j=i
  .subst hj
   have hi:j<e.length:=by
    have:=(w0b.mp z).1;simpa using this
   rw[w0i hi]at z;cases z;rw[w0i (by rw[<- r.len];exact hi)];exact⟨a,rfl,h2,h3,h4⟩
  .rw[w0f (λz=>hj z.symm)]at z |-
   exact r.slot j s z
 .have old:∀(k:Nat)(bb:Option Nat)(ww:List W),(e.set i (S.aY kvs))[k]?=some (.own bb ww)->k≠i/\e[k]?=some (.own bb ww):=λk bb ww z=>by
   by_cases hk:k=i
   .subst hk
    have hi:k<e.length:=by
     have:=(w0b.mp z).1;simpa using this
    rw[w0i hi]at z;cases z
   .rw[w0f (λz=>hk z.symm)]at z;exact⟨hk,z⟩
  obtain⟨n1,q1⟩:=old _ _ _ z1;obtain⟨n2,q2⟩:=old _ _ _ z2;rw[w0f (λz=>n1 z.symm)]at z3
  rw[w0f (λz=>n2 z.symm)]at z4
  exact r.lD _ _ _ _ _ _ _ q1 q2 z3 z4
noncomputable def F_:S->Bool
 |.aY _=>true
 |.dw sh _ _=>sh.p5
 |_=>false
theorem Rel.wV{e:List S}(r:Rel K Z G σ H e){kvs kvs':Dd}{a:Addr}(h:e[i]?=some (.aY kvs))(ha:σ[i]?=some (some (.ref a)))(ho:∀j s,j≠i->e[j]?=some s->F_ s=false):Rel K Z G σ (upd H a (dO kvs')) (e.set i (.aY kvs')):=by
 obtain⟨a',C,h2,h3,h4⟩:=r.aY h;rw[ha]at C;cases C;have hi:i<e.length:=(w0b.mp h).1;refine⟨λc o z=>?_,λj s z=>?_,by simpa using r.len,λj k b1 b2 w1 w2 c z1 z2 z3 z4=>?_,λc o z n=>?_,λc z=>?_,r.gen⟩
 .rw[aP (jf z h3)];exact r.sub c o z
 .by_cases hj:j=i
  .subst hj;rw[w0i hi]at z;cases z;exact⟨a,by rw[ha];rfl,bI,h3,h4⟩
  .rw[w0f (λz=>hj z.symm)]at z
   have y:=r.slot j s z;cases s with
   |no=>trivial
   |fr w=>exact y
   |own b2 w2=>
    obtain⟨c,ys,y1,y2,y3,y4,y5⟩:=y;refine⟨c,ys,y1,?_,y3,y4,y5⟩;rw[aP (gh y2 h2 (λz=>uf rfl z.symm))];exact y2
   |aY kv=>have:=ho j _ hj z;cases this
   |nest bq=>exact cu.move y (.refl _) λl o ys k1 k2 k3=>⟨by rw[aP (gh k1 h2 (λz=>uf rfl z.symm))];exact k1,k2,k3⟩
   |dw sh ks ws=>
    have hI:sh.p5=false:=ho j _ hj z;exact ju.move y (.refl _) λl o ys k1 k2 k3=>⟨by rw[aP (gh k1 h2 (λz=>by rw[qa hI]at z;exact uf rfl z.symm))];exact k1,k2,k3⟩
 .have old:∀(k:Nat)(bb:Option Nat)(ww:List W),(e.set i (S.aY kvs'))[k]?=some (.own bb ww)->e[k]?=some (.own bb ww):=λk bb ww z=>by
   by_cases hk:k=i
   .subst hk;rw[w0i hi]at z;cases z
   .rw[w0f (λz=>hk z.symm)]at z;exact z
  exact r.lD _ _ _ _ _ _ _ (old _ _ _ z1) (old _ _ _ z2) z3 z4
 .rw[aP (jf z h4)];exact r.ent c o z n
 .by_cases J:c=a
  .subst J;rw[bI];exact λz=>nomatch z
  .rw[aP J];exact r.kO c z
noncomputable def zL(i:Nat):List S->SR:=λe=>match e[i]? with
 |some (.aY d)=>.rt (.aY d) e
 |_=>.no
noncomputable def mZ(i:Nat)(e:List S):Bool:=(List.range e.length).all λj=>decide (j=i)||!((e[j]?.map F_).getD false)
theorem YK{e:List S}(h:mZ i e=true):∀j s,j≠i->e[j]?=some s->F_ s=false:=λj s hj hs=>by
 have hl:j<e.length:=(w0b.mp hs).1;have:=w0u.mp h j (w1c.mpr hl)
 grind
noncomputable def kB(i:Nat)(w kw:W)(e:List S):Option S->SR
 |some (.aY (.k kvs))=>match Mi w,tJ kw with
  |some v,some x=>if kvs.length<16777216/\mZ i e=true then .nx (e.set i (.aY (.k (putL kvs x v))))else .no
  |_,_=>.no
 |_=>.no
noncomputable def mM(i:Nat)(d dk:Den W):List S->SR:=λe=>(d e).cQ λw e1=>match e1[i]? with
 |some (.aY _)=>(dk e1).cQ λkw e2=>kB i w kw e2 e2[i]?
 |_=>.no
theorem YL(i:Nat)(hu:X.A.units+150<cLine)(he:DE Z X EE e d)(hk:DE Z X EE k dk)(hN:autoParam (X.N[i]?=some x) jJ)(hv:autoParam (j0 X.env.scope x) jN)(hd:autoParam ((x==("__debug__":Str))=false) jK)(dU:autoParam ((x==("__classdict__":Str))=false) jK)
  (hs:autoParam (swapsWith e (some (.Subscript (.Name x p) k dt)) pos.line X.env=pure false) jJ):DS Z X EE (.Assign [.Subscript (.Name x p) k dt] e pos) (mM i d dk):=by
 refine PS.mono (JD (by omega) (pv i hN hv hd dU) hk he hs) ?_;rintro D σ H ⟨G,e,rel,h⟩;refine⟨G,e,rel,(jC h).imp (λw e1 h G1 v1 H1 r1 s1 p1=>?_) λ_ _ h=>h⟩
 split at h
 .rename_i kv0 pE;obtain⟨a,q1,q2,q3,q4⟩:=r1.aY pE;refine⟨.ref a,q1,G1,e1,r1,(jC (σ:=σ) h).imp (λkw e2 h G2 v2 H2 r2 s2 p2=>?_) λ_ _ h G' H' r s=>h G' H' r (s1.trans s)⟩
  unfold kB at h;split at h
  .rename_i kvs nv;obtain⟨a',g1,g2,g3,g4⟩:=r2.aY nv;rw[q1]at g1;cases g1;split at h
   .rename_i v t F4 tj;split at h
    .rename_i J;cases z6f p1 F4;cases JG p2 tj;refine⟨a,_,rfl,lN.k (k:=t) g2 (by rw[sizeLine_eq];unfold wN;rw[w0a];exact J.1),?_⟩;rw[z6e];exact h G2 σ _ (r2.wV (kvs':=.k (putL kvs t v)) nv q1 (YK J.2)) (s1.trans s2)
    .exact h.elim
   .exact h.elim
  .exact h.elim
 .exact h.elim
end
noncomputable def Gk(kvs:List (Key×Sv))(k:Key):Option Bool:=match lk kvs k with
 |some (.inr b)=>some b
 |_=>none
noncomputable def u5(kvs l:List (Key×Sv)):List Key:=(l.filter λp=>Gk kvs p.1==some true).map (·.1)
noncomputable def kW:Key->W
 |.inl i=>.int i
 |.inr x=>.str x
noncomputable def Ax(e:List S):Option S->R (List W)
 |some (.aY (.k kvs))=>if kvs.length<16777216/\(kvs.all λp=>(Gk kvs p.1).isSome)=true then .ok ((u5 kvs kvs).map kW) e else .no
 |_=>.no
theorem ym(h:n+150<cLine):n+20<cLine:=Nat.lt_of_le_of_lt (Nat.add_le_add_left (by decide:20<=150) _) h
theorem z1j:Ax e (some (.aY (.k kvs)))=if kvs.length<16777216/\(kvs.all λp=>(Gk kvs p.1).isSome)=true then .ok ((u5 kvs kvs).map kW) e else .no:=rfl
noncomputable def qU(i:Nat)(dk:Den W)(w:W)(e1:List S):Option S->SR
 |some (.aY _)=>(dk e1).cQ λkw e2=>kB i w kw e2 e2[i]?
 |_=>.no
theorem z1k:mM i d dk e=(d e).cQ λw e1=>qU i dk w e1 e1[i]?:=by
 unfold mM qU;rfl
theorem z1l:qU i dk w e (some (.aY dd))=(dk e).cQ λkw e2=>kB i w kw e2 e2[i]?:=rfl
theorem y57{b:Bool}:kB i (.bl b) (.int n) e (some (.aY (.k kvs)))=if kvs.length<16777216/\mZ i e=true then .nx (e.set i (.aY (.k (putL kvs (.inl n) (.inr b)))))else .no:=rfl
theorem y58:iQ (.aY dd)=.fr (.aY dd):=rfl
theorem z6i:tM (.int n) (.aY (.k kvs))=some (.bl (!(lk kvs (.inl n)).isSome)):=rfl
theorem z9f:Aw (.aY (.k kvs)) (.int n)=(lk kvs (.inl n)).map Ej:=rfl
end D
namespace L2
open PySem PySem.Spec PyProof.Rows
theorem VW{K:Fg}{tabs:List (Addr×Str)}
  (KX:K.In aK.heap)(nW:aK.heap.Ns mainGlobals mg)(hb:aK.heap.Ns builtinsNs mb)(yi:∀x:Str,x≠"__name__"->mb x=bootBuiltins x)(wB:aK.heap.NoLimit)(hg:aK.gens=#[])
  (ha:aK.heap.get? a=some {cls:=.type "list", data:=.seq vs.toArray})(hi:IntsAre vs ns)(hl:ns.length<=sizeLine)(hr:bJ k callerA)
  (F:∀base:Heap,K.In base->base.Ns mainGlobals mg->BMain base mg->fN P w K mg base CX k fa fd [x] sp)(mS:∀(s:Shared)(u:Value),BindsTo s fd ⟨[u],[]⟩ [(x,u)])
  (nA:∀H:Hp,cy K H a (ns.map V.int)->sp [.ref a] H (λv _=>v=.bl true) λ_ _ _=>False)
  (wq:∀H e s',CX [] H aK (λ_ _ _=>False) e s'->False)
  (Rn:BMain aK.heap mg)(hM:∀a q P,(a,jo P q)∈K->tabs.lookup P=some q)(hT:∀P q,tabs.lookup P=some q->aK.heap.get? P=some (tabObj #[])/\isCodeTable aK.heap P)(KR:∀P q,tabs.lookup P=some q->K.lookup P=none):
  codeAny (model P w) callerA (.call (.ref fa) ⟨[.ref a],[]⟩) (λr s'=>r=.ok (.ret (.bool true))/\OldK aK.heap s'.heap/\s'.os=aK.os/\AllBare s'.gens) aK:=by
 have rv:=HQ hi;have Gj:=hi.length
 have aT:tabs.lookup a=none:=by
  cases q:tabs.lookup a with
  |none=>rfl
  |some t=>grind
 have core:∀H0:Hp,(∀b,H0 b=none\/∃o xs,H0 b=some (.cD o (.lst xs)))->cy K H0 a (ns.map V.int)->d7 P w H0 aK.heap->(∀b,H0 b≠none->b=a)->(H0 a≠none->K.lookup a=none) ->
   codeAny (model P w) callerA (.call (.ref fa) ⟨[.ref a],[]⟩) (λr s'=>r=.ok (.ret (.bool true))/\OldK aK.heap s'.heap/\s'.os=aK.os/\AllBare s'.gens) aK:=by
  intro H0 hO Rx FQ hA hK;obtain⟨H,hH⟩:∃H:Hp,H=λb=>match tabs.lookup b with|some q=>some (.nF #[.bool true,.str q 0])|none=>H0 b:=⟨_,rfl⟩
  have Cz:∀b q,tabs.lookup b=some q->H b=some (.nF #[.bool true,.str q 0]):=λb q z=>by rw[hH];simp only[z]
  have AS:∀b,tabs.lookup b=none->H b=H0 b:=λb z=>by rw[hH];simp only[z]
  have up:∀b u,H0 b=some u->H b=some u:=λb u z=>by
   grind
  have hS:cy K H a (ns.map V.int):=by
   rcases Rx with(z|⟨o,z⟩)|z
   .grind
   .exact .inl (.inr ⟨o,up _ _ z⟩)
   .exact .inr z
  have aR:d7 P w H aK.heap:=λb u z=>by
   cases q:tabs.lookup b with
   |some t=>
    rw[Cz b t q]at z;cases z;exact .inl ⟨t,#[],rfl,rfl,(hT b t q).1,trivial,λpos cv z=>by cases z⟩
   |none=>
    rw[AS b q]at z;exact(FQ b u z).fR (λc v _ q=>q) (λc q=>up c _ q) λc v _ q=>up c v q
  have gB:∀{b:Addr}{o:Obj},aK.heap.get? b=some o->H b=none->(iy aK.heap H).get? b=some o:=λe n=>Nq e n
  have free:∀{b:Addr}{o:Obj},aK.heap.get? b=some o->o≠{cls:=.type "list", data:=.seq vs.toArray}->o≠tabObj #[]->H b=none:=λ{b o} e d1 d2=>by
   grind
  have tO:∀{b:Addr}{m:Str->Option Value},aK.heap.Ns b m->(iy aK.heap H).Ns b m:=λ{b m} ⟨o,es,ep,e,d,r⟩=>⟨o,es,ep,gB e (free e (λz=>by rw[z]at d;cases d) λz=>by rw[z]at d;cases d),d,r⟩
  have zW:K.In (iy aK.heap H):=λb o e=>gB (KX b o e) (by
   grind)
  have Ro:BMain (iy aK.heap H) mg:=by
   obtain⟨bm,ob,b1,b2,b3,b4,b5,b6⟩:=Rn;exact⟨bm,ob,b1,b2,gB b3 (free b3 (λz=>by rw[z]at b4;simp at b4) λz=>by rw[z]at b4;cases b4),b4,b5,b6⟩
  have Ru:Mod K mg (iy aK.heap H):=⟨zW,tO nW,⟨mb,tO hb,yi⟩,let ⟨mc,C,h2⟩:=wB;⟨mc,tO C,h2⟩⟩;have e0:jv P w K mg (iy aK.heap H) callerA [] aK H:=⟨rfl,Ru,λb o e=>N7 e,w3k (MR _ _),trivial,λb hb=>absurd (show b∈([]:List Addr)from hb) (by simp),aR,.of_eq hg,λa q P m=>⟨_,Cz P q (hM a q P m),rfl,rfl⟩⟩
  refine codeAny_mono ((F _ zW (tO nW) Ro).run callerA [] aK H ⟨[.ref a],[]⟩ [.ref a] [.ref a] _ _ hr e0 (mS aK (.ref a)) (.cons rfl .nil) (nA H hS)) λr s' h=>?_
  cases r with
  |error e=>exact(wq H e s' h).elim
  |ok fl=>
   cases fl with
   |next=>exact False.elim h
   |brk=>exact False.elim h
   |cont=>exact False.elim h
   |ret u=>
    obtain⟨v,H',os,bare,un,tu,r',q⟩:=h;have q':v=.bl true:=q;subst q';obtain rfl:u=Value.bool true:=r'
    have kp:∀b o,tabs.lookup b=none->aK.heap.get? b=some o->s'.heap.get? b=some o:=λb o z e=>by
     cases q:H b with
     |none=>exact un.keep b o e q (by intro z;exact absurd (show b∈([]:List Addr)from z) (by simp)) (by simp)
     |some u=>
      have q0:=q;rw[AS b z]at q0;rcases hO b with z|⟨ob,xs,z⟩
      .rw[q0]at z;cases z
      .rw[q0]at z;cases z;have z2:=un.a8 b ob _ q;obtain⟨e1,_⟩:=(show aK.heap.get? b=some ob/\_ from aR b _ q);obtain⟨e2,_⟩:=(show s'.heap.get? b=some ob/\_ from tu b _ z2)
       grind
    have gr:∀b t,tabs.lookup b=some t->∃qs,s'.heap.get? b=some (tabObj qs):=λb t z=>by
     obtain⟨more,e⟩:=un.gR b _ (Cz b t z);have o1:aU P w H' s'.heap b (.nF (#[.bool true,.str t 0]++more)):=tu b _ e;rcases o1 with⟨_,qs,_,_,g,_⟩|⟨_,_,_,_,_,_,p0,_⟩
     .exact⟨qs,g⟩
     grind
    refine⟨rfl,⟨λb o e=>?_,λb o e=>?_⟩,os,bare⟩
    .cases z:tabs.lookup b with
     |none=>exact .inl (kp b o z e)
     |some t=>
      obtain⟨qs,g⟩:=gr b t z;obtain⟨g1,g2⟩:=hT b t z;rw[e]at g1;cases g1;exact .inr (.inl ⟨g2,rfl,#[],qs,rfl,by grind⟩)
    grind
 cases hk:K.lookup a with
 |some o=>
  have e:=KX a o hk;rw[ha]at e;cases e;refine core (λ_=>none) (λ_=>.inl rfl) (.inr ⟨_,vs.toArray,_,hk,rfl,rfl,rfl,by grind,by simpa using rv⟩) (λb u z=>by grind) (λb z=>absurd rfl z) λz=>absurd rfl z
 |none=>
  refine core (λb=>if b=a then some (.cD {cls:=.type "list", data:=.seq vs.toArray} (.lst (ns.map V.int)))else none) (λb=>?_) (.inl (.inr ⟨{cls:=.type "list", data:=.seq vs.toArray},if_pos rfl⟩)) (λb u z=>?_) (λb z=>?_) λ_=>hk
  .grind
  .by_cases hb:b=a
   .have z':=(if_pos hb).symm.trans z;cases z';subst hb;exact⟨ha,by grind,vs,_,rv,ha⟩
   grind
  grind
theorem WO{l:PySem.W.OpenLaw}{K:Params->Fg}{CX:World->oo}{sp:World->Sp}{tabs:List (Addr×Str)}
  (hn:l.most=some n)(rZ:n<=sizeLine)(wA:d.params.defaults=[])(hr:bJ k callerA)
  (hY:∀(w:World)(h:Heap),YP w h->(K w.params).In h)
  (F:∀(w:World)(mg:Str->Option Value)(fa:Addr)(h:Heap),(K w.params).In h->h.Ns mainGlobals mg->mg d.name=some (.ref fa) ->
   ∃fd:FuncData,(∀(s:Shared)(u:Value),BindsTo s fd ⟨[u],[]⟩ [(x,u)]) /\
    ∀base:Heap,(K w.params).In base->base.Ns mainGlobals mg->BMain base mg->fN l.prog w (K w.params) mg base (CX w) k fa fd [x] (sp w))
  (nA:∀(w:World)(H:Hp)(a:Addr)(ns:List Int),ns.length<=n->cy (K w.params) H a (ns.map V.int)->sp w [.ref a] H (λv _=>v=.bl true) λ_ _ _=>False)
  (wq:∀(w:World)(H:Hp)(s:Shared)(e:Value)(s':Shared),CX w [] H s (λ_ _ _=>False) e s'->False)
  (hM:∀(w:World) a q P,(a,jo P q)∈K w.params->tabs.lookup P=some q)(hT:∀(w:World)(h:Heap),YP w h->∀P q,tabs.lookup P=some q->h.get? P=some (tabObj #[])/\isCodeTable h P)(KR:∀(w:World) P q,tabs.lookup P=some q->(K w.params).lookup P=none):
  PySem.W.WalkO q loose XP YP l.row.toRowW d [] (λf vs=>PySem.call f vs):=by
 refine y0.ji hn wA λw aC aK mg mb fa o pm cd doc a vs ns G Y ho hd dU hmg qG hints hlen hg=>?_
 have KX:=hY w _ Y;obtain⟨fd,hb,hF⟩:=F w mg fa _ KX G.T.g hmg;exact VW KX G.T.g G.T.b G.T.builtins G.T.nolimit hg qG hints (w0l hlen rZ) hr hF hb (λH hS=>nA w H a ns hlen hS) (λH e s'=>wq w H aK e s') G.T.bmain (hM w) (hT w _ Y) (KR w)
noncomputable def Te(tk tv:TE):TE:=λσ H Q=>∀p,H p=none->tk σ (upd H p (.dK [])) λk H1=>tv σ H1 λv H2=>∃kk,k=kV kk/\H2 p=some (.dK [])/\Q (.ref p) (upd H2 p (.dK [(kk,v)]))
theorem z9g(hk:PE X ek tk)(hv:PE X ev tv):PE X (.Dict [some ek] [ev] pos) (Te tk tv):=by
 intro pins s σ H Q I h;refine wpAny_Dict_any rfl rfl (by simp) (by simp) ?_;have fr:H s.heap.objs.size=none:=I.aR.fresh (w0c _);have I0:=I.laid (a:=s.heap.objs.size) (o:=.dK []) (t':=s.toks) (λ_ _ q=>Heap.get?_push_of_some _ q) (w0c _) (WI s.heap I.big)
 show wpAny _ _ (evalPairs [(eval ek X.env,do let x <- eval ev X.env;standAt pos;pure x)]) _ _ _;refine evalPairs_cons (bB (hk pins _ σ _ _ I0 (h _ fr)) λku s1 ⟨k,H1,I1,rk,q1⟩=>?_)
 refine wpAny_bind (bB (hv pins s1 σ H1 _ I1 q1) λvu s2 ⟨v,H2,I2,rv,kk,e,hp,q⟩=>wpAny_bind (wpAny_standAt (wpAny_pure (evalPairs_nil ?_))))
 subst e;obtain⟨z,hd,vs,rel,dd⟩:=Qq I2.aR hp;cases rel;refine wpAny_storeAll (knd:=c6 X.prog X.w) [(ku,vu)] [(kk,vu)] [] s2 _ ⟨EA rk,rfl,trivial⟩ dd (by rw[sizeLine_eq];simp) λh' sT hs=>?_
 have he:∃q,h'.get? s.heap.objs.size=some q:=let ⟨q,_,_,hq,_⟩:=sT;⟨q,hq⟩;have uM:h'.DictOf (c6 X.prog X.w) s.heap.objs.size [(kk,vu)]:=sT;refine⟨.ref s.heap.objs.size,_,D7 I2 (by rw[hp];exact True.intro) hs he (P2 (kvs:=[(kk,v)]) (by rw[sizeLine_eq];simp) hd (.cons ⟨rfl,rv⟩ .nil) uM),rfl,q⟩
end L2
namespace D
open PySem L2
variable{X:Cx}{dA:Den (List W)}{G H:Hp}{EE:L2.St->XK}{es:List Expr}{e:List S}{N ps:List Str}{i:Nat}{r:Nat->List W->FR}{p pos:Pos}{K:Fg}{x:Str}{Z:Zt}
mutual
noncomputable def noFn:W->Bool
 |.tup ws=>bA ws
 |.lst ws=>bA ws
 |.dw _ _ _ ws=>bA ws
 |.fn _ _ _=>false
 |.aG=>true
 |.bl _=>true
 |.int _=>true
 |.str _=>true
 |.exc _=>true
 |.aY _=>true
noncomputable def bA:List W->Bool
 |[]=>true
 |w::ws=>noFn w&&bA ws
end
section
variable{cs:Cs}
theorem Rd.rm{a:Addr}{u:HO}(c:bD G cs)(h:Rd G a u)(n:∀o,u≠lR o)(n2:∀φ,u≠.ext φ):Rd (c7 G cs) a u:=by
 rcases h with h|⟨o,h⟩
 .exact .inl (c.c8 h n)
 .exact .inr ⟨o,c.c8 h λo' z=>by cases z;exact n2 _ rfl⟩
theorem cS.rm(c:bD G cs):∀{ks:List Kx}{bs:List Addr},cS G ks bs->cS (c7 G cs) ks bs
 |[],[],_=>trivial
 |k::ks,b::bs,h=>⟨bT.keeps (λ_ _ t z=>c.c8 z (L6 t)) k h.1,cS.rm c h.2⟩
 |[],_::_,h=>h.elim
 |_::_,[],h=>h.elim
theorem cM.rm{sh:Sh}(c:bD G cs){ks:List Kx}{bs:List Addr}(h:cM sh G ks bs):cM sh (c7 G cs) ks bs:=by
 unfold cM at h |-
 split at h
 .grind
 .rename_i hi;rw[if_neg hi];exact h.rm c
mutual
theorem Rep.rm(c:bD G cs):∀(w:W){v:V},noFn w=true->Rep K G w v->Rep K (c7 G cs) w v
 |.aG,v,_,h=>h
 |.bl b,v,_,h=>h
 |.int i,v,_,h=>h
 |.str x,v,_,h=>h
 |.tup ws,v,n,h=>by
  obtain⟨a,xs,rfl,q,r⟩:=h;refine⟨a,xs,rfl,?_,aw.rm c ws n r⟩;rcases q with q|q
  .exact .inl (Rd.rm c q (λo z=>nomatch z) λφ z=>nomatch z)
  .exact .inr q
 |.lst ws,v,n,h=>by
  obtain⟨a,xs,rfl,q,r⟩:=h;refine⟨a,xs,rfl,?_,aw.rm c ws n r⟩;rcases q with q|q
  .exact .inl (Rd.rm c q (λo z=>nomatch z) λφ z=>nomatch z)
  .exact .inr q
 |.exc e,v,_,h=>by
  obtain⟨a,rfl,q⟩:=h;exact⟨a,rfl,c.c8 q λo z=>by grind [zR]⟩
 |.aY kvs,v,_,h=>by
  obtain⟨a,rfl,q⟩:=h;exact⟨a,rfl,c.c8 q λo z=>by cases kvs;cases z⟩
 |.dw fz sh ks ws,v,n,h=>by
  obtain⟨a,kvs,kas,rfl,C,h2,h3,h4⟩:=h;refine⟨a,kvs,kas,rfl,?_,h2,cM.rm c h3,aw.rm c ws n h4⟩;cases fz with
  |true=>obtain⟨o,C⟩:=C;exact⟨o,c.c8 C λo z=>by injection z with _ z;exact oW rfl z⟩
  |false=>exact c.c8 C λo z=>oW rfl z
 |.fn _ _ _,v,n,_=>by cases n
theorem aw.rm(c:bD G cs):∀(ws:List W){xs:List V},bA ws=true->aw K G ws xs->aw K (c7 G cs) ws xs
 |[],xs,_,h=>h
 |w::ws,xs,n,h=>by
  obtain⟨x,r,rfl,C,h2⟩:=h
  have n':noFn w=true/\bA ws=true:=by
   simp_all [bA]
  exact⟨x,r,rfl,Rep.rm c w n'.1 C,aw.rm c ws n'.2 h2⟩
end
end
section
variable{G' H':Hp}{cs:Cs}
theorem Ji(h:∀b o,cs.lookup b=some o->H b=none):av H (b9 H cs):=λb u e=>by
 cases q:cs.lookup b with
 |some o=>grind
 |none=>rw[iV q];exact e
theorem Dy(h:av G H):av (b9 G cs) (b9 H cs):=λb u e=>by
 cases q:cs.lookup b with
 |some o=>simp_all [pJ]
 |none=>rw[iV q]at e |-;exact h b u e
theorem NR(h:av G H):av (c7 G cs) (c7 H cs):=λb u e=>by
 obtain⟨e1,e2⟩:=J_ e;rw[nC e2];exact h b u e1
theorem aQ.lam(ch:bD H cs)(cg:bD G cs)(e1:av (c7 H cs) H')(e2:av (c7 G cs) G')(e3:av G' H')(e4:∀a,c7 H cs a≠none->G' a=c7 G cs a):aQ G H (b9 G' cs) (b9 H' cs) where
 hh:=λb u e=>by
  cases q:cs.lookup b with
  |some o=>rw[pJ q];rw[ch b o q]at e;exact e
  |none=>rw[iV q];exact e1 b u (by rw[nC q];exact e)
 gg:=λb u e=>by
  cases q:cs.lookup b with
  |some o=>rw[pJ q];rw[cg b o q]at e;exact e
  |none=>rw[iV q];exact e2 b u (by rw[nC q];exact e)
 sub:=Dy e3
 new:=λa ha=>by
  cases q:cs.lookup a with
  |some o=>rw[pJ q,cg a o q]
  |none=>
   grind [iV,nC]
theorem aQ.gE(g:aQ (b9 G cs) (b9 H cs) G' H')(hn:∀b o,cs.lookup b=some o->H b=none)(sg:av G H):aQ G H (c7 G' cs) (c7 H' cs) where
 hh:=λb u e=>by
  cases q:cs.lookup b with
  |some o=>grind
  |none=>rw[nC q];exact g.hh b u (by rw[iV q];exact e)
 gg:=λb u e=>by
  cases q:cs.lookup b with
  |some o=>have:=sg b u e;grind
  |none=>rw[nC q];exact g.gg b u (by rw[iV q];exact e)
 sub:=NR g.sub
 new:=λa ha=>by
  cases q:cs.lookup a with
  |some o=>grind
  |none=>rw[nC q,g.new a (by grind [iV]),iV q]
end
noncomputable def fh:R W->FR
 |.ok w _=>.ok (.fr w)
 |.ex c _=>.ex c
 |.no=>.no
noncomputable def xI(K:Fg)(bo:Nat->Option Lm)(r:Nat->List W->FR):V->List V->Hp->VK->XK->Prop:=λx vs H Q _=>∃G i l aL ws w,av G H/\Rep K G (.fn i l aL) x/\aw K G ws vs/\bA ws=true/\bA aL=true/\bo i=some l /\
 r i (ws++aL)=.ok (.fr w)/\∀G' H' v,aQ G H G' H'->Rep K G' w v->Q v H'
structure mF(P:Program)(w:World)(K:Fg)(mg:Str->Option Value)(base:Heap)(n:Nat)(l:Lm)(ps:List Str)(F:List W->FR):Prop where
 sc:jX ps l.nf l.scope
 bind:∀(cl:List (Str×Addr))(pm:Value)(c':Addr)(gY:Value)(us:List Value),us.length=ps.length->bindArgs (PySem.W.kla_fn "<lambda>" l.qual l.params l.body l.scope cl pm (.ref c') gY) ⟨us,[]⟩=pure (ps.zip us)
 len:∀ws,F ws≠.no->ws.length=ps.length+l.nf.length
 body:∀ws,F ws≠.no->∀(Z:Zt)(f:Addr)(cd:Value)(cl:List (Str×Addr))(A:Around)(outer:List Env)(s:Shared)(H:Hp),bJ n (A.deeper (ko l.qual l.scope f cd cl s)) ->
  ∃d,DE Z (qt P w K mg base (ps++l.nf) l.qual l.scope f cd cl A outer s H) (λ_=>E0) l.body d/\fh (d (ws.map .fr))=F ws
theorem z6j{P:Program}{w:World}{mg:Str->Option Value}{base:Heap}{n:Nat}{bo:Nat->Option Lm}(h:∀i l,bo i=some l->∃ps,mF P w K mg base n l ps (r i)):
  qm P w K mg base (eM P w) (n+1) (xI K bo r):=by
 rintro x vs H Q E ⟨G,i,l,aL,ws,w',sg,rf,rv,nw,nc,hl,hr,q⟩;obtain⟨ps,L⟩:=h i l hl;obtain⟨f,cl,zs,cs,rfl,⟨pm,c',gY,ef⟩,FC,rz⟩:=rf;have hn:r i (ws++aL)≠.no:=by grind
 have hlen:=L.len _ hn;have hz:zs.length=l.nf.length:=FC.len;have jG:aL.length=l.nf.length:=by grind [aw.length]
 have sf:ws.length=ps.length:=by grind
 have Sr:vs.length=ps.length:=by grind [aw.length]
 have cg:bD G cs:=λb o e=>(FC.ox b o e).1
 have ch:bD H cs:=λb o e=>sg _ _ (cg b o e)
 refine⟨f,_,_,_,_,_,rfl,sg _ _ ef,λA outer s us hR e0 ru=>?_⟩
 have La:us.length=ps.length:=by grind [Vals.length]
 have QO:jV cl l.nf l.scope zs s.heap cs:=⟨FC.inj,FC.has,FC.all,λc o e=>⟨(show s.heap.get? c=some o/\_ from e0.aR c _ (ch c o e)).1,(FC.ox c o e).2⟩,FC.val⟩
 obtain⟨d,hd,he⟩:=L.body _ hn ⟨c7 H cs,c7 G cs,[]⟩ f (.ref c') cl A outer s (c7 H cs) (hR.deeper _);refine l3 hR e0 (sg _ _ ef) L.sc ch QO (L.bind cl pm c' gY us La) Sr hz ru hd ?_;have S9:av (c7 G cs) (c7 H cs):=NR sg;have rr:aw K (c7 G cs) (ws++aL) (vs++zs):=(aw.rm cg ws nw rv).append (aw.rm cg aL nc rz);have rel:=Bd (N:=ps++l.nf) S9 rr
 have e1:L2.start (ps++l.nf) (vs++zs)=vs.map some++zs.map some:=by
  simp_all [L2.start]
 have e2:init (ps++l.nf).length (ws++aL)=(ws++aL).map .fr:=by
  simp_all [init]
 rw[e1,e2]at rel;refine⟨c7 G cs,_,rel,?_⟩;cases Fx:d ((ws++aL).map .fr)with
 |ok w2 e'=>
  rw[Fx,hr]at he;cases he;intro G' v H' r' sG rp jm
  have FL:∀b o,cs.lookup b=some o->G' b=none:=λb o z=>by
   cases q2:G' b with
   |none=>rfl
   |some u=>have:=r'.sub b u q2;grind
  exact q (b9 G' cs) (b9 H' cs) v (aQ.lam ch cg (λb u e=>r'.ent b u e (λz=>nomatch z)) sG r'.sub r'.gen) (Rep.mono (Ji FL) _ rp)
 |ex c e'=>rw[Fx,hr]at he;cases he
 |no=>rw[Fx,hr]at he;cases he
section
variable{e:Expr}{k:Nat}{bo:Nat->Option Lm}
open Classical in
noncomputable def fW(bo:Nat->Option Lm)(r:Nat->List W->FR)(j:Nat)(l:Lm)(aL:List W)(ws:List W)(e1:List S):R W:=
 if bo j=some l/\bA ws=true/\bA aL=true then(match r j (ws++aL)with
  |.ok (.fr w)=>.ok w e1
  |_=>.no)else .no
noncomputable def lP(bo:Nat->Option Lm)(r:Nat->List W->FR)(dA:Den (List W))(e:List S):Option S->R W
 |some (.fr (.fn j l aL))=>(dA e).bind λws e1=>fW bo r j l aL ws e1
 |_=>.no
noncomputable def i6(bo:Nat->Option Lm)(r:Nat->List W->FR)(i:Nat)(dA:Den (List W)):Den W:=λe=>lP bo r dA e e[i]?
theorem NS(i:Nat)(F:qm X.prog X.w X.K X.mg X.base (eM X.prog X.w) k (xI X.K bo r))(hr:bJ k X.A)(hx:fx (eM X.prog X.w) X EE)(ha:DA Z X EE (e::es) dA)(hv:PE X (.Name x p) (pQ i))
  (he:autoParam (starEach (e::es) X.env=(false,eval e X.env)::starEach es X.env) jJ)(dJ:autoParam ((backTo pos (starEach es X.env)).any (·.1)=false) jJ):
  DE Z X EE (.Call (.Name x p) (e::es) [] pos) (i6 bo r i dA):=by
 refine PE.mono (Wy F hr hv hx ha he dJ) ?_;rintro σ H Q ⟨G,en,rel,h⟩;unfold i6 lP at h;split at h
 .rename_i j l aL hs;obtain⟨v,hv,rv⟩:=rel.fr hs;refine⟨v,hv,?_,G,en,rel,?_⟩
  .obtain⟨f,cl,zs,cs,rfl,⟨pm,c',gY,ef⟩,_⟩:=rv;exact⟨f,_,_,_,_,_,rfl,rel.sub _ _ ef⟩
  .rw[R.ay]at h;refine h.imp (λws e1 h G1 vs H1 r1 s1 p1=>?_) λ_ _ h=>h
   unfold fW at h;split at h
   .rename_i J;split at h
    .rename_i w hw;exact⟨G1,j,l,aL,ws,w,r1.sub,Rep.mono s1 (.fn j l aL) rv,p1,J.2.1,J.2.2,J.1,hw,λG' H' v g rp=>h G' v H' (r1.grow g) (s1.trans g.gg) rp⟩
    .exact h.elim
   .exact h.elim
 .exact h.elim
end
noncomputable def dq:List Nat->List S->Option (List W)
 |[],_=>some []
 |j::js,e=>match e[j]? with
  |some (.fr w)=>(dq js e).map (w::·)
  |_=>none
theorem HZ{σ:L2.St}(r:Rel K Z G σ H e):∀{js:List Nat}{aL:List W},dq js e=some aL->∃zs:List V,aw K G aL zs/\zs.length=js.length/\∀(i j:Nat) z,js[i]?=some j->zs[i]?=some z->σ[j]?=some (some z)
 |[],aL,h=>by
  cases h;exact⟨[],rfl,rfl,λi j z h _=>by simp at h⟩
 |j::js,aL,h=>by
  unfold dq at h;split at h
  .rename_i w hw;obtain⟨cs,C,rfl⟩:=w0e.mp h;obtain⟨zs,r1,r2,r3⟩:=HZ r C;obtain⟨v,v1,v2⟩:=r.fr hw;refine⟨v::zs,⟨v,zs,rfl,v2,r1⟩,by simp[r2],λi j' z g1 g2=>?_⟩
   grind
  .cases h
noncomputable def i_(e1:List S):FR->R W
 |.ok (.fr w)=>if noFn w=true then .ok w e1 else .no
 |.ex c=>.ex c e1
 |_=>.no
noncomputable def eV(F:List W->FR)(j:Nat)(l:Lm)(w:W)(e1:List S):Option (List W)->R W
 |some aL=>i_ e1 (F [w,.fn j l aL])
 |none=>.no
noncomputable def dR(F:List W->FR)(j:Nat)(l:Lm)(js:List Nat)(d:Den W):Den W:=λe=>(d e).bind λw e1=>eV F j l w e1 (dq js e1)
section
variable{e body:Expr}{params:Arguments}{d:Den W}{d9:Pos}{k:Nat}{nf:List Str}{js:List Nat}{sc scope:Scope}{F:List W->FR}
theorem HH(j:Nat)(l:Lm)(h1:bZ X.prog X.w X.K X.mg X.base k x ps (cj X.K F))(hr:bJ k X.A)(hx:fx (eM X.prog X.w) X EE)(M:Maker X)(qD:∀y,X.fn y=true)(he:DE Z X EE e d)(ok:c0 sc scope N nf js=true)
  (hl:autoParam (l=⟨X.env.qual++"<lambda>", params,body,scope,nf⟩) jJ)(lU:autoParam (defaultsOf params X.env=([],[])) jJ)(kj:autoParam (X.env.scope=sc) jJ)(hN:autoParam (X.N=N) jJ)(hg:autoParam (Gl X x) jJ)
  (kY:autoParam ((x==("__debug__":Str))=false) jK)(i9:autoParam (starEach [e,.Lambda params body scope d9] X.env=(false,eval e X.env)::starEach [.Lambda params body scope d9] X.env) jJ)
  (wG:autoParam (starEach [.Lambda params body scope d9] X.env=(false,eval (.Lambda params body scope d9) X.env)::starEach [] X.env) jJ)(dJ:autoParam ((backTo pos (starEach [.Lambda params body scope d9] X.env)).any (·.1)=false) jJ):
  DE Z X EE (.Call (.Name x p) [e,.Lambda params body scope d9] [] pos) (dR F j l js d):=by
 obtain⟨fa,fd,FF,m,kp,bd⟩:=h1.ex;unfold c0 at ok;simp only[w0v,w0u,beq_iff_eq,bne_iff_ne,w2o,w1c]at ok;obtain⟨⟨⟨⟨⟨⟨k1,k2⟩,k3⟩,k4⟩,k5⟩,k6⟩,k7⟩:=ok;have kind:∀x,X.env.kindOf x=sc.names.lookup x:=λx=>by rw[<- kj];rfl
 refine PE.mono (UD (Nf:=nf) (js:=js) FF hr hg m kp bd hx M qD he lU (λx hx hf=>?_) (λi j y e1 e2=>?_) kY i9 wG dJ) ?_
 .grind
 .have cY:i<js.length:=(w0b.mp e2).1;have z:=k6 i cY;rw[e1,e2]at z;obtain⟨z1,z2⟩:=k7 y (w0d e1);refine⟨by rw[hN];simpa using z,PySem.mem_of_lookup z1,?_,?_⟩
  .rw[kj];rcases z2 with z|z
   .exact .inr (.inl z)
   .exact .inr (.inr z)
  grind
 .rintro σ H Q ⟨G,en,rel,h⟩;simp only[dR,R.ay]at h;refine⟨G,en,rel,h.imp (λw e1 h G1 v1 H1 r1 s1 p1 f bh H2 la=>?_) λ_ _ h=>h⟩
  obtain⟨eS,Hm,pm,gY,c',hH,hf,rfl⟩:=la
  have rm:Rel X.K Z G1 σ Hm e1:=by
   rcases hH with rfl|⟨c,oc,J,rfl⟩
   .exact r1
   .exact r1.grow (aQ.ny r1.sub J _)
  have gl:=aQ.laid rm.sub hf (pW (kla_obj "<lambda>" (X.env.qual++"<lambda>") params body scope bh pm c' gY) (X.env.qual++"<lambda>") c');have r2:=rm.grow gl;refine⟨bh,eS,λcs co=>?_⟩
  cases qA:dq js e1 with
  |none=>rw[qA]at h;exact h.elim
  |some aL=>
   rw[qA]at h;obtain⟨zs,rz,zl,zv⟩:=HZ r1 qA;have rZ:∀b o,cs.lookup b=some o->upd Hm f (pW (kla_obj "<lambda>" (X.env.qual++"<lambda>") params body scope bh pm c' gY) (X.env.qual++"<lambda>") c') b=none:=λb o z=>(co.ox b o z).1
   have Fo:∀b o,cs.lookup b=some o->upd G1 f (pW (kla_obj "<lambda>" (X.env.qual++"<lambda>") params body scope bh pm c' gY) (X.env.qual++"<lambda>") c') b=none:=λb o z=>by
    cases q:upd G1 f (pW (kla_obj "<lambda>" (X.env.qual++"<lambda>") params body scope bh pm c' gY) (X.env.qual++"<lambda>") c') b with
    |none=>rfl
    |some u=>have:=r2.sub b u q;grind
   have sA:=gl.gg.trans (Ji Fo)
   have Fj:cs.lookup f=none:=by
    cases q:cs.lookup f with
    |none=>rfl
    |some o=>grind [bI]
   have fc:gv (b9 (upd G1 f (pW (kla_obj "<lambda>" (X.env.qual++"<lambda>") params body scope bh pm c' gY) (X.env.qual++"<lambda>") c')) cs) bh l zs cs:=by
    subst hl;refine⟨co.inj,co.has,co.all,λc o z=>⟨pJ z,(co.ox c o z).2⟩,λi y z g1 g2=>?_,by rw[zl];exact k5⟩
    have hi:i<js.length:=by grind
    have g3:js[i]?=some js[i]:=w0j hi;exact co.val i y js[i] z g1 g3 (zv i _ z g3 g2)
   have Ir:Rep X.K (b9 (upd G1 f (pW (kla_obj "<lambda>" (X.env.qual++"<lambda>") params body scope bh pm c' gY) (X.env.qual++"<lambda>") c')) cs) (.fn j l aL) (.ref f):=by
    refine⟨f,bh,zs,cs,rfl,⟨pm,c',gY,?_⟩,fc,aw.mono sA aL rz⟩
    grind [iV,bI]
   refine⟨_,[w,.fn j l aL],Dy r2.sub,⟨v1,[.ref f],rfl,Rep.mono sA w p1,⟨.ref f,[],rfl,Ir,rfl⟩⟩,?_⟩;cases q:F [w,.fn j l aL]with
   |ok s=>
    simp only[eV,q]at h;cases s with
    |fr w'=>
     simp only[i_]at h;split at h
     .rename_i R0;intro G' H' v g sl;obtain⟨u,C,h2⟩:=sl;cases C;have g':=aQ.gE g rZ r2.sub;have ci:bD G' cs:=λb o z=>g.gg b _ (pJ z)
      exact h (c7 G' cs) v (c7 H' cs) (r2.grow g') (s1.trans (gl.gg.trans g'.gg)) (Rep.rm ci w' R0 h2)
     .exact h.elim
    |_=>exact h.elim
   |ex c=>
    simp only[eV,q,i_]at h;intro H' sh;refine QB r2 (s1.trans gl.gg) h (c7 H' cs) λb u z=>?_
    cases q2:cs.lookup b with
    |some o=>grind
    |none=>rw[nC q2];exact sh b u (by grind [iV])
   |no=>simp only[eV,q,i_]at h;exact h.elim
end
section
variable{a b:Expr}{da db:Den W}
noncomputable def uh:W->W->Option (List W)
 |.lst ws,.int k=>if qR k=true/\ws.length*k.toNat<=16777216 then some (List.replicate k.toNat ws).flatten else none
 |_,_=>none
noncomputable def mO(da db:Den W):Den (List W):=λe=>(da e).bind λx e1=>(db e1).bind λy e2=>a_ (uh x y) e2
theorem z6k(ha:DE Z X EE a da)(hb:DE Z X EE b db):DF Z X EE (.BinOp a .Mult b pos) (mO da db):=by
 refine PE.mono (Ka OL ha hb) ?_;rintro σ H Q ⟨G,e,rel,h⟩;simp only[mO,R.ay,aV]at h;refine⟨G,e,rel,h.imp (λx e1 h G1 v1 H1 r1 s1 p1=>?_) λ_ _ h=>h⟩
 refine⟨G1,e1,r1,h.imp (λy e2 h G2 v2 H2 r2 s2 p2=>?_) λ_ _ h G' H' r s=>h G' H' r (s1.trans s)⟩
 obtain⟨out,hf,h⟩:=h;unfold uh at hf;split at hf
 .rename_i ws k;split at hf
  .rename_i J;cases hf;obtain⟨l,xs,rfl,hq,rp⟩:=Rep.mono s2 _ p1;cases(show v2=.int k from p2);have b:=Bq J.1;refine⟨l,k,xs,rfl,rfl,r2.sub.seq hq,by omega,by omega,by rw[rp.length,sizeLine_eq];exact J.2,?_⟩;exact Bc r2 (s1.trans s2) (DQ rp k.toNat) h
  .cases hf
 .cases hf
end
theorem z1m{da db:Den W}:mO da db e=(da e).bind λx e1=>(db e1).bind λy e2=>a_ (uh x y) e2:=rfl
noncomputable def keyOf:W->Option Key
 |.int i=>some (.inl i)
 |.str x=>some (.inr x)
 |_=>none
noncomputable def xE(i:Nat)(v:Sv)(e:List S):Option Key->SR
 |some k=>.nx (e.set i (.aY (.k [(k,v)])))
 |none=>.no
noncomputable def md(i:Nat)(v:Sv)(e:List S):Option S->SR
 |some (.fr w)=>xE i v e (keyOf w)
 |_=>.no
noncomputable def j9(i j:Nat)(v:Sv):List S->SR:=λe=>md i v e e[j]?
section
variable{y:Str}
theorem W9(i j:Nat){n:Int}{c cp}{pos' kg:Pos}(hN:X.N.Nodup)(hk:PE X (.Name y p) (pQ j))(hi:autoParam (X.N[i]?=some x) jJ)(hx:autoParam (Loc X.env.scope x) jM)(hs:autoParam (swapsWith (.Dict [some (.Name y p)] [.Constant (.int n) c cp] kg) (some (.Name x pos')) pos.line X.env=pure false) jJ)(hf:autoParam (X.fn x=true\/X.env.scope.names.lookup x=some .local) jL):
  DS Z X EE (.Assign [.Name x pos'] (.Dict [some (.Name y p)] [.Constant (.int n) c cp] kg) pos) (j9 i j (.inl n)):=by
 refine PS.mono (vB i hN (z9g hk xt) hi hx hs hf) ?_;rintro D σ H ⟨G,e,rel,h⟩;unfold j9 md at h;split at h
 .rename_i w hw;obtain⟨v,hv,rv⟩:=rel.fr hw;cases hk:keyOf w with
  |none=>rw[hk]at h;exact h.elim
  |some k=>
   rw[hk]at h;intro q hq
   have ev:v=kV k:=by
    cases w with
    |int i=>cases hk;cases rv;rfl
    |str x=>cases hk;cases rv;rfl
    |_=>cases hk
   refine⟨v,hv,k,ev,bI,?_⟩;rw[D0];have g:=aQ.ny rel.sub hq (dO (.k [(k,.inl n)]));exact h G _ _ ((rel.grow g).xF (kvs:=.k [(k,.inl n)]) bI (rel.sub.free hq) (p9 rel hq)) (.refl _)
 .exact h.elim
theorem y6b{j:Nat}{v:Sv}:j9 i j v e=md i v e e[j]?:=rfl
theorem y6c{v:Sv}{n:Int}:md i v e (some (.fr (.int n)))=.nx (e.set i (.aY (.k [(.inl n,v)]))):=rfl
end
noncomputable def vg:Expr:=.Name "" ⟨0,0,0,0⟩
noncomputable def pO(i:Nat)(st:Stmt):Stmt:=(bN st).getD i (.Pass ⟨0,0,0,0⟩)
noncomputable def lH:Stmt->Expr
 |.Assign _ v _=>v
 |.Return (some v) _=>v
 |.For _ it _ _ _=>it
 |.Expr v _=>v
 |_=>vg
noncomputable def qq(i:Nat):Expr->Expr
 |.Call _ as _ _=>as.getD i vg
 |_=>vg
noncomputable def xM:Expr->Expr
 |.Subscript v _ _=>v
 |_=>vg
noncomputable def gD:Expr->Arguments
 |.Lambda p _ _ _=>p
 |_=>default
noncomputable def jR:Expr->Expr
 |.Lambda _ b _ _=>b
 |_=>vg
noncomputable def iU:Expr->Scope
 |.Lambda _ _ s _=>s
 |_=>default
noncomputable def jw(K:Fg)(x:Str)(bx:Value):Prop:=∃c P a,bx=.ref c/\codeHdIn K c P=true/\(a,jo P ((x++".<locals>.")++"<lambda>"))∈K
section
variable{P:Program}{w:World}{mg:Str->Option Value}{base:Heap}
theorem EB{CX:oo}{scope:Scope}{f:Addr}{bx:Value}{A:Around}{outer:List Env}{s:Shared}{E:XK}(h:jw K x bx)(b:BMain base mg):Maker (fX CX P w K mg base N x scope f bx A outer s H E):=by
 obtain⟨c,P,a,rfl,C,h2⟩:=h;exact⟨⟨c,P,a,rfl,C,h2⟩,b⟩
theorem zH{st:Stmt}{k:Nat}{F:List W->FR}(A:At K mg x st ps)(hm:∀f oc od fd sl,mg x=some (.ref f)->K.lookup f=some ⟨oc,od,.func fd,sl⟩->jw K x fd.code)(sc:aE N ps (ak st))(len:∀ws,F ws≠.no->ws.length=ps.length)
  (hb:∀ws,F ws≠.no->∀(f:Addr)(bx:Value)(A:Around)(outer:List Env)(s:Shared)(H:Hp)(E:XK)(Z:Zt),bJ k (A.deeper (PyProof.Rows.envOfC x (ak st) s.heap.objs.size f bx))->jw K x bx ->
   ∃d,nq Z (fX (eM P w) P w K mg base N x (ak st) f bx A outer s H E) (λ_=>E) (bN st) d/\(d (init N.length ws)).fn=F ws):bZ P w K mg base (k+1) x ps (cj K F):=by
 obtain⟨f,fd,F0,m,b⟩:=A.ex;have kp:=F0.kp;obtain⟨oc,od,kV,doc,pm,an,bx,ct,tT,rfl,lk,dU⟩:=F0.ex;have hk:jw K x bx:=hm f _ _ _ _ m lk;refine⟨f,_,Kb lk dU sc (λvs H Q E h=>?_) (λA outer s H vs Q E hr h=>?_),m,kp,b⟩
 .grind [El,aw.length]
 .obtain⟨G,ws,sg,rp,h⟩:=h;have hn:F ws≠.no:=λz=>by rw[z]at h;exact h
  obtain⟨d,hd,he⟩:=hb ws hn f bx A outer s H E ⟨H,G,[]⟩ hr hk;exact⟨_,hd,G,init N.length ws,Bd sg rp,D1 he h⟩
theorem Fi{bo:Nat->Option Lm}(h:∀i ws,r i ws=.no:=by intro _ _;rfl):qm P w K mg base (eM P w) 0 (xI K bo r):=by
 rintro x vs H Q E ⟨G,i,l,aL,ws,w',sg,rf,rv,nw,nc,hl,hr,q⟩;rw[h]at hr;cases hr
end
noncomputable def df(K:Fg)(tabs:List (Addr×Str)):Fg:=K++tabs.map λp=>(mainGlobals,jo p.1 p.2)
section
variable{tabs:List (Addr×Str)}{a:Addr}{o:Obj}
theorem q6c(h:K.lookup a=some o):(df K tabs).lookup a=some o:=by
 grind [df]
theorem JH(hG:(K.lookup mainGlobals).isSome=true):(df K tabs).lookup a=K.lookup a:=by
 unfold df;rw[List.lookup_append];cases q:K.lookup a with
 |some o=>rfl
 |none=>
  grind
theorem F9{h:Heap}(hG:(K.lookup mainGlobals).isSome=true)(X:K.In h):(df K tabs).In h:=λb u e=>X b u (by grind [JH])
theorem no_m(hG:(K.lookup mainGlobals).isSome=true)(n:du K):du (df K tabs):=λb u e=>n b u (by grind [JH])
theorem ns_m{r:Option Value}(h:PySem.W.nsIn K a x=some r):PySem.W.nsIn (df K tabs) a x=some r:=by
 grind [W.nsIn,q6c]
theorem z6l{cd:Value}(h:PySem.W.codeIn K cd x=true):PySem.W.codeIn (df K tabs) cd x=true:=by
 cases cd with
 |ref a=>
  grind [W.codeIn,q6c]
 |_=>cases h
theorem z6m(t:funAt K a=true):keepIn (df (dS K) tabs) (.ref a)=true:=by
 have h:=t;unfold funAt at t
 rw[w0v]at t
 grind [W.keepIn,q6c,q1q]
theorem U0(h:iD K=true)(hd:tabs.all (λp=>tabs.lookup p.1==some p.2)=true):∀a q P,(a,jo P q)∈df K tabs->tabs.lookup P=some q:=λa q P m=>by
 rcases w1d.mp m with m|m
 .have:=w0u.mp h _ m;cases this
 grind
theorem Us(h:iD K=true):iD (dS K)=true:=w0u.mpr λp hp=>w0u.mp h p (List.mem_filter.mp hp).1
theorem lJ(hG:(K.lookup mainGlobals).isSome=true)(h:tabs.all (λp=>(K.lookup p.1).isNone)=true):∀P q,tabs.lookup P=some q->(df K tabs).lookup P=none:=λP q e=>by
 rw[JH hG];have:=w0u.mp h _ (kx e)
 simpa using this
where
 kx:∀{l:List (Addr×Str)}{P:Addr}{q:Str},l.lookup P=some q->(P,q)∈l
 |[],_,_,e=>by cases e
 |(b,t)::l,P,q,e=>by
  rw[List.lookup_cons]at e
  by_cases hb:(P==b)=true
  .grind
  .rw[w3h.mpr hb]at e;exact .tail _ (kx e)
theorem YM{h:Heap}(X:K.In h)(hT:∀P∈tabs.map (·.1),h.get? P=some (tabObj #[]))(J:∀p∈tabs,∃c,codeHdIn K c p.1=true):∀P q,tabs.lookup P=some q->h.get? P=some (tabObj #[])/\isCodeTable h P:=λP q e=>by
 have m:=lJ.kx e;obtain⟨c,J⟩:=J _ m;have g:=hT P (w0k.mpr ⟨_,m,rfl⟩);exact⟨g,((PySem.W.codeHd_of_K X J).tab g).isCodeTable⟩
end
section
variable{ws aL:List W}{bo:Nat->Option Lm}{d:Den W}{j:Nat}{l:Lm}{w:W}{F:List W->FR}{js:List Nat}
theorem y6d:i6 bo r i dA e=lP bo r dA e e[i]?:=rfl
theorem y2z:lP bo r dA e (some (.fr (.fn j l aL)))=(dA e).bind λws e1=>fW bo r j l aL ws e1:=rfl
theorem H_(C:bo j=some l)(h2:bA ws=true)(h3:bA aL=true)(h4:r j (ws++aL)=.ok (.fr w)):fW bo r j l aL ws e=.ok w e:=by
 simp_all [fW]
theorem x9s:dR F j l js d e=(d e).bind λw e1=>eV F j l w e1 (dq js e1):=rfl
theorem GK:eV F j l w e (some aL)=i_ e (F [w,.fn j l aL]):=rfl
theorem Ia(h:noFn w=true):i_ e (.ok (.fr w))=.ok w e:=if_pos h
theorem y6e:dq [] e=some []:=rfl
end
end D
namespace L2
open PySem PySem.Spec PyProof.Rows
end L2
namespace D
open PySem L2
end D
namespace L2
open PySem PySem.Spec PyProof.Rows
section
open HT
theorem SU{lo:Option Int}(ht:IsTup s.heap t items)(hs:s.heap.IsSliceOf sl vl vu .none)(pl:IsPart vl lo)(pu:IsPart vu hi)
  (hw:cx items.size 0 lo=0/\cx items.size items.size hi=items.size)(h:Q (.ref t) s):wpAny (model prog w) A (getItem (.ref t) (.ref sl)) Q E s:=by
 obtain⟨os,qH,Cu,Ab⟩:=id hs;have Fq:s.TypeIs (.ref sl) "slice":=⟨os,qH,Cu⟩;unfold getItem;try with_reducible refine wpAny_holding ?_
 first|refine wpAny_bind (wpAny_pure ?_)|skip
 refine wpAny_bind (wpAny_sequenceKey ht.typeIs (by decide) ?_)
 refine wpAny_bind (wpAny_callSpecial?_slot (name:=Str.ofString "__getitem__") ht.typeIs PyProof.Rows.slot_tuple_getitem
  (wpAny_call_entry PyProof.Rows.slot_tuple_getitem ht.typeIs entry_tuple_getitem ?_ (args_tuple_getitem _ _)))
 show wpAny _ _ (Builtin.Tuple.tupleItemsOf (.ref t) >>= _) _ _ s;refine wpAny_bind (tupleItemsOf_ ht ?_);refine wpAny_bind (wpAny_typeOf Fq ?_);rw[if_pos (by decide)];refine wpAny_bind (LD hs pl pu ?_);show wpAny _ _ (if(((cx items.size 0 lo:Nat):Int)==0&&(1:Int)==1&&(cx items.size items.size hi-cx items.size 0 lo)==items.size)=true then _ else _) _ _ s;rw[if_pos (by rw[hw.1,hw.2];simp)];refine wpAny_bind (wpAny_bind (wpAny_typeOf ht.typeIs (wpAny_pure ?_)));rw[if_pos (by decide)];exact wpAny_bind (wpAny_rule (wpAny_pure ⟨_,rfl,wpAny_pure h⟩))
end
theorem YN:rQ X (λx lo hi H Q=>∃a xs,x=.ref a/\eK X.K H a xs/\(HT.cx xs.length 0 lo=0/\HT.cx xs.length xs.length hi=xs.length)/\Q x H):=by
 intro pins s σ H x v vl vu lo hi sl Q I rx hs pl pu h;obtain⟨a,xs,rfl,hx,hw,q⟩:=h;cases rx;obtain⟨aB,r,ht,hz⟩:=I.tuple hx;have hlen:aB.toArray.size=xs.length:=by rw[w2g];exact r.length.symm
 refine⟨"tuple", _,PyProof.Rows.slot_tuple_getitem.lookup,ht.typeIs,?_⟩;exact SU ht hs pl pu (by rw[hlen];exact hw) ⟨.ref a,H,I,rfl,q⟩
noncomputable def Ip:V->Option Int->Option Int->Hp->VK->Prop:=λx lo hi H Q=>∃z,x=.str z/\z.length<=sizeLine/\Q (.str (Txt.slice z lo hi)) H
theorem OW(p:IsPart v o):∃q:Option (Int×Tok),v=partValue q/\q.map (·.1)=o:=by
 cases p with
 |none=>exact⟨none,rfl,rfl⟩
 |int i t=>exact⟨some (i,t),rfl,rfl⟩
theorem z6n:rQ X Ip:=by
 intro pins s σ H x v vl vu lo hi sl Q I rx hs pl pu h;obtain⟨z,rfl,hz,q⟩:=h;obtain⟨t,rfl⟩:=rx;obtain⟨ql,rfl,e1⟩:=OW pl;obtain⟨qu,rfl,e2⟩:=OW pu;refine⟨"str", _,F.slot_str_getitem.lookup,typeIs_str _ _ _,?_⟩;refine wpAny_getItem_str_slice (l:=ql) (u:=qu) (st:=none) hs rfl ?_
 have e3:sliceMade z t ql qu none=if((1:Int)==1&&(Builtin.Str.strSliceIndices lo hi 1 z.length).length==z.length)=true then .val (.str z t)else .str ⟨((Builtin.Str.strSliceIndices lo hi 1 z.length).filterMap (z.cps[·]?)).toArray⟩:=by
  grind [sliceMade,slicePicked]
 rw[e3];have hq:Q (.str (Txt.slice z lo hi)) H:=q;have hl:=Txt.slice_le z lo hi;unfold Txt.slice at hq hl;split
 .rename_i c;rw[if_pos c]at hq;exact⟨.str z,H,I,⟨t,rfl⟩,hq⟩
 .rename_i c;rw[if_neg c]at hq hl;exact⟨w0l hl hz,.str _,H,I.tok _,⟨_,rfl⟩,hq⟩
end L2
namespace D
open PySem L2
noncomputable def vK:W->Option Int->Option Int->Option W
 |.str z,lo,hi=>if z.length<=16777216 then some (.str (Txt.slice z lo hi))else none
 |.tup ws,lo,hi=>if ¬(HT.cx ws.length 0 lo=0/\HT.cx ws.length ws.length hi=ws.length)then some (.tup (jx ws lo hi))else some (.tup ws)
 |w,lo,hi=>Me w lo hi
noncomputable def kT(d:Den W)(dl dh:Den (Option Int)):Den W:=λe=>(d e).bind λw e1=>(dl e1).bind λlo e2=>(dh e2).bind λhi e3=>a_ (vK w lo hi) e3
section
variable{X:Cx}{Z:Zt}{EE:L2.St->XK}{e a b:Expr}{da db:Den W}{pos:Pos}
theorem Dz(he:DE Z X EE e da)(hl:DO Z X EE lo dl)(hh:DO Z X EE hi dh):DE Z X EE (.Subscript e (.Slice lo hi none p2) pos) (kT da dl dh):=by
 refine PE.mono (Wt (((uk.or ZK).or YN).or z6n) he hl hh) ?_;rintro σ H Q ⟨G,e,rel,h⟩;simp only[kT,R.ay,aV]at h;refine⟨G,e,rel,h.imp (λw e1 h G1 v1 H1 r1 s1 p1=>?_) λ_ _ h=>h⟩
 refine⟨G1,e1,r1,h.imp (λlo e2 h G2 H2 r2 s2=>?_) λ_ _ h=>XH.trans s1 h⟩
 refine⟨G2,e2,r2,h.imp (λhi e3 h G3 H3 r3 s3=>?_) λ_ _ h=>XH.trans (s1.trans s2) h⟩
 obtain⟨y,hf,h⟩:=h;have p3:=Rep.mono (s2.trans s3) w p1;have Ef:=(s1.trans s2).trans s3;cases w with
 |str z=>
  simp only[vK]at hf;split at hf
  .rename_i hz;cases hf;cases p3;exact .inr ⟨z,rfl,by grind [sizeLine_eq],h _ _ _ r3 Ef rfl⟩
  .cases hf
 |lst ws=>
  cases hf;obtain⟨a,xs,rfl,q,r⟩:=p3;refine .inl (.inl (.inl ⟨a,xs,rfl,r3.sub.seq q,λp hp=>?_⟩))
  have g:=aQ.laid r3.sub hp (.lst (kS xs lo hi));exact h _ _ _ (r3.grow g) (Ef.trans g.gg) ⟨p,_,rfl,cy.of bI,aw.mono g.gg _ (r.cut lo hi)⟩
 |tup ws=>
  simp only[vK]at hf;obtain⟨a,xs,rfl,q,r⟩:=p3;split at hf
  .rename_i hw;cases hf;refine .inl (.inl (.inr ⟨a,xs,rfl,r3.sub.tup q,by rw[r.length];exact hw,λp hp=>?_⟩))
   have g:=aQ.laid r3.sub hp (.tup (kS xs lo hi));exact h _ _ _ (r3.grow g) (Ef.trans g.gg) ⟨p,_,rfl,eK.of bI,aw.mono g.gg _ (r.cut lo hi)⟩
  .rename_i hw;cases hf;exact .inl (.inr ⟨a,xs,rfl,r3.sub.tup q,by rw[r.length];grind,h _ _ _ r3 Ef ⟨a,xs,rfl,q,r⟩⟩)
 |_=>cases hf
end
theorem z6o:kT d dl dh e=(d e).bind λw e1=>(dl e1).bind λlo e2=>(dh e2).bind λhi e3=>a_ (vK w lo hi) e3:=rfl
theorem z9h:vK (.lst ws) lo hi=some (.lst (jx ws lo hi)):=rfl
theorem z9i(h:¬(HT.cx ws.length 0 lo=0/\HT.cx ws.length ws.length hi=ws.length)):vK (.tup ws) lo hi=some (.tup (jx ws lo hi)):=if_pos h
theorem z9j(h:HT.cx ws.length 0 lo=0/\HT.cx ws.length ws.length hi=ws.length):vK (.tup ws) lo hi=some (.tup ws):=if_neg (not_not_intro h)
theorem z9k:Aw (.aY (.k kvs)) (.str x)=(lk kvs (.inr x)).map Ej:=rfl
theorem y6f:kB i (.int n) (.str x) e (some (.aY (.k kvs)))=if kvs.length<16777216/\mZ i e=true then .nx (e.set i (.aY (.k (putL kvs (.inr x) (.inl n)))))else .no:=rfl
noncomputable def vI(e:List S):Option S->SR
 |some (.aY d)=>.rt (.aY d) e
 |_=>.no
theorem z1p:zL i e=vI e e[i]?:=by
 rfl
theorem z1q:vI e (some (.aY dd))=.rt (.aY dd) e:=rfl
end D
namespace L2
open PySem PySem.Spec PyProof.Rows
namespace sM
section
variable{prog:Program}{w:World}{A:Around}{E:Value->Shared->Prop}{s:Shared}{I:Addr}{fp wr:List Addr}{G:Array GenState->Array GenState->Prop}{n:Nat}{P:Nat->Value->Prop}{St:Nat->Shared->Prop}{R:Result->Shared->Prop}
theorem U1(W:WalksS prog w A.in1 I fp wr G n P St)(hT:∀i s,St i s->s.TypeIs (.ref I) "list_reverseiterator")(S:Addr){k:Nat}(i9:St 0 s)(wu:S∉fp)(hI:I∈fp)(hS:s.heap.get? S=some {cls:=.type "list", data:=.seq #[] k})
  (hR:∀s' gG c',Moved (S::wr) G s s'->s'.heap.get? S=some {cls:=.type "list", dict:=none,data:=.seq gG c',slots:=#[]}->ItemsOf P gG n->R (.ok (.ret .none)) s')(hn:n<=sizeLine):
  wpAny (model prog w) A.in1 (Builtin.List.listExtendWith (.ref S) (.ref I) .none)
   (λfin s'=>match fin with|.done f=>R (.ok f) s'|.again c'=>c'.quiet=true/\codeAny (model prog w) A c' R s') (λe s'=>R (.error e) s') s:=by
 have Ry:S≠I:=λe=>wu (e ▸ hI)
 have C:Builtin.List.listSameRef (.ref S) (.ref I)=false:=by simp[Builtin.List.listSameRef,Ry]
 unfold Builtin.List.listExtendWith;refine wpAny_bind (wpAny_typeOf (hT 0 _ i9) ?_);rw[if_neg (by rw[C];decide)];refine wpAny_bind (W.self 0 _ _ _ i9 ?_);refine wpAny_bind (wpAny_holding ?_);unfold Builtin.List.listLengthHint;refine wpAny_bind (wpAny_specialOf (hT 0 _ i9) AN ?_);show wpAny _ A.in1 (specialOf (Value.ref I) (Str.ofString "__length_hint__") >>= _) _ _ _;refine wpAny_bind (wpAny_specialOf (hT 0 _ i9) hint ?_)
 (generalize ny:("list_reverseiterator.__length_hint__":String)=Li;(fail_if_success (clear ny Li));wp_delta;rw[show splitId Li=some ("list_reverseiterator", "__length_hint__")from by subst ny;decide +kernel];subst ny)
 refine wpAny_bind (wpAny_isInstance (b:=true) (hT 0 _ i9) (by rw[isSubtype_type];kernel_rfl) ?_);refine wpAny_pure ?_;rw[if_neg (by decide)];exact wpAny_pure ⟨plainId_quiet F.plain_extend_loop _,codeAny_extend_loopS W hn _ wu _ n 0 _ _ _ rfl (w0q _) i9 hS (ItemsOf.nil P) λs' gG c' hm wt i8=>hR s' gG c' hm wt i8⟩
theorem T8(W:WalksS prog w A.in1 I fp wr G n P St)(hT:∀i s,St i s->s.TypeIs (.ref I) "list_reverseiterator")(S)(i9:St 0 s)(wu:S∉fp)(hI:I∈fp)
  (hS:s.heap.get? S=some {cls:=.type "list", data:=.seq #[]})
  (hR:∀s' gG c',Moved (S::wr) G s s'->s'.heap.get? S=some {cls:=.type "list", dict:=none,data:=.seq gG c',slots:=#[]}->ItemsOf P gG n->R (.ok (.ret .none)) s')(hn:n<=sizeLine):
  wpAny (model prog w) A.in1 (Builtin.«list.__init__» ⟨[.ref S,.ref I],[]⟩)
   (λfin s'=>match fin with|.done f=>R (.ok f) s'|.again c'=>c'.quiet=true/\codeAny (model prog w) A c' R s') (λe s'=>R (.error e) s') s:=by
 show wpAny _ A.in1 (do let old <- Builtin.List.listItems (.ref S);Builtin.List.listUpdate (.ref S) (λ_=>#[]);letGo old.toList.reverse;Builtin.List.listExtendWith (.ref S) (.ref I) .none) _ _ s
 refine wpAny_bind ?_;unfold Builtin.List.listItems;refine wpAny_bind (wpAny_seqItems hS rfl (wpAny_pure ?_));show wpAny _ A.in1 (updateSeq S (λ_=>#[]) >>= λ_=>letGo (#[]:Array Value).toList.reverse >>= λ_=>Builtin.List.listExtendWith (.ref S) (.ref I) .none) _ _ s
 refine wpAny_bind (wpAny_updateSeq hS rfl ?_);have zZ:=Heap.get?_update_self (Obj.mapSeq (λ_=>(#[]:Array Value))) hS rfl
 have LC:∀b o,b≠S->s.heap.get? b=some o->(s.heap.update S (Obj.mapSeq (λ_=>(#[]:Array Value)))).get? b=some o:=
  λb o hb e=>(Heap.get?_update_other _ _ (Ne.symm hb)).trans e
 refine wpAny_bind (wpAny_letGo ?_);refine U1 (hn:=hn) W hT S (W.frame 0 s _ s.toks i9 (w0c _) λb hb o e=>LC b o (λh=>wu (h ▸ hb)) e) wu hI zZ λs' gG c' hm wt i8=>?_
 exact hR s' gG c' (Moved.trans W.gtrans ((Moved.refl W.grefl).then_heap (w0c _) λb o hb e=>LC b o (λh=>hb (h ▸ w2c)) e) hm) wt i8
end
theorem lQ(hh:A.handled=none)(pX:l≠I)(hit:s.heap.IsRevIter I l ((items.size:Int)-1))(hl:s.heap.IsList l items)(hsz:items.size<=sizeLine)
  (h:∀(h':Heap)(tk:Nat)(acc:Array Value)(c:Nat),(∀b o,b≠I->s.heap.get? b=some o->h'.get? b=some o)->h'.get? s.heap.objs.size=some {cls:=.type "list", dict:=none,data:=.seq acc c,slots:=#[]}->ItemsOf (λi v=>items[items.size-1-i]?=some v) acc items.size->Q (.ref s.heap.objs.size) {s with heap:=h',toks:=tk}):
  wpAny (model prog w) A (call (.type "list") [.ref I]) Q E s:=by
 have cY:∀b∈[I,l],b<s.heap.objs.size:=λb hb=>by
  rcases w0m.mp hb with z|z
  .rw[z];obtain⟨_,e,_⟩:=hit;exact Heap.lt_size e
  .rw[w0t.mp z];obtain⟨_,e,_⟩:=hl;exact Heap.lt_size e
 have wu:s.heap.objs.size∉[I,l]:=λhm=>w2m _ (cY _ hm)
 have W:=(Walks.listRev (prog:=prog) (w:=w) (A:=A.in1.in1) hh I l pX items).toS
 refine callType_codes (Q₁:=λobj aK=>obj=.ref s.heap.objs.size/\aK={s with heap:=s.heap.push {cls:=.type "list", data:=.seq #[]}}) F.called_list (F.typeCall_list_1 _) F.entry_list_init
  (code_list_new _ ⟨rfl,rfl⟩) λobj aK fP=>?_
 obtain⟨rfl,rfl⟩:=fP;have hS:(s.heap.push {cls:=.type "list", data:=.seq #[]}).get? s.heap.objs.size=some {cls:=.type "list", data:=.seq #[]}:=Heap.get?_push_size _ rfl;have Tc:_:=W.frame 0 s (s.heap.push {cls:=.type "list", data:=.seq #[]}) s.toks ⟨w0q _,by simpa using hit,hl⟩ (w0c _) λb _ o e=>Heap.get?_push_of_some _ e
 refine⟨⟨_,hS,rfl⟩,F.args_list_init_2 _ _,T8 (hn:=hsz) W (λ_ _ st=>st.2.1.typeIs) _ Tc wu w2c hS λs' gG c' hm wt i8=>⟨rfl,?_⟩⟩
 rw[Moved.eq_with hm]
 exact h s'.heap s'.toks gG c' (λb o hb e=>hm.heap b o (λz=>by
  rcases w0m.mp z with z|z
  .exact absurd (Heap.lt_size e) (by grind)
  grind) (Heap.get?_push_of_some _ e)) wt i8
end sM
variable{X:Cx}
noncomputable def uo(K:Fg)(te:TE):TE:=λσ H Q=>te σ H λx H1=>∃p ys,x=.ref p/\cy K H1 p ys/\∀l,H1 l=none->Q (.ref l) (upd H1 l (.lst ys.reverse))
theorem Vz{e:Expr}{te:TE}{p1 p2 qT dI:Pos}(J:X.calm=true)(FK:X.mg "list"=none)(tq:X.mg "reversed"=none)(he:PE X e te)(FA:autoParam (Gl X "list") jJ)(mx:autoParam (Gl X "reversed") jJ)
  (pY:autoParam (starEach [.Call (.Name "reversed" p2) [e] [] dI] X.env=(false,eval (.Call (.Name "reversed" p2) [e] [] dI) X.env)::starEach [] X.env) jJ)(pZ:autoParam (starEach [e] X.env=(false,eval e X.env)::starEach [] X.env) jJ):
  PE X (.Call (.Name "list" p1) [.Call (.Name "reversed" p2) [e] [] dI] [] qT) (uo X.K te):=by
 intro pins s σ H Q I h;refine wpAny_Call_Name_kw (vy I FA FK PyProof.Rows.Boot.«list» ?_ (by decide));refine PyProof.Rows.callWith_type1 ?_ pY rfl;rw[pY];show wpAny _ _ (spliced ((false,eval (.Call (.Name "reversed" p2) [e] [] dI) X.env)::backTo qT (starEach [] X.env))) _ _ s;refine Calls.spliced_cons ?_;refine wpAny_Call_Name_kw (vy I mx tq PyProof.Rows.Boot.«reversed» ?_ (by decide));refine PyProof.Rows.callWith_type1 ?_ pZ rfl;rw[pZ];show wpAny _ _ (spliced ((false,eval e X.env)::backTo dI (starEach [] X.env))) _ _ s;refine Calls.spliced_cons (bB (he pins s σ H _ I h) λv s1 ⟨x,H1,I1,rx,p,ys,ex,hq,q⟩=>Calls.spliced_nil ?_)
 subst ex;cases rx;obtain⟨aB,r',pl,hz⟩:=I1.list hq;have hl:=pl.isList;have cY:p<s1.heap.objs.size:=by obtain⟨_,e,_⟩:=hl;exact Heap.lt_size e
 refine call_reversed_list hl ?_;refine Calls.spliced_nil ?_;have hh:X.A.handled=none:=I1.ok.hd J;refine sM.lQ (items:=aB.toArray) hh (w0o cY) ⟨_,Heap.get?_push_size _ rfl,rfl,rfl⟩ (hl.push _) (by grind [Vals.length]) λh' tk acc c kp hS i8=>?_
 have ea:acc=aB.reverse.toArray:=by
  obtain⟨n1,n2⟩:=i8;apply Array.ext';apply w1q
  grind
 subst ea;have up:∀b o,s1.heap.get? b=some o->h'.get? b=some o:=λb o uR=>kp b o (w0o (Heap.lt_size uR)) (Heap.get?_push_of_some _ uR)
 have hle:s1.heap.objs.size<=(s1.heap.push (revObj p ((aB.toArray.size:Int)-1))).objs.size:=by simp[Heap.push]
 exact⟨.ref _,_,I1.laid (t':=tk) (o:=.lst ys.reverse) up hle (show aU X.prog X.w _ h' _ (.lst ys.reverse)from⟨by grind,aB.reverse,c,r'.reverse,hS⟩),rfl,q _ (I1.aR.fresh hle)⟩
theorem YO(hu:A.units+20<cLine):(d6 P w sh).room A:=by
 show A.units+8<cLine;omega
noncomputable def IC(sh:Sh)(tk tv:TE):TE:=λσ H Q=>∀p,H p=none->tk σ (upd H p (.dT sh [] [])) λk H1=>tv σ H1 λv H2=>∃x b,k=.ref b/\(bT H2 x (.ref b)/\eN x sh/\x.depth<=7)/\H2 p=some (.dT sh [] [])/\Q (.ref p) (upd H2 p (.dT sh [(x,v)] [b]))
theorem P1(hu:X.A.units+20<cLine)(hk:PE X ek tk)(hv:PE X ev tv):PE X (.Dict [some ek] [ev] pos) (IC sh tk tv):=by
 intro pins s σ H Q I h;refine wpAny_Dict_any rfl rfl (by simp) (by simp) ?_;have fr:H s.heap.objs.size=none:=I.aR.fresh (w0c _);have I0:=I.laid (a:=s.heap.objs.size) (o:=.dT sh [] []) (t':=s.toks) (λ_ _ q=>Heap.get?_push_of_some _ q) (w0c _) (NN s.heap I.big)
 show wpAny _ _ (evalPairs [(eval ek X.env,do let x <- eval ev X.env;standAt pos;pure x)]) _ _ _;refine evalPairs_cons (bB (hk pins _ σ _ _ I0 (h _ fr)) λku s1 ⟨k,H1,I1,rk,q1⟩=>?_)
 refine wpAny_bind (bB (hv pins s1 σ H1 _ I1 q1) λvu s2 ⟨v,H2,I2,rv,x,b,e,eb,hp,q⟩=>wpAny_bind (wpAny_standAt (wpAny_pure (evalPairs_nil ?_))))
 subst e;obtain rfl:ku=Value.ref b:=rk;obtain⟨z,hd,xs,rel,ka,dd⟩:=Qr I2.aR hp;unfold storeAll;rw[w2e];have Lg:xs=[]:=by simp_all
 subst Lg;refine wpAny_bind (wpAny_bind (wpAny_dictSet_heap (hsz:=w0q _) (YO hu) (Bu I2.aR eb) dd λh' sT hs=>wpAny_pure ?_))
 show wpAny _ _ (forIn ([]:List (Value×Value)) _ _) _ _ _;rw[w3g];obtain⟨q0,es,ep,hq,h2,h3,h4,_,h5⟩:=sT;refine wpAny_pure ⟨.ref s.heap.objs.size,_,D7 I2 (by rw[hp];exact True.intro) hs ⟨q0,hq⟩ (ob:=.dT sh [(x,v)] [b]) ⟨by rw[sizeLine_eq];simp,hd,_,(rel.put x eb rv).keeps λc u ys ec=>?_,rel.eW ka x,q0,es,ep,hq,h2,h3,h4,h5⟩,rfl,q⟩
 rw[aP (gh ec hp (λz=>by subst z;exact ys))]
 exact ec
open PySem PySem.Spec PyProof.Rows
theorem SX(a v):argsOk "list.sort" ⟨[a],[(Str.ofString "key", v)]⟩:=by unfold argsOk;kernel_rfl
theorem Tz(a v):argsOk "sorted" ⟨[a],[(Str.ofString "key", v)]⟩:=by unfold argsOk;kernel_rfl
noncomputable def lZ(a:Addr)(f ks x:Value)(items:Array Value):Sem (ForInStep PUnit):=do
 match <- (call f [x]).attempt with
 |.ok k=>do
  Builtin.List.listUpdate ks (·.push k)
  pure (ForInStep.yield PUnit.unit)
 |.error e=>do
  rule "list.sort.key-raised"
  let made <- Builtin.List.listItems ks
  Builtin.List.listUpdate ks λ_=>#[]
  letGo made.toList.reverse [e]
  Builtin.List.listUpdate (.ref a) λ_=>items
  throw e
theorem T9(a f:Addr):Builtin.«list.sort» ⟨[.ref a],[(Str.ofString "key", .ref f)]⟩=(do
  let items <- Builtin.List.listItems (.ref a)
  Builtin.List.listUpdate (.ref a) λ_=>#[]
  let before <- seqEpoch a
  let held <- newTuple items.toList
  let iS <- newList []
  holding [held,iS] do
   rule "list.sort.key"
   let _ <- forIn items PUnit.unit λx (_:PUnit)=>lZ a (.ref f) iS x items
   let keys <- Builtin.List.listItems iS
   let kind <- if items.size<2 then pure general' else keyKind' keys
   let ((),s) <- (if items.size<2 then pure ()else sortRuns').run (SortSt.mk' kind (keys.zip items) #[] 7 none)
   let sorted:=(arrOf s).map (·.2)
   Builtin.List.listUpdate iS λ_=>#[]
   letGo ((arrOf s).map (·.1)).toList (failedOf s).toList
   let touched:=(<- seqEpoch a) != before
   Builtin.List.listUpdate (.ref a) λ_=>sorted
   if let some e:=failedOf s then rule "list.sort.comparison-raised";throw e
   if touched then rule "list.sort.modified";raiseError "ValueError" "list modified during sort"
   ret .none):=by
 first|rfl|(fail "not by rfl")
theorem YQ{σ:St}{Q:VK}
  (F:qm X.prog X.w X.K X.mg X.base (eM X.prog X.w) k sp)(hr:bJ k A)(hA:A.frames=X.A.frames)(I:Inv X pins σ H s)(J:∀b o,cs.lookup b=some o->H b=none/\s.heap.get? b=some o)
  (hv:∀b o,cs.lookup b=some o->b∉iE X.stack)(hn:∀b o,cs.lookup b=some o->X.base.get? b=none)(r:Vals vs us)
  (h:sp (.ref f) vs (b9 H cs) (λv H'=>Q v (c7 H' cs)) λ_ _ _=>False):
  wpAny (model X.prog X.w) A (call (.ref f) us) (λu s'=>(∀b o,cs.lookup b=some o->s'.heap.get? b=some o)/\EP X pins σ (λv H'=>(∀b o,cs.lookup b=some o->H' b=none)/\Q v H') u s') E s:=by
 have e0:=I.sX
 have out:∀b,H b=none->(∀o,cs.lookup b≠some o)->b9 H cs b=none:=λb n z=>by
  cases q:cs.lookup b with
  |some o=>exact absurd q (z o)
  |none=>rw[iV q];exact n
 have e1:jv X.prog X.w X.K X.mg X.base A X.stack s (b9 H cs):=by
  refine⟨hA.trans e0.frames,e0.mod,λb o q=>⟨(e0.bs b o q).1,out b (e0.bs b o q).2 λo' z=>?_⟩,e0.pU,e0.gL,λb hb=>out b (e0.rS b hb) λo z=>?_,e0.aR.add J,e0.bare,λa q P m=>?_⟩
  .grind
  .exact hv b o z hb
  .obtain⟨ps,e,p⟩:=e0.tab a q P m;refine⟨ps,?_,p⟩;cases z:cs.lookup P with
   |some o=>grind
   |none=>rw[iV z];exact e
 obtain⟨f',oc,od,fd,sl,u,ex,ef,run⟩:=F _ _ _ _ _ h;cases ex;refine wpAny_call (codeAny_mono (run A X.stack s us hr e1 r) λr s' hq=>?_)
 cases r with
 |error e=>
  obtain⟨_,_,_,_,_,_,_,_,_,_,hE⟩:=hq;exact hE.elim
 |ok fl=>
  cases fl with
  |ret u=>
   obtain⟨v,H',os,bare,un,aR,rv,q⟩:=hq;have CI:bD H' cs:=λb o z=>un.a8 b o _ (pJ z)
   exact⟨λb o z=>(show s'.heap.get? b=some o/\_ from aR b _ (CI b o z)).1,I.after ⟨v,c7 H' cs,os,bare,un.gE aR J,aR.rm CI,rv,λb o z=>xu z,q⟩⟩
  |next=>exact False.elim hq
  |brk=>exact False.elim hq
  |cont=>exact False.elim hq
noncomputable def mV(sp:V->List V->Hp->VK->XK->Prop)(f:V)(cs:Cs)(l:Addr)(o:Obj)(ks:Addr)(K:Hp->Prop):List Int->List Int->Hp->Prop
 |[],ns,H=>K H
 |i::is,ns,H=>sp f [.int i] (b9 H cs) (λv H'=>∃n,v=.int n/\c7 H' cs l=some (.cD o (.lst []))/\c7 H' cs ks=some (.lst (ns.map V.int))/\mV sp f cs l o ks K is (ns++[n]) (upd (c7 H' cs) ks (.lst ((ns++[n]).map V.int)))) λ_ _ _=>False
noncomputable def qi(cs:Cs)(H:Hp)(h:Heap):Prop:=∀b o,cs.lookup b=some o->H b=none/\h.get? b=some o
section
variable{A:Around}{k:Nat}{sp:V->List V->Hp->VK->XK->Prop}{pins:List (Addr×Obj)}{σ:St}{f l ks:Addr}{cs:Cs}{E:Value->Shared->Prop}{o:Obj}{K:Hp->Prop}
theorem MO(F:qm X.prog X.w X.K X.mg X.base (eM X.prog X.w) k sp)(hr:bJ k A)(hA:A.frames=X.A.frames)(hv:∀b o,cs.lookup b=some o->b∉iE X.stack)(hn:∀b o,cs.lookup b=some o->X.base.get? b=none)
  (tm:l≠ks)(items:Array Value):∀(is:List Int)(us:List Value)(ns:List Int)(s:Shared)(H:Hp),Vals (is.map V.int) us->Inv X pins σ H s->qi cs H s.heap->H l=some (.cD o (.lst []))->H ks=some (.lst (ns.map V.int))->ns.length+is.length<=1000->mV sp (.ref f) cs l o ks K is ns H ->
  wpAny (model X.prog X.w) A (forIn us PUnit.unit λx (_:PUnit)=>lZ l (.ref f) (.ref ks) x items) (λ_ s'=>∃(H':Hp)(Lx:List Int),Inv X pins σ H' s'/\H' l=some (.cD o (.lst []))/\H' ks=some (.lst (Lx.map V.int))/\Lx.length=ns.length+is.length/\K H') E s
 |[],us,ns,s,H,r,I,J,hl,hk,hz,h=>by
  cases r;rw[w3g];exact wpAny_pure ⟨H,ns,I,hl,hk,rfl,h⟩
 |i::is,us,ns,s,H,r,I,J,hl,hk,hz,h=>by
  cases r with
  | @cons _ u _ us r rr=>
   rw[w2e];refine wpAny_bind ?_;unfold lZ;refine wpAny_bind (wpAny_attempt ?_);refine wpAny_mono (YQ (cs:=cs) (Q:=λv H'=>∃n,v=.int n/\H' l=some (.cD o (.lst []))/\H' ks=some (.lst (ns.map V.int))/\mV sp (.ref f) cs l o ks K is (ns++[n]) (upd H' ks (.lst ((ns++[n]).map V.int)))) F hr hA I J hv hn (.cons r .nil) h) (λw s1 hq=>?_) (λ_ _ z=>z)
   obtain⟨g1,v,H1,I1,rv,g2,n,rfl,e1,e2,h2⟩:=hq;obtain⟨hz1,aB,m,rI,eo⟩:=(show aU X.prog X.w H1 s1.heap ks (.lst (ns.map V.int))from I1.aR ks _ e2);have hil:aB.length=ns.length:=by rw[<- rI.length,w0a]
   refine wpAny_bind (listUpdate_at eo rfl ?_ (hsz:=by grind) (hsz2:=by grind))
   obtain⟨m2,KJ⟩:∃m2,(s1.heap.update ks (Obj.mapSeq (·.push w))).get? ks=some {cls:=.type "list", data:=.seq (aB++[w]).toArray m2}:=by
    have z:=get?_update_seq eo (·.push w)
    grind
   have I2:Inv X pins σ (upd H1 ks (.lst ((ns++[n]).map V.int))) {s1 with heap:=s1.heap.update ks (Obj.mapSeq (·.push w))}:=by
    refine I1.write (t':=s1.toks) (by rw[e2];exact True.intro) (.inl rfl) (λb u hb q=>(Heap.get?_update_other _ _ (Ne.symm hb)).trans q) ⟨_,KJ⟩ (show aU X.prog X.w _ _ _ (.lst _)from⟨by grind [sizeLine_eq],aB++[w],m2,?_,KJ⟩)
    rw[w0g];exact rI.append (.cons rv .nil)
   refine wpAny_pure ?_;show wpAny _ _ (forIn us PUnit.unit _) _ _ _;refine wpAny_mono (MO F hr hA hv hn tm items is us (ns++[n]) _ _ rr I2 (λb o z=>⟨?_,?_⟩) ?_ bI (by grind) h2) (λ_ s' hq=>?_) (λ_ _ z=>z)
   all_goals grind [aP,Heap.get?_update_other]
noncomputable def rM(sp:V->List V->Hp->VK->XK->Prop)(f:V)(cs:Cs)(l:Addr)(is:List Int)(H:Hp)(Q:VK):Prop:=
 ∀o ks,upd H l (.cD o (.lst [])) ks=none->(∀o',cs.lookup ks≠some o')->mV sp f cs l o ks (λH'=>∀ys:List Int,ys.Perm is->Q (.ref l) (upd (upd H' ks (.lst [])) l (.lst (ys.map V.int)))) is [] (upd (upd H l (.cD o (.lst []))) ks (.lst []))
theorem MU(r:Vals (is.map V.int) us):IntsAre us is:=Uz r
theorem L1:∀{us:List Value}{is:List Int},IntsAre us is->Vals (is.map V.int) us
 |_,_,.nil=>.nil
 |_,_,.cons n t h=>.cons ⟨t,rfl⟩ (L1 h)
theorem W_(hu:IntsAre us is)(hw:IntsAre ws ns)(hl:ws.length=us.length):IntKeys (ws.toArray.zip us.toArray):=by
 intro p hp;have:p∈ws.zip us:=by simpa using hp
 exact hw.all _ (w1e this).1
theorem W'{ws:List Value}(hu:IntsAre us is)(hl:ws.length=us.length){xs:Array Keyed}(hp:xs.Perm (ws.toArray.zip us.toArray)):∃ys:List Int,IntsAre (xs.map (·.2)).toList ys/\ys.Perm is:=by
 have C:xs.toList.Perm (ws.zip us):=by
  grind [Array.perm_iff_toList_perm]
 have h2:(xs.toList.map (·.2)).Perm us:=by
  have:=C.map (·.2)
  grind [List.map_snd_zip]
 refine⟨(xs.toList.map (·.2)).map numOf,?_,?_⟩
 .rw[Array.toList_map];exact intsAre_map _ λv hv=>hu.all v (h2.mem_iff.mp hv)
 grind [IntsAre.nums]
theorem VA:∀{ws:List Value}{ns:List Int},IntsAre ws ns->2<=ws.length->keyKind' ws.toArray=pure oneType'
 |[],_,_,h=>absurd h (by simp)
 |[_],_,_,h=>absurd h (by simp)
 |_::_::_,_,hJ,_=>keyKind_ints hJ
theorem Xa(F:qm X.prog X.w X.K X.mg X.base (eM X.prog X.w) k sp)(hr:bJ k A)(hA:A.frames=X.A.frames)(hv:∀b o,cs.lookup b=some o->b∉iE X.stack)(hn:∀b o,cs.lookup b=some o->X.base.get? b=none)
  (I:Inv X pins σ H s)(J:qi cs H s.heap)(el:H l=some (.lst (is.map V.int)))(hf:∀o v,X.aH l≠some (.cD o v))(h64:is.length<64)(h:rM sp (.ref f) cs l is H Q):
  wpAny (model X.prog X.w) A (Builtin.«list.sort» ⟨[.ref l],[(Str.ofString "key", .ref f)]⟩) (λfin s'=>fin=.done (.ret .none)/\EP X pins σ Q (.ref l) s') E s:=by
 rw[T9];obtain⟨_,us,m,rU,eo⟩:=(show aU X.prog X.w H s.heap l (.lst (is.map V.int))from I.aR l _ el);have La:us.length=is.length:=by rw[<- rU.length,w0a]
 have hI:=MU rU;refine wpAny_bind (listItems_at eo rfl ?_);refine wpAny_bind (listUpdate_at eo rfl ?_ (hsz:=by grind));obtain⟨e1,Cp⟩:∃e1,(s.heap.update l (Obj.mapSeq λ_=>#[])).get? l=some (seqObj "list" #[] e1):=⟨_,get?_update_seq eo (λ_=>#[])⟩
 have I1:Inv X pins σ (upd H l (.lst [])) {s with heap:=s.heap.update l (Obj.mapSeq λ_=>#[])}:=
  I.write (t':=s.toks) (by rw[el];exact True.intro) (.inl rfl) (λb u hb q=>(Heap.get?_update_other _ _ (Ne.symm hb)).trans q) ⟨_,Cp⟩ (show aU X.prog X.w _ _ _ (.lst [])from⟨w0q _,[],e1,.nil,Cp⟩)
 have I2:=I1.oA (a:=l) (xs:=[]) (o:=seqObj "list" #[] e1) bI Cp;rw[D0]at I2;refine wpAny_bind (seqEpoch_at Cp rfl ?_);refine wpAny_bind (wpAny_newTuple ?_ (hsz:=by grind));have I3:=I2.kept (t':=s.toks) (h':=(s.heap.update l (Obj.mapSeq λ_=>#[])).push (seqObj "tuple" us.toArray.toList.toArray 0)) λb u q=>Heap.get?_push_of_some _ q
 refine wpAny_bind (wpAny_newList ?_);have fr:=I3.aR.fresh (w0c _)
 have I4:=I3.laid (t':=s.toks) (o:=.lst []) (h':=((s.heap.update l (Obj.mapSeq λ_=>#[])).push (seqObj "tuple" us.toArray.toList.toArray 0)).push (seqObj "list" #[] 0)) (λb u q=>Heap.get?_push_of_some _ q) (w0c _)
  (show aU X.prog X.w _ _ _ (.lst [])from⟨w0q _,[],0,.nil,Heap.get?_push_size _ rfl⟩)
 refine wpAny_holding ?_;refine wpAny_bind (wpAny_rule ?_);rw[List.forIn_toArray]
 have tm:l≠((s.heap.update l (Obj.mapSeq λ_=>#[])).push (seqObj "tuple" us.toArray.toList.toArray 0)).objs.size:=λz=>by
  grind [bI]
 have rX:∀b o,cs.lookup b=some o->b≠l/\b≠((s.heap.update l (Obj.mapSeq λ_=>#[])).push (seqObj "tuple" us.toArray.toList.toArray 0)).objs.size:=λb o z=>by
  refine⟨λy=>?_,λy=>?_⟩
  .subst y;rw[(J _ _ z).1]at el;cases el
  .have:=Heap.lt_size (J _ _ z).2;rw[y,size_push',Heap.size_update]at this
   grind
 refine wpAny_bind (wpAny_mono (MO (cs:=cs) F hr hA hv hn tm us.toArray is us [] _ _ rU I4 (λb o z=>⟨?_,?_⟩) ?_ bI (by simp;omega) (h _ _ fr λo' z=>(rX _ o' z).2 rfl)) (λ_ s5 hq=>?_) (λ_ _ z=>z))
 .rw[aP (rX b o z).2,aP (rX b o z).1];exact(J b o z).1
 .exact Heap.get?_push_of_some _ (Heap.get?_push_of_some _ ((Heap.get?_update_other _ _ (Ne.symm (rX b o z).1)).trans (J b o z).2))
 .grind [aP,bI]
 obtain⟨H5,ns,I5,Q9,KI,nW,q⟩:=hq
 clear I1 I2 I3 I4
 generalize ((s.heap.update l (Obj.mapSeq λ_=>#[])).push (seqObj "tuple" us.toArray.toList.toArray 0)).objs.size=ks at *
 obtain⟨_,ws,mk,rW,ew⟩:=(show aU X.prog X.w H5 s5.heap _ (.lst (ns.map V.int))from I5.aR _ _ KI);have sf:ws.length=us.length:=by grind [Vals.length]
 have hJ:=MU rW;have Ra:s5.heap.get? l=some (seqObj "list" #[] e1):=(show _/\_ from I5.aR _ _ Q9).1;refine wpAny_bind (listItems_at ew rfl ?_)
 have fin:∀xs:Array Keyed,xs.Perm (ws.toArray.zip us.toArray)->wpAny (model X.prog X.w) A (do
   Builtin.List.listUpdate (.ref ks) λ_=>#[]
   letGo (xs.map (·.1)).toList ([]:List Value)
   let touched:=(<- seqEpoch l) != e1
   Builtin.List.listUpdate (.ref l) λ_=>xs.map (·.2)
   if touched then rule "list.sort.modified";raiseError "ValueError" "list modified during sort"
   ret .none) (λfin s'=>fin=.done (.ret .none)/\EP X pins σ Q (.ref l) s') E s5:=λxs hp=>by
  obtain⟨ys,hy,py⟩:=W' hI sf hp;have Lg:xs.size=us.length:=by rw[hp.size_eq];simp[sf]
  refine wpAny_bind (listUpdate_at ew rfl ?_ (hsz:=by grind));obtain⟨e6,KN⟩:∃e6,(s5.heap.update ks (Obj.mapSeq λ_=>#[])).get? ks=some (seqObj "list" #[] e6):=⟨_,get?_update_seq ew (λ_=>#[])⟩
  have I6:Inv X pins σ (upd H5 ks (.lst [])) {s5 with heap:=s5.heap.update ks (Obj.mapSeq λ_=>#[])}:=
   I5.write (t':=s5.toks) (by rw[KI];exact True.intro) (.inl rfl) (λb u hb q=>(Heap.get?_update_other _ _ (Ne.symm hb)).trans q) ⟨_,KN⟩ (show aU X.prog X.w _ _ _ (.lst [])from⟨w0q _,[],e6,.nil,KN⟩)
  have Q_:upd H5 ks (.lst []) l=some (.cD (seqObj "list" #[] e1) (.lst [])):=by grind [aP]
  have Fd:(s5.heap.update ks (Obj.mapSeq λ_=>#[])).get? l=some (seqObj "list" #[] e1):=(Heap.get?_update_other _ _ (Ne.symm tm)).trans Ra
  have I7:=I6.vd Q_ hf;refine wpAny_bind (wpAny_letGo ?_);refine wpAny_bind (seqEpoch_at Fd rfl ?_);refine wpAny_bind (listUpdate_at Fd rfl ?_ (hsz2:=by grind));obtain⟨e8,KL⟩:∃e8,((s5.heap.update ks (Obj.mapSeq λ_=>#[])).update l (Obj.mapSeq λ_=>xs.map (·.2))).get? l=some (seqObj "list" (xs.map (·.2)) e8):=⟨_,get?_update_seq Fd (λ_=>xs.map (·.2))⟩
  have I8:=I7.write (x:=l) (e:=l) (o:=.lst (ys.map V.int)) (t':=s5.toks) (h':=(s5.heap.update ks (Obj.mapSeq λ_=>#[])).update l (Obj.mapSeq λ_=>xs.map (·.2))) (by rw[bI];exact True.intro) (.inl rfl) (λb u hb q=>(Heap.get?_update_other _ _ (Ne.symm hb)).trans q) ⟨_,KL⟩
   (show aU X.prog X.w _ _ _ (.lst (ys.map V.int))from⟨by rw[w0a,py.length_eq,sizeLine_eq];omega,(xs.map (·.2)).toList,e8,L1 hy,by rw[Array.toArray_toList];exact KL⟩)
  rw[D0]at I8;simp only[bne_self_eq_false,w2l,if_false];exact wpAny_pure ⟨rfl,.ref l,_,I8,rfl,q ys py⟩
 have hsz:us.toArray.size=us.length:=by simp
 by_cases h2:us.toArray.size<2
 .rw[if_pos h2,if_pos h2];refine wpAny_bind (wpAny_pure ?_);dsimp only;rw[StateT.run_pure];refine wpAny_bind (wpAny_pure ?_);exact fin (ws.toArray.zip us.toArray) (Array.Perm.refl _)
 .rw[if_neg h2,if_neg h2];rw[VA hJ (by omega)];refine wpAny_bind (wpAny_pure ?_);have Lh:(ws.toArray.zip us.toArray).size=us.length:=by simp[sf]
  refine wpAny_bind (wpAny_mono (wpS_sortRuns (a₀:=ws.toArray.zip us.toArray) (st:=SortSt.mk' oneType' (ws.toArray.zip us.toArray) #[] 7 none)
   (Q:=λ_ oi=>(arrOf oi).Perm (ws.toArray.zip us.toArray)/\failedOf oi=none)
   (W_ hI hJ sf) ⟨Array.Perm.refl _,rfl,rfl,rfl⟩ (by rw[Lh];omega) (by rw[Lh];omega) λoi a1 a2 a3=>⟨a1,a2⟩) ?_ λ_ _ e=>e)
  grind
end
section
variable{prog:Program}{w:World}{A:Around}{s:Shared}{r:Addr}{a b:Int}{t u v:Tok}{n:Nat}
theorem U2{R:Result->Shared->Prop}{S:Addr}(hh:A.handled=none)(hr:IsRange s.heap r a b 1 t u v)(nX:Builtin.Range.small a b 1=true)(hn:Builtin.Range.rangeSize a b 1=n)(hlen:n<=2^24)(hS:s.heap.get? S=some {cls:=.type "list", data:=.seq #[]})
  (hR:∀h' tk gG c',(∀b o,b≠S->s.heap.get? b=some o->h'.get? b=some o)->h'.get? S=some {cls:=.type "list", dict:=none,data:=.seq gG c',slots:=#[]}->ItemsOf (λi v=>∃t,v=.int (a+i*1) t) gG n->R (.ok (.ret (.ref S))) {s with heap:=h',toks:=tk}):
  codeAny (model prog w) A (.builtin "list.__iadd__" ⟨[.ref S,.ref r],[]⟩) R s:=by
 refine codeAny_builtin F.entry_list_iadd ?_;rw[Around.under_plainId F.plain_list_iadd _];exact wpAny_extend_range (A:=A) hh hr nX hn hlen S (.ref S) _ hS hR
theorem T_(hh:A.handled=none)(hr:IsRange s.heap r a b 1 t u v)(nX:Builtin.Range.small a b 1=true)(hn:Builtin.Range.rangeSize a b 1=n)(hlen:n<=2^24)
  (hQ:∀h' tk acc,(∀b o,s.heap.get? b=some o->h'.get? b=some o)->ItemsOf (λi v=>∃t,v=.int (a+i*1) t) acc n->Q acc.toList {s with heap:=h',toks:=tk}):wpAny (model prog w) A (collect (.ref r)) Q E s:=by
 unfold collect;refine wpAny_bind (wpAny_runValue (codeAny_builtin F.entry_proto_collect ?_));rw[Around.under_plainId F.plain_proto_collect _];show wpAny _ A.in1 (newList [] >>= λl=>again (.builtin "list.__iadd__" ⟨[l,.ref r],[]⟩)) _ _ s
 refine wpAny_bind (wpAny_newObj_type ?_);refine wpAny_pure ⟨plainId_quiet F.plain_list_iadd _,U2 hh (Heap.get?_push_of_some _ hr) nX hn hlen (Heap.get?_push_size _ rfl) λh' tk gG c' hk wt i8=>?_⟩
 show wpAny _ A (load s.heap.objs.size >>= _) _ _ _;refine wpAny_bind (wpAny_load wt ?_);exact wpAny_pure (hQ h' tk gG (λb o e=>hk b o (w0o (Heap.lt_size e)) (Heap.get?_push_of_some _ e)) i8)
end
noncomputable def b_(lo hi:Int):List Int:=(List.range (hi-lo).toNat).map fun(k:Nat)=>lo+(k:Int)
noncomputable def xQ(sp:V->List V->Hp->VK->XK->Prop)(X:Cx)(params:Arguments)(body:Expr)(scope:Scope)(Nf:List Str)(js:List Nat)(ta:TA):TE:=λσ H Q=>ta σ H λvs H1=>∃lo hi:Int,vs=[.int lo,.int hi]/\-(2^62)<=lo/\lo<2^62/\-(2^62)<=hi/\hi<2^62/\(hi-lo).toNat<64 /\
 ∀f bh H2,oq X params body scope bh f H1 H2->∀cs,lL bh Nf scope js σ H2 cs->∀l,H2 l=none->(∀o,cs.lookup l≠some o)->rM sp (.ref f) cs l (b_ lo hi) (upd H2 l (.lst ((b_ lo hi).map V.int))) Q
section
variable{k:Nat}{sp:V->List V->Hp->VK->XK->Prop}
theorem Xb{params:Arguments}{body a b:Expr}{scope:Scope}{d9 p pos p2 dI kp:Pos}{Nf:List Str}{js:List Nat}{ta:TA}(F:qm X.prog X.w X.K X.mg X.base (eM X.prog X.w) k sp)(hr:bJ (k+2) X.A)(J:X.calm=true)(hg:Gl X "sorted")(hm:X.mg "sorted"=none)(mx:Gl X "range")(tq:X.mg "range"=none)
  (M:Maker X)(qD:∀y,X.fn y=true)(ha:PA X [a,b] ta)(lU:defaultsOf params X.env=([],[]))
  (cG:∀x∈scope.names,x.2=.free->X.env.kindOf x.1=some .cell\/X.env.kindOf x.1=some .free)
  (tf:∀(i j:Nat) y,Nf[i]?=some y->js[i]?=some j->X.N[j]?=some y/\(y,NameKind.free)∈scope.names/\j0 X.env.scope y/\X.env.kindOf y≠some .local)
  (hs:autoParam (starEach [a,b] X.env=(false,eval a X.env)::starEach [b] X.env) jJ)(nA:autoParam ((backTo dI (starEach [b] X.env)).any (·.1)=false) jJ)
  (he:autoParam (starEach [.Call (.Name "range" p2) [a,b] [] dI] X.env=[(false,eval (.Call (.Name "range" p2) [a,b] [] dI) X.env)]) jJ):
  PE X (.Call (.Name "sorted" p) [.Call (.Name "range" p2) [a,b] [] dI] [⟨some "key", .Lambda params body scope d9,kp⟩] pos) (xQ sp X params body scope Nf js ta):=by
 intro pins s σ H Q I h;refine wpAny_Call_Name_kw (vy I hg hm PyProof.Rows.Boot.«sorted» ?_ (by decide) (by decide));refine callWith_kw ?_ (by rw[he];rfl) (by rw[he];rfl);rw[he];show wpAny _ _ (spliced ((false,eval (.Call (.Name "range" p2) [a,b] [] dI) X.env)::[])) _ _ s;refine Calls.spliced_cons ?_;refine Call_ (vy I mx tq boot_range (PyProof.Rows.callWith_type1 (bB (ha dI pins s σ H _ I h) λus s1 ⟨vs,H1,I1,r1,q1⟩=>?_) hs nA))
 obtain⟨lo,hi,e,z1,z2,z3,z4,z5,q⟩:=q1;subst e;cases r1 with
 |cons ra rr=>
 cases rr with
 |cons rb rn=>
 cases rn;obtain⟨t,rfl⟩:=ra;obtain⟨u,rfl⟩:=rb;refine call_range_2 (Calls.spliced_nil ?_);have Ri:H1 s1.heap.objs.size=none:=I1.aR.fresh (w0c _);have I2:Inv X pins σ H1 {s1 with heap:=s1.heap.push {cls:=.type "range", data:=.fields #[.int lo t,.int hi u,.int 1 s1.toks]},toks:=s1.toks+1}:=I1.kept λb o e=>Heap.get?_push_of_some _ e
 have QS:Inv X ((s1.heap.objs.size,{cls:=.type "range", data:=.fields #[.int lo t,.int hi u,.int 1 s1.toks]})::pins) σ H1 {s1 with heap:=s1.heap.push {cls:=.type "range", data:=.fields #[.int lo t,.int hi u,.int 1 s1.toks]},toks:=s1.toks+1}:=I2.jT λp hp=>by
  rcases w0m.mp hp with rfl|hp
  .exact⟨Heap.get?_push_size _ rfl,Ri,w3e I1.lt,I1.AM (w0c _),λv z=>nomatch z⟩
  .exact I2.pin p (w0h _ hp)
 refine kws_cons (bB (PQ M lU cG _ _ σ H1 (λv H2=>∃f bh,v=.ref f/\oq X params body scope bh f H1 H2) QS (λf bh H2 z=>⟨f,bh,rfl,z⟩)) λfv s3 ⟨v3,H2,I3,S3,f,bh,ev,la⟩=>kws_nil ?_)
 subst ev;obtain rfl:fv=Value.ref f:=S3;have Sb:s3.heap.get? s1.heap.objs.size=some {cls:=.type "range", data:=.fields #[.int lo t,.int hi u,.int 1 s1.toks]}:=(I3.pin _ (w0h _ w2c)).1;have I4:Inv X pins σ H2 s3:=I3.jT λp hp=>I3.pin p (w0h _ (w1a _ hp))
 obtain⟨dN,nT,jG,qB⟩:=A9 (scope:=scope) (env:=X.env) λx hx hf=>I.ok.has x.1 (cG x hx hf)
 obtain rfl:dN=bh:=kA (nT.symm.trans la.1)
 have look:∀b o,(cZ dN s3.heap).lookup b=some o->∃x,X.env.cells.lookup x=some b/\s3.heap.get? b=some o:=λb o z=>by
  obtain⟨x,C,h2⟩:=Hx z
  grind
 have jm:∀b o,(cZ dN s3.heap).lookup b=some o->H2 b=none/\s3.heap.get? b=some o:=λb o z=>by
  obtain⟨x,C,h2⟩:=look b o z;exact⟨I4.fA x b C,h2⟩
 have uQ:∀b o,(cZ dN s3.heap).lookup b=some o->X.aC.heap.objs.size<=b:=λb o z=>by
  obtain⟨x,C,h2⟩:=look b o z;exact I4.ok.zF x b (qD x) C
 have CO:lL dN Nf scope js σ H2 (cZ dN s3.heap):=by
  refine⟨λx y c e1 e2=>I4.ok.inj x y c (jG x c e1) (jG y c e2),qB,λx c e=>?_,λc o e=>⟨(jm c o e).1,?_⟩,λi y j z e1 e2 e3=>?_⟩
  .obtain⟨v,o,g,_⟩:=I4.cell x c (jG x c e)
   grind [Dr]
  .obtain⟨x,C,h2⟩:=look c o e;obtain⟨v,o',g,d⟩:=I4.cell x c C
   grind
  .obtain⟨n1,n2,n3,n4⟩:=tf i j y e1 e2;obtain⟨m,hm,hl⟩:=I4.loc;obtain⟨u,ru,l⟩:=hl j y z n1 e3 n3;rcases l with⟨k1,_⟩|⟨k1,c,ec,o,g,d⟩
   .exact absurd k1 n4
   .obtain⟨c',Fc⟩:=qB y n2
    grind [Dr]
 show wpAny _ _ (call (.builtin "sorted") [.ref s1.heap.objs.size] [(Str.ofString "key", .ref f)]) _ _ _;refine call_function_entry_kw kind_sorted plain_sorted entry_sorted (Tz _ _) ?_
 unfold Builtin.«sorted»;refine wpAny_bind (m:=checkCount "sorted" 1 1 _) (wpAny_pure ?_);have hn:Builtin.Range.rangeSize lo hi 1=(((hi-lo).toNat:Nat):Int):=by grind [rangeSize_one]
 refine wpAny_bind (T_ (I.ok.hd J) Sb (small_one z1 z2 z3 z4) hn (by omega) λh' tk acc hk i8=>?_)
 have I5:Inv X pins σ H2 {s3 with heap:=h',toks:=tk}:=I4.kept (t':=tk) hk;refine wpAny_bind (wpAny_newList ?_ (hsz:=by rw[w3c,i8.1,sizeLine_eq];omega));have Fl:H2 h'.objs.size=none:=I5.aR.fresh (w0c _)
 have va:Vals ((b_ lo hi).map V.int) acc.toList:=D.YA (by simp[i8.1,b_]) λi C h2=>by
  have s_:i<acc.size:=by simpa using h2
  obtain⟨t2,e2⟩:=i8.2 i acc[i] (by simp[s_]);have e3:acc.toList[i]=.int (lo+(i:Int)*1) t2:=by simpa using e2
  rw[e3];simp only[b_,List.getElem_map,w3u];exact⟨t2,by simp⟩
 have I6:=I5.laid (t':=tk) (o:=.lst ((b_ lo hi).map V.int)) (h':=h'.push {cls:=.type "list", data:=.seq acc.toList.toArray}) (λb o q=>Heap.get?_push_of_some _ q) (w0c _)
  (show aU X.prog X.w _ _ _ (.lst _)from⟨by grind [b_,sizeLine_eq],acc.toList,0,va,Heap.get?_push_size _ rfl⟩)
 have cY:∀b o,(cZ dN s3.heap).lookup b=some o->b≠h'.objs.size:=λb o z=>w0o (Heap.lt_size (hk b o (jm b o z).2))
 refine wpAny_bind (wpAny_holding (wpAny_call_entry_kw slot_list_sort ⟨_,Heap.get?_push_size _ rfl,rfl⟩ entry_list_sort (wpAny_mono (Xa (cs:=cZ dN s3.heap) (Q:=Q) (is:=b_ lo hi) F ((hr.in1).in1) rfl ?_ (λb o z=>Heap.get?_none_of_le (w0l I4.ok.pU (uQ b o z))) I6 (λb o z=>⟨?_,?_⟩) bI ?_ (by simp[b_];omega) (q f dN H2 la _ CO _ Fl λo z=>cY _ o z rfl)) (λfin s' hq=>⟨_,hq.1,?_⟩) λ_ _ z=>z) (SX _ _)))
 .exact λb o z hb=>by
   rcases w0m.mp (I4.kK b hb)with e|z_
   .obtain⟨x,C,_⟩:=look b o z;exact I4.sR x b C e
   .obtain⟨_,o',q',_⟩:=I4.ok.gL.mem z_
    exact absurd (Heap.lt_size q') (w3i.mpr (uQ b o z))
 .rw[aP (cY b o z)];exact(jm b o z).1
 .exact Heap.get?_push_of_some _ (hk b o (jm b o z).2)
 .intro o v z;have:=I5.base.a8 _ o v z
  grind
 .exact wpAny_pure ⟨_,rfl,hq.2⟩
end
end L2
namespace D
open PySem L2
variable{pos:Pos}{O:Type}
noncomputable def wO:W->Option (List W)
 |.lst ws=>some ws.reverse
 |_=>none
noncomputable def mL(d:Den W):Den (List W):=λe=>(d e).bind λw e1=>a_ (wO w) e1
section
variable{X:Cx}{Z:Zt}{EE:L2.St->XK}{e:Expr}{d:Den W}{p1 p2 qT dI:Pos}
theorem VB(J:X.calm=true)(FK:X.mg "list"=none)(tq:X.mg "reversed"=none)(he:DE Z X EE e d)(FA:autoParam (Gl X "list") jJ)(mx:autoParam (Gl X "reversed") jJ)
  (pY:autoParam (starEach [.Call (.Name "reversed" p2) [e] [] dI] X.env=(false,eval (.Call (.Name "reversed" p2) [e] [] dI) X.env)::starEach [] X.env) jJ)(pZ:autoParam (starEach [e] X.env=(false,eval e X.env)::starEach [] X.env) jJ):
  DF Z X EE (.Call (.Name "list" p1) [.Call (.Name "reversed" p2) [e] [] dI] [] qT) (mL d):=by
 refine PE.mono (Vz J FK tq he FA mx pY pZ) ?_;rintro σ H Q ⟨G,e,rel,h⟩;simp only[mL,R.ay,aV]at h;refine⟨G,e,rel,h.imp (λw e1 h G1 v1 H1 r1 s1 p1=>?_) λ_ _ h=>h⟩
 obtain⟨out,hf,h⟩:=h;cases w with
 |lst ws=>
  cases hf;obtain⟨a,xs,rfl,q,r⟩:=p1;exact⟨a,xs,rfl,r1.sub.seq q,Bc r1 s1 r.reverse h⟩
 |_=>cases hf
end
theorem Rel.fM(r:Rel K Z G σ H e)(h:H a=some (kh sh kvs kas))(hg:G a=none)(hz:Z.H a=none)(hf:∀s∈e,eU s=false):av G (upd G a (kh sh kvs kas))/\Rel K Z (upd G a (kh sh kvs kas)) σ H e:=by
 have sg:av G (upd G a (kh sh kvs kas)):=sv hg _;refine⟨sg,⟨λc o z=>?_,λj s z=>?_,r.len,r.lD,r.ent,r.kO,λc z=>?_⟩⟩
 .by_cases J:c=a
  .grind [bI]
  .rw[aP J]at z;exact r.sub c o z
 .have y:=r.slot j s z;cases s with
  |no=>trivial
  |fr w=>
   obtain⟨u,y1,y2⟩:=y;exact⟨u,y1,Rep.mono sg w y2⟩
  |own b2 w2=>
   obtain⟨c,ys,y1,y2,y3,y4,y5⟩:=y;refine⟨c,ys,y1,y2,?_,y4,aw.mono sg w2 y5⟩;rw[aP (gh y2 h (λz=>oW rfl z.symm))];exact y3
  |aY kvs=>
   exact nomatch (hf _ (w0d z))
  |nest bq=>exact cu.move y sg λl o ys k1 k2 k3=>⟨k1,by rw[aP (gh k1 h (λz=>oW rfl z.symm))];exact k2,k3⟩
  |dw sh ks ws=>exact nomatch (hf _ (w0d z))
 .by_cases J:c=a
  .grind
  .rw[aP J];exact r.gen c z
theorem aZ.mono(sg:av G G'):∀{r:SR},aZ K Z EE D G r->aZ K Z EE D G' r
 |.nx _,h=>λG1 mn H1 r s=>h G1 mn H1 r (sg.trans s)
 |.bk _,h=>λG1 mn H1 r s=>h G1 mn H1 r (sg.trans s)
 |.ct _,h=>λG1 mn H1 r s=>h G1 mn H1 r (sg.trans s)
 |.rt _ _,h=>λG1 mn v H1 r s=>h G1 mn v H1 r (sg.trans s)
 |.ex _ _,h=>λG1 mn H1 r s=>h G1 mn H1 r (sg.trans s)
 |.no,h=>h
noncomputable def o6(i:Nat)(d:List S->SR)(e:List S):Option S->SR
 |some (.dw sh ks ws)=>if(e.set i .no).all (λs=>!eU s)=true then d (e.set i (.fr (.dw false sh ks ws)))else .no
 |_=>.no
noncomputable def mQ(i:Nat)(d:List S->SR):List S->SR:=λe=>o6 i d e e[i]?
theorem YR(i)(h:DS Z X EE st d):DS Z X EE st (mQ i d):=by
 refine PS.mono h ?_;rintro D σ H ⟨G,e,rel,q⟩;unfold mQ o6 at q;split at q
 .rename_i sh ks ws hw;split at q
  .rename_i J;obtain⟨a,kvs,kas,C,h2,h3,h4,h5,h6,h7⟩:=rel.dw hw;have hi:i<e.length:=(w0b.mp hw).1
   have r0:Rel X.K Z G σ H (e.set i .no):=rel.forget (by simp) λj s z=>by
    grind
   obtain⟨sg,r1⟩:=r0.fM h2 h3 h4 λs hs=>by
    grind
   have r2:=r1.set (i:=i) (w:=.dw false sh ks ws) (v:=.ref a) ⟨a,kvs,kas,rfl,bI,h5,h6.mono sg,aw.mono sg ws h7⟩;rw[List.set_set]at r2
   have es:σ.set i (some (V.ref a))=σ:=by
    apply w1q
    grind
   rw[es]at r2;exact⟨_,_,r2,aZ.mono sg q⟩
  .exact q.elim
 .exact q.elim
noncomputable def Eg:Option S->Option Int
 |some (.fr (.int n))=>some n
 |_=>none
noncomputable def oZ:Nat ⊕ Int->List S->Option Int
 |.inl j,e=>Eg e[j]?
 |.inr n,_=>some n
noncomputable def BP:Nat ⊕ Int->TE
 |.inl j=>pQ j
 |.inr n=>tC (.int n)
noncomputable def Md:W->Option V
 |.aG=>some .aG
 |.bl b=>some (.bl b)
 |.int n=>some (.int n)
 |_=>none
noncomputable def n_(i:Nat)(w:W)(e:List S):Option Int->Option Int->SR
 |some m,some n=>.nx (e.set i (.dw (.tup [.int,.int]) [.tup [.int m,.int n]] [w]))
 |_,_=>.no
noncomputable def j_(i:Nat)(a b:Nat ⊕ Int)(w:W):List S->SR:=λe=>n_ i w e (oZ a e) (oZ b e)
section
variable{X:Cx}{Z:Zt}{EE:L2.St->XK}{x:Str}{p:Pos}
theorem Et(r:Rel K Z G σ H e)(h:oZ a e=some n)(q:Q (.int n) H'):BP a σ H' Q:=by
 cases a with
 |inl j=>
  simp only[oZ,Eg]at h;split at h
  .rename_i m hm;cases (h);obtain⟨v,v1,v2⟩:=r.fr hm;cases(show v=V.int n from v2);exact⟨_,v1,q⟩
  .cases h
 |inr m=>
  cases h;exact q
theorem Xc(i:Nat){ka kb ve:Expr}{tp:Pos}{x1}{a b:Nat ⊕ Int}{w:W}{v:V}{pos' kg:Pos}(hu:X.A.units+20<cLine)(hN:X.N.Nodup)(hk:PE X (.Tuple [ka,kb] x1 tp) (B7 (kL (BP a) (kL (BP b) uq))))(hv:PE X ve (tC v))(hw:Md w=some v)(hi:autoParam (X.N[i]?=some x) jJ)(hx:autoParam (Loc X.env.scope x) jM)
  (hs:autoParam (swapsWith (.Dict [some (.Tuple [ka,kb] x1 tp)] [ve] kg) (some (.Name x pos')) pos.line X.env=pure false) jJ)(hf:autoParam (X.fn x=true\/X.env.scope.names.lookup x=some .local) jL):
  DS Z X EE (.Assign [.Name x pos'] (.Dict [some (.Tuple [ka,kb] x1 tp)] [ve] kg) pos) (j_ i a b w):=by
 refine PS.mono (vB i hN (P1 (sh:=.tup [.int,.int]) hu hk hv) hi hx hs hf) ?_;rintro D σ H ⟨G,e,rel,h⟩;unfold j_ at h;cases ha:oZ a e with
 |none=>rw[ha]at h;exact h.elim
 |some m=>
  cases hb:oZ b e with
  |none=>rw[ha,hb]at h;exact h.elim
  |some n=>
   rw[ha,hb]at h;intro q hq;refine Et rel ha (Et rel hb ⟨by rw[sizeLine_eq];simp,λt ht=>?_⟩)
   have pX:t≠q:=λz=>by grind [bI]
   have Si:H t=none:=by grind [aP]
   refine⟨.tup [.int m,.int n],t,rfl,⟨⟨t,_,rfl,.inl bI,?_⟩,?_,?_⟩,by rw[aP (Ne.symm pX)];exact bI,?_⟩
   .exact⟨_,_,rfl,rfl,_,_,rfl,rfl,rfl⟩
   .exact⟨trivial,trivial,trivial⟩
   .simp[Kx.depth,Kx.cJ]
   .have eH:upd (upd (upd H q (.dT (.tup [.int,.int]) [] [])) t (.tup [.int m,.int n])) q (.dT (.tup [.int,.int]) [(.tup [.int m,.int n],v)] [t])=upd (upd H t (.tup [.int m,.int n])) q (.dT (.tup [.int,.int]) [(.tup [.int m,.int n],v)] [t]):=by
     grind [bI,aP]
    rw[eH];have g1:=aQ.laid rel.sub Si (.tup [.int m,.int n]);have r1:=rel.grow g1;have K8:upd H t (.tup [.int m,.int n]) q=none:=by simp_all [aP,Ne.symm]
    have g2:=aQ.ny r1.sub K8 (.dT (.tup [.int,.int]) [(.tup [.int m,.int n],v)] [t]);have r2:=r1.grow g2;refine h _ _ _ (r2.xG (s:=.dw (.tup [.int,.int]) [.tup [.int m,.int n]] [w]) (λ_ _ z=>nomatch z) ⟨q,[(.tup [.int m,.int n],v)],[t],rfl,bI,r1.sub.free K8,?_,rfl,⟨⟨t,_,rfl,.inl bI,?_⟩,trivial⟩,⟨v,[],rfl,?_,rfl⟩⟩) g1.gg
    .exact p9 rel hq
    .exact⟨_,_,rfl,rfl,_,_,rfl,rfl,rfl⟩
    .cases w<;>cases hw<;>rfl
end
section
noncomputable def u7(K:Fg)(Z:Zt)(EE:L2.St->XK)(f:O->List S->Option SR):TS:=λD σ H=>rO K Z σ H λG e=>∀o r,f o e=some r->aZ K Z EE D G r
noncomputable def EN(Z:Zt)(X:Cx)(EE:L2.St->XK)(st:Stmt)(f:O->List S->Option SR):Prop:=PS X st (u7 X.K Z EE f)
noncomputable def nH(Z:Zt)(X:Cx)(EE:L2.St->XK)(sts:List Stmt)(f:O->List S->Option SR):Prop:=kN X sts (u7 X.K Z EE f)
noncomputable def m_(d:List S->SR)(f:List S->Option SR):List S->Option SR:=λe=>match d e with
 |.nx e'=>f e'
 |r=>some r
noncomputable def pN(f:List S->Option SR)(d:List S->SR):List S->Option SR:=λe=>match f e with
 |some (.nx e')=>some (d e')
 |r=>r
variable{st:Stmt}{d:List S->SR}{f:O->List S->Option SR}
theorem DB(C:DS Z X EE st d)(h2:nH Z X EE sts f)(o0:O):nH Z X EE (st::sts) (λo=>m_ d (f o)):=by
 refine kN.mono (Jc C h2) ?_;rintro D σ H ⟨G,e,rel,h⟩;refine⟨G,e,rel,?_⟩;simp only[m_]at h;cases q:d e with
 |nx e'=>
  intro G' aS H' r' sg;refine⟨G',e',r',λo r hr=>aZ.mono sg (h o r ?_)⟩
  rw[q];exact hr
 |rt s e'=>exact h o0 (.rt s e') (by rw[q])
 |ex c e'=>exact h o0 (.ex c e') (by rw[q])
 |bk e'=>exact h o0 (.bk e') (by rw[q])
 |ct e'=>exact h o0 (.ct e') (by rw[q])
 |no=>exact h o0 .no (by rw[q])
theorem L9(C:EN Z X EE st f)(h2:nq Z X EE sts d):nH Z X EE (st::sts) (λo=>pN (f o) d):=by
 refine kN.mono (Jc C h2) ?_;rintro D σ H ⟨G,e,rel,h⟩;refine⟨G,e,rel,λo r hr=>?_⟩
 simp only[pN]at h;cases r with
 |nx e'=>
  intro G' aS H' r' sg;exact⟨G',e',r',aZ.mono sg (h o (d e') (by rw[hr]))⟩
 |rt s e'=>exact h o (.rt s e') (by rw[hr])
 |ex c e'=>exact h o (.ex c e') (by rw[hr])
 |bk e'=>exact h o (.bk e') (by rw[hr])
 |ct e'=>exact h o (.ct e') (by rw[hr])
 |no=>exact h o .no (by rw[hr])
open Classical in
noncomputable def zP(f:O->List S->Option SR):List S->SR:=λe=>if h:∃n,∀o r,f o e=some r->∃e',r=.rt (.fr (.bl true)) e'/\e'.length=n then .rt (.fr (.bl true)) (List.replicate h.choose .no)else .no
theorem YS(h:nH Z X EE sts f):nq Z X EE sts (zP f):=by
 refine kN.mono h ?_;rintro D σ H ⟨G,e,rel,q⟩;unfold zP at q;split at q
 .rename_i hd;refine⟨G,e,rel,λo r hr=>?_⟩
  obtain⟨e',rfl,hl⟩:=hd.choose_spec o r hr;exact λG' aS v H' r' sg sl=>q G' aS v H' (r'.forget (by grind) λi s z=>.inl (w2j (w0d z))) sg sl
 .exact q.elim
theorem Xd{f:O->List S->Option SR}(h:∀o r,f o e=some r->∃e',r=.rt (.fr (.bl true)) e'/\e'.length=n):(zP f e).fn=.ok (.fr (.bl true)):=by
 unfold zP;rw[dif_pos ⟨n,h⟩];rfl
end
noncomputable def BR(K:Fg)(F:O->List W->Option FR):Sp:=λvs H Q E=>∃G ws,av G H/\aw K G ws vs/\∀o,match F o ws with
 |some (.ok s)=>∀G' H' v,aQ G H G' H'->eD K ⟨H,G,[]⟩ G' H' s (some v)->Q v H'
 |some (.ex c)=>∀H',av H H'->E c none H'
 |some .no=>False
 |none=>True
theorem z6p{F:O->List W->Option FR}(h:BR K F vs H Q E):∃G ws,(∀o,F o ws≠some .no)/\aw K G ws vs:=by
 obtain⟨G,ws,sg,rp,h⟩:=h
 grind
noncomputable def Iu(i:Nat)(e1:List S):Option FR->Option SR
 |some (.ok (.fr w))=>some (.nx (e1.set i (.fr w)))
 |none=>none
 |_=>some .no
noncomputable def qw(i:Nat)(F:O->List W->Option FR)(dA:Den (List W)):O->List S->Option SR:=λo e=>match dA e with
 |.ok ws e1=>Iu i e1 (F o ws)
 |.ex c e1=>some (.ex c e1)
 |.no=>some .no
section
variable{X:Cx}{Z:Zt}{EE:L2.St->XK}{e:Expr}{es:List Expr}{dA:Den (List W)}{x y:Str}{k:Nat}{ps:List Str}{F:O->List W->Option FR}{p cA pos':Pos}
theorem YT(i:Nat)(hN:X.N.Nodup)(h1:bZ X.prog X.w X.K X.mg X.base k x ps (BR X.K F))(hr:bJ k X.A)(hx:fx (eM X.prog X.w) X EE)(ha:DA Z X EE (e::es) dA)(o0:O)(hg:autoParam (Gl X x) jJ)
  (kY:autoParam ((x==("__debug__":Str))=false) jK)(he:autoParam (starEach (e::es) X.env=(false,eval e X.env)::starEach es X.env) jJ)(dJ:autoParam ((backTo cA (starEach es X.env)).any (·.1)=false) jJ)
  (hi:autoParam (X.N[i]?=some y) jJ)(hy:autoParam (Loc X.env.scope y) jM)(hs:autoParam (swapsWith (.Call (.Name x p) (e::es) [] cA) (some (.Name y pos')) pos.line X.env=pure false) jJ)(hf:autoParam (X.fn y=true\/X.env.scope.names.lookup y=some .local) jL):
  EN Z X EE (.Assign [.Name y pos'] (.Call (.Name x p) (e::es) [] cA) pos) (qw i F dA):=by
 refine PS.mono (vB i hN (PN h1 hr hx ha hg kY he dJ) hi hy hs hf) ?_;rintro D σ H ⟨G,en,rel,h⟩;simp only[qw]at h;refine⟨G,en,rel,?_⟩;cases q:dA en with
 |no=>rw[q]at h;exact(h o0 .no rfl).elim
 |ex c e1=>rw[q]at h;exact λG' H' r s=>h o0 (.ex c e1) rfl G' σ H' r s
 |ok ws e1=>
  rw[q]at h;intro G1 vs H1 r1 s1 p1;refine⟨G1,ws,r1.sub,by grind,λo=>?_⟩
  have ho:=h o;dsimp only at ho;cases z:F o ws with
  |none=>trivial
  |some r=>
   rw[z]at ho;cases r with
   |no=>exact ho .no rfl
   |ex c=>exact(ho .no rfl).elim
   |ok s=>
    cases s with
    |fr w=>
     intro G' H' v g sl;obtain⟨v',e',rp⟩:=sl;cases e';exact ho _ rfl G' _ H' ((r1.grow g).set rp) (s1.trans g.gg)
    |_=>exact(ho .no rfl).elim
end
theorem aQ.write(g:aQ G H G' H')(hn:H a=none)(hg:G' a=none):aQ G H G' (upd H' a o) where
 hh:=λb u e=>by rw[aP (jf e hn)];exact g.hh b u e
 gg:=g.gg
 sub:=λb u e=>by rw[aP (jf e hg)];exact g.sub b u e
 new:=g.new
theorem NT{K:Fg}{bo:Nat->Option Lm}{r:Nat->List W->FR}{j:Nat}{lm:Lm}{aL:List W}{G1 H1:Hp}{cs:Cs}{f l ks:Addr}{o:Obj}{Kk:Hp->Prop}(hl:bo j=some lm)(K6:bA aL=true)(n1:H1 l=none)(n2:H1 ks=none)(tm:l≠ks)
  (hK:∀Gc Hc (ns:List Int),aQ G1 H1 Gc Hc->Gc l=none->Gc ks=none->Hc l=some (.cD o (.lst []))->Hc ks=some (.lst (ns.map V.int))->Kk Hc):
  ∀(is ns:List Int)(Gc Hc:Hp),(∀i∈is,∃n,r j (.int i::aL)=.ok (.fr (.int n)))->aQ G1 H1 Gc Hc->Gc l=none->Gc ks=none->Hc l=some (.cD o (.lst []))->Hc ks=some (.lst (ns.map V.int))->(∀b o,cs.lookup b=some o->Hc b=none)->Rep K (b9 Gc cs) (.fn j lm aL) (.ref f) ->
   mV (xI K bo r) (.ref f) cs l o ks Kk is ns Hc
 |[],ns,Gc,Hc,hr,g,g1,g2,C,h2,J,rf=>hK Gc Hc ns g g1 g2 C h2
 |i::is,ns,Gc,Hc,hr,g,g1,g2,C,h2,J,rf=>by
  obtain⟨n,hn⟩:=hr i (by simp);refine⟨b9 Gc cs,j,lm,aL,[.int i],.int n,Dy g.sub,rf,⟨_,_,rfl,rfl,rfl⟩,rfl,K6,hl,hn,λG' H' v g' rv=>?_⟩
  cases(show v=V.int n from rv);have gn:=aQ.gE g' J g.sub;have e1:=gn.hh _ _ C;have e2:=gn.hh _ _ h2;have k1:c7 G' cs l=none:=by rw[gn.new l (by grind)];exact g1
  have k2:c7 G' cs ks=none:=by rw[gn.new ks (by grind)];exact g2
  refine⟨n,rfl,e1,e2,NT hl K6 n1 n2 tm hK is (ns++[n]) (c7 G' cs) _ (λi hi=>hr i (by simp[hi])) ((g.trans gn).write n2 k2) k1 k2 (by grind [aP]) bI (λb o z=>?_) (Rep.mono (Dy gn.gg) _ rf)⟩
  grind [aP,xu]
noncomputable def qS(bo:Nat->Option Lm)(r:Nat->List W->FR)(j:Nat)(l:Lm)(aL:List W)(lo hi:Int):Prop:=-(2^62)<=lo/\lo<2^62/\-(2^62)<=hi/\hi<2^62/\(hi-lo).toNat<64/\bo j=some l/\bA aL=true/\∀i∈b_ lo hi,∃n,r j (.int i::aL)=.ok (.fr (.int n))
open Classical in
noncomputable def tS(i:Nat)(bo:Nat->Option Lm)(r:Nat->List W->FR)(j:Nat)(l:Lm)(o:List Int)(e:List S):Option Int->Option Int->Option (List W)->Option SR
 |some lo,some hi,some aL=>if qS bo r j l aL lo hi then(if o.Perm (b_ lo hi)then some (.nx (e.set i (.fr (.lst (.int 0::o.map .int)))))else none)else some .no
 |_,_,_=>some .no
noncomputable def qv(i:Nat)(bo:Nat->Option Lm)(r:Nat->List W->FR)(j:Nat)(l:Lm)(js:List Nat)(a b:Nat ⊕ Int):List Int->List S->Option SR:=λo e=>tS i bo r j l o e (oZ a e) (oZ b e) (dq js e)
section
variable{X:Cx}{Z:Zt}{EE:L2.St->XK}{ea eb body:Expr}{params:Arguments}{x:Str}{d9 p p2 dI kp zp lp bp pos':Pos}{k:Nat}{N nf:List Str}{js:List Nat}{sc scope:Scope}{bo:Nat->Option Lm}{r:Nat->List W->FR}{a b:Nat ⊕ Int}{ci}{dn:Pos}
theorem YU(i j:Nat)(l:Lm)(Rv:X.N.Nodup)(F:qm X.prog X.w X.K X.mg X.base (eM X.prog X.w) k (xI X.K bo r))(hr:bJ (k+2) X.A)(J:X.calm=true)(hm:X.mg "sorted"=none)(tq:X.mg "range"=none)(M:Maker X)(qD:∀y,X.fn y=true)(ha:PA X [ea,eb] (kL (BP a) (kL (BP b) uq)))(ok:c0 sc scope N nf js=true)
  (hl:autoParam (l=⟨X.env.qual++"<lambda>", params,body,scope,nf⟩) jJ)(lU:autoParam (defaultsOf params X.env=([],[])) jJ)(kj:autoParam (X.env.scope=sc) jJ)(hN:autoParam (X.N=N) jJ)(hg:autoParam (Gl X "sorted") jJ)(mx:autoParam (Gl X "range") jJ)
  (hs:autoParam (starEach [ea,eb] X.env=(false,eval ea X.env)::starEach [eb] X.env) jJ)(nA:autoParam ((backTo dI (starEach [eb] X.env)).any (·.1)=false) jJ)
  (he:autoParam (starEach [.Call (.Name "range" p2) [ea,eb] [] dI] X.env=[(false,eval (.Call (.Name "range" p2) [ea,eb] [] dI) X.env)]) jJ)
  (hi:autoParam (X.N[i]?=some x) jJ)(hx:autoParam (Loc X.env.scope x) jM)
  (nY:autoParam (swapsWith (.BinOp (.List [.Constant (.int 0) ci zp] lp) .Add (.Call (.Name "sorted" p) [.Call (.Name "range" p2) [ea,eb] [] dI] [⟨some "key", .Lambda params body scope d9,kp⟩] pos) bp) (some (.Name x pos')) dn.line X.env=pure false) jJ)
  (hf:autoParam (X.fn x=true\/X.env.scope.names.lookup x=some .local) jL):
  EN Z X EE (.Assign [.Name x pos'] (.BinOp (.List [.Constant (.int 0) ci zp] lp) .Add (.Call (.Name "sorted" p) [.Call (.Name "range" p2) [ea,eb] [] dI] [⟨some "key", .Lambda params body scope d9,kp⟩] pos) bp) dn) (qv i bo r j l js a b):=by
 unfold c0 at ok;simp only[w0v,w0u,beq_iff_eq,bne_iff_ne,w2o,w1c]at ok;obtain⟨⟨⟨⟨⟨⟨k1,k2⟩,k3⟩,k4⟩,k5⟩,k6⟩,k7⟩:=ok;have kind:∀x,X.env.kindOf x=sc.names.lookup x:=λx=>by rw[<- kj];rfl
 refine PS.mono (vB i Rv (Ka OI (PH (t6 xt yN)) (Xb (Nf:=nf) (js:=js) F hr J hg hm mx tq M qD ha lU (λx hx hf=>?_) (λi j y e1 e2=>?_) hs nA he)) hi hx nY hf) ?_
 .grind
 .have cY:i<js.length:=(w0b.mp e2).1;have z:=k6 i cY;rw[e1,e2]at z;obtain⟨z1,z2⟩:=k7 y (w0d e1);refine⟨by rw[hN];simpa using z,PySem.mem_of_lookup z1,?_,?_⟩
  .rw[kj];rcases z2 with z|z
   .exact .inr (.inl z)
   .exact .inr (.inr z)
  grind
 .rintro D σ H ⟨G,e,rel,h⟩;simp only[qv]at h;cases q1:oZ a e with
  |none=>rw[q1]at h;exact(h [] .no rfl).elim
  |some lo=>
  cases q2:oZ b e with
  |none=>rw[q1,q2]at h;exact(h [] .no rfl).elim
  |some qE=>
  cases q3:dq js e with
  |none=>rw[q1,q2,q3]at h;exact(h [] .no rfl).elim
  |some aL=>
  rw[q1,q2,q3]at h;simp only[tS]at h
  by_cases aR:qS bo r j l aL lo qE
  .simp only[if_pos aR]at h;obtain⟨b1,b2,b3,b4,b5,b6,b7,b8⟩:=aR;refine⟨by rw[sizeLine_eq];simp,λp1 R8=>?_⟩
   have gp:=aQ.ny rel.sub R8 (.lst [.int 0]);have r0:=rel.grow gp;refine Et r0 q1 (Et r0 q2 ⟨lo,qE,rfl,b1,b2,b3,b4,b5,λf bh H2 la cs co lA Ak jG=>?_⟩)
   obtain⟨eS,Hm,pm,gY,c',hH,RJ,rfl⟩:=la
   have gm:aQ G H G Hm/\Hm p1=some (.lst [.int 0]):=by
    rcases hH with rfl|⟨c,oc,J,rfl⟩
    .exact⟨gp,bI⟩
    .have hcp:p1≠c:=λz=>by grind [bI]
     exact⟨gp.trans (aQ.ny gp.sub J _),by grind [aP,bI]⟩
   have gl:=aQ.laid gm.1.sub RJ (pW (kla_obj "<lambda>" (X.env.qual++"<lambda>") params body scope bh pm c' gY) (X.env.qual++"<lambda>") c');have g2:=gm.1.trans gl;generalize K2:pW (kla_obj "<lambda>" (X.env.qual++"<lambda>") params body scope bh pm c' gY) (X.env.qual++"<lambda>") c'=fo at gl g2 co Ak |-
   obtain⟨zs,rz,zl,zv⟩:=HZ rel q3;have rZ:∀b o,cs.lookup b=some o->upd Hm f fo b=none:=λb o z=>(co.ox b o z).1
   have Fo:∀b o,cs.lookup b=some o->upd G f fo b=none:=λb o z=>by
    cases q:upd G f fo b with
    |none=>rfl
    |some u=>have:=g2.sub b u q;grind
   have sA:=g2.gg.trans (Ji Fo)
   have Fj:cs.lookup f=none:=by
    cases q:cs.lookup f with
    |none=>rfl
    |some o=>grind [bI]
   have fc:gv (b9 (upd G f fo) cs) bh l zs cs:=by
    subst hl;refine⟨co.inj,co.has,co.all,λc o z=>⟨pJ z,(co.ox c o z).2⟩,λi y z g1 g2=>?_,by rw[zl];exact k5⟩
    have hi:i<js.length:=by grind
    have g3:js[i]?=some js[i]:=w0j hi;exact co.val i y js[i] z g1 g3 (zv i _ z g3 g2)
   have Ir:Rep X.K (b9 (upd G f fo) cs) (.fn j l aL) (.ref f):=by
    refine⟨f,bh,zs,cs,rfl,⟨pm,c',gY,?_⟩,fc,aw.mono sA aL rz⟩
    grind [iV,bI]
   have h2l:H lA=none:=by
    cases q:H lA with
    |none=>rfl
    |some u=>have:=g2.hh _ _ q;grind
   have KQ:upd G f fo lA=none:=g2.sub.free Ak;have FW:p1≠f:=λz=>by grind
   have wF:upd Hm f fo p1=some (.lst [.int 0]):=by rw[aP FW];exact gm.2
   intro o ks rX KY;rw[D0]at rX |-
   have tm:lA≠ks:=λz=>by grind [bI]
   have yl:upd Hm f fo ks=none:=by rw[aP (Ne.symm tm)]at rX;exact rX
   have h2k:H ks=none:=by
    cases q:H ks with
    |none=>rfl
    |some u=>have:=g2.hh _ _ q;grind
   have zV:upd G f fo ks=none:=g2.sub.free yl;have dJ:p1≠lA:=λz=>by grind
   have R_:p1≠ks:=λz=>by grind
   refine NT (G1:=upd G f fo) (H1:=upd Hm f fo) b6 b7 Ak yl tm (λGc Hc ns gc c1 c2 c3 c4 ys hy=>?_) (b_ lo qE) [] (upd G f fo) _ b8 (((aQ.refl g2.sub).write Ak KQ).write yl zV) KQ zV (by grind [aP,bI]) bI (λb o z=>?_) Ir
   .have hyl:ys.length<64:=by rw[hy.length_eq];simp[b_];omega
    have e1:upd (upd Hc ks (.lst [])) lA (.lst (ys.map V.int)) p1=some (.lst [.int 0]):=by rw[aP dJ,aP R_];exact gc.hh _ _ wF
    refine⟨p1,lA,[.int 0],ys.map V.int,rfl,rfl,cy.of e1,cy.of bI,by grind [sizeLine_eq],λp hp=>?_⟩
    have gw:=(gc.write (o:=.lst []) yl c2).write (o:=.lst (ys.map V.int)) Ak c1;have gf:=(g2.trans gw).trans (aQ.laid gw.sub hp (.lst ([.int 0]++ys.map V.int)));have hh:aZ X.K Z EE D G (.nx (e.set i (.fr (.lst (.int 0::ys.map .int))))):=h ys _ (by rw[if_pos hy]);refine hh _ _ _ ((rel.grow gf).set (w:=.lst (.int 0::ys.map .int)) (v:=.ref p) ⟨p,_,rfl,cy.of bI,?_⟩) gf.gg;exact⟨_,_,rfl,rfl,HX _⟩
   grind [aP]
  .simp only[if_neg aR]at h;exact(h [] .no rfl).elim
end
theorem zI{F:O->List W->Option FR}(A:At K mg x st ps)(hm:∀f oc od fd sl,mg x=some (.ref f)->K.lookup f=some ⟨oc,od,.func fd,sl⟩->jw K x fd.code)(sc:aE N ps (ak st))(len:∀ws,(∀o,F o ws≠some .no)->ws.length=ps.length)
  (hb:∀ws,(∀o,F o ws≠some .no)->∀(f:Addr)(bx:Value)(A:Around)(outer:List Env)(s:Shared)(H:Hp)(E:XK)(Z:Zt),bJ k (A.deeper (PyProof.Rows.envOfC x (ak st) s.heap.objs.size f bx))->jw K x bx->(Z.H=H/\Z.io=[]) ->
   ∃d:O->List S->Option SR,nH Z (fX (eM P w) P w K mg base N x (ak st) f bx A outer s H E) (λ_=>E) (bN st) d/\∀o,(d o (init N.length ws)).map SR.fn=F o ws):bZ P w K mg base (k+1) x ps (BR K F):=by
 obtain⟨f,fd,F0,m,b⟩:=A.ex;have kp:=F0.kp;obtain⟨oc,od,kV,doc,pm,an,bx,ct,tT,rfl,lk,dU⟩:=F0.ex;have hk:jw K x bx:=hm f _ _ _ _ m lk;refine⟨f,_,Kb lk dU sc (λvs H Q E h=>?_) (λA outer s H vs Q E hr h=>?_),m,kp,b⟩
 .obtain⟨G,ws,hn,r⟩:=z6p h;rw[r.length];exact len ws hn
 .obtain⟨G,ws,sg,rp,h⟩:=h;have hn:∀o,F o ws≠some .no:=λo z=>by grind
  obtain⟨d,hd,he⟩:=hb ws hn f bx A outer s H E ⟨H,G,[]⟩ hr hk ⟨rfl,rfl⟩;refine⟨_,hd,G,init N.length ws,Bd sg rp,λo r hr=>?_⟩
  have e:=he o;rw[hr]at e;have q:=h o;rw[<- e]at q;refine D1 (F:=λ_=>r.fn) (ws:=ws) rfl ?_
  show match r.fn with
   |.ok s=>∀G' H' v,aQ G H G' H'->eD K ⟨H,G,[]⟩ G' H' s (some v)->Q v H'
   |.ex c=>∀H',av H H'->E c none H'
   |.no=>False
  grind
noncomputable def nN(c:List S->Bool)(d1 d2:List S->SR):List S->SR:=λe=>if c e=true then d1 e else d2 e
theorem z6q(c)(C:DS Z X EE st d1)(h2:DS Z X EE st d2):DS Z X EE st (nN c d1 d2):=by
 intro pins s σ H D I q;obtain⟨G,e,rel,q⟩:=q;unfold nN at q;split at q
 .exact C pins s σ H D I ⟨G,e,rel,q⟩
 .exact h2 pins s σ H D I ⟨G,e,rel,q⟩
noncomputable def wU(m k:Int):Option S->Bool
 |some (.fr (.int n))=>decide (n%m=k)
 |_=>false
noncomputable def mY(i:Nat)(m k:Int)(e:List S):Bool:=wU m k e[i]?
noncomputable def E7:Expr->Expr
 |.BinOp _ _ b _=>b
 |_=>vg
noncomputable def kwAt(i:Nat):Expr->Expr
 |.Call _ _ ks _=>match ks[i]? with
  |some k=>k.value
  |none=>vg
 |_=>vg
noncomputable def lq:Expr->Scope
 |.ListComp _ _ sc _=>sc
 |_=>default
noncomputable def rC(sc outer:Scope):Scope:=relabel sc {scope:=outer,locals:=0,globals:=0,cells:=[]}
theorem z1x:mL d e=(d e).bind λw e1=>a_ (wO w) e1:=rfl
theorem z6r:wO (.lst ws)=some ws.reverse:=rfl
theorem z1y:mQ i f e=o6 i f e e[i]?:=rfl
theorem z6s:o6 i f e (some (.dw sh ks ws))=if(e.set i .no).all (λs=>!eU s)=true then f (e.set i (.fr (.dw false sh ks ws)))else .no:=rfl
theorem y6m:j_ i a b w e=n_ i w e (oZ a e) (oZ b e):=rfl
theorem z9l:oZ (.inr n) e=some n:=rfl
theorem z9m:oZ (.inl j) e=Eg e[j]?:=rfl
theorem z9n:Eg (some (.fr (.int n)))=some n:=rfl
theorem y6n:n_ i w e (some m) (some n)=.nx (e.set i (.dw (.tup [.int,.int]) [.tup [.int m,.int n]] [w])):=rfl
theorem z6t:nN c f1 f2 e=if c e=true then f1 e else f2 e:=rfl
theorem z1z:mY i m k e=wU m k e[i]?:=rfl
theorem z6u:wU m k (some (.fr (.int n)))=decide (n%m=k):=rfl
end D
namespace L2
open PySem PySem.Spec PyProof.Rows
end L2
namespace D
open PySem L2
end D
namespace L2
open PySem PySem.Spec PyProof.Rows
end L2
namespace D
open PySem L2 PySem.Spec PyProof.Rows
open PyProof.Rows (envOfC)
end D
namespace L2
open PySem PySem.Spec PyProof.Rows
end L2
namespace D
open PySem L2 PySem.Spec PyProof.Rows
open PyProof.Rows (envOfC)
end D
namespace y0
open PySem PySem.W PySem.Calls PyProof.Rows
end y0
namespace L2
open PySem PySem.Spec PyProof.Rows
end L2
namespace D
open PySem L2
open Classical in
noncomputable instance KP (k:Kx) (sh:Sh):Decidable (fits k sh):=Classical.propDecidable _
variable{X:Cx}{EE:L2.St->XK}{p pos:Pos}{x y:Str}{Z:Zt}
noncomputable def me(i:Nat)(sh:Sh)(w:W)(e:List S):Option Kx->SR
 |some t=>if fits t sh then .nx (e.set i (.dw sh [t] [w]))else .no
 |none=>.no
noncomputable def mf(i:Nat)(sh:Sh)(w:W)(e:List S):Option S->SR
 |some (.fr kw)=>me i sh w e (gN kw)
 |_=>.no
noncomputable def kf(i j:Nat)(sh:Sh)(w:W):List S->SR:=λe=>mf i sh w e e[j]?
theorem Xe(i j:Nat)(sh:Sh){ve:Expr}{w:W}{v:V}{pos' kg p2:Pos}(hK:du X.K)(hu:X.A.units+20<cLine)(hN:X.N.Nodup)(hv:PE X ve (tC v))(hw:Md w=some v)
  (hj:autoParam (X.N[j]?=some y) jJ)(kl:autoParam (j0 X.env.scope y) jN)(hd:autoParam ((y==("__debug__":Str))=false) jK)(dU:autoParam ((y==("__classdict__":Str))=false) jK)
  (hi:autoParam (X.N[i]?=some x) jJ)(hx:autoParam (Loc X.env.scope x) jM)
  (hs:autoParam (swapsWith (.Dict [some (.Name y p2)] [ve] kg) (some (.Name x pos')) pos.line X.env=pure false) jJ)(hf:autoParam (X.fn x=true\/X.env.scope.names.lookup x=some .local) jL):
  DS Z X EE (.Assign [.Name x pos'] (.Dict [some (.Name y p2)] [ve] kg) pos) (kf i j sh w):=by
 refine PS.mono (vB i hN (P1 (sh:=sh) hu (pv j hj kl hd dU) hv) hi hx hs hf) ?_;rintro D σ H ⟨G,e,rel,h⟩;unfold kf mf at h;split at h
 .rename_i kw RU;unfold me at h;split at h
  .rename_i t ht;split at h
   .rename_i J;obtain⟨u,ym,Sk⟩:=rel.fr RU;obtain⟨b,rfl,kr⟩:=yJ hK (.refl G) ht Sk;have Az:bT H t (.ref b):=bT.keeps (λ_ _ _ z=>rel.sub _ _ z) t kr
    intro q hq;have g2:=aQ.ny rel.sub hq (.dT sh [(t,v)] [b]);have r2:=rel.grow g2;have pY:av H (upd H q (.dT sh [] [])):=sv hq _;refine⟨.ref b,ym,t,b,rfl,⟨bT.keeps (λ_ _ _ z=>pY _ _ z) t Az,J⟩,bI,?_⟩
    have eH:upd (upd H q (.dT sh [] [])) q (.dT sh [(t,v)] [b])=upd H q (.dT sh [(t,v)] [b]):=by
     grind [bI,aP]
    rw[eH];refine h _ _ _ (r2.xG (s:=.dw sh [t] [w]) (λ_ _ z=>nomatch z) ⟨q,[(t,v)],[b],rfl,by grind [qa,AL,bI],rel.sub.free hq,p9 rel hq,rfl,.of ⟨kr,trivial⟩ (AL kr J),?_⟩) (.refl _)
    unfold dM
    (try split)<;>exact⟨v,[],rfl,(by cases w<;>cases hw<;>rfl),rfl⟩
   .exact h.elim
  .exact h.elim
 .exact h.elim
theorem y6p:kf i j sh w e=mf i sh w e e[j]?:=rfl
theorem y6q:mf i sh w e (some (.fr kw))=me i sh w e (gN kw):=rfl
theorem y6r:me i (.tup [.int,.int]) w e (some (.tup [.int m,.int n]))=.nx (e.set i (.dw (.tup [.int,.int]) [.tup [.int m,.int n]] [w])):=by
 exact if_pos ⟨⟨trivial,trivial,trivial⟩,by simp[Kx.depth,Kx.cJ]⟩
open PySem L2 PySem.Spec PyProof.Rows
noncomputable def gX:List W->Bool
 |[]=>true
 |.bl true::ws=>gX ws
 |_=>false
theorem Jj:∀{ws:List W},gX ws=true->∀w∈ws,∃b,w=.bl b
 |[],_,w,m=>nomatch m
 |w0::ws,h,w,m=>by
  unfold gX at h;split at h
  .rename_i e;cases e
  .rename_i e;cases e;rcases w0m.mp m with rfl|m
   .exact⟨true,rfl⟩
   .exact Jj h w m
  .cases h
theorem HI{K:Fg}{G:Hp}:∀{ws:List W}{vs:List V},gX ws=true->aw K G ws vs->∀v∈vs,v=.bl true
 |[],_,_,h,v,m=>by cases(show _=[]from h);cases m
 |w::ws,_,a,⟨x,r,e,C,h2⟩,v,m=>by
  subst e;cases w with
  |bl b=>
   cases b with
   |false=>cases a
   |true=>
    rcases w0m.mp m with rfl|m
    .exact C
    .have a':gX ws=true:=a;exact HI a' h2 v m
  |_=>cases a
theorem VC{κ:Type} [DecidableEq κ]{kvs:List (κ×V)}{k:κ}{v:V}(h:(eJ kvs k).isSome=true)(ha:∀x∈kvs.map (·.2),x=v):putK kvs k v=kvs:=by
 unfold putK;rw[DU,h,if_pos rfl]
 conv=>rhs;rw[<- List.map_id kvs]
 refine w0r λp hp=>?_
 split
 .have:=ha p.2 (w1z hp)
  grind
 .rfl
noncomputable def oS(i:Nat)(w kw:W)(e:List S):Option S->SR
 |some (.dw sh ks ws)=>match gN kw with
  |some x=>if ks.length<16777216/\(e.set i .no).all (λs=>!eU s)=true/\fits x sh/\(gX ws&&gX [w])=true then(if(ja ks ws x).isSome=true then .nx e else .nx (e.set i (.dw sh (ks++[x]) (ws++[w]))))else .no
  |none=>.no
 |_=>.no
noncomputable def oR(i:Nat)(dk:Den W)(w:W)(e1:List S):Option S->SR
 |some (.dw _ _ _)=>(dk e1).cQ λkw e2=>oS i w kw e2 e2[i]?
 |_=>.no
noncomputable def oz(i:Nat)(d dk:Den W):List S->SR:=λe=>(d e).cQ λw e1=>oR i dk w e1 e1[i]?
section
variable{e k:Expr}{d dk:Den W}{dt:Pos}
theorem YF(i:Nat)(hK:du X.K)(hu:X.A.units+150<cLine)(he:DE Z X EE e d)(hk:DE Z X EE k dk)(hN:autoParam (X.N[i]?=some x) jJ)(hv:autoParam (j0 X.env.scope x) jN)(hd:autoParam ((x==("__debug__":Str))=false) jK)(dU:autoParam ((x==("__classdict__":Str))=false) jK)
  (hs:autoParam (swapsWith e (some (.Subscript (.Name x p) k dt)) pos.line X.env=pure false) jJ):DS Z X EE (.Assign [.Subscript (.Name x p) k dt] e pos) (oz i d dk):=by
 refine PS.mono (JD (by omega) (pv i hN hv hd dU) hk he hs) ?_;rintro D σ H ⟨G,e,rel,h⟩;refine⟨G,e,rel,(jC h).imp (λw e1 h G1 v1 H1 r1 s1 p1=>?_) λ_ _ h=>h⟩
 unfold oR at h;split at h
 .rename_i S' Ll IV pE;obtain⟨a,Gi,Gf,q1,q2,_⟩:=r1.dw pE;refine⟨.ref a,q1,G1,e1,r1,(jC (σ:=σ) h).imp (λkw e2 h G2 v2 H2 r2 s2 p2=>?_) λ_ _ h G' H' r s=>h G' H' r (s1.trans s)⟩
  unfold oS at h;split at h
  .rename_i sh ks ws nv;obtain⟨a',kvs,kas,g1,g2,g3,g4,g5,g6,g7⟩:=r2.dw nv;rw[q1]at g1;cases g1;split at h
   .rename_i t tj;split at h
    .rename_i J;obtain⟨b,rfl,kr⟩:=yJ hK (.refl G2) tj p2;have Az:bT H2 t (.ref b):=bT.keeps (λ_ _ _ z=>r2.sub _ _ z) t kr
     subst g5;have hI:=AL kr J.2.2.1;rw[qa hI]at g2;obtain⟨Rl,Rm⟩:=(w0v _ _).mp J.2.2.2;have F4:v1=.bl true:=HI Rm (.one p1) v1 (by simp);subst F4;refine⟨a,_,rfl,lN.t g2 ⟨Az,J.2.2.1⟩ (by simp_all [sizeLine_eq]),?_⟩;cases hq:ja (kvs.map (·.1)) ws t with
     |some w0=>
      rw[hq,if_pos (show(some w0).isSome=true from rfl)]at h;obtain⟨u,ym,_⟩:=(Bv g7).1 w0 hq;have mU:(eJ kvs t).isSome=true:=by rw[ym];rfl
      rw[VC mU (HI Rl g7),show eW kvs kas t b=kas by simp_all [eW]]
      have eH:upd H2 a (.dT sh kvs kas)=H2:=by
       grind [bI,aP]
      rw[eH];exact h G2 σ H2 r2 (s1.trans s2)
     |none=>
      rw[hq,if_neg (show ¬((none:Option W).isSome=true)from w1k)]at h;have nV:eJ kvs t=none:=(Bv g7).2 hq;rw[NM _ nV,show eW kvs kas t b=kas++[b] by grind [eW],<- qa hI];refine h G2 σ _ (r2.vf (ks':=kvs.map (·.1)++[t]) (ws':=ws++[w]) nv q1 (λs hs=>?_) (by grind) (.of (cS.snoc kr (g6.g hI)) hI) ?_) (s1.trans s2)
      .grind
      .rw[w0g]
       exact .QZ (λw' m=>by
        have hb:=Bool.and_eq_true_iff.mp J.2.2.2;rcases w1d.mp m with m|m
        .exact Jj hb.1 w' m
        .exact Jj hb.2 w' m) (g7.append (.one (Rep.mono s2 w p1)))
    .exact h.elim
   .exact h.elim
  .exact h.elim
 .exact h.elim
theorem z17{i:Nat}{e:List S}:oz i d dk e=(d e).cQ λw e1=>oR i dk w e1 e1[i]?:=rfl
theorem z18{i:Nat}{w:W}{e:List S}{sh:Sh}{ks:List Kx}{ws:List W}:oR i dk w e (some (.dw sh ks ws))=(dk e).cQ λkw e2=>oS i w kw e2 e2[i]?:=rfl
end
end D
namespace L2
open PySem PySem.Spec PyProof.Rows
noncomputable def QW(K:Fg)(H:Hp)(sh:Sh)(u:V)(p:Kx×Addr×V):Prop:=∃b,u=.ref b/\eK K H b [.ref p.2.1,p.2.2]/\(bT H p.1 (.ref p.2.1)/\eN p.1 sh/\p.1.depth<=7)
inductive sL(K:Fg)(H:Hp)(sh:Sh):List V->List (Kx×Addr×V)->Prop
 |nil:sL K H sh [] []
 |cons {u:V} {us:List V} {p:Kx×Addr×V} {ps:List (Kx×Addr×V)}:QW K H sh u p->sL K H sh us ps->sL K H sh (u::us) (p::ps)
end L2
namespace D
open PySem L2 PySem.Spec PyProof.Rows
noncomputable def l0(sh:Sh):List W->Option (List Kx)
 |[]=>some []
 |.tup [kw,.bl true]::ws=>match gN kw,l0 sh ws with
  |some k,some ks=>if fits k sh then some (k::ks)else none
  |_,_=>none
 |_=>none
theorem Xf{K:Fg}{G H:Hp}{sh:Sh}(hK:du K)(s:av G H):∀{ws:List W}{xs:List V}{ks:List Kx},l0 sh ws=some ks->aw K G ws xs ->
  ∃ps:List (Kx×Addr×V),sL K H sh xs ps/\ps.map (·.1)=ks/\(∀p∈ps,p.2.2=.bl true)/\∀p∈ps,bT G p.1 (.ref p.2.1)
 |[],xs,ks,e,r=>by
  cases(show xs=[]from r);cases(show some []=some ks from e);exact⟨[],.nil,rfl,(λp m=>nomatch m),λp m=>nomatch m⟩
 |w::ws,xs,ks,e,r=>by
  unfold l0 at e;split at e
  .cases ‹w::ws=[]›
  .rename_i kw ws' hw;injection hw with C h2
   subst C h2;split at e
   .rename_i k ks' hk rX;split at e
    .rename_i hf;cases e;obtain⟨v,xr,rfl,r1,r2⟩:=r;obtain⟨ps,q1,q2,q3,q4⟩:=Xf hK s rX r2;obtain⟨b,ys,rfl,sq,rs⟩:=r1;obtain⟨y1,yr,rfl,p1,y2,Yg,rfl,p2,p3⟩:=rs;cases(show Yg=[]from p3);cases(show y2=V.bl true from p2);obtain⟨c,rfl,kr⟩:=yJ hK (.refl G) hk p1;refine⟨(k,c,.bl true)::ps,.cons ⟨b,rfl,?_,bT.keeps (λ_ _ _ z=>s _ _ z) k kr,hf⟩ q1,by rw[w0p,q2],λp m=>?_,λp m=>?_⟩
     .rcases sq with(h|⟨o,h⟩)|h
      .exact .inl (.inl (s _ _ h))
      .exact .inl (.inr ⟨o,s _ _ h⟩)
      .exact .inr h
     all_goals grind
    .cases e
   .cases e
  .cases e
theorem VD{a:Addr}{ob:Obj}{sh:Sh}{kvs:List (Kx×V)}{kas:List Addr}:Walk (EU a ob sh kvs kas) (kas.map V.ref) (λH'=>H' a=some (.cD ob (.dT sh kvs kas))) where
 go:=λi H q h=>⟨q,by simpa using h⟩
 k_:=λi H x H' q y h=>by
  obtain⟨e,b,y1,y2⟩:=y
  grind
 stop:=λi H q h=>⟨q,by simpa using h⟩
section
variable{K:Fg}
theorem Rel.xD(r:Rel K Z G σ H e)(h:H a=some (kh sh kvs kas))(hg:G a=none)(hz:Z.H a=none)(hf:∀s∈e,eU s=false):av G (upd G a (.cD ob (kh sh kvs kas)))/\Rel K Z (upd G a (.cD ob (kh sh kvs kas))) σ (upd H a (.cD ob (kh sh kvs kas))) e:=by
 have sg:av G (upd G a (.cD ob (kh sh kvs kas))):=sv hg _;refine⟨sg,⟨λc o z=>?_,λj s z=>?_,r.len,r.lD,λb o z m=>?_,λb m=>?_,λc z=>?_⟩⟩
 .by_cases J:c=a
  .grind [bI]
  .rw[aP J]at z |-;exact r.sub c o z
 .have y:=r.slot j s z;cases s with
  |no=>trivial
  |fr w=>
   obtain⟨u,y1,y2⟩:=y;exact⟨u,y1,Rep.mono sg w y2⟩
  |own b2 w2=>
   obtain⟨c,ys,y1,y2,y3,y4,y5⟩:=y;have ne:=gh y2 h (λz=>oW rfl z.symm)
   refine⟨c,ys,y1,by rw[aP ne];exact y2,by rw[aP ne];exact y3,y4,aw.mono sg w2 y5⟩
  |aY kvs=>exact nomatch (hf _ (w0d z))
  |nest bq=>exact cu.move y sg λl o ys k1 k2 k3=>⟨by rw[aP (gh k1 h (λz=>oW rfl z.symm))];exact k1,by rw[aP (gh k1 h (λz=>oW rfl z.symm))];exact k2,k3⟩
  |dw sh ks ws=>exact nomatch (hf _ (w0d z))
 .rw[aP (λy=>by grind)];exact r.ent b o z m
 .by_cases J:b=a
  .grind [bI]
  .rw[aP J];exact r.kO b m
 .by_cases J:c=a
  .grind
  .rw[aP J];exact r.gen c z
end
noncomputable def mh(i:Nat)(e:List S):Option S->R (List (W×W))
 |some (.dw sh ks ws)=>if(e.set i .no).all (λs=>!eU s)=true/\sh.p5=false then a_ (cK (ks.map wK)) (e.set i (.fr (.dw true sh ks ws)))else .no
 |_=>.no
noncomputable def ng(i:Nat):Den (List (W×W)):=λe=>mh i e e[i]?
theorem YG{X:Cx}{Z:Zt}{EE:L2.St->XK}{x:Str}{p:Pos}{tg:Expr}(i:Nat)(hN:autoParam (X.N[i]?=some x) jJ)(hv:autoParam (j0 X.env.scope x) jN)(hd:autoParam ((x==("__debug__":Str))=false) jK)(dU:autoParam ((x==("__classdict__":Str))=false) jK):DI Z X EE tg (.Name x p) (ng i):=by
 refine PI.mono (Yj (Yh (pv i hN hv hd dU))) ?_;rintro σ H RR ⟨G,e,rel,h⟩;unfold ng mh at h;split at h
 .rename_i sh ks ws hw;split at h
  .rename_i J;obtain⟨ps,hp,h⟩:=aV.mp h;obtain⟨a,kvs,kas,C,h2,h3,h4,h5,h6,h7⟩:=rel.dw hw;have hi:i<e.length:=(w0b.mp hw).1
   have r0:Rel X.K Z G σ H (e.set i .no):=rel.forget (by simp) λj s z=>by
    grind
   have s_:H a=some (.dT sh kvs kas):=by rw[qa J.2]at h2;exact h2
   refine⟨.ref a,C,a,sh,kvs,kas,rfl,s_,λob=>⟨a,ob,sh,kvs,kas,rfl,bI,?_⟩⟩
   obtain⟨sg,r1⟩:=r0.xD (ob:=ob) h2 h3 h4 λs hs=>by
    grind
   have r2:=r1.set (i:=i) (w:=.dw true sh ks ws) (v:=.ref a) ⟨a,kvs,kas,rfl,⟨ob,bI⟩,h5,h6.mono sg,aw.mono sg ws h7⟩;rw[List.set_set]at r2
   have es:σ.set i (some (V.ref a))=σ:=by
    apply w1q
    grind
   rw[es,qa J.2]at r2;rw[qa J.2]at sg;exact h _ _ _ r2 sg (HY VD (MN ((h6.g J.2).mono sg)) hp λG' H' s s'=>s' _ _ (s _ _ bI))
  .exact h.elim
 .exact h.elim
theorem z2a:ng i e=mh i e e[i]?:=rfl
theorem Xg(C:(e.set i .no).all (λs=>!eU s)=true)(h2:sh.p5=false):mh i e (some (.dw sh ks ws))=a_ (cK (ks.map wK)) (e.set i (.fr (.dw true sh ks ws))):=if_pos ⟨C,h2⟩
end D
namespace Q
open PySem L2 D
variable{q:(Nat×Nat)×List Nat}{rows:List (List Bool)}{ks:List Nat}{ws:List W}{i n wide:Nat}{P:Nat->Nat->Prop}{K:Fg}{mg:Str->Option Value}{α:Type}
seal DE DF DT DW DA DS nq vT DO QN PE PT PW PA PS kN PG zt PI PF uH PC gT zy rP c9 zx x_ EX rQ PO
theorem us1{P:List α->Prop}(h:∀x0,P [x0]):∀us:List α,us.length=1->P us
 |[x0],_=>h x0
theorem us2{P:List α->Prop}(h:∀x0 x1,P [x0,x1]):∀us:List α,us.length=2->P us
 |[x0,x1],_=>h x0 x1
theorem us3{P:List α->Prop}(h:∀x0 x1 x2,P [x0,x1,x2]):∀us:List α,us.length=3->P us
 |[x0,x1,x2],_=>h x0 x1 x2
theorem us5{P:List α->Prop}(h:∀x0 x1 x2 x3 x4,P [x0,x1,x2,x3,x4]):∀us:List α,us.length=5->P us
 |[x0,x1,x2,x3,x4],_=>h x0 x1 x2 x3 x4
noncomputable def top(i:Nat):Stmt:=PySem.Challenge.pw_circuits_k63_whole_told_just_where.main.body.getD i (.Pass ⟨0,0,0,0⟩)
structure o8(mg:Str->Option Value):Prop where
 zE:mg "all"=none
 Ks:mg "int"=none
 Kt:mg "len"=none
 vZ:mg "list"=none
 Ku:mg "max"=none
 Kv:mg "min"=none
 sO:mg "range"=none
 v_:mg "repr"=none
 nK:mg "reversed"=none
 qr:mg "sorted"=none
 sP:mg "tuple"=none
 Kw:mg "zip"=none
structure bu where
 lM:Addr
 mH:Addr
 pb:Addr
variable{a:bu}
structure nJ(K:Fg)(mg:Str->Option Value)(a:bu):Prop where
 z:True
 qK:mg "CircuitError"=some (.ref a.lM)
 sm:mg "UnlikeSizes"=some (.ref a.mH)
 vb:mg "NoMachine"=some (.ref a.pb)
 nt:du K
noncomputable abbrev A2:Nat:=0
noncomputable abbrev A3:Nat:=1
noncomputable abbrev A0:Nat:=2
noncomputable abbrev m6:Nat:=3
noncomputable abbrev qV:Nat:=4
noncomputable abbrev yt:Nat:=5
noncomputable abbrev vp:Nat:=6
noncomputable abbrev xf:Nat:=7
noncomputable abbrev yD:Nat:=8
noncomputable abbrev Ba:Nat:=9
noncomputable abbrev qX:Nat:=10
noncomputable abbrev xh:Nat:=11
noncomputable abbrev A5:Nat:=12
noncomputable abbrev p7:Nat:=13
noncomputable abbrev yw:Nat:=14
noncomputable abbrev Be:Nat:=15
noncomputable abbrev tZ:Nat:=16
noncomputable abbrev A1:Nat:=17
noncomputable abbrev AW:Nat:=18
noncomputable abbrev yu:Nat:=19
noncomputable abbrev pL:Nat:=20
noncomputable abbrev AY:Nat:=21
noncomputable abbrev pH:Nat:=22
noncomputable abbrev vn:Nat:=23
noncomputable abbrev su:Nat:=24
noncomputable abbrev vt:Nat:=25
noncomputable abbrev qW:Nat:=26
noncomputable abbrev vk:Nat:=27
noncomputable abbrev vm:Nat:=28
noncomputable abbrev tY:Nat:=30
noncomputable abbrev L_:Stmt:=top 5
theorem iX:aE ["many", "count", "place"] ["many"] (ak L_):=⟨rfl,rfl,rfl,by decide +kernel,rfl,by decide +kernel,by decide +kernel⟩
noncomputable abbrev Mq:Stmt:=top 6
theorem iW:aE ["row", "number", "truth"] ["row"] (ak Mq):=⟨rfl,rfl,rfl,by decide +kernel,rfl,by decide +kernel,by decide +kernel⟩
noncomputable abbrev LH:Stmt:=top 8
theorem fI:aE ["truths", "length"] ["truths", "length"] (ak LH):=⟨rfl,rfl,rfl,by decide +kernel,rfl,by decide +kernel,by decide +kernel⟩
noncomputable abbrev MV:Stmt:=top 10
theorem kG:aE ["machine", "rows"] ["machine", "rows"] (ak MV):=⟨rfl,rfl,rfl,by decide +kernel,rfl,by decide +kernel,by decide +kernel⟩
noncomputable abbrev LO:Stmt:=top 11
theorem fK:aE ["machine", "rows"] ["machine", "rows"] (ak LO):=⟨rfl,rfl,rfl,by decide +kernel,rfl,by decide +kernel,by decide +kernel⟩
noncomputable abbrev LP:Stmt:=top 12
theorem fJ:aE ["machine", "rows", "told", "number", "row", "pair"] ["machine", "rows"] (ak LP):=⟨rfl,rfl,rfl,by decide +kernel,rfl,by decide +kernel,by decide +kernel⟩
noncomputable abbrev LI:Stmt:=top 13
theorem eX:aE ["machine", "states", "pairs_many", "state", "told", "follower"] ["machine"] (ak LI):=⟨rfl,rfl,rfl,by decide +kernel,rfl,by decide +kernel,by decide +kernel⟩
noncomputable abbrev Mz:Stmt:=top 14
theorem jt:aE ["machine", "number"] ["machine", "number"] (ak Mz):=⟨rfl,rfl,rfl,by decide +kernel,rfl,by decide +kernel,by decide +kernel⟩
noncomputable abbrev MW:Stmt:=top 15
theorem fq:aE ["begin", "pairs_of", "things", "numbers", "states", "thing", "state", "told", "follower"] ["begin", "pairs_of"] (ak MW):=⟨rfl,rfl,rfl,by decide +kernel,rfl,by decide +kernel,by decide +kernel⟩
noncomputable abbrev MA:Stmt:=top 15
theorem eB:aE ["begin", "pairs_of", "things", "numbers", "states", "thing", "state", "told", "follower"] ["begin", "pairs_of"] (ak MA):=⟨rfl,rfl,rfl,by decide +kernel,rfl,by decide +kernel,by decide +kernel⟩
noncomputable abbrev q7c:Stmt:=top 17
theorem kI:aE ["machine", "other", "found"] ["machine", "other"] (ak q7c):=⟨rfl,rfl,rfl,by decide +kernel,rfl,by decide +kernel,by decide +kernel⟩
noncomputable abbrev L4:Stmt:=top 18
theorem h8:aE ["machine", "other"] ["machine", "other"] (ak L4):=⟨rfl,rfl,rfl,by decide +kernel,rfl,by decide +kernel,by decide +kernel⟩
noncomputable abbrev Hs:Stmt:=top 19
theorem hZ:aE ["state", "other"] ["state", "other"] (ak Hs):=⟨rfl,rfl,rfl,by decide +kernel,rfl,by decide +kernel,by decide +kernel⟩
noncomputable abbrev LJ:Stmt:=top 21
theorem ck:aE ["machine", "other", "came", "pairs", "place", "here", "number", "told", "wanted", "follower"] ["machine", "other"] (ak LJ):=⟨rfl,rfl,rfl,by decide +kernel,rfl,by decide +kernel,by decide +kernel⟩
noncomputable abbrev LW:Stmt:=top 22
theorem h_:aE ["machine", "other"] ["machine", "other"] (ak LW):=⟨rfl,rfl,rfl,by decide +kernel,rfl,by decide +kernel,by decide +kernel⟩
noncomputable abbrev MX:Stmt:=top 23
theorem kH:aE ["came", "pair", "numbers", "step"] ["came", "pair"] (ak MX):=⟨rfl,rfl,rfl,by decide +kernel,rfl,by decide +kernel,by decide +kernel⟩
noncomputable abbrev Jk:Stmt:=top 24
theorem gF:aE ["machine", "other", "pairs", "known", "pair"] ["machine", "other", "pairs"] (ak Jk):=⟨rfl,rfl,rfl,by decide +kernel,rfl,by decide +kernel,by decide +kernel⟩
noncomputable abbrev LQ:Stmt:=top 25
theorem fL:aE ["state", "other", "known", "pair", "wanted"] ["state", "other", "known"] (ak LQ):=⟨rfl,rfl,rfl,by decide +kernel,rfl,by decide +kernel,by decide +kernel⟩
noncomputable abbrev LF:Stmt:=top 27
theorem dZ:aE ["states", "levels", "finer"] ["states"] (ak LF):=⟨rfl,rfl,rfl,by decide +kernel,rfl,by decide +kernel,by decide +kernel⟩
noncomputable abbrev Hh:Stmt:=top 28
theorem cf:aE ["states", "kinds", "numbers", "finer", "state", "seen"] ["states", "kinds"] (ak Hh):=⟨rfl,rfl,rfl,by decide +kernel,rfl,by decide +kernel,by decide +kernel⟩
noncomputable abbrev q4v:Stmt:=top 30
theorem iY:aE ["machine", "states", "kinds", "found", "numbers", "number"] ["machine"] (ak q4v):=⟨rfl,rfl,rfl,by decide +kernel,rfl,by decide +kernel,by decide +kernel⟩
noncomputable abbrev GJ:Stmt:=top 31
theorem eY:aE ["states", "kinds", "kind"] ["states", "kinds", "kind"] (ak GJ):=⟨rfl,rfl,rfl,by decide +kernel,rfl,by decide +kernel,by decide +kernel⟩
noncomputable abbrev LR:Stmt:=top 33
theorem fF:aE ["_law_script", "_law_k"] ["_law_script", "_law_k"] (ak LR):=⟨rfl,rfl,rfl,by decide +kernel,rfl,by decide +kernel,by decide +kernel⟩
noncomputable abbrev LX:Stmt:=top 34
theorem hW:aE ["_law_cell", "_law_k", "_law_number"] ["_law_cell", "_law_k"] (ak LX):=⟨rfl,rfl,rfl,by decide +kernel,rfl,by decide +kernel,by decide +kernel⟩
noncomputable abbrev MB:Stmt:=top 35
theorem jr:aE ["_law_number", "_law_many", "_law_row_here", "_law_step"] ["_law_number", "_law_many"] (ak MB):=⟨rfl,rfl,rfl,by decide +kernel,rfl,by decide +kernel,by decide +kernel⟩
noncomputable abbrev LS:Stmt:=top 36
theorem fH:aE ["_law_many"] ["_law_many"] (ak LS):=⟨rfl,rfl,rfl,by decide +kernel,rfl,by decide +kernel,by decide +kernel⟩
noncomputable abbrev LU:Stmt:=top 37
theorem fG:aE ["_law_script", "_law_at", "_law_cell", "_law_kinds", "_law_many", "_law_wide", "_law_size", "_law_base", "_law_states", "_law_k", "_law_state", "_law_number", "_law_left", "_law_told", "_law_goal", "_law_twin"] ["_law_script", "_law_at"] (ak LU):=⟨rfl,rfl,rfl,by decide +kernel,rfl,by decide +kernel,by decide +kernel⟩
noncomputable abbrev LN:Stmt:=top 38
theorem gj:aE ["_law_script", "_law_at", "_law_many", "_law_rows", "_law_cell", "_law_count", "_law_k"] ["_law_script", "_law_at", "_law_many"] (ak LN):=⟨rfl,rfl,rfl,by decide +kernel,rfl,by decide +kernel,by decide +kernel⟩
noncomputable abbrev Hi:Stmt:=top 39
theorem cW:aE ["_law_machine_here", "_law_many", "_law_wide", "_law_states", "_law_state", "_law_pairs"] ["_law_machine_here", "_law_many", "_law_wide"] (ak Hi):=⟨rfl,rfl,rfl,by decide +kernel,rfl,by decide +kernel,by decide +kernel⟩
noncomputable abbrev q0h:Stmt:=top 40
theorem bR:aE ["_law_script", "_law_machine_here", "_law_way", "_law_size", "_law_order", "_law_states", "_law_at", "_law_number", "_law_pair", "_law_told", "_law_twin"] ["_law_script", "_law_machine_here"] (ak q0h):=⟨rfl,rfl,rfl,by decide +kernel,rfl,by decide +kernel,by decide +kernel⟩
noncomputable abbrev LY:Stmt:=top 41
theorem hX:aE ["_law_machine_here", "_law_other", "_law_both", "_law_word", "_law_told", "_law_swapped", "_law_again", "_law_found"] ["_law_machine_here", "_law_other", "_law_both", "_law_word", "_law_told"] (ak LY):=⟨rfl,rfl,rfl,by decide +kernel,rfl,by decide +kernel,by decide +kernel⟩
noncomputable abbrev ug:Stmt:=top 42
theorem ma:aE ["_law_script", "_law_machine_here", "_law_other", "_law_rows", "_law_word", "_law_told", "_law_both", "_law_pairs", "_law_one", "_law_two", "_law_thrice", "_law_same", "_law_found"] ["_law_script"] (ak ug):=⟨rfl,rfl,rfl,by decide +kernel,rfl,by decide +kernel,by decide +kernel⟩
noncomputable abbrev HK:Expr:=(qq 1 (lH (pO 1 q7c)))
noncomputable abbrev t5:Lm:=⟨("woven"++".<locals>.")++"<lambda>", gD HK,jR HK,iU HK,["machine", "other"]⟩
noncomputable abbrev xa:Nat:=32
noncomputable abbrev HL:Expr:=(qq 1 (lH (pO 3 q4v)))
noncomputable abbrev yA:Lm:=⟨("small"++".<locals>.")++"<lambda>", gD HL,jR HL,iU HL,["states", "kinds"]⟩
noncomputable abbrev C6:Nat:=33
noncomputable abbrev HM:Expr:=(qq 1 (xM (lH (pO 5 q4v))))
noncomputable abbrev yB:Lm:=⟨("small"++".<locals>.")++"<lambda>", gD HM,jR HM,iU HM,["states"]⟩
noncomputable abbrev C7:Nat:=34
noncomputable abbrev GX:Expr:=(kwAt 0 (E7 (lH (pO 3 q0h))))
noncomputable abbrev vq:Lm:=⟨("_law_second"++".<locals>.")++"<lambda>", gD GX,jR GX,iU GX,["_law_way"]⟩
noncomputable abbrev GG:Nat:=35
noncomputable def bo:Nat->Option Lm
 |32=>some t5
 |33=>some yA
 |34=>some yB
 |35=>some vq
 |_=>none
theorem Ud:bo 32=some t5:=rfl
theorem Ue:bo 33=some yA:=rfl
theorem Ug:bo 34=some yB:=rfl
theorem SV:bo 35=some vq:=rfl
noncomputable def C8(K:Fg)(a:bu)(r:Nat->List W->FR):Den W:=
 (ax (r A5) (ab (aq aM (aq aM (ae 1) (dC (.int 2))) (aq aM (ae 0) (dC (.int 0)))) (ab (aq aM (aq aM (ae 2) (dC (.int 2))) (aq aM (ae 0) (dC (.int 1)))) ah)))
noncomputable def C9(K:Fg)(a:bu)(r:Nat->List W->FR):Den W:=
 (ax (r AY) (ab (ae 1) (ab (ae 2) (ab (ae 0) ah))))
noncomputable def C_(K:Fg)(a:bu)(r:Nat->List W->FR):Den W:=
 (aq aM (ae 1) (ae 0))
noncomputable def CK(K:Fg)(a:bu)(r:Nat->List W->FR):Den W:=
 (ax (r vn) (ab (ae 1) (ab (ae 0) ah)))
noncomputable def Hj(K:Fg)(a:bu)(r:Nat->List W->FR):List S->SR:=
 (aJ 1 (aq jA (dC (.int 2)) (ae 1)))
noncomputable def Dg(K:Fg)(a:bu)(r:Nat->List W->FR):List S->SR:=
 (au (aJ 1 (dC (.int 1)))
  (au (gZ 2 m9 (ab (ae 0) ah)
  (Hj K a r))
  (a9 (ae 1))))
noncomputable def Hk(K:Fg)(a:bu)(r:Nat->List W->FR):List S->SR:=
 (aJ 1 (aq bY (aq jA (dC (.int 2)) (ae 1)) (zJ (kU (ae 2)) (dC (.int 1)) (dC (.int 0)))))
noncomputable def Dh(K:Fg)(a:bu)(r:Nat->List W->FR):List S->SR:=
 (au (aJ 1 (dC (.int 0)))
  (au (j7 2 (ae 0)
  (Hk K a r))
  (a9 (ae 1))))
noncomputable def CZ(K:Fg)(a:bu)(r:Nat->List W->FR):List S->SR:=
 (bt (aD (aq ne2 (cX bW (ab (ae 0) ah)) (ae 1)))
  rR
  dG)
noncomputable def DC(K:Fg)(a:bu)(r:Nat->List W->FR):List S->SR:=
 (a9 (aq aM (ax (r yt) (ab (ae 0) (ab (ae 1) ah))) (dC (.int 0))))
noncomputable def C0(K:Fg)(a:bu)(r:Nat->List W->FR):List S->SR:=
 (a9 (aq aM (ax (r yt) (ab (ae 0) (ab (ae 1) ah))) (dC (.int 1))))
noncomputable def GL(K:Fg)(a:bu)(r:Nat->List W->FR):List S->SR:=
 (au (fy (ax (r A0) (ab (ae 4) (ab (aq aM (ae 0) (dC (.int 0))) ah))))
  (au (aJ 5 (aq aM (aq aM (aq aM (ae 0) (dC (.int 2))) (ae 3)) (ax (r A3) (ab (ae 4) ah))))
  (au (dQ 2 (ab (aq aM (ae 5) (dC (.int 0))) ah))
  (aJ 3 (aq aM (ae 5) (dC (.int 1)))))))
noncomputable def C1(K:Fg)(a:bu)(r:Nat->List W->FR):List S->SR:=
 (au (fy (ax (r vp) (ab (ae 0) ah)))
  (au (bV 2 (cC ah))
  (au (aJ 3 (dC (.int 0)))
  (au (j7 4 (ae 1)
  (GL K a r))
  (a9 (bP (ab (ae 2) (ab (ae 3) ah))))))))
noncomputable def GA(K:Fg)(a:bu)(r:Nat->List W->FR):List S->SR:=
 (au (bt (aD (aq ne2 (cX bW (ab (ae 4) ah)) (aq aM (ae 0) (dC (.int 1)))))
  rR
  dG)
  (bt (lT (kU (ax (r xf) (ab (ae 0) (ab (ae 5) ah)))))
  rR
  dG))
noncomputable def GB(K:Fg)(a:bu)(r:Nat->List W->FR):List S->SR:=
 (au (bt (aD (aq ne2 (cX bW (ab (ae 3) ah)) (ae 2)))
  rR
  dG)
  (jk 4 5 (k9 (ae 3))
  (GA K a r)))
noncomputable def CT(K:Fg)(a:bu)(r:Nat->List W->FR):List S->SR:=
 (au (aJ 1 (aq aM (ae 0) (dC (.int 2))))
  (au (aJ 2 (ax (r A2) (ab (aq aM (ae 0) (dC (.int 0))) ah)))
  (au (bt (aD (aq eq2 (cX bW (ab (ae 1) ah)) (dC (.int 0))))
  rR
  dG)
  (j7 3 (ae 1)
  (GB K a r)))))
noncomputable def Ds(K:Fg)(a:bu)(r:Nat->List W->FR):List S->SR:=
 (a9 (c_ (aq sj (dC (.int 0)) (ae 1)) (aq n5 (ae 1) (cX bW (ab (aq aM (ae 0) (dC (.int 2))) ah)))))
noncomputable def yz(K:Fg)(a:bu)(r:Nat->List W->FR):List S->SR:=
 (au (bt (cB (aD (aq tM (ae 8) (ae 3))))
  (au (mM 3 (fY 2 bW) (ae 8))
  (dQ 2 (ab (ae 8) ah)))
  dG)
  (dQ 6 (ab (bP (ab (ae 7) (ab (cU (aq Aw (ae 3) (ae 8))) ah))) ah)))
noncomputable def Di(K:Fg)(a:bu)(r:Nat->List W->FR):Den Bool:=
 (aD (aq n5 (fY 4 bW) (fY 2 bW)))
noncomputable def Dk(K:Fg)(a:bu)(r:Nat->List W->FR):List S->SR:=
 (au (aJ 5 (iw 2 (fY 4 bW)))
  (au (bV 6 (cC ah))
  (au (jk 7 8 (k9 (i6 bo r 1 (ab (ae 5) ah)))
  (yz K a r))
  (dQ 4 (ab (ae 6) ah)))))
noncomputable def DD(K:Fg)(a:bu)(r:Nat->List W->FR):List S->SR:=
 (au (bV 2 (cC (ab (ae 0) ah)))
  (au (j9 3 0 (.inl 0))
  (au (bV 4 (cC ah))
  (au (bc (Di K a r)
  (Dk K a r) 1000000)
  (a9 (bP (ab (ae 4) (ab (ae 2) ah))))))))
noncomputable def yx(K:Fg)(a:bu)(r:Nat->List W->FR):List S->SR:=
 (au (bt (cB (aD (aq kZ (ae 8) (ae 3))))
  (au (ly 3 (fY 2 bW) (ae 8))
  (dQ 2 (ab (ae 8) ah)))
  dG)
  (dQ 6 (ab (bP (ab (ae 7) (ab (cU (aq p6 (ae 3) (ae 8))) ah))) ah)))
noncomputable def A6(K:Fg)(a:bu)(r:Nat->List W->FR):Den Bool:=
 (aD (aq n5 (fY 4 bW) (fY 2 bW)))
noncomputable def A7(K:Fg)(a:bu)(r:Nat->List W->FR):List S->SR:=
 (au (aJ 5 (iw 2 (fY 4 bW)))
  (au (bV 6 (cC ah))
  (au (jk 7 8 (k9 (i6 bo r 1 (ab (ae 5) ah)))
  (yx K a r))
  (dQ 4 (ab (ae 6) ah)))))
noncomputable def Dt(K:Fg)(a:bu)(r:Nat->List W->FR):List S->SR:=
 (au (bV 2 (cC (ab (ae 0) ah)))
  (au (kf 3 0 (.tup [.int,.int]) (.int 0))
  (au (bV 4 (cC ah))
  (au (bc (A6 K a r)
  (A7 K a r) 1000000)
  (a9 (bP (ab (ae 4) (ab (ae 2) ah))))))))
noncomputable def D8(K:Fg)(a:bu)(r:Nat->List W->FR):List S->SR:=
 (au (fy (ax (r xh) (ab (ae 0) (ab (ae 1) ah))))
  (au (aJ 2 (dR (r Ba) 32 t5 [0,1] (bP (ab (dC (.int 0)) (ab (dC (.int 0)) ah)))))
  (a9 (bP (ab (bP (ab (aq aM (ae 0) (dC (.int 0))) (ab (aq bY (aq aM (ae 0) (dC (.int 1))) (aq aM (ae 1) (dC (.int 1)))) (ab (aq aM (ae 2) (dC (.int 0))) ah)))) (ab (aq aM (ae 2) (dC (.int 1))) ah))))))
noncomputable def A8(K:Fg)(a:bu)(r:Nat->List W->FR):List S->SR:=
 (au (fy (ax (r vp) (ab (ae 0) ah)))
  (au (fy (ax (r vp) (ab (ae 1) ah)))
  (bt (aD (aq ne2 (aq aM (ae 0) (dC (.int 0))) (aq aM (ae 1) (dC (.int 0)))))
  rR
  dG)))
noncomputable def LV(K:Fg)(a:bu)(r:Nat->List W->FR):Den W:=
 (bP (ab (aq bY (aq aM (ae 0) (dC (.int 0))) (aq aM (ae 1) (dC (.int 0)))) (ab (bP (ab (aq aM (ae 0) (dC (.int 1))) (ab (aq aM (ae 1) (dC (.int 1))) ah))) ah)))
noncomputable def Dl(K:Fg)(a:bu)(r:Nat->List W->FR):List S->SR:=
 (lB (c5 [] (jD (ab (ae 0) (ab (ae 1) ah))) cP (LV K a r)))
noncomputable def tU(K:Fg)(a:bu)(r:Nat->List W->FR):List S->SR:=
 (au (bt (aD (aq ne2 (aq aM (ae 7) (dC (.int 0))) (aq aM (ae 8) (dC (.int 0)))))
  (mQ 2 (a9 (bP (ab (dC (.str "unlike")) (ab (aq bY (ax (r Be) (ab (ae 2) (ab (ae 5) ah))) (g8 (cC (ab (ae 6) ah)))) ah)))))
  dG)
  (au (aJ 9 (bP (ab (aq aM (ae 7) (dC (.int 1))) (ab (aq aM (ae 8) (dC (.int 1))) ah))))
  (au (bt (cB (aD (aq kZ (ae 9) (ae 2))))
  (au (ly 2 (bP (ab (ae 5) (ab (ae 6) ah))) (ae 9))
  (dQ 3 (ab (ae 9) ah)))
  dG)
  (aJ 6 (aq bY (ae 6) (dC (.int 1)))))))
noncomputable def tV(K:Fg)(a:bu)(r:Nat->List W->FR):Den Bool:=
 (aD (aq n5 (ae 4) (fY 3 bW)))
noncomputable def pG(K:Fg)(a:bu)(r:Nat->List W->FR):List S->SR:=
 (au (aJ 5 (iw 3 (ae 4)))
  (au (aJ 6 (dC (.int 0)))
  (au (jk 7 8 (jD (ab (aq aM (aq aM (ae 0) (dC (.int 2))) (aq aM (ae 5) (dC (.int 0)))) (ab (aq aM (aq aM (ae 1) (dC (.int 2))) (aq aM (ae 5) (dC (.int 1)))) ah)))
  (tU K a r))
  (aJ 4 (aq bY (ae 4) (dC (.int 1)))))))
noncomputable def CU(K:Fg)(a:bu)(r:Nat->List W->FR):List S->SR:=
 (au (fy (ax (r yw) (ab (ae 0) (ab (ae 1) ah))))
  (au (j_ 2 (.inr 0) (.inr 0) .aG)
  (au (bV 3 (cC (ab (bP (ab (dC (.int 0)) (ab (dC (.int 0)) ah))) ah)))
  (au (aJ 4 (dC (.int 0)))
  (au (bc (tV K a r)
  (pG K a r) 1000000)
  (a9 (bP (ab (dC (.str "alike")) (ab (ae 3) ah)))))))))
noncomputable def Dm(K:Fg)(a:bu)(r:Nat->List W->FR):List S->SR:=
 (au (fy (ax (r xh) (ab (ae 0) (ab (ae 1) ah))))
  (bt (aD (aq ne2 (aq aM (ae 0) (dC (.int 1))) (aq aM (ae 1) (dC (.int 1)))))
  rR
  dG))
noncomputable def A4(K:Fg)(a:bu)(r:Nat->List W->FR):Den Bool:=
 (aD (aq ky (ae 3) (dC .aG)))
noncomputable def Dp(K:Fg)(a:bu)(r:Nat->List W->FR):List S->SR:=
 (au (dQ 2 (ab (aq aM (ae 3) (dC (.int 1))) ah))
  (aJ 3 (aq p6 (ae 0) (aq aM (ae 3) (dC (.int 0))))))
noncomputable def DG(K:Fg)(a:bu)(r:Nat->List W->FR):List S->SR:=
 (au (bV 2 (cC ah))
  (au (aJ 3 (aq p6 (ae 0) (ae 1)))
  (au (bc (A4 K a r)
  (Dp K a r) 1000000)
  (lB (mL (ae 2))))))
noncomputable def xg(K:Fg)(a:bu)(r:Nat->List W->FR):Den W:=
 (ax (r A1) (ab (aq aM (aq aM (ae 2) (dC (.int 2))) (ae 0)) (ab (aq aM (aq aM (ae 3) (dC (.int 2))) (ae 1)) (ab (ae 4) ah))))
noncomputable def Du(K:Fg)(a:bu)(r:Nat->List W->FR):List S->SR:=
 (au (bt (wk (lT (kU (ax (r xf) (ab (ae 0) (ab (aq aM (ae 4) (dC (.int 0))) ah))))) (lT (kU (ax (r xf) (ab (ae 1) (ab (aq aM (ae 4) (dC (.int 1))) ah))))))
  (a9 (dC (.bl false)))
  dG)
  (oz 3 (dC (.bl true)) (ae 4)))
noncomputable def DV(K:Fg)(a:bu)(r:Nat->List W->FR):List S->SR:=
 (au (fy (ax (r yw) (ab (ae 0) (ab (ae 1) ah))))
  (au (mP 3 (.tup [.int,.int]))
  (au (j7 4 (ae 2)
  (Du K a r))
  (au (bt (cB (aD (aq kZ (bP (ab (dC (.int 0)) (ab (dC (.int 0)) ah))) (ae 3))))
  (a9 (dC (.bl false)))
  dG)
  (a9 (cX all1 (ab (g8 (c5 [0,1,3] (ng 3) cP (xg K a r))) ah)))))))
noncomputable def GN(K:Fg)(a:bu)(r:Nat->List W->FR):List S->SR:=
 (bt (wk (aD (aq ne2 (aq aM (ae 3) (dC (.int 0))) (aq aM (ae 4) (dC (.int 0))))) (aD (aq kZ (bP (ab (aq aM (ae 3) (dC (.int 1))) (ab (aq aM (ae 4) (dC (.int 1))) ah))) (ae 2))))
  (a9 (dC (.bl false)))
  dG)
noncomputable def C2(K:Fg)(a:bu)(r:Nat->List W->FR):List S->SR:=
 (au (jk 3 4 (jD (ab (ae 0) (ab (ae 1) ah)))
  (GN K a r))
  (a9 (dC (.bl true))))
noncomputable def CM(K:Fg)(a:bu)(r:Nat->List W->FR):Den Bool:=
 (aD (aq zT (cX l4 (ab (ae 2) ah)) (cX l4 (ab (iw 1 (mR iC (dC (.int 1)))) ah))))
noncomputable def GH(K:Fg)(a:bu)(r:Nat->List W->FR):List S->SR:=
 (au (dQ 1 (ab (ae 2) ah))
  (aJ 2 (ax (r yu) (ab (ae 0) (ab (ae 2) ah)))))
noncomputable def CN(K:Fg)(a:bu)(r:Nat->List W->FR):List S->SR:=
 (au (bV 1 (cC (ab (aq kD (g8 (cC (ab (dC (.int 0)) ah))) (cX bW (ab (ae 0) ah))) ah)))
  (au (aJ 2 (ax (r yu) (ab (ae 0) (ab (iw 1 (mR iC (dC (.int 1)))) ah))))
  (au (bc (CM K a r)
  (GH K a r) 1000000)
  (iN 1))))
noncomputable def LK(K:Fg)(a:bu)(r:Nat->List W->FR):Den W:=
 (bP (ab (ae 0) (ab (aq aM (ae 2) (ae 1)) ah)))
noncomputable def CV(K:Fg)(a:bu)(r:Nat->List W->FR):List S->SR:=
 (au (aJ 5 (cX ml (ab (g8 (c5 [1] (k9 (ae 4)) cP (LK K a r))) ah)))
  (au (bt (cB (aD (aq kZ (ae 5) (ae 2))))
  (ly 2 (cU (cX mW (ab (ae 2) ah))) (ae 5))
  dG)
  (dQ 3 (ab (cU (aq p6 (ae 2) (ae 5))) ah))))
noncomputable def C'(K:Fg)(a:bu)(r:Nat->List W->FR):List S->SR:=
 (au (mP 2 (.many (.tup [.many .bl,.int])))
  (au (bV 3 (cC ah))
  (au (j7 4 (ae 0)
  (CV K a r))
  (iN 3))))
noncomputable def DH(K:Fg)(a:bu)(r:Nat->List W->FR):List S->SR:=
 (nO 4 (jl "list" f_ (aq aM (ae 3) (dC (.int 1))) (ab (aq aM (ae 2) (ae 5)) ah)) (ae 5))
noncomputable def D9(K:Fg)(a:bu)(r:Nat->List W->FR):List S->SR:=
 (au (fy (ax (r vp) (ab (ae 0) ah)))
  (au (aJ 1 (aq aM (ae 0) (dC (.int 2))))
  (au (aJ 2 (aq aM (ax (r AW) (ab (ae 1) ah)) (mR iC (dC (.int 1)))))
  (au (aJ 3 (dR (r yD) 33 yA [1,2] (aq aM (ae 2) (dC (.int 0)))))
  (au (bV 4 (mO (g8 (cC (ab (dC .aG) ah))) (cX bW (ab (ae 1) ah))))
  (au (j7 5 (aq aM (dR (r yD) 34 yB [1] (dC (.int 0))) (dC (.int 1)))
  (DH K a r))
  (a9 (bP (ab (bP (ab (aq aM (ae 0) (dC (.int 0))) (ab (aq aM (ae 0) (dC (.int 1))) (ab (aq aM (ae 3) (dC (.int 0))) ah)))) (ab (ae 4) ah))))))))))
noncomputable def LG(K:Fg)(a:bu)(r:Nat->List W->FR):Den W:=
 (bP (ab (ae 0) (ab (aq aM (ae 2) (ae 1)) ah)))
noncomputable def CW(K:Fg)(a:bu)(r:Nat->List W->FR):List S->SR:=
 (lB (c5 [1] (k9 (aq aM (ae 0) (jl "list" f_ (ae 1) (ab (ae 2) ah)))) cP (LG K a r)))
noncomputable def C3(K:Fg)(a:bu)(r:Nat->List W->FR):List S->SR:=
 (au (bt (aD (aq n5 (ae 1) (cX bW (ab (ae 0) ah))))
  (a9 (aq aM (ae 0) (ae 1)))
  dG)
  (a9 (dC (.int 0))))
noncomputable def Dn(K:Fg)(a:bu)(r:Nat->List W->FR):List S->SR:=
 (au (aJ 2 (aq bC (aq jA (aq bY (ae 0) (aq jA (dC (.int 7919)) (ae 1))) (dC (.int 48271))) (dC (.int 2147483647))))
  (a9 (aq bC (aq bY (aq bY (aq jA (ae 2) (ae 2)) (aq jA (dC (.int 7)) (ae 2))) (ae 1)) (dC (.int 2147483629)))))
noncomputable def Ht(K:Fg)(a:bu)(r:Nat->List W->FR):List S->SR:=
 (au (dQ 2 (ab (aq eq2 (aq bC (ae 0) (dC (.int 2))) (dC (.int 1))) ah))
  (aJ 0 (aq bH (ae 0) (dC (.int 2)))))
noncomputable def Dv(K:Fg)(a:bu)(r:Nat->List W->FR):List S->SR:=
 (au (bV 2 (cC ah))
  (au (gZ 3 m9 (ab (ae 1) ah)
  (Ht K a r))
  (au (lu 2 List.reverse)
  (a9 (cX ml (ab (ae 2) ah))))))
noncomputable def C4(K:Fg)(a:bu)(r:Nat->List W->FR):List S->SR:=
 (a9 (aq aM (g8 (cC (ab (dC (.int 1)) (ab (dC (.int 2)) (ab (dC (.int 4)) (ab (dC (.int 8)) ah)))))) (ae 0)))
noncomputable def n8(K:Fg)(a:bu)(r:Nat->List W->FR):List S->SR:=
 (au (aJ 15 (aq bC (ax (r vn) (ab (aq bY (ae 3) (ae 9)) (ab (ae 11) ah))) (aq bY (aq bH (aq mi (aq mi (ae 6) (dC (.int 1))) (ae 14)) (ae 7)) (dC (.int 1)))))
  (dQ 10 (ab (bP (ab (cX ml (ab (ae 13) ah)) (ab (aq bY (ae 14) (aq jA (ae 7) (ae 15))) ah))) ah)))
noncomputable def nR(K:Fg)(a:bu)(r:Nat->List W->FR):List S->SR:=
 (au (aJ 14 (aq bC (aq bH (ae 12) (dC (.int 64))) (ae 7)))
  (au (bt (aD (aq eq2 (aq bC (ae 3) (dC (.int 3))) (dC (.int 1))))
  (au (aJ 13 (aq kD (g8 (cC (ab (aq eq2 (aq bC (ae 9) (ae 7)) (aq mi (ae 7) (dC (.int 1)))) ah))) (ae 5)))
  (aJ 14 (aq aM (g8 (cC (ab (cX min2 (ab (aq bY (aq bC (ae 9) (ae 7)) (dC (.int 1))) (ab (aq mi (ae 7) (dC (.int 1))) ah))) (ab (dC (.int 0)) ah)))) (cX min2 (ab (ae 11) (ab (dC (.int 1)) ah))))))
  dG)
  (n8 K a r)))
noncomputable def CG(K:Fg)(a:bu)(r:Nat->List W->FR):List S->SR:=
 (au (aJ 12 (ax (r vn) (ab (ax (r pH) (ab (ae 0) (ab (aq bY (aq bY (ae 1) (dC (.int 2))) (aq bC (aq bC (ae 9) (ae 7)) (dC (.int 6)))) ah))) (ab (aq bY (aq jA (dC (.int 8)) (aq bC (ae 9) (ae 7))) (ae 11)) ah))))
  (au (aJ 13 (aq kD (g8 (cC (ab (dC (.bl false)) ah))) (ae 5)))
  (au (bt (aD (aq eq2 (aq bC (ae 12) (dC (.int 4))) (dC (.int 0))))
  (aJ 13 (g8 (dList (ab (ax (r su) (ab (aq bH (ae 12) (dC (.int 4))) (ab (ae 5) ah))) ah))))
  dG)
  (nR K a r))))
noncomputable def CJ(K:Fg)(a:bu)(r:Nat->List W->FR):List S->SR:=
 (au (bV 10 (cC ah))
  (au (gZ 11 m9 (ab (ax (r vt) (ab (ae 4) ah)) ah)
  (CG K a r))
  (dQ 8 (ab (ae 10) ah))))
noncomputable def rJ(K:Fg)(a:bu)(r:Nat->List W->FR):List S->SR:=
 (au (aJ 7 (aq mi (ae 6) (aq bC (aq bH (ae 3) (dC (.int 24))) (ae 6))))
  (au (bV 8 (cC ah))
  (au (gZ 9 m9 (ab (ae 6) ah)
  (CJ K a r))
  (a9 (bP (ab (ae 4) (ab (ae 5) (ab (ae 8) ah))))))))
noncomputable def rF(K:Fg)(a:bu)(r:Nat->List W->FR):List S->SR:=
 (au (bt (iM (aD (aq eq2 (ae 6) (dC (.int 7)))) (aD (aq eq2 (aq bC (aq bH (ae 2) (dC (.int 28))) (dC (.int 4))) (dC (.int 1)))))
  (au (aJ 6 (aq bY (dC (.int 12)) (aq bC (aq bH (ae 2) (dC (.int 112))) (dC (.int 9)))))
  (aJ 4 (aq bC (ae 4) (dC (.int 2)))))
  dG)
  (rJ K a r))
noncomputable def C5(K:Fg)(a:bu)(r:Nat->List W->FR):List S->SR:=
 (au (aJ 2 (ax (r pH) (ab (ae 0) (ab (ae 1) ah))))
  (au (aJ 3 (ax (r pH) (ab (ae 0) (ab (aq bY (ae 1) (dC (.int 1))) ah))))
  (au (aJ 4 (aq aM (g8 (cC (ab (dC (.int 0)) (ab (dC (.int 1)) (ab (dC (.int 2)) (ab (aq aM (g8 (cC (ab (dC (.int 1)) (ab (dC (.int 1)) (ab (dC (.int 2)) (ab (dC (.int 3)) ah)))))) (aq bC (aq bH (ae 2) (dC (.int 28))) (dC (.int 4)))) ah)))))) (aq bC (ae 2) (dC (.int 4)))))
  (au (aJ 5 (aq aM (g8 (cC (ab (dC (.int 1)) (ab (dC (.int 2)) (ab (dC (.int 1)) (ab (dC (.int 0)) (ab (dC (.int 3)) (ab (aq bY (dC (.int 4)) (aq bC (aq bH (ae 3) (dC (.int 24))) (dC (.int 9)))) (ab (dC (.int 2)) (ab (dC (.int 1)) ah)))))))))) (aq bC (aq bH (ae 3) (dC (.int 3))) (dC (.int 8)))))
  (au (aJ 6 (aq bY (dC (.int 1)) (aq bC (aq bH (ae 2) (dC (.int 4))) (dC (.int 7)))))
  (au (bt (aD (aq eq2 (ae 6) (dC (.int 6))))
  (au (aJ 6 (aq bY (dC (.int 6)) (aq bC (aq bH (ae 2) (dC (.int 28))) (dC (.int 5)))))
  (aJ 4 (cX min2 (ab (ae 4) (ab (dC (.int 2)) ah)))))
  dG)
  (rF K a r)))))))
noncomputable def CY(K:Fg)(a:bu)(r:Nat->List W->FR):List S->SR:=
 (dQ 3 (ab (ax (r su) (ab (ax (r vn) (ab (ax (r pH) (ab (ae 0) (ab (aq bY (aq bY (ae 1) (dC (.int 1))) (aq bC (ae 6) (dC (.int 12)))) ah))) (ab (ae 6) ah))) (ab (ae 2) ah))) ah))
noncomputable def Dc(K:Fg)(a:bu)(r:Nat->List W->FR):List S->SR:=
 (au (bV 3 (cC ah))
  (au (aJ 4 (ax (r pH) (ab (ae 0) (ab (ae 1) ah))))
  (au (aJ 5 (aq bC (ae 4) (dC (.int 13))))
  (au (bt (aD (aq eq2 (aq bC (aq bH (ae 4) (dC (.int 13))) (dC (.int 8))) (dC (.int 3))))
  (aJ 5 (aq bC (aq bH (ae 4) (dC (.int 104))) (dC (.int 61))))
  dG)
  (au (gZ 6 m9 (ab (ae 5) ah)
  (CY K a r))
  (iN 3))))))
noncomputable def GY(K:Fg)(a:bu)(r:Nat->List W->FR):Den W:=
 (bP (ab (kT (aq bY (aq aM (ae 0) (dC (.int 0))) (aq rD (bP (ab (dC (.bl false)) ah)) (dC (.int 12)))) dE (g9 (ae 1))) (ab (aq aM (ae 0) (dC (.int 1))) ah)))
noncomputable def AZ(K:Fg)(a:bu)(r:Nat->List W->FR):List S->SR:=
 (au (aJ 5 (g8 (dz [2] (ae 4) cP (GY K a r))))
  (dQ 3 (ab (kT (aq kD (ae 5) (dC (.int 8))) dE (g9 (ax (r vt) (ab (ae 1) ah)))) ah)))
noncomputable def De(K:Fg)(a:bu)(r:Nat->List W->FR):List S->SR:=
 (au (bV 3 (cC ah))
  (au (j7 4 (aq aM (ae 0) (dC (.int 2)))
  (AZ K a r))
  (a9 (bP (ab (ae 1) (ab (ae 2) (ab (ae 3) ah)))))))
noncomputable def GZ(K:Fg)(a:bu)(r:Nat->List W->FR):Den W:=
 (bP (ab (aq aM (ae 0) (dC (.int 0))) (ab (aq aM (g8 (cC (ab (aq aM (ae 0) (dC (.int 1))) (ab (ae 1) ah)))) (cX pF (ab (aq eq2 (aq aM (ae 0) (dC (.int 1))) (ae 2)) ah))) ah)))
noncomputable def G5(K:Fg)(a:bu)(r:Nat->List W->FR):Den W:=
 (bP (ab (aq aM (ae 0) (dC (.int 0))) (ab (jl "list" f_ (ae 1) (ab (aq aM (ae 0) (dC (.int 1))) ah)) ah)))
noncomputable def tX(K:Fg)(a:bu)(r:Nat->List W->FR):Den (List W):=
 (dz [2] (aq aM (aq aM (ae 1) (dC (.int 2))) (ae 0)) cP (G5 K a r))
noncomputable def vo(K:Fg)(a:bu)(r:Nat->List W->FR):List S->SR:=
 (au (nN (mY 2 4 3) (bV 5 (dz [1,4] (ae 4) cP (g8 (tX K a r)))) (lC 5 [1,4] (ae 4) (tX K a r)))
  (au (bt (aD (aq eq2 (aq bC (ae 2) (dC (.int 4))) (dC (.int 1))))
  (au (aJ 6 (aq bC (aq bH (ae 2) (dC (.int 4))) (ae 3)))
  (au (aJ 7 (aq bC (aq bH (ae 2) (dC (.int 80))) (cU (cX bW (ab (iw 5 (ae 6)) ah)))))
  (au (aJ 8 (ph 5 (ae 6) (ae 7)))
  (au (bV 9 (dList (ab (aq aM (ae 8) (dC (.int 0))) ah)))
  (au (bt (cB (aD (aq ne2 (ae 9) (g8 (cC ah)))))
  (nO 9 (j8 (iw 9 (aq bC (aq bH (ae 2) (dC (.int 640))) (fY 9 bW)))) (aq bC (aq bH (ae 2) (dC (.int 640))) (fY 9 bW)))
  dG)
  (mN 5 (bP (ab (cX ml (ab (ae 9) ah)) (ab (aq aM (ae 8) (dC (.int 1))) ah))) (ae 6) (ae 7)))))))
  dG)
  (au (bt (aD (aq eq2 (aq bC (ae 2) (dC (.int 4))) (dC (.int 2))))
  (au (aJ 6 (aq bC (aq bH (ae 2) (dC (.int 4))) (ae 3)))
  (au (aJ 7 (aq bC (aq bH (ae 2) (dC (.int 80))) (cU (cX bW (ab (iw 5 (ae 6)) ah)))))
  (mN 5 (bP (ab (aq aM (ph 5 (ae 6) (ae 7)) (dC (.int 0))) (ab (aq bC (aq bH (ae 2) (dC (.int 640))) (ae 3)) ah))) (ae 6) (ae 7))))
  dG)
  (au (bt (iM (aD (aq eq2 (aq bC (ae 2) (dC (.int 4))) (dC (.int 3)))) (iM (aD (aq eq2 (aq bC (aq bH (ae 2) (dC (.int 4))) (dC (.int 2))) (dC (.int 1)))) (aD (aq n5 (ae 3) (dC (.int 20))))))
  (au (aJ 10 (aq bC (aq bH (ae 2) (dC (.int 8))) (ae 3)))
  (au (aJ 6 (aq bC (aq bH (ae 2) (dC (.int 160))) (ae 3)))
  (au (dQ 5 (ab (g8 (dList (ab (iw 5 (ae 10)) ah))) ah))
  (nO 5 (g8 (dz [3,10] (iw 5 (ae 6)) cP (GZ K a r))) (ae 6)))))
  dG)
  (a9 (bP (ab (aq aM (ae 1) (dC (.int 0))) (ab (aq aM (ae 1) (dC (.int 1))) (ab (ae 5) ah)))))))))
noncomputable def AX(K:Fg)(a:bu)(r:Nat->List W->FR)(rl:Nat->List W->FR)(o:List Int):List S->Option SR:=
 (m_ (aJ 2 (ax (r pH) (ab (ae 0) (ab (dC (.int 20)) ah))))
  (m_ (aJ 3 (cX bW (ab (aq aM (ae 1) (dC (.int 2))) ah)))
  (m_ (bt (aD (aq eq2 (aq bC (ae 2) (dC (.int 4))) (dC (.int 0))))
  (a9 (ax (r vm) (ab (ax (r qW) (ab (ae 0) (ab (dC (.int 8)) ah))) (ab (aq aM (ae 1) (dC (.int 0))) (ab (aq aM (ae 1) (dC (.int 1))) ah)))))
  dG)
  (pN (qv 4 bo rl 35 vq [2] (.inr 1) (.inl 3) o)
  (vo K a r)))))
noncomputable def yy(K:Fg)(a:bu)(r:Nat->List W->FR):List S->SR:=
 (au (aJ 5 (aq aM (ax (r qX) (ab (ae 1) (ab (ae 0) ah))) (dC (.int 0))))
  (au (g_ 6 7 (ax (r p7) (ab (ae 2) (ab (ae 5) ah))))
  (au (bt (aD (aq ne2 (ae 6) (ae 3)))
  (a9 (dC (.bl false)))
  dG)
  (au (bt (aD (aq eq2 (ae 3) (dC (.str "unlike"))))
  (a9 (aq eq2 (ae 7) (ae 4)))
  dG)
  (au (bt (iM (aD (aq sj (cX bW (ab (aq aM (ae 2) (dC (.int 2))) ah)) (dC (.int 25)))) (iM (aD (aq n5 (aq aM (ae 0) (dC (.int 0))) (dC (.int 2)))) (aD (aq ne2 (cX bW (ab (aq aM (aq aM (ax (r pL) (ab (ae 2) ah)) (dC (.int 0))) (dC (.int 2))) ah)) (cX bW (ab (aq aM (aq aM (ax (r pL) (ab (ae 0) ah)) (dC (.int 0))) (dC (.int 2))) ah))))))
  (a9 (dC (.bl false)))
  dG)
  (a9 (aq oE (ax (r tZ) (ab (ae 2) (ab (ae 5) (ab (ae 7) ah)))) (dC (.bl true)))))))))
noncomputable def Bk(K:Fg)(a:bu)(r:Nat->List W->FR):Den W:=
 (ax (r su) (ab (ae 0) (ab (aq aM (ae 1) (dC (.int 0))) ah)))
noncomputable def D_(K:Fg)(a:bu)(r:Nat->List W->FR):Den W:=
 (aq bY (aq bY (ae 0) (ae 1)) (ae 0))
noncomputable def D'(K:Fg)(a:bu)(r:Nat->List W->FR):Den W:=
 (aq bY (ae 0) (ae 1))
noncomputable def Dw(K:Fg)(a:bu)(r:Nat->List W->FR):List S->SR:=
 (au (aJ 3 (ax (r vk) (ab (ae 0) (ab (dC (.int 30)) (ab (aq aM (ae 1) (dC (.int 0))) ah)))))
  (au (g_ 4 5 (ax (r p7) (ab (ae 1) (ab (ae 2) ah))))
  (au (g_ 6 7 (ax (r qX) (ab (ae 1) (ab (ae 2) ah))))
  (au (aJ 8 (ax (r m6) (ab (ae 1) (ab (ae 3) ah))))
  (au (aJ 9 (ax (r m6) (ab (ae 2) (ab (ae 3) ah))))
  (au (bt (aD (aq ne2 (cX cb (ab (ax (r m6) (ab (ae 6) (ab (ae 3) ah))) ah)) (cX cb (ab (g8 (c5 [] (jD (ab (ae 8) (ab (ae 9) ah))) cP (D' K a r))) ah))))
  (a9 (dC (.bl false)))
  dG)
  (au (bt (aD (aq ne2 (aq aM (ae 7) (ax (r qV) (ab (ae 6) (ab (ae 3) ah)))) (bP (ab (ax (r qV) (ab (ae 1) (ab (ae 3) ah))) (ab (ax (r qV) (ab (ae 2) (ab (ae 3) ah))) ah)))))
  (a9 (dC (.bl false)))
  dG)
  (au (bt (iM (aD (aq sj (cX bW (ab (aq aM (ae 6) (dC (.int 2))) ah)) (dC (.int 30)))) (aD (aq n5 (aq aM (ae 1) (dC (.int 1))) (dC (.int 4)))))
  (au (bt (lT (kU (ax (r tY) (ab (ae 1) (ab (ae 2) (ab (ae 6) (ab (ae 4) (ab (ae 5) ah))))))))
  (a9 (dC (.bl false)))
  dG)
  (au (aJ 10 (aq aM (ax (r qX) (ab (ae 6) (ab (ae 1) ah))) (dC (.int 0))))
  (bt (aD (aq ne2 (ax (r m6) (ab (ae 10) (ab (ae 3) ah))) (g8 (c5 [] (jD (ab (ae 8) (ab (ae 9) ah))) cP (D_ K a r)))))
  (a9 (dC (.bl false)))
  dG)))
  dG)
  (au (aJ 11 (aq eq2 (cX cb (ab (aq aM (ax (r pL) (ab (ae 1) ah)) (dC (.int 0))) ah)) (cX cb (ab (aq aM (ax (r pL) (ab (ae 2) ah)) (dC (.int 0))) ah))))
  (au (bt (aD (aq eq2 (ae 4) (dC (.str "alike"))))
  (a9 (c_ (ae 11) (c_ (aq oE (ax (r tZ) (ab (ae 1) (ab (ae 2) (ab (ae 5) ah)))) (dC (.bl true))) (c_ (aq eq2 (cX cb (ab (ae 5) ah)) (cX cb (ab (ae 7) ah))) (aq eq2 (ae 8) (ae 9))))))
  dG)
  (au (aJ 12 (g8 (dz [1] (ae 5) cP (Bk K a r))))
  (au (aJ 8 (ax (r m6) (ab (ae 1) (ab (ae 12) ah))))
  (au (aJ 9 (ax (r m6) (ab (ae 2) (ab (ae 12) ah))))
  (a9 (c_ (aq eq2 (ae 4) (dC (.str "unlike"))) (c_ (j8 (ae 11)) (c_ (aq eq2 (kT (ae 8) dE (g9 (mR iC (dC (.int 1))))) (kT (ae 9) dE (g9 (mR iC (dC (.int 1)))))) (aq ne2 (aq aM (ae 8) (mR iC (dC (.int 1)))) (aq aM (ae 9) (mR iC (dC (.int 1))))))))))))))))))))))
noncomputable def Kh(K:Fg)(a:bu)(r:Nat->List W->FR)(sc:List Int->List W->Option FR)(o:List Int):List S->Option SR:=
 (m_ (aJ 1 (ax (r qW) (ab (ae 0) (ab (dC (.int 0)) ah))))
  (pN (qw 2 sc (ab (ae 0) (ab (ae 1) ah)) o)
  (Dw K a r)))
noncomputable def body(K:Fg)(a:bu)(r:Nat->List W->FR)(ws:List W):Nat->FR
 |0=>if ws.length=1 then(Dg K a r (init 3 ws)).fn else .no
 |1=>if ws.length=1 then(Dh K a r (init 3 ws)).fn else .no
 |2=>if ws.length=2 then(CZ K a r (init 2 ws)).fn else .no
 |3=>if ws.length=2 then(DC K a r (init 2 ws)).fn else .no
 |4=>if ws.length=2 then(C0 K a r (init 2 ws)).fn else .no
 |5=>if ws.length=2 then(C1 K a r (init 6 ws)).fn else .no
 |6=>if ws.length=1 then(CT K a r (init 6 ws)).fn else .no
 |7=>if ws.length=2 then(Ds K a r (init 2 ws)).fn else .no
 |8=>if ws.length=2 then(DD K a r (init 9 ws)).fn else .no
 |9=>if ws.length=2 then(Dt K a r (init 9 ws)).fn else .no
 |10=>if ws.length=2 then(D8 K a r (init 3 ws)).fn else .no
 |11=>if ws.length=2 then(A8 K a r (init 2 ws)).fn else .no
 |12=>if ws.length=2 then(Dl K a r (init 2 ws)).fn else .no
 |13=>if ws.length=2 then(CU K a r (init 10 ws)).fn else .no
 |14=>if ws.length=2 then(Dm K a r (init 2 ws)).fn else .no
 |15=>if ws.length=2 then(DG K a r (init 4 ws)).fn else .no
 |16=>if ws.length=3 then(DV K a r (init 5 ws)).fn else .no
 |17=>if ws.length=3 then(C2 K a r (init 5 ws)).fn else .no
 |18=>if ws.length=1 then(CN K a r (init 3 ws)).fn else .no
 |19=>if ws.length=2 then(C' K a r (init 6 ws)).fn else .no
 |20=>if ws.length=1 then(D9 K a r (init 6 ws)).fn else .no
 |21=>if ws.length=3 then(CW K a r (init 3 ws)).fn else .no
 |22=>if ws.length=2 then(C3 K a r (init 2 ws)).fn else .no
 |23=>if ws.length=2 then(Dn K a r (init 3 ws)).fn else .no
 |24=>if ws.length=2 then(Dv K a r (init 4 ws)).fn else .no
 |25=>if ws.length=1 then(C4 K a r (init 1 ws)).fn else .no
 |26=>if ws.length=2 then(C5 K a r (init 16 ws)).fn else .no
 |27=>if ws.length=3 then(Dc K a r (init 7 ws)).fn else .no
 |28=>if ws.length=3 then(De K a r (init 6 ws)).fn else .no
 |30=>if ws.length=5 then(yy K a r (init 8 ws)).fn else .no
 |32=>if ws.length=3 then fh (C8 K a r (ws.map .fr))else .no
 |33=>if ws.length=3 then fh (C9 K a r (ws.map .fr))else .no
 |34=>if ws.length=2 then fh (C_ K a r (ws.map .fr))else .no
 |35=>if ws.length=2 then fh (CK K a r (ws.map .fr))else .no
 |_=>.no
noncomputable def run(K:Fg)(a:bu):Nat->Nat->List W->FR
 |0,_,_=>.no
 |n+1,i,ws=>body K a (run K a n) ws i
noncomputable def sec(K:Fg)(a:bu)(n:Nat)(o:List Int)(ws:List W):Option FR:=if ws.length=2 then(AX K a (run K a (n+2)) (run K a n) o (init 11 ws)).map SR.fn else some .no
noncomputable def l9(K:Fg)(a:bu)(n:Nat)(ws:List W):FR:=if ws.length=1 then(zP (Kh K a (run K a (n+3)) (sec K a n)) (init 13 ws)).fn else .no
theorem Hl:run K a (n+1) A2 ws=if ws.length=1 then(Dg K a (run K a n) (init 3 ws)).fn else .no:=rfl
theorem Hn:run K a (n+1) A3 ws=if ws.length=1 then(Dh K a (run K a n) (init 3 ws)).fn else .no:=rfl
theorem GO:run K a (n+1) A0 ws=if ws.length=2 then(CZ K a (run K a n) (init 2 ws)).fn else .no:=rfl
theorem Hy:run K a (n+1) m6 ws=if ws.length=2 then(DC K a (run K a n) (init 2 ws)).fn else .no:=rfl
theorem GP:run K a (n+1) qV ws=if ws.length=2 then(C0 K a (run K a n) (init 2 ws)).fn else .no:=rfl
theorem GQ:run K a (n+1) yt ws=if ws.length=2 then(C1 K a (run K a n) (init 6 ws)).fn else .no:=rfl
theorem GC:run K a (n+1) vp ws=if ws.length=1 then(CT K a (run K a n) (init 6 ws)).fn else .no:=rfl
theorem Hu:run K a (n+1) xf ws=if ws.length=2 then(Ds K a (run K a n) (init 2 ws)).fn else .no:=rfl
theorem Ho:run K a (n+1) yD ws=if ws.length=2 then(DD K a (run K a n) (init 9 ws)).fn else .no:=rfl
theorem Hv:run K a (n+1) Ba ws=if ws.length=2 then(Dt K a (run K a n) (init 9 ws)).fn else .no:=rfl
theorem HN:run K a (n+1) qX ws=if ws.length=2 then(D8 K a (run K a n) (init 3 ws)).fn else .no:=rfl
theorem CP:run K a (n+1) xh ws=if ws.length=2 then(A8 K a (run K a n) (init 2 ws)).fn else .no:=rfl
theorem Hb:run K a (n+1) A5 ws=if ws.length=2 then(Dl K a (run K a n) (init 2 ws)).fn else .no:=rfl
theorem GD:run K a (n+1) p7 ws=if ws.length=2 then(CU K a (run K a n) (init 10 ws)).fn else .no:=rfl
theorem Hd:run K a (n+1) yw ws=if ws.length=2 then(Dm K a (run K a n) (init 2 ws)).fn else .no:=rfl
theorem Hq:run K a (n+1) Be ws=if ws.length=2 then(DG K a (run K a n) (init 4 ws)).fn else .no:=rfl
theorem Hz:run K a (n+1) tZ ws=if ws.length=3 then(DV K a (run K a n) (init 5 ws)).fn else .no:=rfl
theorem GR:run K a (n+1) A1 ws=if ws.length=3 then(C2 K a (run K a n) (init 5 ws)).fn else .no:=rfl
theorem GI:run K a (n+1) AW ws=if ws.length=1 then(CN K a (run K a n) (init 3 ws)).fn else .no:=rfl
theorem G6:run K a (n+1) yu ws=if ws.length=2 then(C' K a (run K a n) (init 6 ws)).fn else .no:=rfl
theorem HP:run K a (n+1) pL ws=if ws.length=1 then(D9 K a (run K a n) (init 6 ws)).fn else .no:=rfl
theorem GF:run K a (n+1) AY ws=if ws.length=3 then(CW K a (run K a n) (init 3 ws)).fn else .no:=rfl
theorem GU:run K a (n+1) pH ws=if ws.length=2 then(C3 K a (run K a n) (init 2 ws)).fn else .no:=rfl
theorem He:run K a (n+1) vn ws=if ws.length=2 then(Dn K a (run K a n) (init 3 ws)).fn else .no:=rfl
theorem Hw:run K a (n+1) su ws=if ws.length=2 then(Dv K a (run K a n) (init 4 ws)).fn else .no:=rfl
theorem GV:run K a (n+1) vt ws=if ws.length=1 then(C4 K a (run K a n) (init 1 ws)).fn else .no:=rfl
theorem GW:run K a (n+1) qW ws=if ws.length=2 then(C5 K a (run K a n) (init 16 ws)).fn else .no:=rfl
theorem G7:run K a (n+1) vk ws=if ws.length=3 then(Dc K a (run K a n) (init 7 ws)).fn else .no:=rfl
theorem G8:run K a (n+1) vm ws=if ws.length=3 then(De K a (run K a n) (init 6 ws)).fn else .no:=rfl
theorem CQ:run K a (n+1) tY ws=if ws.length=5 then(yy K a (run K a n) (init 8 ws)).fn else .no:=rfl
theorem G9:run K a (n+1) xa ws=if ws.length=3 then fh (C8 K a (run K a n) (ws.map .fr))else .no:=rfl
theorem G_:run K a (n+1) C6 ws=if ws.length=3 then fh (C9 K a (run K a n) (ws.map .fr))else .no:=rfl
theorem Ha:run K a (n+1) C7 ws=if ws.length=2 then fh (C_ K a (run K a n) (ws.map .fr))else .no:=rfl
theorem Gz:run K a (n+1) GG ws=if ws.length=2 then fh (CK K a (run K a n) (ws.map .fr))else .no:=rfl
section
variable{P:Program}{w:World}{base:Heap}
structure zq(K:Fg)(mg:Str->Option Value):Prop where
 woven:∀f oc od fd sl,mg "woven"=some (.ref f)->K.lookup f=some ⟨oc,od,.func fd,sl⟩->jw K "woven" fd.code
 small:∀f oc od fd sl,mg "small"=some (.ref f)->K.lookup f=some ⟨oc,od,.func fd,sl⟩->jw K "small" fd.code
 _law_second:∀f oc od fd sl,mg "_law_second"=some (.ref f)->K.lookup f=some ⟨oc,od,.func fd,sl⟩->jw K "_law_second" fd.code
structure fS(K:Fg)(mg:Str->Option Value):Prop where
 jg:At K mg "rows_many" L_ ["many"]
 jb:At K mg "number_of" Mq ["row"]
 fb:At K mg "check_length" LH ["truths", "length"]
 answers:At K mg "answers" MV ["machine", "rows"]
 ft:At K mg "state_behind" LO ["machine", "rows"]
 fi:At K mg "gone_through" LP ["machine", "rows"]
 eE:At K mg "check_machine" LI ["machine"]
 km:At K mg "is_state" Mz ["machine", "number"]
 iK:At K mg "come_to" MW ["begin", "pairs_of"]
 iL:At K mg "come_to" MA ["begin", "pairs_of"]
 woven:At K mg "woven" q7c ["machine", "other"]
 ir:At K mg "check_both" L4 ["machine", "other"]
 iq:At K mg "both_pairs" Hs ["state", "other"]
 eI:At K mg "told_machines" LJ ["machine", "other"]
 iu:At K mg "check_like" LW ["machine", "other"]
 l8:At K mg "rows_to" MX ["came", "pair"]
 closed:At K mg "closed" Jk ["machine", "other", "pairs"]
 fu:At K mg "stays_within" LQ ["state", "other", "known"]
 dr:At K mg "kinds_by_length" LF ["states"]
 fZ:At K mg "finer_kinds" Hh ["states", "kinds"]
 small:At K mg "small" q4v ["machine"]
 eF:At K mg "pairs_of_kind" GJ ["states", "kinds", "kind"]
 e7:At K mg "_law_cell_at" LR ["_law_script", "_law_k"]
 ik:At K mg "_law_mixed" LX ["_law_cell", "_law_k"]
 j5:At K mg "_law_row" MB ["_law_number", "_law_many"]
 e_:At K mg "_law_rows_of" LS ["_law_many"]
 e9:At K mg "_law_machine" LU ["_law_script", "_law_at"]
 fV:At K mg "_law_played" LN ["_law_script", "_law_at", "_law_many"]
 fU:At K mg "_law_fitted" Hi ["_law_machine_here", "_law_many", "_law_wide"]
 _law_second:At K mg "_law_second" q0h ["_law_script", "_law_machine_here"]
 il:At K mg "_law_twice" LY ["_law_machine_here", "_law_other", "_law_both", "_law_word", "_law_told"]
 Lo:At K mg "law" ug ["_law_script"]
structure kP(P:Program)(w:World)(K:Fg)(mg:Str->Option Value)(base:Heap)(a:bu)(n:Nat):Prop where
 jg:bZ P w K mg base n "rows_many" ["many"] (cj K (run K a n A2))
 jb:bZ P w K mg base n "number_of" ["row"] (cj K (run K a n A3))
 fb:bZ P w K mg base n "check_length" ["truths", "length"] (cj K (run K a n A0))
 answers:bZ P w K mg base n "answers" ["machine", "rows"] (cj K (run K a n m6))
 ft:bZ P w K mg base n "state_behind" ["machine", "rows"] (cj K (run K a n qV))
 fi:bZ P w K mg base n "gone_through" ["machine", "rows"] (cj K (run K a n yt))
 eE:bZ P w K mg base n "check_machine" ["machine"] (cj K (run K a n vp))
 km:bZ P w K mg base n "is_state" ["machine", "number"] (cj K (run K a n xf))
 iK:bZ P w K mg base n "come_to" ["begin", "pairs_of"] (cj K (run K a n yD))
 iL:bZ P w K mg base n "come_to" ["begin", "pairs_of"] (cj K (run K a n Ba))
 woven:bZ P w K mg base n "woven" ["machine", "other"] (cj K (run K a n qX))
 ir:bZ P w K mg base n "check_both" ["machine", "other"] (cj K (run K a n xh))
 iq:bZ P w K mg base n "both_pairs" ["state", "other"] (cj K (run K a n A5))
 eI:bZ P w K mg base n "told_machines" ["machine", "other"] (cj K (run K a n p7))
 iu:bZ P w K mg base n "check_like" ["machine", "other"] (cj K (run K a n yw))
 l8:bZ P w K mg base n "rows_to" ["came", "pair"] (cj K (run K a n Be))
 closed:bZ P w K mg base n "closed" ["machine", "other", "pairs"] (cj K (run K a n tZ))
 fu:bZ P w K mg base n "stays_within" ["state", "other", "known"] (cj K (run K a n A1))
 dr:bZ P w K mg base n "kinds_by_length" ["states"] (cj K (run K a n AW))
 fZ:bZ P w K mg base n "finer_kinds" ["states", "kinds"] (cj K (run K a n yu))
 small:bZ P w K mg base n "small" ["machine"] (cj K (run K a n pL))
 eF:bZ P w K mg base n "pairs_of_kind" ["states", "kinds", "kind"] (cj K (run K a n AY))
 e7:bZ P w K mg base n "_law_cell_at" ["_law_script", "_law_k"] (cj K (run K a n pH))
 ik:bZ P w K mg base n "_law_mixed" ["_law_cell", "_law_k"] (cj K (run K a n vn))
 j5:bZ P w K mg base n "_law_row" ["_law_number", "_law_many"] (cj K (run K a n su))
 e_:bZ P w K mg base n "_law_rows_of" ["_law_many"] (cj K (run K a n vt))
 e9:bZ P w K mg base n "_law_machine" ["_law_script", "_law_at"] (cj K (run K a n qW))
 fV:bZ P w K mg base n "_law_played" ["_law_script", "_law_at", "_law_many"] (cj K (run K a n vk))
 fU:bZ P w K mg base n "_law_fitted" ["_law_machine_here", "_law_many", "_law_wide"] (cj K (run K a n vm))
 il:bZ P w K mg base n "_law_twice" ["_law_machine_here", "_law_other", "_law_both", "_law_word", "_law_told"] (cj K (run K a n tY))
 lam:qm P w K mg base (eM P w) n (xI K bo (run K a n))
structure iF(P:Program)(w:World)(K:Fg)(mg:Str->Option Value)(base:Heap)(a:bu)(n:Nat):Prop where
 z:True
seal nN iM c_ dQ cU cB dC ax i6 dz c5 ab fy cX fY j7 jk gZ g8 zJ bt ph iw mL dR dList cC jl lu ah rR dE lT j8 dG aq wk qv g9 nO mM mN ly oz mO a9 lB iN qw au aJ g_ j9 j_ kf lC bV mP kT mQ aD kU bP mR ae cP k9 ng jD bc
local macro_rules | `(tactic| try?) => `(tactic| (first | refine dv _ | refine xq ?_ ?_ | refine t9 | refine Bp | refine yV ?_ ?_ | refine oU ?_ | refine bU ?_ ?_ | refine Br _ (by assumption) ?_ | refine Po (by assumption) (by assumption) kz ?_ | refine Zy ?_ ?_ | refine JX ?_ | refine JW ?_ | refine vx | refine vC ?_ ?_ ?_ | refine ZX ?_ | refine Yy ?_ ?_ | refine XG ?_ ?_ | refine ZY _ (by assumption) ?_ | refine Pw _ ?_ | refine ZC (by assumption) ?_ | refine z73 (my (by assumption)) ?_ ?_ | refine xx ?_ | refine QA | refine J' (my (by assumption)) ?_ ?_ | refine XI _ (by assumption) | refine X9 ?_ | refine Pu _ ?_ | refine Zx ?_ ?_ | refine Qo (my (by assumption)) ?_ ?_ | refine WH | refine z70 ?_ ?_ | refine VL fun _ => ?_ | refine VJ fun _ => ?_ | refine ZU ?_ ?_ | refine X' _ (by assumption) PassesOwn.leaving rfl (by assumption) ?_ ?_ | refine ZS ?_ | refine Ym (by assumption) (my (by assumption)) ?_ ?_ | refine z5y (by assumption) ?_ | refine ZQ | refine Po (by assumption) (by assumption) AU ?_ | refine JQ ?_ | refine Zw ?_ ?_ | refine OP (my (by assumption)) (bJ.gd (by assumption)) (by assumption) ?_ | refine ZV ?_ | refine Ek ?_ ?_ | refine z6b (by assumption) (my (by assumption)) ?_ ?_ | refine Vy ?_ ?_ | refine X8 ?_ | refine Bs _ (by assumption) PassesOwn.leaving rfl ?_ ?_ | refine Yo _ (by assumption) (my (by assumption)) ?_ ?_ | refine P0 ?_ ?_ | refine Nn (by assumption) ?_ | refine Yb rfl (by assumption) ?_ | refine XJ (by assumption) ?_ | refine Ys _ _ (by assumption) rfl ?_ | refine DP ?_ | refine D5 _ _ (by assumption) PassesOwn.leaving rfl ?_ ?_ | refine ZP | refine DN _ PassesOwn.leaving ?_ ?_ | refine ZT ?_ | refine z7r ?_ ?_ | refine YH rfl (by assumption) ?_ | refine OG _ | refine PZ _ ?_ ?_ | refine z71 ?_ ?_ | refine z7z ?_ ?_ | refine z7s ?_ ?_ ?_ | refine z7x ?_ ?_ | refine z7w ?_ ?_ | refine YJ (my (by assumption)) ?_ ?_ | refine YL _ (my (by assumption)) ?_ ?_ | refine z6h (my (by assumption)) ?_ ?_ | refine Zz ?_ ?_ | refine z72 ?_ ?_ | refine Yn (by assumption) ?_ | refine z6k ?_ ?_ | refine Yv ?_ ?_ | refine Pm ?_ | refine Yc (by assumption) ?_ | refine z7y (my (by assumption)) ?_ ?_ | refine E9 ?_ | refine ZW ?_) <;> try?)
section
variable(B:o8 mg)(M:nJ K mg a)(h1:kP P w K mg base a n)(CH:iF P w K mg base a n)(BM:BMain base mg)(MK:zq K mg)
theorem cN{c:Prop} [Decidable c]{x r:FR}(e:r=if c then x else .no)(h:r≠.no):c/\x=r:=by
 rw[e]at h |-;split at h
 .rename_i hl;rw[if_pos hl];exact⟨hl,rfl⟩
 .exact absurd rfl h
include B M h1 CH BM MK
theorem Uh  (A:fS K mg):bZ P w K mg base (n+1) "rows_many" ["many"] (cj K (run K a (n+1) A2)):=by
 cases id B;cases id M;cases id h1;have:=iX.nd;exact
 con A.jg iX (λws hw=>(cN Hl hw).1) λws hw f bx A outer s H E Z hr=>⟨Dg K a (run K a n),(by try?),(cN Hl hw).2⟩
theorem Ui  (A:fS K mg):bZ P w K mg base (n+1) "number_of" ["row"] (cj K (run K a (n+1) A3)):=by
 cases id B;cases id M;cases id h1;have:=iW.nd;exact
 con A.jb iW (λws hw=>(cN Hn hw).1) λws hw f bx A outer s H E Z hr=>⟨Dh K a (run K a n),(by try?),(cN Hn hw).2⟩
theorem TB  (A:fS K mg):bZ P w K mg base (n+1) "check_length" ["truths", "length"] (cj K (run K a (n+1) A0)):=by
 cases id B;cases id M;cases id h1;have:=fI.nd;exact
 con A.fb fI (λws hw=>(cN GO hw).1) λws hw f bx A outer s H E Z hr=>⟨CZ K a (run K a n),(by try?),(cN GO hw).2⟩
theorem U3  (A:fS K mg):bZ P w K mg base (n+1) "answers" ["machine", "rows"] (cj K (run K a (n+1) m6)):=by
 cases id B;cases id M;cases id h1;have:=kG.nd;exact
 con A.answers kG (λws hw=>(cN Hy hw).1) λws hw f bx A outer s H E Z hr=>⟨DC K a (run K a n),(by try?),(cN Hy hw).2⟩
theorem TC  (A:fS K mg):bZ P w K mg base (n+1) "state_behind" ["machine", "rows"] (cj K (run K a (n+1) qV)):=by
 cases id B;cases id M;cases id h1;have:=fK.nd;exact
 con A.ft fK (λws hw=>(cN GP hw).1) λws hw f bx A outer s H E Z hr=>⟨C0 K a (run K a n),(by try?),(cN GP hw).2⟩
theorem TH  (A:fS K mg):bZ P w K mg base (n+1) "gone_through" ["machine", "rows"] (cj K (run K a (n+1) yt)):=by
 cases id B;cases id M;cases id h1;have:=fJ.nd;exact
 con A.fi fJ (λws hw=>(cN GQ hw).1) λws hw f bx A outer s H E Z hr=>⟨C1 K a (run K a n),(by try?),(cN GQ hw).2⟩
theorem Tt  (A:fS K mg):bZ P w K mg base (n+1) "check_machine" ["machine"] (cj K (run K a (n+1) vp)):=by
 cases id B;cases id M;cases id h1;have:=eX.nd;exact
 con A.eE eX (λws hw=>(cN GC hw).1) λws hw f bx A outer s H E Z hr=>⟨CT K a (run K a n),(by try?),(cN GC hw).2⟩
theorem Ut  (A:fS K mg):bZ P w K mg base (n+1) "is_state" ["machine", "number"] (cj K (run K a (n+1) xf)):=by
 cases id B;cases id M;cases id h1;have:=jt.nd;exact
 con A.km jt (λws hw=>(cN Hu hw).1) λws hw f bx A outer s H E Z hr=>⟨Ds K a (run K a n),(by try?),(cN Hu hw).2⟩
theorem U4  (A:fS K mg):bZ P w K mg base (n+1) "come_to" ["begin", "pairs_of"] (cj K (run K a (n+1) yD)):=by
 cases id B;cases id M;cases id h1;have:=fq.nd;exact
 con A.iK fq (λws hw=>(cN Ho hw).1) λws hw f bx A outer s H E Z hr=>⟨DD K a (run K a n),(bU (by try?)
  (bU (W9 3 0 fq.nd (pv 0))
  (bU (by try?)
  (bU (DN 1000000 PassesOwn.leaving (by try?)
  (bU (by try?)
  (bU (by try?)
  (bU (D5 7 8 fq.nd PassesOwn.leaving rfl (DP (NS 1 h1.lam hr kz (by try?) (pv 1)))
  (by try?))
  (by try?)))))
  (by try?))))),(cN Ho hw).2⟩
theorem Uu  (A:fS K mg):bZ P w K mg base (n+1) "come_to" ["begin", "pairs_of"] (cj K (run K a (n+1) Ba)):=by
 cases id B;cases id M;cases id h1;have:=eB.nd;exact
 con A.iL eB (λws hw=>(cN Hv hw).1) λws hw f bx A outer s H E Z hr=>⟨Dt K a (run K a n),(bU (by try?)
  (bU (Xe 3 0 (.tup [.int,.int]) (w:=(.int 0)) M.nt (ym (my hr)) eB.nd xt rfl)
  (bU (by try?)
  (bU (DN 1000000 PassesOwn.leaving (by try?)
  (bU (by try?)
  (bU (by try?)
  (bU (D5 7 8 eB.nd PassesOwn.leaving rfl (DP (NS 1 h1.lam hr kz (by try?) (pv 1)))
  (by try?))
  (by try?)))))
  (by try?))))),(cN Hv hw).2⟩
theorem Xh  (A:fS K mg):bZ P w K mg base (n+1) "woven" ["machine", "other"] (cj K (run K a (n+1) qX)):=by
 cases id B;cases id M;cases id h1;have:=kI.nd;exact
 zH A.woven MK.woven kI (λws hw=>(cN HN hw).1) λws hw f bx A outer s H E Z hr rY=>⟨D8 K a (run K a n),(bU (by try?)
  (bU (Br 2 kI.nd (HH 32 t5 h1.iL hr kz (EB rY BM) (λ_=>rfl) (by try?) (sc:=ak q7c) (N:=["machine", "other", "found"]) (nf:=["machine", "other"]) (by decide +kernel)))
  (by try?))),(cN HN hw).2⟩
theorem TV  (A:fS K mg):bZ P w K mg base (n+1) "check_both" ["machine", "other"] (cj K (run K a (n+1) xh)):=by
 cases id B;cases id M;cases id h1;have:=h8.nd;exact
 con A.ir h8 (λws hw=>(cN CP hw).1) λws hw f bx A outer s H E Z hr=>⟨A8 K a (run K a n),(by try?),(cN CP hw).2⟩
theorem TX  (A:fS K mg):bZ P w K mg base (n+1) "both_pairs" ["state", "other"] (cj K (run K a (n+1) A5)):=by
 cases id B;cases id M;cases id h1;have:=hZ.nd;exact
 con A.iq hZ (λws hw=>(cN Hb hw).1) λws hw f bx A outer s H E Z hr=>⟨Dl K a (run K a n),(oU (Jz (yI (x:="pair") (y:="like") (Nf:=[]) (js:=[]) (sc:=ak Hs) (N:=["state", "other"]) rfl (by try?) (by decide +kernel)
   (λ_ _ _ _ _ _=>pK)
   (λ_ _ _ _ _ _=>(by try?))
   (λ_ _ _ _ _=>yR (show(["pair", "like"]:List Str).Nodup by decide +kernel) rfl)))),(cN Hb hw).2⟩
theorem Tu  (A:fS K mg):bZ P w K mg base (n+1) "told_machines" ["machine", "other"] (cj K (run K a (n+1) p7)):=by
 cases id B;cases id M;cases id h1;have:=ck.nd;exact
 con A.eI ck (λws hw=>(cN GD hw).1) λws hw f bx A outer s H E Z hr=>⟨CU K a (run K a n),(bU (by try?)
  (bU (Xc 2 (a:=(.inr 0)) (b:=(.inr 0)) (w:=.aG) (ym (my hr)) ck.nd (PD (t6 xt (t6 xt yN))) Px rfl)
  (bU (by try?)
  (bU (by try?)
  (bU (DN 1000000 PassesOwn.leaving (by try?)
  (bU (by try?)
  (bU (by try?)
  (bU (D5 7 8 ck.nd PassesOwn.leaving rfl (by try?)
  (bU (vC (by try?)
  (oU (YR 2 (by try?)))
  vx)
  (by try?)))
  (by try?)))))
  (by try?)))))),(cN GD hw).2⟩
theorem TY  (A:fS K mg):bZ P w K mg base (n+1) "check_like" ["machine", "other"] (cj K (run K a (n+1) yw)):=by
 cases id B;cases id M;cases id h1;have:=h_.nd;exact
 con A.iu h_ (λws hw=>(cN Hd hw).1) λws hw f bx A outer s H E Z hr=>⟨Dm K a (run K a n),(by try?),(cN Hd hw).2⟩
theorem U5  (A:fS K mg):bZ P w K mg base (n+1) "rows_to" ["came", "pair"] (cj K (run K a (n+1) Be)):=by
 cases id B;cases id M;cases id h1;have:=kH.nd;exact
 con A.l8 kH (λws hw=>(cN Hq hw).1) λws hw f bx A outer s H E Z hr=>⟨DG K a (run K a n),(bU (by try?)
  (bU (by try?)
  (bU (by try?)
  (oU (Jz (VB rfl B.vZ B.nK (dv 2))))))),(cN Hq hw).2⟩
theorem VE  (A:fS K mg):bZ P w K mg base (n+1) "closed" ["machine", "other", "pairs"] (cj K (run K a (n+1) tZ)):=by
 cases id B;cases id M;cases id h1;have:=gF.nd;exact
 con A.closed gF (λws hw=>(cN Hz hw).1) λws hw f bx A outer s H E Z hr=>⟨DV K a (run K a n),(bU (by try?)
  (bU (OV 3 (.tup [.int,.int]) gF.nd)
  (bU (Bs 4 gF.nd PassesOwn.leaving rfl (dv 2)
  (bU (by try?)
  (oU (YF 3 M.nt (my hr) QA (dv 4)))))
  (bU (by try?)
  (oU (JX (z5n rfl B.zE (xq (xx (yI (x:="left") (y:="right") (Nf:=["machine", "other", "known"]) (js:=[0,1,3]) (sc:=ak Jk) (N:=["machine", "other", "pairs", "known", "pair"]) rfl (YG 3) (by decide +kernel)
   (λ_ _ _ _ _ _=>pK)
   (λ_ _ _ _ _ _=>(by try?))
   (λ_ _ _ _ _=>yR (show(["left", "right", "machine", "other", "known"]:List Str).Nodup by decide +kernel) rfl))) Bp)))))))),(cN Hz hw).2⟩
theorem TJ  (A:fS K mg):bZ P w K mg base (n+1) "stays_within" ["state", "other", "known"] (cj K (run K a (n+1) A1)):=by
 cases id B;cases id M;cases id h1;have:=fL.nd;exact
 con A.fu fL (λws hw=>(cN GR hw).1) λws hw f bx A outer s H E Z hr=>⟨C2 K a (run K a n),(by try?),(cN GR hw).2⟩
theorem SW  (A:fS K mg):bZ P w K mg base (n+1) "kinds_by_length" ["states"] (cj K (run K a (n+1) AW)):=by
 cases id B;cases id M;cases id h1;have:=dZ.nd;exact
 con A.dr dZ (λws hw=>(cN GI hw).1) λws hw f bx A outer s H E Z hr=>⟨CN K a (run K a n),(by try?),(cN GI hw).2⟩
theorem TN  (A:fS K mg):bZ P w K mg base (n+1) "finer_kinds" ["states", "kinds"] (cj K (run K a (n+1) yu)):=by
 cases id B;cases id M;cases id h1;have:=cf.nd;exact
 con A.fZ cf (λws hw=>(cN G6 hw).1) λws hw f bx A outer s H E Z hr=>⟨C' K a (run K a n),(bU (OV 2 (.many (.tup [.many .bl,.int])) cf.nd)
  (bU (by try?)
  (bU (Bs 4 cf.nd PassesOwn.leaving rfl (dv 0)
  (bU (Br 5 cf.nd (Nn B.sP (xq (xx (yI (x:="told") (y:="follower") (Nf:=["kinds"]) (js:=[1]) (sc:=ak Hh) (N:=["states", "kinds", "numbers", "finer", "state", "seen"]) rfl (DP (dv 4)) (by decide +kernel)
   (λ_ _ _ _ _ _=>pK)
   (λ_ _ _ _ _ _=>(by try?))
   (λ_ _ _ _ _=>yR (show(["told", "follower", "kinds"]:List Str).Nodup by decide +kernel) rfl))) Bp)))
  (by try?)))
  (oU (OG 3))))),(cN G6 hw).2⟩
theorem Xi  (A:fS K mg):bZ P w K mg base (n+1) "small" ["machine"] (cj K (run K a (n+1) pL)):=by
 cases id B;cases id M;cases id h1;have:=iY.nd;exact
 zH A.small MK.small iY (λws hw=>(cN HP hw).1) λws hw f bx A outer s H E Z hr rY=>⟨D9 K a (run K a n),(bU (by try?)
  (bU (by try?)
  (bU (by try?)
  (bU (Br 3 iY.nd (HH 33 yA h1.iK hr kz (EB rY BM) (λ_=>rfl) (yV (dv 2) t9) (sc:=ak q4v) (N:=["machine", "states", "kinds", "found", "numbers", "number"]) (nf:=["states", "kinds"]) (by decide +kernel)))
  (bU (by try?)
  (bU (Bs 5 iY.nd PassesOwn.leaving rfl (yV (HH 34 yB h1.iK hr kz (EB rY BM) (λ_=>rfl) t9 (sc:=ak q4v) (N:=["machine", "states", "kinds", "found", "numbers", "number"]) (nf:=["states"]) (by decide +kernel)) t9)
  (by try?))
  (by try?))))))),(cN HP hw).2⟩
theorem Tv  (A:fS K mg):bZ P w K mg base (n+1) "pairs_of_kind" ["states", "kinds", "kind"] (cj K (run K a (n+1) AY)):=by
 cases id B;cases id M;cases id h1;have:=eY.nd;exact
 con A.eF eY (λws hw=>(cN GF hw).1) λws hw f bx A outer s H E Z hr=>⟨CW K a (run K a n),(oU (Jz (yI (x:="told") (y:="follower") (Nf:=["kinds"]) (js:=[1]) (sc:=ak GJ) (N:=["states", "kinds", "kind"]) rfl (by try?) (by decide +kernel)
   (λ_ _ _ _ _ _=>pK)
   (λ_ _ _ _ _ _=>(by try?))
   (λ_ _ _ _ _=>yR (show(["told", "follower", "kinds"]:List Str).Nodup by decide +kernel) rfl)))),(cN GF hw).2⟩
theorem TK  (A:fS K mg):bZ P w K mg base (n+1) "_law_cell_at" ["_law_script", "_law_k"] (cj K (run K a (n+1) pH)):=by
 cases id B;cases id M;cases id h1;have:=fF.nd;exact
 con A.e7 fF (λws hw=>(cN GU hw).1) λws hw f bx A outer s H E Z hr=>⟨C3 K a (run K a n),(by try?),(cN GU hw).2⟩
theorem TZ  (A:fS K mg):bZ P w K mg base (n+1) "_law_mixed" ["_law_cell", "_law_k"] (cj K (run K a (n+1) vn)):=by
 cases id B;cases id M;cases id h1;have:=hW.nd;exact
 con A.ik hW (λws hw=>(cN He hw).1) λws hw f bx A outer s H E Z hr=>⟨Dn K a (run K a n),(by try?),(cN He hw).2⟩
theorem Uv  (A:fS K mg):bZ P w K mg base (n+1) "_law_row" ["_law_number", "_law_many"] (cj K (run K a (n+1) su)):=by
 cases id B;cases id M;cases id h1;have:=jr.nd;exact
 con A.j5 jr (λws hw=>(cN Hw hw).1) λws hw f bx A outer s H E Z hr=>⟨Dv K a (run K a n),(bU (by try?)
  (bU (by try?)
  (bU (Z5 2)
  (by try?)))),(cN Hw hw).2⟩
theorem TL  (A:fS K mg):bZ P w K mg base (n+1) "_law_rows_of" ["_law_many"] (cj K (run K a (n+1) vt)):=by
 cases id B;cases id M;cases id h1;have:=fH.nd;exact
 con A.e_ fH (λws hw=>(cN GV hw).1) λws hw f bx A outer s H E Z hr=>⟨C4 K a (run K a n),(by try?),(cN GV hw).2⟩
theorem TM  (A:fS K mg):bZ P w K mg base (n+1) "_law_machine" ["_law_script", "_law_at"] (cj K (run K a (n+1) qW)):=by
 cases id B;cases id M;cases id h1;have:=fG.nd;exact
 con A.e9 fG (λws hw=>(cN GW hw).1) λws hw f bx A outer s H E Z hr=>⟨C5 K a (run K a n),(by try?),(cN GW hw).2⟩
theorem TQ  (A:fS K mg):bZ P w K mg base (n+1) "_law_played" ["_law_script", "_law_at", "_law_many"] (cj K (run K a (n+1) vk)):=by
 cases id B;cases id M;cases id h1;have:=gj.nd;exact
 con A.fV gj (λws hw=>(cN G7 hw).1) λws hw f bx A outer s H E Z hr=>⟨Dc K a (run K a n),(by try?),(cN G7 hw).2⟩
theorem TR  (A:fS K mg):bZ P w K mg base (n+1) "_law_fitted" ["_law_machine_here", "_law_many", "_law_wide"] (cj K (run K a (n+1) vm)):=by
 cases id B;cases id M;cases id h1;have:=cW.nd;exact
 con A.fU cW (λws hw=>(cN G8 hw).1) λws hw f bx A outer s H E Z hr=>⟨De K a (run K a n),(bU (by try?)
  (bU (Bs 4 cW.nd PassesOwn.leaving rfl (yV (dv 0) t9)
  (bU (Ms 5 cW.nd (x:="_law_pair") (Nf:=["_law_wide"]) (js:=[2]) (sc:=ak Hi) (N:=["_law_machine_here", "_law_many", "_law_wide", "_law_states", "_law_state", "_law_pairs"]) rfl (dv 4) (by decide +kernel)
   (λ_ _ _ _ _ _=>pK)
   (λ_ _ _ _ _ _=>(JW (xq (Dz (by try?) D3 (D4 (dv 1))) (by try?))))
   (λ_ _ _ _ _=>mz 0 (show(["_law_pair", "_law_wide"]:List Str).Nodup by decide +kernel)))
  (oU (Pw 3 (xq (Dz (P0 (dv 5) t9) D3 (D4 (by try?))) Bp)))))
  (by try?))),(cN G8 hw).2⟩
theorem T1  (A:fS K mg):bZ P w K mg base (n+1) "_law_twice" ["_law_machine_here", "_law_other", "_law_both", "_law_word", "_law_told"] (cj K (run K a (n+1) tY)):=by
 cases id B;cases id M;cases id h1;have:=hX.nd;exact
 con A.il hX (λws hw=>(cN CQ hw).1) λws hw f bx A outer s H E Z hr=>⟨yy K a (run K a n),(by try?),(cN CQ hw).2⟩
end
theorem cw(A:fS K mg)(B:o8 mg)(M:nJ K mg a):∀n,iF P w K mg base a n
 |0=>⟨trivial⟩
 |n+1=>⟨trivial⟩
theorem Uw(B:o8 mg)(M:nJ K mg a)(h1:kP P w K mg base a n)(CH:iF P w K mg base a n):mF P w K mg base n t5 ["pair"] (run K a (n+1) xa) where
 sc:=⟨rfl,rfl,rfl,by decide +kernel,by decide +kernel,by decide +kernel,by decide +kernel⟩
 bind:=λcl pm c' gY=>us1 λ_=>rfl
 len:=λws h=>by
  rw[G9]at h;split at h
  .assumption
  .exact absurd rfl h
 body:=λws h Z f cd cl A outer s H hr=>⟨C8 K a (run K a n),(by cases id B;cases id M;cases id h1;try?),by
  rw[G9]at h |-;split at h
  .rename_i hl;rw[if_pos hl]
  .exact absurd rfl h⟩
theorem Ux(B:o8 mg)(M:nJ K mg a)(h1:kP P w K mg base a n)(CH:iF P w K mg base a n):mF P w K mg base n yA ["kind"] (run K a (n+1) C6) where
 sc:=⟨rfl,rfl,rfl,by decide +kernel,by decide +kernel,by decide +kernel,by decide +kernel⟩
 bind:=λcl pm c' gY=>us1 λ_=>rfl
 len:=λws h=>by
  rw[G_]at h;split at h
  .assumption
  .exact absurd rfl h
 body:=λws h Z f cd cl A outer s H hr=>⟨C9 K a (run K a n),(by cases id B;cases id M;cases id h1;try?),by
  rw[G_]at h |-;split at h
  .rename_i hl;rw[if_pos hl]
  .exact absurd rfl h⟩
theorem Uj(B:o8 mg)(M:nJ K mg a)(h1:kP P w K mg base a n)(CH:iF P w K mg base a n):mF P w K mg base n yB ["place"] (run K a (n+1) C7) where
 sc:=⟨rfl,rfl,rfl,by decide +kernel,by decide +kernel,by decide +kernel,by decide +kernel⟩
 bind:=λcl pm c' gY=>us1 λ_=>rfl
 len:=λws h=>by
  rw[Ha]at h;split at h
  .assumption
  .exact absurd rfl h
 body:=λws h Z f cd cl A outer s H hr=>⟨C_ K a (run K a n),(yV (dv 1) (dv 0)),by
  rw[Ha]at h |-;split at h
  .rename_i hl;rw[if_pos hl]
  .exact absurd rfl h⟩
theorem SY(B:o8 mg)(M:nJ K mg a)(h1:kP P w K mg base a n)(CH:iF P w K mg base a n):mF P w K mg base n vq ["_law_k"] (run K a (n+1) GG) where
 sc:=⟨rfl,rfl,rfl,by decide +kernel,by decide +kernel,by decide +kernel,by decide +kernel⟩
 bind:=λcl pm c' gY=>us1 λ_=>rfl
 len:=λws h=>by
  rw[Gz]at h;split at h
  .assumption
  .exact absurd rfl h
 body:=λws h Z f cd cl A outer s H hr=>⟨CK K a (run K a n),(by cases id B;cases id M;cases id h1;try?),by
  rw[Gz]at h |-;split at h
  .rename_i hl;rw[if_pos hl]
  .exact absurd rfl h⟩
theorem SK(B:o8 mg)(M:nJ K mg a)(h1:kP P w K mg base a n)(CH:iF P w K mg base a n):qm P w K mg base (eM P w) (n+1) (xI K bo (run K a (n+1))):=z6j λi l h=>by
 unfold bo at h;split at h
 .cases h;exact⟨_,Uw B M h1 CH⟩
 .cases h;exact⟨_,Ux B M h1 CH⟩
 .cases h;exact⟨_,Uj B M h1 CH⟩
 .cases h;exact⟨_,SY B M h1 CH⟩
 .cases h
theorem all(A:fS K mg)(B:o8 mg)(M:nJ K mg a)(BM:BMain base mg)(MK:zq K mg):∀n,kP P w K mg base a n
 |0=>⟨cO A.jg,cO A.jb,cO A.fb,cO A.answers,cO A.ft,cO A.fi,cO A.eE,cO A.km,cO A.iK,cO A.iL,cO A.woven,cO A.ir,cO A.iq,cO A.eI,cO A.iu,cO A.l8,cO A.closed,cO A.fu,cO A.dr,cO A.fZ,cO A.small,cO A.eF,cO A.e7,cO A.ik,cO A.j5,cO A.e_,cO A.e9,cO A.fV,cO A.fU,cO A.il,Fi⟩
 |n+1=>⟨Uh B M (all A B M BM MK n) (cw A B M n) BM MK A,Ui B M (all A B M BM MK n) (cw A B M n) BM MK A,TB B M (all A B M BM MK n) (cw A B M n) BM MK A,U3 B M (all A B M BM MK n) (cw A B M n) BM MK A,TC B M (all A B M BM MK n) (cw A B M n) BM MK A,TH B M (all A B M BM MK n) (cw A B M n) BM MK A,Tt B M (all A B M BM MK n) (cw A B M n) BM MK A,Ut B M (all A B M BM MK n) (cw A B M n) BM MK A,U4 B M (all A B M BM MK n) (cw A B M n) BM MK A,Uu B M (all A B M BM MK n) (cw A B M n) BM MK A,Xh B M (all A B M BM MK n) (cw A B M n) BM MK A,TV B M (all A B M BM MK n) (cw A B M n) BM MK A,TX B M (all A B M BM MK n) (cw A B M n) BM MK A,Tu B M (all A B M BM MK n) (cw A B M n) BM MK A,TY B M (all A B M BM MK n) (cw A B M n) BM MK A,U5 B M (all A B M BM MK n) (cw A B M n) BM MK A,VE B M (all A B M BM MK n) (cw A B M n) BM MK A,TJ B M (all A B M BM MK n) (cw A B M n) BM MK A,SW B M (all A B M BM MK n) (cw A B M n) BM MK A,TN B M (all A B M BM MK n) (cw A B M n) BM MK A,Xi B M (all A B M BM MK n) (cw A B M n) BM MK A,Tv B M (all A B M BM MK n) (cw A B M n) BM MK A,TK B M (all A B M BM MK n) (cw A B M n) BM MK A,TZ B M (all A B M BM MK n) (cw A B M n) BM MK A,Uv B M (all A B M BM MK n) (cw A B M n) BM MK A,TL B M (all A B M BM MK n) (cw A B M n) BM MK A,TM B M (all A B M BM MK n) (cw A B M n) BM MK A,TQ B M (all A B M BM MK n) (cw A B M n) BM MK A,TR B M (all A B M BM MK n) (cw A B M n) BM MK A,T1 B M (all A B M BM MK n) (cw A B M n) BM MK A,SK B M (all A B M BM MK n) (cw A B M n)⟩
theorem T4(B:o8 mg)(M:nJ K mg a)(h1:kP P w K mg base a (n+2))(CL:kP P w K mg base a n)(CH:iF P w K mg base a (n+2))(BM:BMain base mg){f:Addr}{bx:Value}{A:Around}{outer:List Env}{s:Shared}{H:Hp}{E:XK}{Z:Zt}(hr:bJ (n+2) (A.deeper (PyProof.Rows.envOfC "_law_second" (ak q0h) s.heap.objs.size f bx)))(rY:jw K "_law_second" bx)(hz:Z.H=H/\Z.io=[]):
  nH Z (fX (eM P w) P w K mg base ["_law_script", "_law_machine_here", "_law_way", "_law_size", "_law_order", "_law_states", "_law_at", "_law_number", "_law_pair", "_law_told", "_law_twin"] "_law_second" (ak q0h) f bx A outer s H E) (λ_=>E) (bN q0h) (AX K a (run K a (n+2)) (run K a n)):=by
 cases id B;cases id M;cases id h1;have:=bR.nd;exact
 (DB (by try?)
  (DB (by try?)
  (DB (by try?)
  (L9 (YU 4 35 vq (a:=(.inr 1)) (b:=(.inl 3)) bR.nd CL.lam hr rfl B.qr B.sO (EB rY BM) (λ_=>rfl) (t6 xt (t6 (pv 3) yN)) (sc:=ak q0h) (N:=["_law_script", "_law_machine_here", "_law_way", "_law_size", "_law_order", "_law_states", "_law_at", "_law_number", "_law_pair", "_law_told", "_law_twin"]) (nf:=["_law_way"]) (by decide +kernel))
  (bU (z6q (mY 2 4 3) (UG 5 (x:="_law_k") (Nf:=["_law_machine_here", "_law_order"]) (js:=[1,4]) (sc:=ak q0h) (N:=["_law_script", "_law_machine_here", "_law_way", "_law_size", "_law_order", "_law_states", "_law_at", "_law_number", "_law_pair", "_law_told", "_law_twin"]) bR.nd rfl (dv 4) (by decide +kernel)
   (λ_ _ _ _ _ _=>pK)
   (λ_ _ _ _ _ _=>(xx (JA (x:="_law_pair") (Nf:=["_law_order"]) (js:=[2]) (sc:=rC (lq (lH (pO 4 q0h))) (ak q0h)) (N:=["_law_k", "_law_machine_here", "_law_order"]) rfl (by try?) (by decide +kernel)
   (λ_ _ _ _ _ _=>pK)
   (λ_ _ _ _ _ _=>(by try?))
   (λ_ _ _ _ _=>mz 0 (show(["_law_pair", "_law_order"]:List Str).Nodup by decide +kernel)))))
   (λ_ _ _ _ _=>mz 0 (show(["_law_k", "_law_machine_here", "_law_order"]:List Str).Nodup by decide +kernel)))
   (YE 5 (x:="_law_k") (Nf:=["_law_machine_here", "_law_order"]) (js:=[1,4]) (sc:=ak q0h) (N:=["_law_script", "_law_machine_here", "_law_way", "_law_size", "_law_order", "_law_states", "_law_at", "_law_number", "_law_pair", "_law_told", "_law_twin"]) bR.nd rfl (dv 4) (by decide +kernel)
   (λ_ _ _ _ _ _=>(JA (x:="_law_pair") (Nf:=["_law_order"]) (js:=[2]) (sc:=rC (lq (lH (pO 4 q0h))) (ak q0h)) (N:=["_law_k", "_law_machine_here", "_law_order"]) rfl (by try?) (by decide +kernel)
   (λ_ _ _ _ _ _=>pK)
   (λ_ _ _ _ _ _=>(by try?))
   (λ_ _ _ _ _=>mz 0 (show(["_law_pair", "_law_order"]:List Str).Nodup by decide +kernel))))
   (λ_ _ _ _ _=>mz 0 (show(["_law_k", "_law_machine_here", "_law_order"]:List Str).Nodup by decide +kernel))))
  (bU (vC (by try?)
  (bU (by try?)
  (bU (by try?)
  (bU (Br 8 bR.nd (P4 5 (dv 6) (dv 7)))
  (bU (by try?)
  (bU (by try?)
  (oU (OS 5 hz.1 (by try?) (dv 6) (dv 7))))))))
  vx)
  (bU (vC (by try?)
  (bU (by try?)
  (bU (by try?)
  (oU (OS 5 hz.1 (JW (xq (yV (P4 5 (dv 6) (dv 7)) t9) (by try?))) (dv 6) (dv 7)))))
  vx)
  (bU (vC (by try?)
  (bU (by try?)
  (bU (by try?)
  (bU (by try?)
  (oU (PZ 5 (xx (JA (x:="_law_pair") (Nf:=["_law_size", "_law_twin"]) (js:=[3,10]) (sc:=ak q0h) (N:=["_law_script", "_law_machine_here", "_law_way", "_law_size", "_law_order", "_law_states", "_law_at", "_law_number", "_law_pair", "_law_told", "_law_twin"]) rfl (Pu 5 (dv 6)) (by decide +kernel)
   (λ_ _ _ _ _ _=>pK)
   (λ_ _ _ _ _ _=>(by try?))
   (λ_ _ _ _ _=>mz 0 (show(["_law_pair", "_law_size", "_law_twin"]:List Str).Nodup by decide +kernel)))) (dv 6))))))
  vx)
  (by try?)))))) []) []) [])
theorem TU(A:fS K mg)(B:o8 mg)(M:nJ K mg a)(BM:BMain base mg)(MK:zq K mg):bZ P w K mg base (n+3) "_law_second" ["_law_script", "_law_machine_here"] (BR K (sec K a n)):=
 zI A._law_second MK._law_second bR (λws hw=>by
  have:=hw [];unfold sec at this;split at this
  .assumption
  .exact absurd rfl this) λws hw f bx A' outer s H E Z hr rY hz=>⟨_,T4 B M (all A B M BM MK (n+2)) (all A B M BM MK n) (cw A B M (n+2)) BM hr rY hz,λo=>by
  have:=hw o;unfold sec at this |-
  split at this
  .rename_i hl;rw[if_pos hl];rfl
  .exact absurd rfl this⟩
theorem z9o(B:o8 mg)(M:nJ K mg a)(h1:kP P w K mg base a (n+3))(CS:bZ P w K mg base (n+3) "_law_second" ["_law_script", "_law_machine_here"] (BR K (sec K a n)))(CH:iF P w K mg base a (n+3)){f:Addr}{bx:Value}{A:Around}{outer:List Env}{s:Shared}{H:Hp}{E:XK}{Z:Zt}(hr:bJ (n+3) (A.deeper (PyProof.Rows.envOfC "law" (ak ug) s.heap.objs.size f bx))):
  nH Z (fX (eM P w) P w K mg base ["_law_script", "_law_machine_here", "_law_other", "_law_rows", "_law_word", "_law_told", "_law_both", "_law_pairs", "_law_one", "_law_two", "_law_thrice", "_law_same", "_law_found"] "law" (ak ug) f bx A outer s H E) (λ_=>E) (bN ug) (Kh K a (run K a (n+3)) (sec K a n)):=by
 cases id B;cases id M;cases id h1;have:=ma.nd;exact
 (DB (by try?)
  (L9 (YT 2 ma.nd CS hr kz (by try?) [])
  (bU (by try?)
  (bU (by try?)
  (bU (by try?)
  (bU (by try?)
  (bU (by try?)
  (bU (vC (J' (my hr) (by try?) (OP (my hr) hr.gd B.v_ (xq (xx (yI (x:="_law_mine") (y:="_law_theirs") (Nf:=[]) (js:=[]) (sc:=ak ug) (N:=["_law_script", "_law_machine_here", "_law_other", "_law_rows", "_law_word", "_law_told", "_law_both", "_law_pairs", "_law_one", "_law_two", "_law_thrice", "_law_same", "_law_found"]) rfl (by try?) (by decide +kernel)
   (λ_ _ _ _ _ _=>pK)
   (λ_ _ _ _ _ _=>(by try?))
   (λ_ _ _ _ _=>yR (show(["_law_mine", "_law_theirs"]:List Str).Nodup by decide +kernel) rfl))) Bp)))
  (by try?)
  vx)
  (bU (by try?)
  (bU (vC (by try?)
  (bU (by try?)
  (bU (by try?)
  (oU (vC (J' (my hr) (by try?) (xx (yI (x:="_law_mine") (y:="_law_theirs") (Nf:=[]) (js:=[]) (sc:=ak ug) (N:=["_law_script", "_law_machine_here", "_law_other", "_law_rows", "_law_word", "_law_told", "_law_both", "_law_pairs", "_law_one", "_law_two", "_law_thrice", "_law_same", "_law_found"]) rfl (by try?) (by decide +kernel)
   (λ_ _ _ _ _ _=>pK)
   (λ_ _ _ _ _ _=>(by try?))
   (λ_ _ _ _ _=>yR (show(["_law_mine", "_law_theirs"]:List Str).Nodup by decide +kernel) rfl))))
  (by try?)
  vx))))
  vx)
  (bU (by try?)
  (bU (by try?)
  (bU (Ms 12 ma.nd (x:="_law_number") (Nf:=["_law_machine_here"]) (js:=[1]) (sc:=ak ug) (N:=["_law_script", "_law_machine_here", "_law_other", "_law_rows", "_law_word", "_law_told", "_law_both", "_law_pairs", "_law_one", "_law_two", "_law_thrice", "_law_same", "_law_found"]) rfl (dv 5) (by decide +kernel)
   (λ_ _ _ _ _ _=>pK)
   (λ_ _ _ _ _ _=>(by try?))
   (λ_ _ _ _ _=>mz 0 (show(["_law_number", "_law_machine_here"]:List Str).Nodup by decide +kernel)))
  (bU (by try?)
  (bU (by try?)
  (oU (JX (Ek (by try?) (Ek (Pm (dv 11)) (Ek (Qo (my hr) (Dz (dv 8) D3 (D4 (JQ t9))) (Dz (dv 9) D3 (D4 (JQ t9)))) (by try?)))))))))))))))))))) [])
theorem n0{f:Addr}{fd:FuncData}(A:fS K mg)(B:o8 mg)(M:nJ K mg a)(BM:BMain base mg)(MK:zq K mg)(F:uF K "law" "law" ug f fd)(n:Nat):fN P w K mg base (eM P w) (n+4) f fd ["_law_script"] (cj K (l9 K a n)):=
 E8 F ma (λws hw=>(cN rfl hw).1) λws hw bx A' outer s H E Z hr=>⟨_,YS (z9o B M (all A B M BM MK (n+3)) (TU A B M BM MK) (cw A B M (n+3)) hr),(cN rfl hw).2⟩
end
theorem at_k{h:Heap}{x:Str}{st:Stmt}{ps:List Str}{f:Addr}{od an:Option Addr}{sl:Array (Option Value)}{oc kV dc pm cd ct:Value}(X:K.In h)(G:h.Ns mainGlobals mg)(a:PySem.W.nsIn K mainGlobals x=some (some (.ref f)))(l:K.lookup f=some ⟨oc,od,.func (PySem.W.fnOf x x (fg st) (bN st) (ak st) .none kV dc pm an cd ct),sl⟩)(c:PySem.W.codeIn K cd x=true)(k:keepIn K (.ref f)=true)(hb:∀(kV doc pm:Value)(an:Option Addr)(bx ct:Value)(us:List Value),us.length=ps.length->bindArgs (PySem.W.fnOf x x (fg st) (bN st) (ak st) .none kV doc pm an bx ct) ⟨us,[]⟩=pure (ps.zip us)):At K mg x st ps:=
 ⟨⟨_,_,PL l c k,PySem.W.mg_of X G a,(PL l c k).binds hb⟩⟩
theorem mk_k{h:Heap}{x:Str}{st:Stmt}{f:Addr}{od an:Option Addr}{sl:Array (Option Value)}{oc kV dc pm cd ct:Value}{cc PP:Addr}(X:K.In h)(G:h.Ns mainGlobals mg)(a:PySem.W.nsIn K mainGlobals x=some (some (.ref f)))(l:K.lookup f=some ⟨oc,od,.func (PySem.W.fnOf x x (fg st) (bN st) (ak st) .none kV dc pm an cd ct),sl⟩)(v:cd=.ref cc)(hh:codeHdIn K cc PP=true)(m:(mainGlobals,jo PP ((x++".<locals>.")++"<lambda>"))∈K):∀f oc od fd sl,mg x=some (.ref f)->K.lookup f=some ⟨oc,od,.func fd,sl⟩->jw K x fd.code:=λf oc od fd sl e1 e2=>by
 have z:=(PySem.W.mg_of X G a).symm.trans e1;cases z;rw[l]at e2;cases e2;exact⟨cc,PP,_,v,hh,m⟩
theorem mk{l:PySem.W.OpenLaw}{w:World}{fa:Addr}{p0 p1 p2:Addr}(RI:mg "law"=some (.ref fa))(A:fS K mg)(B:o8 mg)(M:nJ K mg ⟨p0,p1,p2⟩)(MK:zq K mg)(n:Nat)(hL:∀a:bu,nJ K mg a->∀ns:List Int,ns.length<=63->l9 K a n [.lst (ns.map .int)]=.ok (.fr (.bl true))):
  ∃fd:FuncData,(∀(s:Shared)(v:Value),BindsTo s fd ⟨[v],[]⟩ [("_law_script", v)])/\∀base:Heap,K.In base->base.Ns mainGlobals mg->BMain base mg->fN l.prog w K mg base (eM l.prog w) (n+4) fa fd ["_law_script"] (o4 K):=by
 obtain⟨f,fd,F,m,_⟩:=A.Lo.ex;cases RI.symm.trans m;obtain⟨_,_,_,_,_,_,_,_,_,rfl,_⟩:=F.ex;exact⟨_,λs v=>.of_eq rfl,λbase _ _ BM=>(n0 A B M BM MK F n).imp λvs H Q E q=>Wf (hL _ M) q⟩
local macro_rules | `(tactic| rw?) => do
 let l:=(("z2a z17 z18 y6d y2z x9s GK y6e y6b y6c z1m z1j z1k z1l y57 y58 z6i z9f z1b z1c z1d z6d z1e z0w x9o x9p z53 z54 z55 z56 z0x z0y z0z z00 z57 y2o Uy z0l z0m z0n y5v y2h y2i y2d x9g y2e y2f x9h x9i x9j x6r y5t y2g y5u z0f z0g z0d y5r z0e z51 z5z y5n y5o y5p y5q z5q y5b y5c L0 y1q y97 z5r z5s y98 y5e y5f y5g y5h y5i y5j y1t z5t x9e y5k y5l Jy DX z4d z4e z4f z4g z4h y9a y86 y87 y88 y41 z4a z4b z4c y89 z74 z75 z76 z77 z4i x89 x9a y1f z4j z4k y9b Q4 z78 z79 y9c y9d z4l z4m z8a z4n y9e z4o y9f z4p z8b z4q y9g z4r z4s Xn z8c y9h z8d z8e y9i z4t y9j y9k y9l z4u z4v z4w y9m y9n y9o y43 y9p y9q y44 y1g y45 y1h z4x y9r y1i Il y9s y9t y9u y9v y9w y46 z4y y1j z8f z4z z40 z41 y9x z42 z8g z8h y1k y9y y47 y9z y90 x9b x9c z43 y48 y1l y92 y49 z45 z46 z47 z48 z49 y93 z5a z8i z8j z8k z8l z8m z8n z8o z8p z8q z8r z8s z8t z8u z8v z8w z8x z8y z5b z5c z5d z5e z5f z5g z5h Sz Sy z8z z80 z81 z82 z83 z84 z85 z86 z87 z88 z89 z9a z9b S6 S5 S8 S7 Tb at0 at1 at2 z5j m9 S0 init Option.map_some Option.bind_some List.map_cons List.map_nil List.length_cons List.length_nil List.replicate_succ List.replicate_zero List.cons_append List.nil_append List.getElem?_cons_zero List.getElem?_cons_succ List.set_cons_zero List.set_cons_succ if_true if_false decide_eq_true_eq reduceIte Bool.false_eq_true ite_true ite_false Nat.reduceSub Nat.reduceAdd Nat.reduceLeDiff Nat.zero_add Nat.le_refl Int.reduceLT Int.reduceLE Int.reduceNeg true_and and_true true_or or_true false_and and_false false_or or_false not_true_eq_false not_false_eq_true decide_true decide_false Bool.not_true Bool.not_false String.reduceEq Nat.reduceEqDiff y5a z5o z5p z9c z9d Int.reduceToNat Int.reducePow Nat.reduceLT KA KC Int.reduceEq Int.reduceMod Int.reduceDiv Int.reduceAdd Int.reduceSub Int.reduceMul z6o z9h z9k y6f z1p z1q y42 z1x z6r z1y z6s y6m z9l z9m z9n y6n z6t z1z z6u y6p y6q y6r True.intro".splitOn " ").map fun s=>Lean.mkIdent s.toName).toArray
 `(tactic| try simp only [$[$l:ident],*])
theorem yK(n)(ns:List Int)(hk:0<=k):run K a (n+1) pH [.lst (ns.map .int),.int k]=.ok (.fr (.int (ns.getD k.toNat 0))):=by
 rw[GU];unfold C3;rw?
 by_cases h:k<ns.length
 .rw[if_pos (by simpa using h),Z8 hk]
  have e:(ns.map W.int)[k.toNat]?=some (.int (ns.getD k.toNat 0)):=by
   grind
  rw[e];rw?
 grind
theorem JI{i:Nat}{b:List S->SR}(I:Nat->List S->Prop):∀(ws:List W)(k:Nat)(e:List S),I k e->(∀(j:Nat)(w:W)(e:List S),w∈ws->I j e->∃e',b (e.set i (.fr w))=.nx e'/\I (j+1) e')->∃e',dH i b ws e=.nx e'/\I (k+ws.length) e'
 |[],k,e,h0,_=>⟨e,rfl,h0⟩
 |w::ws,k,e,h0,h=>by
  obtain⟨e1,C,h2⟩:=h k w e (by simp) h0;obtain⟨e2,h3,h4⟩:=JI I ws (k+1) e1 h2 λj u e hu=>h j u e (by simp[hu])
  grind [Jf,Il]
noncomputable def mX(c k:Int):Int:=((c+7919*k)*48271%2147483647*((c+7919*k)*48271%2147483647)+7*((c+7919*k)*48271%2147483647)+k)%2147483629
theorem DK(n)(c k):run K a (n+1) vn [.int c,.int k]=.ok (.fr (.int (mX c k))):=by
 rw[He];unfold Dn;rw?;rw[if_pos (by omega)];rfl
noncomputable def aA(bs:List Bool):W:=.tup (bs.map .bl)
noncomputable abbrev Pr:=List Bool×Nat
structure Mc where
 m:Nat
 wide:Nat
 af:List (List Pr)
structure Mc.Og(c:Mc):Prop where
 gJ:c.m<=3
 wg:c.wide<=40
 pos:0<c.af.length
 mo:c.af.length<=700
 st:∀s∈c.af,s.length=2^c.m
 pr:∀s∈c.af,∀p∈s,p.1.length=c.wide/\p.2<c.af.length
structure Mc.Ok(c:Mc):Prop extends c.Og where
 wd:c.wide<=12
 most:c.af.length<=20
noncomputable def ow(b:Bool):Nat:=if b=true then 1 else 0
noncomputable def bM(row:List Bool):Nat:=row.foldl (λn b=>2*n+ow b) 0
theorem VF(r)(b):bM (r++[b])=2*bM r+ow b:=by
 grind [bM]
theorem OX:∀(r:List Bool)(n:Nat),r.foldl (λn b=>2*n+ow b) n<(n+1)*2^r.length
 |[],n=>by simp
 |b::r,n=>by
  have ih:=OX r (2*n+ow b)
  grind [ow,Nat.mul_comm,Nat.mul_assoc]
theorem JJ(r):bM r<2^r.length:=by
 have:=OX r 0;rw[w1w,Nat.one_mul]at this;exact this
noncomputable def Mc.at(c:Mc)(s:Nat)(row:List Bool):Pr:=(c.af.getD s []).getD (bM row) ([],0)
noncomputable def Mc.step(c:Mc)(q:List (List Bool)×Nat)(row:List Bool):List (List Bool)×Nat:=(q.1++[(c.at q.2 row).1],(c.at q.2 row).2)
noncomputable def Mc.go(c:Mc)(rows:List (List Bool)):List (List Bool)×Nat:=rows.foldl c.step ([],0)
theorem Mc.Og.state{c:Mc}(h:c.Og)(hs:s<c.af.length):c.af.getD s []∈c.af/\c.af[s]?=some (c.af.getD s []):=by
 grind
theorem Mc.Og.pair{c:Mc}(h:c.Og)(hs:s<c.af.length)(hr:row.length=c.m):(c.af.getD s [])[bM row]?=some (c.at s row)/\(c.at s row).1.length=c.wide/\(c.at s row).2<c.af.length:=by
 obtain⟨C,_⟩:=h.state hs;have hl:=h.st _ C;have hn:bM row<(c.af.getD s []).length:=by grind [JJ]
 have e:c.at s row=(c.af.getD s [])[bM row]:=by unfold Mc.at;grind
 rw[e];exact⟨w0j hn,h.pr _ C _ (w1h hn)⟩
theorem OY(c:Mc)(rs)(r):c.go (rs++[r])=c.step (c.go rs) r:=by
 grind [Mc.go]
theorem Bf{l:List α}(h):l.take (j+1)=l.take j++[l[j]]:=by
 simp_all
theorem z9p{c:Mc}(h:c.Og):∀(rs:List (List Bool)),(∀r∈rs,r.length=c.m)->(c.go rs).2<c.af.length/\(c.go rs).1.length=rs.length/\∀t∈(c.go rs).1,t.length=c.wide:=by
 intro rs hr
 have key:∀j,j<=rs.length->(c.go (rs.take j)).2<c.af.length/\(c.go (rs.take j)).1.length=j/\∀t∈(c.go (rs.take j)).1,t.length=c.wide:=by
  intro j
  induction j with
  |zero=>intro _;exact⟨h.pos,rfl,λt ht=>by cases ht⟩
  |succ j ih=>
   intro hj;obtain⟨i1,i2,i3⟩:=ih (by omega);have K5:j<rs.length:=by omega
   rw[Bf K5,OY];obtain⟨_,p2,p3⟩:=h.pair i1 (hr rs[j] (w1h K5));refine⟨p3,by simp[Mc.step,i2],λt ht=>?_⟩
   rcases w1d.mp ht with z|z
   .exact i3 t z
   .rw[w0t.mp z];exact p2
 have:=key rs.length (w0c _)
 rwa [List.take_length]at this
theorem Y5{v:Int}(C:0<base)(h2:base<=size)(h3:0<=goal)(h4:goal<base):0<(size-1-goal) / base+1/\0<=goal+base*(v%((size-1-goal) / base+1))/\goal+base*(v%((size-1-goal) / base+1))<size:=by
 have q0:0<=(size-1-goal) / base:=Int.ediv_nonneg (by omega) (by omega);have q1:base*((size-1-goal) / base)<=size-1-goal:=Int.mul_ediv_self_le (by omega);generalize (size-1-goal) / base=q at q0 q1;have t0:0<=v%(q+1):=w2f _ (by omega);have t1:v%(q+1)<q+1:=w2d _ (by omega);generalize v%(q+1)=t at t0 t1;have m0:0<=base*t:=Int.mul_nonneg (by omega) t0;have m1:base*t<=base*q:=w2a (by omega) (by omega)
 grind
theorem Jl:∀(l:List Bool)(n:Nat),l.foldl (λn b=>2*n+ow b) n=n*2^l.length+l.foldl (λn b=>2*n+ow b) 0
 |[],n=>by simp
 |b::l,n=>by
  rw[w1j,w1j,Jl l (2*n+ow b),Jl l (2*0+ow b),w1g,Nat.pow_succ]
  grind
theorem VG(b)(l):bM (b::l)=ow b*2^l.length+bM l:=by
 grind [bM,Jl]
theorem MY(n)(c)(m:Nat)(hm:m<=1000):∃(bs:List Bool)(q:Int),run K a (n+1) su [.int c,.int (m:Int)]=.ok (.fr (aA bs))/\bs.length=m/\c=(bM bs:Int)+2^m*q:=by
 rw[Hw];unfold Dv;rw?;rw[if_pos (t_ (by omega) (by omega))];rw?
 obtain⟨e',h2,bs,c',z,rfl,hl,hb⟩:=A_ (b:=Ht K a (run K a n)) (i:=3) (lo:=0) (hi:=(m:Int)) m (by omega) (λj e=>∃(bs:List Bool)(c':Int)(z:S),e=[.fr (.int c'),.fr (.int (m:Int)),.own none (bs.map .bl),z]/\bs.length=j/\c=(bM bs.reverse:Int)+2^j*c') [.fr (.int c),.fr (.int (m:Int)),.own none [],.no] ⟨[],_,_,rfl,rfl,by simp[bM]⟩ (by
  rintro j e hj ⟨bs,c',z,rfl,hl,hb⟩;unfold Ht;rw?;rw[if_pos (by grind)];rw?;refine⟨_,rfl,bs++[decide (c'%2=1)],_,_,by rw[w0g];rfl,by simp[hl],?_⟩;rw[List.reverse_append,List.reverse_singleton,List.singleton_append,VG,List.length_reverse,hl,hb]
  have e:c'=2*(c' / 2)+(ow (decide (c'%2=1)):Int):=by
   unfold ow
   grind
  grind)
 rw[h2];rw?;exact⟨bs.reverse,c',by rw[<- List.map_reverse];rfl,by simpa using hl,hb⟩
theorem NU(n)(c)(m:Nat)(hm:m<=1000):∃bs:List Bool,run K a (n+1) su [.int c,.int (m:Int)]=.ok (.fr (.tup (bs.map .bl)))/\bs.length=m:=by
 obtain⟨bs,_,C,h2,_⟩:=MY (K:=K) (a:=a) n c m hm;exact⟨bs,C,h2⟩
theorem VH(n k m:Nat)(hm:m<=1000)(hk:k<2^m):∃bs:List Bool,run K a (n+1) su [.int (k:Int),.int (m:Int)]=.ok (.fr (aA bs))/\bs.length=m/\bM bs=k:=by
 obtain⟨bs,q,C,h2,h3⟩:=MY (K:=K) (a:=a) n k m hm;refine⟨bs,C,h2,?_⟩;have hb:=JJ bs;rw[h2]at hb;have hP:((2^m:Nat):Int)=2^m:=by simp
 generalize 2^m=P at hb hk hP;rw[<- hP]at h3;rcases Int.lt_trichotomy q 0 with z|z|z
 .have:(P:Int)*q<=(P:Int)*(-1):=w2a (by omega) (by omega);omega
 .rw[z]at h3;omega
 .have:(P:Int)*1<=(P:Int)*q:=w2a (by omega) (by omega);omega
theorem U6(n)(ns:List Int)(p:Nat)(m:Nat)(hm:m<=12):∃rs:List (List Bool),run K a (n+2) vk [.lst (ns.map .int),.int (p:Int),.int (m:Int)]=.ok (.own none (rs.map aA))/\(∀r∈rs,r.length=m)/\rs.length<=100:=by
 have fin:∀(c q:Int),0<=q->q<=100->∃rs:List (List Bool),((au (gZ 6 m9 (ab (ae 5) ah)
  (CY K a (run K a (n+1))))
  (iN 3)) [.fr (.lst (ns.map .int)),.fr (.int (p:Int)),.fr (.int (m:Int)),.own none [],.fr (.int c),.fr (.int q),.no]).fn=.ok (.own none (rs.map aA))/\(∀r∈rs,r.length=m)/\rs.length<=100:=by
  intro c q h0 C;rw?;rw[if_pos (t_ (by omega) (by omega))];rw?
  obtain⟨e',k1,rs,z6,rfl,k2,k3⟩:=A_ (b:=CY K a (run K a (n+1))) (i:=6) (lo:=0) (hi:=q) q.toNat (by omega) (λj e=>∃(rs:List (List Bool))(z6:S),e=[.fr (.lst (ns.map .int)),.fr (.int (p:Int)),.fr (.int (m:Int)),.own none (rs.map aA),.fr (.int c),.fr (.int q),z6]/\rs.length=j/\∀r∈rs,r.length=m) [.fr (.lst (ns.map .int)),.fr (.int (p:Int)),.fr (.int (m:Int)),.own none [],.fr (.int c),.fr (.int q),.no] ⟨[],_,rfl,rfl,λr hr=>nomatch hr⟩ (by
   rintro j e hj ⟨rs,z6,rfl,k2,k3⟩;unfold CY;rw?;rw[yK n ns (by omega)];rw?;rw[DK n];rw?;obtain⟨row,t1,t2⟩:=NU (K:=K) (a:=a) n (mX (ns.getD ((p:Int)+1+(0+(j:Int))%12).toNat 0) (0+(j:Int))) m (by omega);rw[t1];rw?;rw[if_pos (by grind)];refine⟨_,rfl,rs++[row],_,by rw[w0g];rfl,by simp[k2],λr hr=>?_⟩
   grind)
  rw[k1];rw?
  grind
 rw[G7];unfold Dc;revert fin;rw?;intro fin;rw[yK n ns (by omega)];rw?;rw[w1f];generalize ns.getD p 0=c
 by_cases h3:c / 13%8=3
 .rw[if_pos h3];exact fin c _ (by omega) (by omega)
 .rw[if_neg h3];exact fin c _ (by omega) (by omega)
theorem MC(q):∀rs:List (List Bool),(∀r∈rs,r.length<=q)->aI (rs.map aA)=true/\aW (rs.map aA)<=1/\d_ (rs.map aA)<=(q+1)*rs.length
 |[],_=>⟨rfl,by decide,by simp[d_]⟩
 |r::rs,h=>by
  obtain⟨i1,i2,i3⟩:=MC q rs λu hu=>h u (by simp[hu])
  obtain⟨x1,x2,x3⟩:=yq r;have hr:=h r (by simp);refine⟨?_,?_,?_⟩
  .show(aI (r.map .bl)&&aI (rs.map aA))=true;rw[x1,i1];rfl
  .show max (aW (r.map .bl)+1) (aW (rs.map aA))<=1;rw[x2];omega
  .show d_ (r.map .bl)+1+d_ (rs.map aA)<=(q+1)*(rs.length+1)
   grind
theorem OZ:∀bs:List Bool,de (bs.map .bl) (bs.map .bl)=some true
 |[]=>rfl
 |b::bs=>by
  show(match i4 (.bl b) (.bl b),de (bs.map .bl) (bs.map .bl)with|some x,some y=>some (x&&y)|_,_=>none)=_;rw[OZ bs];cases b<;>rfl
theorem Ie:∀rs:List (List Bool),de (rs.map aA) (rs.map aA)=some true
 |[]=>rfl
 |r::rs=>by
  show(match i4 (aA r) (aA r),de (rs.map aA) (rs.map aA)with|some x,some y=>some (x&&y)|_,_=>none)=_;rw[Ie rs,show i4 (aA r) (aA r)=some true from OZ r];rfl
theorem Y6(rs:List (List Bool))(h:aW (rs.map aA)<=1):ne2 (.lst (rs.map aA)) (.lst (rs.map aA))=some (.bl false):=by
 unfold ne2;rw[if_pos (by show aW _+1<=150;omega)];rw[show i4 (.lst (rs.map aA)) (.lst (rs.map aA))=some true from Ie rs];rfl
theorem Tx(n)(bs:List Bool):run K a (n+1) A0 [.tup (bs.map .bl),.int (bs.length:Int)]=.ok (.fr .aG):=by
 rw[GO];unfold CZ;rw?
 grind
noncomputable def ao(p:Pr):W:=.tup [aA p.1,.int (p.2:Int)]
noncomputable def ar(s:List Pr):W:=.lst (s.map ao)
noncomputable def ag(c:Mc):W:=.tup [.int (c.m:Int),.int (c.wide:Int),.lst (c.af.map ar)]
theorem Y7(b):(if b=true then(1:Int)else 0)=((ow b:Nat):Int):=by cases b<;>rfl
theorem V3{row:List Bool}(h):((bM (row.take (j+1)):Nat):Int)=2*((bM (row.take j):Nat):Int)+((ow row[j]:Nat):Int):=by
 grind [Bf,VF]
theorem z6v{row:List Bool}(h:(row.map W.bl)[j]?=some w):∃hj:j<row.length,w=.bl row[j]:=by
 grind
theorem V4(n)(row):run K a (n+1) A3 [aA row]=.ok (.fr (.int ((bM row:Nat):Int))):=by
 rw[Hn];unfold Dh aA;rw?
 obtain⟨e',C,z,h2⟩:=Bt (b:=Hk K a (run K a n)) (i:=2) (λj e=>∃z,e=[.fr (.tup (row.map .bl)),.fr (.int ((bM (row.take j):Nat):Int)),z]) (row.map W.bl) 0 [.fr (.tup (row.map .bl)),.fr (.int 0),.no] ⟨.no,rfl⟩ (by
  rintro j w e hw ⟨z,rfl⟩;obtain⟨hj,rfl⟩:=z6v hw;unfold Hk;rw?;rw[V3 hj,<- Y7];cases row[j]
  all_goals grind)
 rw[C,h2];rw?
 grind
theorem Xj(n m:Nat)(hm:m<=100):run K a (n+1) A2 [.int (m:Int)]=.ok (.fr (.int ((2^m:Nat):Int))):=by
 rw[Hl];unfold Dg;rw?;rw[if_pos (t_ (by omega) (by omega))];rw?
 obtain⟨e',h2,z,rfl⟩:=A_ (b:=Hj K a (run K a n)) (i:=2) (lo:=0) (hi:=(m:Int)) m (by omega) (λj e=>∃z,e=[.fr (.int (m:Int)),.fr (.int ((2^j:Nat):Int)),z]) [.fr (.int (m:Int)),.fr (.int 1),.no] ⟨.no,rfl⟩ (by
  rintro j e hj ⟨z,rfl⟩;unfold Hj;rw?
  simp_all [Nat.pow_succ,Int.mul_comm])
 rw[h2];rw?
theorem Hr(n)(c:Mc)(h:s<c.af.length):run K a (n+1) xf [ag c,.int (s:Int)]=.ok (.fr (.bl true)):=by
 rw[Hu];unfold Ds ag;rw?
 grind
theorem Dq(l:List Pr):cK (l.map ao)=some (l.map λp=>(aA p.1,W.int (p.2:Int))):=by
 induction l with
 |nil=>rfl
 |cons p l ih=>
  grind [cK,ao]
theorem Jm{i j:Nat}{b:List S->SR}(I:List S->Prop):∀(ps:List (W×W))(e:List S),I e->(∀p∈ps,∀e,I e->∃e',b ((e.set i (.fr p.1)).set j (.fr p.2))=.nx e'/\I e')->∃e',d8 i j b ps e=.nx e'/\I e'
 |[],e,h,_=>⟨e,rfl,h⟩
 |p::ps,e,h,st=>by
  obtain⟨e1,C,h2⟩:=st p (by simp) e h;obtain⟨e2,h3,h4⟩:=Jm I ps e1 h2 (λq hq=>st q (by simp[hq]))
  refine⟨e2,?_,h4⟩;show(b ((e.set i (.fr p.1)).set j (.fr p.2))).dD (d8 i j b ps)=_;rw[C];exact h3
theorem pI(c):aM (ag c) (.int 0)=some (.int (c.m:Int)):=rfl
theorem ua(c):aM (ag c) (.int 1)=some (.int (c.wide:Int)):=rfl
theorem nE(c):aM (ag c) (.int 2)=some (.lst (c.af.map ar)):=rfl
theorem yC(n:Nat)(c:Mc)(J:c.Og):run K a (n+2) vp [ag c]=.ok (.fr .aG):=by
 rw[GC];unfold CT;rw?;rw[nE];rw?;rw[pI];rw?;rw[Xj n c.m (by have:=J.gJ;omega)];rw?;rw[w0a,if_neg (by have:=J.pos;omega)];rw?
 obtain⟨e',k1,z3,z4,z5,k2⟩:=JI (i:=3) (b:=GB K a (run K a (n+1))) (λ_ e=>∃z3 z4 z5,e=[.fr (ag c),.fr (.lst (c.af.map ar)),.fr (.int ((2^c.m:Nat):Int)),z3,z4,z5]) (c.af.map ar) 0 [.fr (ag c),.fr (.lst (c.af.map ar)),.fr (.int ((2^c.m:Nat):Int)),.no,.no,.no] ⟨_,_,_,rfl⟩ (by
  rintro j w e hw ⟨z3,z4,z5,rfl⟩;obtain⟨s,hs,rfl⟩:=w0k.mp hw;unfold GB;simp only[ar];rw?;rw[w0a,J.st s hs,if_neg (by simp)];rw?;rw[Dq];rw?
  obtain⟨e1,C,z4,z5,rfl⟩:=Jm (i:=4) (j:=5) (b:=GA K a (run K a (n+1))) (λe=>∃z4 z5,e=[.fr (ag c),.fr (.lst (c.af.map ar)),.fr (.int ((2^c.m:Nat):Int)),.fr (.lst (s.map ao)),z4,z5]) (s.map λp=>(aA p.1,W.int (p.2:Int))) [.fr (ag c),.fr (.lst (c.af.map ar)),.fr (.int ((2^c.m:Nat):Int)),.fr (.lst (s.map ao)),z4,z5] ⟨_,_,rfl⟩ (by
   rintro q hq e ⟨z4,z5,rfl⟩;obtain⟨p,hp,rfl⟩:=w0k.mp hq;obtain⟨p1,p2⟩:=J.pr s hs p hp;unfold GA;simp only[aA];rw?;rw[ua];rw?;rw[w0a,p1,if_neg (by simp)];rw?;rw[Hr n c p2];rw?;exact⟨_,rfl,_,_,rfl⟩)
  rw[C];exact⟨_,rfl,_,_,_,rfl⟩)
 rw[k1,k2];rfl
theorem Xk{rs:List (List Bool)}(h:(rs.map aA)[j]?=some w):∃hj:j<rs.length,w=aA rs[j]:=by
 grind
theorem sE{c:Mc}(hs:s<c.af.length):cq (c.af.map ar) (s:Int)=some (ar (c.af.getD s [])):=by
 grind [p_]
theorem z9q{c:Mc}(J:c.Og)(hs:s<c.af.length)(hr:row.length=c.m):cq ((c.af.getD s []).map ao) ((bM row:Nat):Int)=some (ao (c.at s row)):=by
 refine p_ ?_;rw[w1u,(J.pair hs hr).1];rfl
theorem NV(n)(c)(J:c.Og)(rs)(hr:∀r∈rs,r.length=c.m)(hl:rs.length<=20000):run K a (n+3) yt [ag c,.lst (rs.map aA)]=.ok (.fr (.tup [.lst ((c.go rs).1.map aA),.int ((c.go rs).2:Int)])):=by
 rw[GQ];unfold C1;rw?;rw[yC n c J];rw?
 obtain⟨e',C,z4,z5,h2⟩:=Bt (b:=GL K a (run K a (n+2))) (i:=4) (λj e=>∃z4 z5,e=[.fr (ag c),.fr (.lst (rs.map aA)),.own none ((c.go (rs.take j)).1.map aA),.fr (.int ((c.go (rs.take j)).2:Int)),z4,z5]) (rs.map aA) 0 [.fr (ag c),.fr (.lst (rs.map aA)),.own none [],.fr (.int 0),.no,.no] ⟨_,_,rfl⟩ (by
  rintro j w e hw ⟨z4,z5,rfl⟩;obtain⟨hj,rfl⟩:=Xk hw;rw[w1w]at *;have K_:=hr rs[j] (w1h hj);obtain⟨g1,g2,g3⟩:=z9p J (rs.take j) λr h=>hr r (w3p h)
  rw[List.length_take]at g2;unfold GL;simp only[aA];rw?;rw[pI,<- K_];rw?;rw[Tx (n+1) rs[j]];rw?;rw[nE];rw?;rw[sE g1];simp only[ar];rw?;have nr:=V4 (K:=K) (a:=a) (n+1) rs[j];unfold aA at nr;rw[nr];rw?;rw[z9q J g1 K_];simp only[ao];rw?;rw[if_pos (by grind)];rw?;refine⟨_,rfl,.fr (aA rs[j]),.fr (ao (c.at (c.go (List.take j rs)).snd rs[j])),?_⟩;rw[Bf hj,OY];simp only[Mc.step,w0g,w0p,w2i];rfl)
 rw[C,h2];rw?
 grind
theorem Uk(n)(c)(J:c.Og)(rs)(hr:∀r∈rs,r.length=c.m)(hl:rs.length<=20000):run K a (n+4) m6 [ag c,.lst (rs.map aA)]=.ok (.fr (.lst ((c.go rs).1.map aA))):=by
 rw[Hy];unfold DC;rw?;rw[NV n c J rs hr hl];rw?
theorem UN(n)(c)(J:c.Og)(rs)(hr:∀r∈rs,r.length=c.m)(hl:rs.length<=20000):run K a (n+4) qV [ag c,.lst (rs.map aA)]=.ok (.fr (.int ((c.go rs).2:Int))):=by
 rw[GP];unfold C0;rw?;rw[NV n c J rs hr hl];rw?
theorem Qs(b)(m:Nat)(h:m<=100):kD (.lst [.bl b]) (.int (m:Int))=some (.lst ((List.replicate m b).map .bl)):=by
 rw[JR,if_pos ⟨t_ (by omega) (by omega),by simp;omega⟩,w1f]
 simp_all
theorem QY{m:Nat}(h:m<=3):cq [W.int 1,.int 2,.int 4,.int 8] (m:Int)=some (.int ((2^m:Nat):Int)):=by
 have:m=0\/m=1\/m=2\/m=3:=by omega
 rcases this with rfl|rfl|rfl|rfl<;>rfl
theorem MD(n m:Nat)(h:m<=3):run K a (n+1) vt [.int (m:Int)]=.ok (.fr (.int ((2^m:Nat):Int))):=by
 rw[GV];unfold C4;rw?;rw[QY h];rw?
noncomputable def posK:List Kx->Kx->Nat
 |[],_=>0
 |k::l,x=>if k=x then 0 else posK l x+1
theorem Jn:∀{l:List Kx},x∈l->l[posK l x]?=some x
 |[],h=>nomatch h
 |k::l,h=>by
  unfold posK
  by_cases e:k=x
  .rw[if_pos e,e];rfl
  .rw[if_neg e,w0x];exact Jn ((w0m.mp h).resolve_left λz=>e z.symm)
theorem O0(h:x∈l):posK l x<l.length:=(w0b.mp (Jn h)).1
theorem Jo:∀{l:List Kx},x∈l->posK (l++m) x=posK l x
 |[],h=>nomatch h
 |k::l,h=>by
  show(if k=x then 0 else posK (l++m) x+1)=(if k=x then 0 else posK l x+1)
  by_cases e:k=x
  .rw[if_pos e,if_pos e]
  .rw[if_neg e,if_neg e,Jo ((w0m.mp h).resolve_left λz=>e z.symm)]
theorem NW:∀{l:List Kx},x∉l->posK (l++[x]) x=l.length
 |[],_=>by show(if x=x then 0 else _)=0;rw[if_pos rfl]
 |k::l,h=>by
  show(if k=x then 0 else posK (l++[x]) x+1)=l.length+1;rw[if_neg (λe=>h (by simp[e])),NW (λz=>h (by simp[z]))]
theorem Xl(hx:x∈l)(hy:y∈l)(h:posK l x=posK l y):x=y:=by
 grind [Jn]
noncomputable def ez(o:Nat):Nat->List W
 |0=>[]
 |n+1=>.int (o:Int)::ez (o+1) n
theorem MZ:∀(n o:Nat),ez o n++[.int ((o+n:Nat):Int)]=ez o (n+1)
 |0,o=>rfl
 |n+1,o=>by
  show W.int (o:Int)::(ez (o+1) n++[W.int ((o+(n+1):Nat):Int)])=W.int (o:Int)::ez (o+1) (n+1);rw[show o+(n+1)=(o+1)+n by omega,MZ n (o+1)]
theorem Ea:∀(l:List Kx)(o:Nat),ja l (ez o l.length) x=if x∈l then some (.int ((o+posK l x:Nat):Int))else none
 |[],o=>by rw[if_neg (by simp)];rfl
 |k::l,o=>by
  show(if k=x then some (W.int (o:Int))else ja l (ez (o+1) l.length) x)=_
  by_cases e:k=x
  .simp_all [posK]
  .rw[if_neg e,Ea l (o+1),show posK (k::l) x=posK l x+1 from if_neg e]
   grind
noncomputable def cI(l:List Kx)(x:Kx):List Kx:=if x∈l then l else l++[x]
theorem Xm(l)(x):∃m,cI l x=l++m:=by
 unfold cI;split
 all_goals simp_all
theorem O1(l)(x):x∈cI l x:=by
 grind [cI]
theorem WX(l:List Kx)(x:Kx):(cI l x).length<=l.length+1:=by
 unfold cI;split<;>simp
theorem Jp:∀(xs l:List Kx),∃m,xs.foldl cI l=l++m
 |[],l=>⟨[],by simp⟩
 |x::xs,l=>by
  obtain⟨m1,C⟩:=Xm l x;obtain⟨m2,h2⟩:=Jp xs (cI l x)
  grind
theorem Bl:∀(xs l:List Kx),∀x∈xs,x∈xs.foldl cI l
 |[],_,_,h=>nomatch h
 |y::xs,l,x,h=>by
  rw[w1j];rcases w0m.mp h with rfl|h
  .obtain⟨m,e⟩:=Jp xs (cI l x)
   grind [O1]
  .exact Bl xs _ x h
theorem f6:∀(xs l:List Kx),(xs.foldl cI l).length<=l.length+xs.length
 |[],l=>by simp
 |x::xs,l=>by
  rw[w1j];have:=f6 xs (cI l x)
  grind [WX]
noncomputable def oN(ks:List Nat)(p:Pr):Kx:=.tup [.tup (p.1.map .bl),.int ((ks.getD p.2 0:Nat):Int)]
noncomputable def stK(ks:List Nat)(s:List Pr):Kx:=.tup (s.map (oN ks))
noncomputable def fin(c:Mc)(ks:List Nat):List Nat:=c.af.map λs=>posK ((c.af.map (stK ks)).foldl cI []) (stK ks s)
theorem Y8(c)(ks):(fin c ks).length=c.af.length:=by simp[fin]
theorem O2{c:Mc}(h:i<c.af.length):(fin c ks).getD i 0=posK ((c.af.map (stK ks)).foldl cI []) (stK ks (c.af.getD i [])):=by
 unfold fin;simp[List.getD,h]
theorem fE{c:Mc}(h:i<c.af.length):c.af.getD i []∈c.af:=by
 grind
theorem z6w(hi:i<c.af.length)(hj:j<c.af.length):(fin c ks).getD i 0=(fin c ks).getD j 0↔stK ks (c.af.getD i [])=stK ks (c.af.getD j []):=by
 rw[O2 hi,O2 hj];refine⟨λh=>Xl (Bl _ _ _ (w1z (fE hi))) (Bl _ _ _ (w1z (fE hj))) h,λh=>by rw[h]⟩
theorem z6x:∀k∈fin c ks,k<c.af.length:=by
 intro k hk;unfold fin at hk;obtain⟨s,hs,rfl⟩:=w0k.mp hk;have C:=O0 (Bl (c.af.map (stK ks)) [] _ (w1z hs))
 grind [f6]
noncomputable def cH(c:Mc):Nat->List Nat
 |0=>List.replicate c.af.length 0
 |t+1=>fin c (cH c t)
theorem sy(c):∀t,(cH c t).length=c.af.length
 |0=>w1n
 |t+1=>Y8 c _
theorem Eu(h:0<c.af.length):∀t,∀k∈cH c t,k<c.af.length
 |0,k,hk=>by
  have:=w2j hk;omega
 |t+1,k,hk=>z6x k hk
noncomputable def kd(c:Mc)(t i:Nat):Nat:=(cH c t).getD i 0
noncomputable def told(c:Mc)(i r:Nat):List Bool:=((c.af.getD i []).getD r ([],0)).1
noncomputable def jB(c:Mc)(i r:Nat):Nat:=((c.af.getD i []).getD r ([],0)).2
theorem qY(J:c.Og)(hi:i<c.af.length)(hr:r<2^c.m):jB c i r<c.af.length:=by
 have hs:=fE hi;have hl:=J.st _ hs;unfold jB;have r_:r<(c.af.getD i []).length:=by omega
 have e:(c.af.getD i []).getD r ([],0)=(c.af.getD i [])[r]:=by grind
 rw[e];exact(J.pr _ hs _ (w1h r_)).2
theorem xl(c)(i):kd c 0 i=0:=by
 grind [kd,cH]
theorem Y9{q:Q.Pr}:oN ks p=oN ks q↔p.1=q.1/\ks.getD p.2 0=ks.getD q.2 0:=by
 grind [oN,List.map_inj_right]
theorem Bm(J:c.Og)(hi:i<c.af.length)(hj:j<c.af.length):kd c (t+1) i=kd c (t+1) j↔∀r,r<2^c.m->told c i r=told c j r/\kd c t (jB c i r)=kd c t (jB c j r):=by
 show(fin c (cH c t)).getD i 0=(fin c (cH c t)).getD j 0↔_;rw[z6w hi hj];have l1:=J.st _ (fE hi);have l2:=J.st _ (fE hj);unfold stK told jB kd;generalize c.af.getD i []=s at l1;generalize c.af.getD j []=s' at l2
 have key:∀(s s':List Pr),s.length=s'.length->(s.map (oN (cH c t))=s'.map (oN (cH c t))↔∀r,r<s.length->oN (cH c t) (s.getD r ([],0))=oN (cH c t) (s'.getD r ([],0))):=by
  intro s s' hl;constructor
  .intro h r hr;have z:=congrArg (λl=>l[r]?) h
   grind
  .intro h;apply w1q
   grind
 grind [Y9]
theorem Ig{c:Mc}(J:c.Og):∀(t:Nat){i j:Nat},i<c.af.length->j<c.af.length->kd c (t+1) i=kd c (t+1) j->kd c t i=kd c t j
 |0,i,j,_,_,_=>by rw[xl,xl]
 |t+1,i,j,hi,hj,h=>by
  rw[Bm J hi hj]at h |-
  exact λr hr=>⟨(h r hr).1,Ig J t (qY J hi hr) (qY J hj hr) (h r hr).2⟩
theorem O3:∀x y:List Bool,de (x.map .bl) (y.map .bl)=some (decide (x=y))
 |[],[]=>rfl
 |[],_::_=>rfl
 |_::_,[]=>rfl
 |a::x,b::y=>by
  show(match i4 (.bl a) (.bl b),de (x.map .bl) (y.map .bl)with|some p,some q=>some (p&&q)|_,_=>none)=_;rw[O3 x y];show some ((a==b)&&decide (x=y))=_;congr 1
  grind
theorem qZ(p):aM (ao p) (.int 0)=some (aA p.1):=rfl
theorem sC(p):aM (ao p) (.int 1)=some (.int (p.2:Int)):=rfl
noncomputable def aN(c:Mc)(i r:Nat):Pr:=(c.af.getD i []).getD r ([],0)
theorem NX(n)(z0 z1 z2 z4 z5 z8 lK lg)(kinds k num goal size base)(C:0<base)(h2:base<=size)(h3:size<=20)(h4:0<=goal)(h5:goal<base)(st)(hl:st.length<=100)(bs:List Bool):
  ∃p:Pr,∃z,p.1.length=bs.length/\(p.2:Int)<size/\n8 K a (run K a (n+2)) [z0,z1,z2,.fr (.int kinds),z4,z5,.fr (.int size),.fr (.int base),z8,.fr (.int k),.own none (st.map ao),.fr (.int num),lK,.fr (.lst (bs.map .bl)),.fr (.int goal),lg] =
   .nx [z0,z1,z2,.fr (.int kinds),z4,z5,.fr (.int size),.fr (.int base),z8,.fr (.int k),.own none ((st++[p]).map ao),.fr (.int num),lK,.fr (.lst (bs.map .bl)),.fr (.int goal),z]:=by
 have t:=Y5 (size:=size) (base:=base) (goal:=goal) (v:=mX (kinds+k) num) C h2 h4 h5;unfold n8;rw?;rw[DK (n+1)];rw?;rw[if_pos ⟨C,by omega⟩,if_pos t.1,if_pos (.inl ⟨by omega,by omega⟩),if_pos (by grind)];obtain⟨q,hq⟩:∃q:Nat,goal+base*(mX (kinds+k) num%((size-1-goal) / base+1))=(q:Int):=⟨(goal+base*(mX (kinds+k) num%((size-1-goal) / base+1))).toNat,by have:=t.2.1;omega⟩;have t3:=t.2.2;rw[hq]at t3;refine⟨(bs,q),.fr (.int (mX (kinds+k) num%((size-1-goal) / base+1))),rfl,t3,?_⟩;rw[hq,w0g];rfl
theorem NY(n:Nat)(z0 z1 z2 z4 z8 nj lg:S)(wide:Nat)(hw:wide<=12)(kinds k left size base:Int)(num:Nat)(C:0<base)(h2:base<=size)(h3:size<=20)(st:List Pr)(hl:st.length<=100)(bs:List Bool)(hb:bs.length=wide):
  ∃p:Pr,∃oj xV xW,p.1.length=wide/\(p.2:Int)<size/\nR K a (run K a (n+2)) [z0,z1,z2,.fr (.int kinds),z4,.fr (.int (wide:Int)),.fr (.int size),.fr (.int base),z8,.fr (.int k),.own none (st.map ao),.fr (.int (num:Int)),.fr (.int left),.fr (.lst (bs.map .bl)),nj,lg] =
   .nx [z0,z1,z2,.fr (.int kinds),z4,.fr (.int (wide:Int)),.fr (.int size),.fr (.int base),z8,.fr (.int k),.own none ((st++[p]).map ao),.fr (.int (num:Int)),.fr (.int left),oj,xV,xW]:=by
 have g0:=w2f (left / 64) (show base≠0 by omega);have g1:=w2d (left / 64) C;unfold nR;rw?;rw[if_pos C];rw?
 by_cases J:kinds%3=1
 .rw[if_pos J,if_pos C];rw?;rw[Qs _ _ (by omega)];rw?;rw[if_pos C];have k0:=w2f k (show base≠0 by omega);have k1:=w2d k C
  have gg:∃g:Int,cq [W.int (if base-1<k%base+1 then base-1 else k%base+1),W.int 0] (if 1<(num:Int)then 1 else(num:Int))=some (.int g)/\0<=g/\g<base:=by
   by_cases q:num=0
   .subst q;refine⟨_,rfl,?_,?_⟩<;>split<;>omega
   .have e:(if 1<(num:Int)then 1 else(num:Int))=1:=by split<;>omega
    rw[e];exact⟨0,rfl,by omega,by omega⟩
  obtain⟨g,e1,e2,e3⟩:=gg;rw[e1];rw?;obtain⟨p,z,p1,p2,p3⟩:=NX (K:=K) (a:=a) n z0 z1 z2 z4 (.fr (.int (wide:Int))) z8 (.fr (.int left)) lg kinds k (num:Int) g size base C h2 h3 e2 e3 st hl (List.replicate wide (decide (k%base=base-1)));exact⟨p,_,_,z,by rw[p1,w1n],p2,p3⟩
 .rw[if_neg J];rw?;obtain⟨p,z,p1,p2,p3⟩:=NX (K:=K) (a:=a) n z0 z1 z2 z4 (.fr (.int (wide:Int))) z8 (.fr (.int left)) lg kinds k (num:Int) (left / 64%base) size base C h2 h3 g0 g1 st hl bs;exact⟨p,_,_,z,by rw[p1,hb],p2,p3⟩
theorem WY(n:Nat)(ns:List Int)(p:Nat)(z2 z4 z8 lK oj nj lg:S)(wide:Nat)(hw:wide<=12)(kinds k size base:Int)(num:Nat)(C:0<base)(h2:base<=size)(h3:size<=20)(st:List Pr)(hl:st.length<=100):
  ∃q:Pr,∃Kj Kl xV xW,q.1.length=wide/\(q.2:Int)<size/\CG K a (run K a (n+2)) [.fr (.lst (ns.map .int)),.fr (.int (p:Int)),z2,.fr (.int kinds),z4,.fr (.int (wide:Int)),.fr (.int size),.fr (.int base),z8,.fr (.int k),.own none (st.map ao),.fr (.int (num:Int)),lK,oj,nj,lg] =
   .nx [.fr (.lst (ns.map .int)),.fr (.int (p:Int)),z2,.fr (.int kinds),z4,.fr (.int (wide:Int)),.fr (.int size),.fr (.int base),z8,.fr (.int k),.own none ((st++[q]).map ao),.fr (.int (num:Int)),Kj,Kl,xV,xW]:=by
 have k0:=w2f k (show base≠0 by omega);unfold CG;rw?;rw[if_pos C];rw?;rw[yK (n+1) ns (by omega)];rw?;rw[if_pos C];rw?;rw[DK (n+1)];rw?;rw[Qs _ _ (by omega)];rw?;generalize mX _ _=left
 by_cases J:left%4=0
 .rw[if_pos J];obtain⟨bs,b1,b2⟩:=NU (K:=K) (a:=a) (n+1) (left / 4) wide (by omega);rw[b1];rw?;obtain⟨q,qe,qf,qg,q1,q2,q3⟩:=NY (K:=K) (a:=a) n (.fr (.lst (ns.map .int))) (.fr (.int (p:Int))) z2 z4 z8 nj lg wide hw kinds k left size base num C h2 h3 st hl bs b2;exact⟨q,_,qe,qf,qg,q1,q2,q3⟩
 .rw[if_neg J];rw?;obtain⟨q,qe,qf,qg,q1,q2,q3⟩:=NY (K:=K) (a:=a) n (.fr (.lst (ns.map .int))) (.fr (.int (p:Int))) z2 z4 z8 nj lg wide hw kinds k left size base num C h2 h3 st hl (List.replicate wide false) w1n;exact⟨q,_,qe,qf,qg,q1,q2,q3⟩
theorem V5(n)(ns:List Int)(p:Nat)(z2 mB qh lK oj nj lg)(m wide:Nat)(hm:m<=3)(hw:wide<=12)(kinds k size base)(C:0<base)(h2:base<=size)(h3:size<=20)(sts)(hl:sts.length<=100):
  ∃s:List Pr,∃EH yY vS qe qf qg,s.length=2^m/\(∀q∈s,q.1.length=wide/\(q.2:Int)<size)/\CJ K a (run K a (n+2)) [.fr (.lst (ns.map .int)),.fr (.int (p:Int)),z2,.fr (.int kinds),.fr (.int (m:Int)),.fr (.int (wide:Int)),.fr (.int size),.fr (.int base),.own none (sts.map ar),.fr (.int k),mB,qh,lK,oj,nj,lg] =
   .nx [.fr (.lst (ns.map .int)),.fr (.int (p:Int)),z2,.fr (.int kinds),.fr (.int (m:Int)),.fr (.int (wide:Int)),.fr (.int size),.fr (.int base),.own none ((sts++[s]).map ar),.fr (.int k),EH,yY,vS,qe,qf,qg]:=by
 have hp:2^m<=2^3:=w1b (by decide) hm;have R9:(2:Nat)^3=8:=rfl;unfold CJ;rw?;rw[MD (n+1) m hm];generalize hR:2^m=R at hp;rw?;rw[if_pos (t_ (by omega) (by omega))];rw?
 obtain⟨e',h4,s,yY,vS,qe,qf,qg,rfl,s1,s2⟩:=A_ (b:=CG K a (run K a (n+2))) (i:=11) (lo:=0) (hi:=(R:Int)) R (by omega) (λj e=>∃(s:List Pr)(qh lK oj nj lg:S),e=[.fr (.lst (ns.map .int)),.fr (.int (p:Int)),z2,.fr (.int kinds),.fr (.int (m:Int)),.fr (.int (wide:Int)),.fr (.int size),.fr (.int base),.own none (sts.map ar),.fr (.int k),.own none (s.map ao),qh,lK,oj,nj,lg]/\s.length=j/\∀q∈s,q.1.length=wide/\(q.2:Int)<size)
  [.fr (.lst (ns.map .int)),.fr (.int (p:Int)),z2,.fr (.int kinds),.fr (.int (m:Int)),.fr (.int (wide:Int)),.fr (.int size),.fr (.int base),.own none (sts.map ar),.fr (.int k),.own none [],qh,lK,oj,nj,lg] ⟨[],qh,lK,oj,nj,lg,rfl,rfl,λq hq=>nomatch hq⟩ (by
  rintro j e hj ⟨s,qh,lK,oj,nj,lg,rfl,s1,s2⟩;rw[Int.zero_add];obtain⟨q,vS,qe,qf,qg,q1,q2,q3⟩:=WY (K:=K) (a:=a) n ns p z2 (.fr (.int (m:Int))) (.own none (sts.map ar)) lK oj nj lg wide hw kinds k size base j C h2 h3 s (by omega);refine⟨_,q3,s++[q],_,vS,qe,qf,qg,rfl,by simp[s1],λx hx=>?_⟩
  grind)
 rw[h4];rw?;rw[if_pos (by grind)];refine⟨s,.fr (.lst (s.map ao)),yY,vS,qe,qf,qg,s1,s2,?_⟩;rw[w0g];rfl
theorem O4(n)(ns:List Int)(p:Nat)(z2)(m wide size:Nat)(hm:m<=3)(hw:wide<=12)(kinds)(h0:0<size)(h3:size<=20):
  ∃c:Mc,c.Ok/\(rJ K a (run K a (n+2)) [.fr (.lst (ns.map .int)),.fr (.int (p:Int)),z2,.fr (.int kinds),.fr (.int (m:Int)),.fr (.int (wide:Int)),.fr (.int (size:Int)),.no,.no,.no,.no,.no,.no,.no,.no,.no]).fn=.ok (.fr (ag c))/\c.m=m:=by
 have b0:=w2f (kinds / 24) (show(size:Int)≠0 by omega);have b1:=w2d (kinds / 24) (show(0:Int)<(size:Int) by omega);obtain⟨base,hb⟩:∃b:Int,(size:Int)-kinds / 24%(size:Int)=b:=⟨_,rfl⟩;unfold rJ;rw?;rw[if_pos (show(0:Int)<(size:Int) by omega)];rw?;rw[hb,if_pos (t_ (by omega) (by omega))];rw?
 obtain⟨e',h4,sts,y9,EH,yY,vS,qe,qf,qg,rfl,s1,s2⟩:=A_ (b:=CJ K a (run K a (n+2))) (i:=9) (lo:=0) (hi:=(size:Int)) size (by omega) (λj e=>∃(sts:List (List Pr))(z9 mB qh lK oj nj lg:S),e=[.fr (.lst (ns.map .int)),.fr (.int (p:Int)),z2,.fr (.int kinds),.fr (.int (m:Int)),.fr (.int (wide:Int)),.fr (.int (size:Int)),.fr (.int base),.own none (sts.map ar),z9,mB,qh,lK,oj,nj,lg]/\sts.length=j/\∀s∈sts,s.length=2^m/\∀q∈s,q.1.length=wide/\(q.2:Int)<(size:Int))
  [.fr (.lst (ns.map .int)),.fr (.int (p:Int)),z2,.fr (.int kinds),.fr (.int (m:Int)),.fr (.int (wide:Int)),.fr (.int (size:Int)),.fr (.int base),.own none [],.no,.no,.no,.no,.no,.no,.no] ⟨[],_,_,_,_,_,_,_,rfl,rfl,λq hq=>nomatch hq⟩ (by
  rintro j e hj ⟨sts,z9,mB,qh,lK,oj,nj,lg,rfl,s1,s2⟩;obtain⟨s,EH,yY,vS,qe,qf,qg,q1,q2,q3⟩:=V5 (K:=K) (a:=a) n ns p z2 mB qh lK oj nj lg m wide hm hw kinds (0+(j:Int)) (size:Int) base (by omega) (by omega) (by omega) sts (by omega);refine⟨_,q3,sts++[s],_,EH,yY,vS,qe,qf,qg,rfl,by simp[s1],λx hx=>?_⟩
  grind)
 rw[h4];rw?;refine⟨⟨m,wide,sts⟩,⟨⟨hm,by show wide<=40;omega,by grind,by grind,λs hs=>(s2 s hs).1,λs hs q hq=>⟨((s2 s hs).2 q hq).1,?_⟩⟩,hw,by grind⟩,rfl,rfl⟩
 grind
theorem B_(h0:0<=j)(C:j<8)(hx:0<=x)(hx2:x<9):∃w:Nat,cq [W.int 1,.int 2,.int 1,.int 0,.int 3,.int (4+x),.int 2,.int 1] j=some (.int (w:Int))/\w<=12:=by
 have:j=0\/j=1\/j=2\/j=3\/j=4\/j=5\/j=6\/j=7:=by omega
 rcases this with rfl|rfl|rfl|rfl|rfl|rfl|rfl|rfl
 .exact⟨1,rfl,by omega⟩
 .exact⟨2,rfl,by omega⟩
 .exact⟨1,rfl,by omega⟩
 .exact⟨0,rfl,by omega⟩
 .exact⟨3,rfl,by omega⟩
 .refine⟨(4+x).toNat,?_,by omega⟩;rw[show(((4+x).toNat:Nat):Int)=4+x by omega];rfl
 .exact⟨2,rfl,by omega⟩
 .exact⟨1,rfl,by omega⟩
theorem Ov(n)(ns:List Int)(p:Nat)(m wide size:Nat)(hm:m<=3)(hw:wide<=12)(cell kinds)(h0:0<size)(h3:size<=12):
  ∃c:Mc,c.Ok/\(rF K a (run K a (n+2)) [.fr (.lst (ns.map .int)),.fr (.int (p:Int)),.fr (.int cell),.fr (.int kinds),.fr (.int (m:Int)),.fr (.int (wide:Int)),.fr (.int (size:Int)),.no,.no,.no,.no,.no,.no,.no,.no,.no]).fn=.ok (.fr (ag c)):=by
 have keep:=O4 (K:=K) (a:=a) n ns p (.fr (.int cell)) m wide size hm hw kinds h0 (by omega);obtain⟨sz,e1,e2,e3⟩:∃s:Nat,12+cell / 112%9=(s:Int)/\0<s/\s<=20:=⟨(12+cell / 112%9).toNat,by omega,by omega,by omega⟩;obtain⟨mm,e4,e5⟩:∃s:Nat,(m:Int)%2=(s:Int)/\s<=3:=⟨((m:Int)%2).toNat,by omega,by omega⟩;have big:=O4 (K:=K) (a:=a) n ns p (.fr (.int cell)) mm wide sz e5 hw kinds e2 e3;unfold rF;rw?
 grind
theorem E5(h0:0<=j)(C:j<4)(k0:0<=k)(k1:k<4):∃y m:Nat,cq [W.int 1,.int 1,.int 2,.int 3] k=some (.int (y:Int))/\cq [W.int 0,.int 1,.int 2,.int (y:Int)] j=some (.int (m:Int))/\m<=3:=by
 obtain⟨y,hy,Sx⟩:∃y:Nat,cq [W.int 1,.int 1,.int 2,.int 3] k=some (.int (y:Int))/\y<=3:=by
  have:k=0\/k=1\/k=2\/k=3:=by omega
  rcases this with rfl|rfl|rfl|rfl
  .exact⟨1,rfl,by omega⟩
  .exact⟨1,rfl,by omega⟩
  .exact⟨2,rfl,by omega⟩
  .exact⟨3,rfl,by omega⟩
 have:j=0\/j=1\/j=2\/j=3:=by omega
 rcases this with rfl|rfl|rfl|rfl
 .exact⟨y,0,hy,rfl,by omega⟩
 .exact⟨y,1,hy,rfl,by omega⟩
 .exact⟨y,2,hy,rfl,by omega⟩
 .exact⟨y,y,hy,rfl,Sx⟩
theorem Mr(n)(ns:List Int)(p:Nat):∃c:Mc,c.Ok/\run K a (n+3) qW [.lst (ns.map .int),.int (p:Int)]=.ok (.fr (ag c)):=by
 rw[GW];unfold C5;rw?;rw[yK (n+1) ns (by omega)];rw?;rw[yK (n+1) ns (by omega)];rw?;generalize ns.getD _ 0=cell;generalize ns.getD _ 0=kinds;obtain⟨y,m,y1,m1,m2⟩:=E5 (j:=cell%4) (k:=cell / 28%4) (by omega) (by omega) (by omega) (by omega);rw[y1];rw?;rw[m1];rw?;obtain⟨wide,w1,w2⟩:=B_ (j:=kinds / 3%8) (x:=kinds / 24%9) (by omega) (by omega) (by omega) (by omega);rw[w1];obtain⟨s,s1,s2,s3⟩:∃s:Nat,1+cell / 4%7=(s:Int)/\0<s/\s<=11:=⟨(1+cell / 4%7).toNat,by omega,by omega,by omega⟩;rw?;rw[s1]
 by_cases h6:(s:Int)=6
 .rw[if_pos h6];rw?;obtain⟨s',e1,e2,e3⟩:∃s:Nat,6+cell / 28%5=(s:Int)/\0<s/\s<=12:=⟨(6+cell / 28%5).toNat,by omega,by omega,by omega⟩
  obtain⟨mm,e4,e5⟩:∃q:Nat,(if(2:Int)<(m:Int)then(2:Int)else(m:Int))=(q:Int)/\q<=3:=by
   by_cases z:(2:Int)<(m:Int)
   .exact⟨2,by rw[if_pos z];rfl,by omega⟩
   grind
  simp_all [Ov]
 .rw[if_neg h6];rw?;exact Ov n ns p m wide s m2 w2 cell kinds s2 (by omega)
theorem xv:∀(n:Nat){l:List Nat},l.Nodup->(∀x∈l,x<n)->l.length<=n
 |0,l,_,h=>by
  cases l with
  |nil=>simp
  |cons x l=>exact absurd (h x (by simp)) (by omega)
 |n+1,l,hn,h=>by
  by_cases m:n∈l
  .have e:=List.length_erase_of_mem m
   have:=xv n (hn.erase n) (λx hx=>by
    grind)
   grind
  .have:=xv n hn (λx hx=>by
    grind)
   omega
theorem z6y{l:List Nat}(hn:l.Nodup)(h:∀x∈l,x<n)(hl:n<=l.length)(hy:y<n):y∈l:=Classical.byContradiction λz=>by
 have:=xv n (l:=y::l) (w1r.mpr ⟨z,hn⟩) (λx hx=>by
  grind)
 simp at this;omega
noncomputable def bw(l:List Nat)(x:Nat):List Nat:=if x∈l then l else l++[x]
theorem WZ(l)(x):∃m,bw l x=l++m:=by
 unfold bw;split
 all_goals simp_all
theorem Ow(l)(x):x∈bw l x:=by
 grind [bw]
theorem Y_(h:l.Nodup)(x):(bw l x).Nodup:=by
 grind [bw]
theorem DJ:∀(xs l:List Nat),∃m,xs.foldl bw l=l++m
 |[],l=>⟨[],by simp⟩
 |x::xs,l=>by
  obtain⟨m1,C⟩:=WZ l x;obtain⟨m2,h2⟩:=DJ xs (bw l x)
  grind
theorem NZ:∀(xs l:List Nat),∀x∈xs,x∈xs.foldl bw l
 |[],_,_,h=>nomatch h
 |y::xs,l,x,h=>by
  rw[w1j];rcases w0m.mp h with rfl|h
  .obtain⟨m,e⟩:=DJ xs (bw l x)
   grind [Ow]
  .exact NZ xs _ x h
theorem N0:∀(xs:List Nat){l:List Nat},l.Nodup->(xs.foldl bw l).Nodup
 |[],_,h=>h
 |x::xs,l,h=>N0 xs (Y_ h x)
theorem M0{B:Nat->Prop}:∀(xs l:List Nat),(∀x∈l,B x)->(∀x∈xs,B x)->∀x∈xs.foldl bw l,B x
 |[],_,h,_=>h
 |y::xs,l,h,g=>M0 xs (bw l y) (λx hx=>by
   grind [bw]) λx hx=>g x (by simp[hx])
theorem z6z{m:List Nat}(h:x∈l):(l++m).idxOf x=l.idxOf x:=by
 grind
theorem Qt{l:List Nat}(h:x∈l):l.idxOf x<l.length:=w2k.mpr h
theorem Qa{l:List Nat}(h:x∈l):l.getD (l.idxOf x) 0=x:=by
 grind
noncomputable def bf(g:Nat->List Pr)(b:Nat):Nat->List Nat
 |0=>[b]
 |i+1=>if i<(bf g b i).length then((g ((bf g b i).getD i 0)).map (·.2)).foldl bw (bf g b i)else bf g b i
theorem Ew(g)(b i):∃m,bf g b (i+1)=bf g b i++m:=by
 show ∃m,(if i<(bf g b i).length then((g ((bf g b i).getD i 0)).map (·.2)).foldl bw (bf g b i)else bf g b i)=_;split
 all_goals simp_all [DJ]
theorem Ox(g)(b i):∀d,∃m,bf g b (i+d)=bf g b i++m
 |0=>⟨[],by simp⟩
 |d+1=>by
  obtain⟨m1,C⟩:=Ox g b i d;obtain⟨m2,h2⟩:=Ew g b (i+d)
  grind
theorem Cb(g)(b):∀i,(bf g b i).Nodup
 |0=>by simp[bf]
 |i+1=>by
  unfold bf;split
  .exact N0 _ (Cb g b i)
  .exact Cb g b i
theorem vz{B:Nat->Prop}(h0:B b)(hs:∀x,B x->∀p∈g x,B p.2):∀i,∀x∈bf g b i,B x
 |0=>λx hx=>by
  grind [bf]
 |i+1=>by
  unfold bf;split
  .rename_i hi;refine M0 _ _ (vz h0 hs i) λx hx=>?_
   obtain⟨p,hp,rfl⟩:=w0k.mp hx;refine hs _ (vz h0 hs i _ ?_) p hp
   grind
  .exact vz h0 hs i
theorem JK(g)(b i):∃m,bf g b i=b::m:=by
 obtain⟨m,h⟩:=Ox g b 0 i;rw[w1w]at h;exact⟨m,by rw[h];rfl⟩
noncomputable def bQ(T:List Nat)(s:List Pr):List Pr:=s.map λp=>(p.1,T.idxOf p.2)
theorem V6(h:∀p∈s,p.2∈T):bQ (T++m) s=bQ T s:=by
 grind [bQ,List.map_congr_left]
theorem Kc{g:Nat->List Pr}{b:Nat}:∀i,i<=(bf g b i).length->∀x∈(bf g b i).take i,∀p∈g x,p.2∈bf g b i
 |0,_,x,hx=>by simp at hx
 |i+1,hl,x,hx=>by
  obtain⟨m,hm⟩:=Ew g b i;intro p hp
  by_cases hi:i<(bf g b i).length
  .have wI:x∈(bf g b i).take (i+1):=by
    grind
   rw[w1i hi]at wI;rcases w1d.mp wI with z|z
   .rw[hm];exact w1l _ (Kc i (by omega) x z p hp)
   .rw[w0t]at z;subst z;unfold bf;rw[if_pos hi]
    grind [NZ]
  .have e:bf g b (i+1)=bf g b i:=by
    simp_all [bf,if_neg]
   rw[e]at hl;omega
theorem z9r(hi:i<(bf g b i).length):((bf g b (i+1)).take (i+1)).map (λx=>bQ (bf g b (i+1)) (g x))=((bf g b i).take i).map (λx=>bQ (bf g b i) (g x))++[bQ (bf g b (i+1)) (g ((bf g b i).getD i 0))]:=by
 obtain⟨m,hm⟩:=Ew g b i;have e:(bf g b i).getD i 0=(bf g b i)[i]:=by simp[List.getD,hi]
 have C:(bf g b (i+1)).take (i+1)=(bf g b i).take i++[(bf g b i)[i]]:=by
  grind [List.take_succ_eq_append_getElem]
 rw[C,w0g,e];congr 1;refine w0r λx hx=>?_
 rw[hm];exact V6 (Kc i (by omega) x hx)
structure Gr where
 R:Nat
 bad:Nat×Nat->Nat->Bool
 nx:Nat×Nat->Nat->Nat×Nat
noncomputable def Gr.node(g:Gr)(x:Nat×Nat)(w:List Nat):Nat×Nat:=w.foldl g.nx x
noncomputable def Gr.ok(g:Gr)(w:List Nat):Prop:=∀i∈w,i<g.R
noncomputable def Gr.D(g:Gr)(x:Nat×Nat)(u:List Nat):Prop:=∃w r,u=w++[r]/\g.ok u/\g.bad (g.node x w) r=true
theorem Ih(g:Gr)(x)(w)(r):g.node x (w++[r])=g.nx (g.node x w) r:=by
 grind [Gr.node]
theorem eA{g:Gr}:g.ok (w++[r])↔g.ok w/\r<g.R:=by
 unfold Gr.ok;constructor
 .simp_all
 grind
noncomputable def lx:List Nat->List Nat->Prop
 |x::u,y::v=>x<y\/(x=y/\lx u v)
 |_,_=>False
theorem N1:∀{u v w:List Nat},lx u v->lx v w->lx u w
 |x::u,y::v,z::w,h,h'=>by
  rcases h with h|⟨rfl,h⟩
  .rcases h' with h'|⟨rfl,h'⟩
   .exact .inl (by omega)
   .exact .inl h
  .rcases h' with h'|⟨rfl,h'⟩
   .exact .inl h'
   .exact .inr ⟨rfl,N1 h h'⟩
 |[],_,_,h,_=>h.elim
 |_::_,[],_,h,_=>h.elim
 |_::_,_::_,[],_,h=>h.elim
theorem Qb:∀{u:List Nat},¬lx u u
 |[],h=>h
 |x::u,h=>by
  rcases h with h|⟨_,h⟩
  .omega
  .exact Qb h
theorem Qc:∀{u v s t:List Nat},lx u v->lx (u++s) (v++t)
 |x::u,y::v,s,t,h=>by
  rcases h with h|⟨rfl,h⟩
  .exact .inl h
  .exact .inr ⟨rfl,Qc h⟩
 |[],_,_,_,h=>h.elim
 |_::_,[],_,_,h=>h.elim
theorem Qd(h:i<j):∀{p s t:List Nat},lx (p++i::s) (p++j::t)
 |[],s,t=>.inl h
 |x::p,s,t=>.inr ⟨rfl,Qd h⟩
noncomputable def slt(u v:List Nat):Prop:=u.length<v.length\/(u.length=v.length/\lx u v)
noncomputable def sle(u v:List Nat):Prop:=u=v\/slt u v
theorem Ik(h:slt u v)(h':slt v w):slt u w:=by
 rcases h with h|⟨h,l⟩
 .rcases h' with h'|⟨h',_⟩
  .exact .inl (by omega)
  .exact .inl (by omega)
 .rcases h' with h'|⟨h',l'⟩
  .exact .inl (by omega)
  .exact .inr ⟨by omega,N1 l l'⟩
theorem Oy(h:slt u u):False:=by
 rcases h with h|⟨_,h⟩
 .omega
 .exact Qb h
theorem Jq(h:slt u v):slt (u++[i]) (v++[j]):=by
 rcases h with h|⟨h,l⟩
 .exact .inl (by simp;omega)
 .exact .inr ⟨by simp[h],Qc l⟩
theorem N2(h:i<j):slt (u++[i]) (u++[j]):=.inr ⟨by simp,Qd h⟩
theorem JL(h:sle u v):u.length<=v.length:=by
 rcases h with rfl|h|⟨h,_⟩
 all_goals grind
theorem N3(h:sle u v)(hi:i<=j):sle (u++[i]) (v++[j]):=by
 rcases h with rfl|h
 .rcases w3v hi with z|rfl
  .exact .inr (N2 z)
  .exact .inl rfl
 .exact .inr (Jq h)
theorem OA(h:slt u v)(h':sle v w):slt u w:=by
 rcases h' with rfl|h'
 .exact h
 .exact Ik h h'
theorem V7(h:sle u v)(h':sle v w):sle u w:=by
 rcases h with rfl|h
 .exact h'
 .exact .inr (OA h h')
noncomputable abbrev Qu:=List ((Nat×Nat)×List Nat)
noncomputable def zj(g:Gr)(Q:Qu)(q:(Nat×Nat)×List Nat)(r:Nat):Prop:=g.bad q.1 r=false/\∃q'∈Q,q'.1=g.nx q.1 r/\sle q'.2 (q.2++[r])
structure BI(g:Gr)(x:Nat×Nat)(Q:Qu)(p i:Nat):Prop where
 vh:∀q∈Q,g.node x q.2=q.1/\g.ok q.2
 nd:(Q.map (·.1)).Nodup
 Eh:Q.Pairwise λs t=>slt s.2 t.2
 yd:∀k,k<p->∀q,Q[k]?=some q->∀r,r<g.R->zj g Q q r
 cur:∀q,Q[p]?=some q->∀r,r<i->zj g Q q r
 yf:∀q∈Q,q.2=[]\/∃k s r,Q[k]?=some s/\q.2=s.2++[r]/\(k<p\/(k=p/\r<i))
 hd:∃t,Q=(x,[])::t
theorem BI.init(g)(x):BI g x [(x,[])] 0 0:=by
 refine⟨λq hq=>?_,by simp,by simp,λk hk=>by omega,λq _ r hr=>by omega,λq hq=>?_,⟨[],rfl⟩⟩
 .rw[w0t.mp hq];exact⟨rfl,λi hi=>by cases hi⟩
 grind
theorem BI.lt(h:BI g x Q p i){k:Nat}(hj:Q[j]?=some s)(hk:Q[k]?=some t)(RP:j<k):slt s.2 t.2:=by
 obtain⟨C,rfl⟩:=w0b.mp hj;obtain⟨h2,rfl⟩:=w0b.mp hk;exact List.pairwise_iff_getElem.mp h.Eh j k C h2 RP
theorem BI.Ky(h:BI g x Q p i)(J:Q[p]?=some c):∀q∈Q,slt q.2 (c.2++[i]):=λq hq=>by
 rcases h.yf q hq with e|⟨k,s,r,C,e,h2⟩
 .rw[e];exact .inl (by simp)
 .rw[e];rcases h2 with h2|⟨rfl,h2⟩
  .exact Jq (h.lt C J h2)
  grind [N2]
theorem zj.app(h:zj g Q q r):zj g (Q++T) q r:=by
 obtain⟨C,q',h2,h3⟩:=h;exact⟨C,q',w1l _ h2,h3⟩
theorem BI.old{g:Gr}{x:Nat×Nat}{Q:Qu}{p:Nat}{c:(Nat×Nat)×List Nat}(h:BI g x Q p i)(J:Q[p]?=some c)(hb:g.bad c.1 i=false)(fj:g.nx c.1 i∈Q.map (·.1)):BI g x Q p (i+1):=by
 refine⟨h.vh,h.nd,h.Eh,h.yd,λq hq r hr=>?_,λq hq=>?_,h.hd⟩
 .by_cases z:r<i
  .exact h.cur q hq r z
  .obtain rfl:r=i:=by omega
   rw[J]at hq;cases hq;obtain⟨q',C,h2⟩:=w0k.mp fj;exact⟨hb,q',C,h2,.inr (h.Ky J q' C)⟩
 .rcases h.yf q hq with e|⟨k,s,r,C,e,h2⟩
  .exact .inl e
  .exact .inr ⟨k,s,r,C,e,h2.imp id λz=>⟨z.1,by omega⟩⟩
theorem BI.new{g:Gr}{x:Nat×Nat}{Q:Qu}{p:Nat}{c:(Nat×Nat)×List Nat}(h:BI g x Q p i)(J:Q[p]?=some c)(hi:i<g.R)(hb:g.bad c.1 i=false)(fj:g.nx c.1 i∉Q.map (·.1)):BI g x (Q++[(g.nx c.1 i,c.2++[i])]) p (i+1):=by
 have RD:c∈Q:=w0d J;obtain⟨n1,n2⟩:=h.vh c RD;have hp:p<Q.length:=(w0b.mp J).1;refine⟨λq hq=>?_,?_,?_,λk hk q hq r hr=>?_,λq hq r hr=>?_,λq hq=>?_,?_⟩
 .rcases w1d.mp hq with z|z
  .exact h.vh q z
  grind [Ih,eA]
 .rw[w0g];refine List.nodup_append.mpr ⟨h.nd,by simp,λa ha b oB e=>?_⟩
  grind
 .refine List.pairwise_append.mpr ⟨h.Eh,by simp,λa ha b oB=>?_⟩
  rw[w0t.mp oB];exact h.Ky J a ha
 .have:Q[k]?=some q:=by grind
  exact(h.yd k hk q this r hr).app
 .rw[w1p hp]at hq
  by_cases z:r<i
  .exact(h.cur q hq r z).app
  .obtain rfl:r=i:=by omega
   rw[J]at hq;cases hq;exact⟨hb,_,w0h _ (w0t.mpr rfl),rfl,.inl rfl⟩
 .rcases w1d.mp hq with z|z
  .rcases h.yf q z with e|⟨k,s,r,C,e,h2⟩
   .exact .inl e
   .exact .inr ⟨k,s,r,by grind,e,h2.imp id λz=>⟨z.1,by omega⟩⟩
  grind
 .obtain⟨t,e⟩:=h.hd
  grind
theorem BI.next(h:BI g x Q p g.R):BI g x Q (p+1) 0:=by
 refine⟨h.vh,h.nd,h.Eh,λk hk q hq r hr=>?_,λq _ r hr=>by omega,λq hq=>?_,h.hd⟩
 .by_cases z:k<p
  .exact h.yd k z q hq r hr
  .obtain rfl:k=p:=by omega
   exact h.cur q hq r hr
 .rcases h.yf q hq with e|⟨k,s,r,C,e,h2⟩
  all_goals grind
theorem BI.KD{g:Gr}{x:Nat×Nat}{Q:Qu}{p:Nat}(h:BI g x Q p i):∀(n:Nat)(t:List Nat),t.length=n->g.ok t->(∃(k:Nat)(q:(Nat×Nat)×List Nat),Q[k]?=some q/\q.1=g.node x t/\sle q.2 t)\/∃(k:Nat)(q:(Nat×Nat)×List Nat),p<=k/\Q[k]?=some q/\q.2.length<t.length
 |0,t,ht,_=>by
  obtain rfl:t=[]:=w2z ht;obtain⟨t,e⟩:=h.hd;exact .inl ⟨0,(x,[]),by rw[e];rfl,rfl,.inl rfl⟩
 |n+1,t,ht,aR=>by
  obtain⟨u,r,rfl⟩:∃u r,t=u++[r]:=⟨t.dropLast,t.getLast (by grind),(List.dropLast_concat_getLast _).symm⟩;rw[w1o]at ht;obtain⟨Gw,Gx⟩:=eA.mp aR;rcases h.KD n u (by simpa using ht) Gw with⟨k,q,C,h2,h3⟩|⟨k,q,C,h2,h3⟩
  .by_cases hk:k<p
   .obtain⟨_,q',m1,m2,m3⟩:=h.yd k hk q C r Gx;obtain⟨k',FI⟩:=w3q m1;refine .inl ⟨k',q',FI,by rw[m2,h2,Ih],V7 m3 (N3 h3 (w0c _))⟩
   .exact .inr ⟨k,q,by omega,C,by have:=JL h3;simp;omega⟩
  grind
theorem BI.least(h:BI g x Q p i)(J:Q[p]?=some c)(hi:i<g.R)(hb:g.bad c.1 i=true):g.D x (c.2++[i])/\∀u,g.D x u->sle (c.2++[i]) u:=by
 obtain⟨n1,n2⟩:=h.vh c (w0d J);refine⟨⟨c.2,i,rfl,eA.mpr ⟨n2,hi⟩,by rw[n1];exact hb⟩,?_⟩;rintro u ⟨w,r,rfl,ho,hr⟩;obtain⟨Gw,Gx⟩:=eA.mp ho;rcases h.KD _ w rfl Gw with⟨k,q,C,h2,h3⟩|⟨k,q,C,h2,h3⟩
 .rw[<- h2]at hr;rcases Nat.lt_trichotomy k p with z|rfl|z
  .have:=(h.yd k z q C r Gx).1
   grind
  .rw[J]at C;cases C
   by_cases Sd:r<i
   .have:=(h.cur c J r Sd).1
    grind
   grind [N3]
  .exact .inr (Jq (OA (h.lt J C z) h3))
 .refine .inr (.inl ?_)
  have:c.2.length<=q.2.length:=by
   rcases w3v C with z|rfl
   .exact JL (.inr (h.lt J h2 z))
   grind
  simp;omega
theorem CF(x y):ne2 (aA x) (aA y)=some (.bl (!decide (x=y))):=by
 have h:aW (x.map .bl)=0:=(yq x).2.1;unfold ne2 aA;rw[if_pos (show cV (.tup (x.map .bl))<=150 by show aW (x.map .bl)+1<=150;omega)];show(de (x.map .bl) (y.map .bl)).map _=_;rw[O3];rfl
structure Wo(c d:Mc):Prop where
 oc:c.Og
 od:d.Og
 hm:c.m=d.m
 sz:c.af.length*d.af.length<=14000
structure mw(c d:Mc):Prop extends Wo c d where
 hw:c.wide=d.wide
structure Tw(c d:Mc):Prop where
 oc:c.Ok
 od:d.Ok
 hm:c.m=d.m
 hw:c.wide=d.wide
theorem Tw.two(T:Tw c d):mw c d:=⟨⟨T.oc.toOg,T.od.toOg,T.hm,w0l (w2b T.oc.most T.od.most) (by decide)⟩,T.hw⟩
noncomputable def prod(c d:Mc):Gr:=⟨2^c.m,λx r=>!decide ((aN c x.1 r).1=(aN d x.2 r).1),λx r=>((aN c x.1 r).2,(aN d x.2 r).2)⟩
noncomputable def jU(c d:Mc)(x:Nat×Nat):Prop:=x.1<c.af.length/\x.2<d.af.length
theorem xm(J:c.Og)(hs:s<c.af.length)(hr:r<2^c.m):(aN c s r).2<c.af.length/\(aN c s r).1.length=c.wide:=by
 have hl:=J.st _ (fE hs);have r_:r<(c.af.getD s []).length:=by omega
 have hm:aN c s r∈c.af.getD s []:=by
  grind [aN]
 exact⟨(J.pr _ (fE hs) _ hm).2,(J.pr _ (fE hs) _ hm).1⟩
theorem Wo.nx(T:Wo c d)(h:jU c d x)(hr:r<(prod c d).R):jU c d ((prod c d).nx x r):=
 ⟨(xm T.oc h.1 hr).1,(xm T.od h.2 (by rw[<- T.hm];exact hr)).1⟩
noncomputable def aF(x:Nat×Nat):W:=.tup [.int (x.1:Int),.int (x.2:Int)]
noncomputable def bE(x:Nat×Nat):Kx:=.tup [.int (x.1:Int),.int (x.2:Int)]
noncomputable abbrev oh:Sh:=.tup [.int,.int]
theorem sx(x):gN (aF x)=some (bE x):=rfl
theorem q_(x):fits (bE x) oh:=⟨⟨trivial,trivial,trivial⟩,by simp[bE,Kx.depth,Kx.cJ]⟩
theorem NC(h:bE x=bE y):x=y:=by
 grind [bE]
theorem tK{f:α->Nat×Nat}{v:α->W}:∀{l:List α},(∀q,q∈l->f q≠x)->ja (l.map λq=>bE (f q)) (l.map v) (bE x)=none
 |[],_=>rfl
 |q::l,h=>by
  show(if bE (f q)=bE x then _ else _)=_;rw[if_neg λz=>h q (by simp) (NC z)]
  exact tK λq' hq=>h q' (by simp[hq])
theorem yW{f:α->Nat×Nat}{v:α->W}{q:α}:∀{l:List α},(l.map f).Nodup->q∈l->ja (l.map λq=>bE (f q)) (l.map v) (bE (f q))=some (v q)
 |p::l,hn,h=>by
  rw[w0p,w1r]at hn;show(if bE (f p)=bE (f q)then some (v p)else _)=_;rcases w0m.mp h with rfl|h
  .rw[if_pos rfl]
  .rw[if_neg λz=>hn.1 (by grind [NC])]
   exact yW hn.2 h
noncomputable def kM(g:Gr)(x:Nat×Nat)(q:(Nat×Nat)×List Nat):W:=match q.2.reverse with
 |[]=>.aG
 |r::u=>.tup [aF (g.node x u.reverse),.int (r:Int)]
theorem W2(g)(x y):kM g x (y,[])=.aG:=rfl
theorem M1(g)(x y)(u)(r:Nat):kM g x (y,u++[r])=.tup [aF (g.node x u),.int (r:Int)]:=by
 unfold kM;simp
noncomputable def eQ(g:Gr)(x:Nat×Nat)(Q:Qu):S:=.dw oh (Q.map λq=>bE q.1) (Q.map (kM g x))
noncomputable def lh(g:Gr)(x:Nat×Nat)(Q:Qu):W:=.dw false oh (Q.map λq=>bE q.1) (Q.map (kM g x))
theorem M3{g:Gr}{x:Nat×Nat}{Q:Qu}{p:Nat}(B:BI g x Q p i)(r:Nat->List W->FR)(z:W):∀(n:Nat)(q:(Nat×Nat)×List Nat)(fuel:Nat)(acc:List Nat),q.2.length=n->q∈Q->n<fuel->acc.length+n<=20000 ->
  ∃s,bc (A4 K a r) (Dp K a r) fuel [.fr (lh g x Q),.fr z,.own none (acc.map fun(k:Nat)=>.int (k:Int)),.fr (kM g x q)]=.nx [.fr (lh g x Q),.fr z,.own none ((acc++q.2.reverse).map fun(k:Nat)=>.int (k:Int)),s]
 |n,q,0,acc,_,_,hf,_=>by omega
 |0,(y,u),fuel+1,acc,hn,hq,hf,ha=>by
  obtain rfl:u=[]:=w2z hn;rw[yL,W2];unfold A4;rw?
  simp_all
 |n+1,(y,u),fuel+1,acc,hn,hq,hf,ha=>by
  rcases B.yf _ hq with e|⟨k,s,r',C,e,h2⟩
  .grind
  .dsimp only at e;subst e;have hs:s∈Q:=w0d C;have FZ:s.2.length=n:=by grind
   have e:p6 (lh g x Q) (.tup [.int (s.1.1:Int),.int (s.1.2:Int)])=some (kM g x s):=(Ce (sx s.1) (q_ _)).trans (yW B.nd hs);obtain⟨s1,IH⟩:=M3 B r z n s fuel (acc++[r']) FZ hs (by omega) (by simp;omega);unfold A4 Dp at IH;rw[yL,M1,(B.vh s hs).1];unfold A4 aF;rw?;unfold Dp;rw?;rw[if_pos (by grind),e];rw?
   grind
theorem W3(n)(B:BI g x Q p i)(hq:q∈Q)(hl:q.2.length<=15000):run K a (n+1) Be [lh g x Q,aF q.1]=.ok (.own none (q.2.map fun(k:Nat)=>.int (k:Int))):=by
 obtain⟨s,h⟩:=M3 (K:=K) (a:=a) B (run K a n) (aF q.1) q.2.length q 1000000 [] rfl hq (by omega) (by simp;omega);have e:p6 (lh g x Q) (aF q.1)=some (kM g x q):=(Ce (sx q.1) (q_ _)).trans (yW B.nd hq);rw[Hq];unfold DG;rw?;rw[e];rw?;have h':=h;rw[w2i,w3l]at h';rw[h'];rw?
 simp_all
theorem OB{c d:Mc}(T:Wo c d):∀(w:List Nat){x:Nat×Nat},jU c d x->(prod c d).ok w->jU c d ((prod c d).node x w)
 |[],_,h,_=>h
 |r::w,x,h,ho=>OB T w (T.nx h (ho r (by simp))) λi hi=>ho i (by simp[hi])
theorem xj(T:Wo c d){l:List (Nat×Nat)}(hn:l.Nodup)(h:∀x∈l,jU c d x):l.length<=c.af.length*d.af.length:=by
 have inj:∀x∈l,∀y∈l,x.1*d.af.length+x.2=y.1*d.af.length+y.2->x=y:=λx hx y hy e=>by
  have C:=(h x hx).2;have h2:=(h y hy).2;have m1:(x.1*d.af.length+x.2)%d.af.length=x.2:=by rw[w3x,Nat.mul_add_mod,Nat.mod_eq_of_lt C]
  have m2:(y.1*d.af.length+y.2)%d.af.length=y.2:=by rw[w3x,Nat.mul_add_mod,Nat.mod_eq_of_lt h2]
  have e2:x.2=y.2:=by rw[<- m1,<- m2,e]
  have e1:x.1=y.1:=Nat.eq_of_mul_eq_mul_right (show 0<d.af.length by omega) (by omega);exact Prod.ext e1 e2
 have:=xv (c.af.length*d.af.length) (l:=l.map λx=>x.1*d.af.length+x.2) (List.pairwise_map.mpr (List.Pairwise.imp_of_mem (λ{x y} hx hy pX e=>pX (inj x hx y hy e)) hn)) λz hz=>by
  obtain⟨x,hx,rfl⟩:=w0k.mp hz;obtain⟨C,h2⟩:=h x hx;have:(x.1+1)*d.af.length<=c.af.length*d.af.length:=Nat.mul_le_mul_right _ C
  grind
 grind
theorem BI.CA(T:Wo c d)(hx:jU c d x)(B:BI (prod c d) x Q p i):∀q∈Q,jU c d q.1:=λq hq=>by
 obtain⟨C,h2⟩:=B.vh q hq;rw[<- C];exact OB T q.2 hx h2
theorem z9s(T:Wo c d):c.af.length*d.af.length<=14000:=T.sz
theorem BI.len(T:Wo c d)(hx:jU c d x)(B:BI (prod c d) x Q p i):Q.length<=14000:=by
 have:=xj T B.nd λy hy=>by
  obtain⟨q,hq,rfl⟩:=w0k.mp hy;exact B.CA T hx q hq
 rw[w0a]at this;have:=z9s T;omega
theorem BI.wl(B:BI g x Q p i):∀(k:Nat)(q:(Nat×Nat)×List Nat),Q[k]?=some q->q.2.length<=k:=λk=>by
 induction k using Nat.strongRecOn with
 |ind k ih=>
  intro q hq;rcases B.yf q (w0d hq)with e|⟨k',s,r,C,e,_⟩
  .rw[e];simp
  .have cY:k'<k:=by
    rcases Nat.lt_trichotomy k' k with z|rfl|z
    .exact z
    .simp_all
    .exact(Oy (Ik (B.lt hq C z) (by rw[e];exact .inl (by simp)))).elim
   grind
noncomputable def nI(k:Nat):W:=.int (k:Int)
noncomputable def iO(c d:Mc)(Q:Qu)(p:Nat)(y:Nat×Nat)(i:Nat)(t7 t8 z9:S):List S:=[.fr (ag c),.fr (ag d),eQ (prod c d) (0,0) Q,.own none (Q.map λq=>aF q.1),.fr (.int (p:Int)),.fr (aF y),.fr (.int (i:Int)),t7,t8,z9]
theorem Kd(x):aM (aF x) (.int 0)=some (.int (x.1:Int)):=rfl
theorem Ke(x):aM (aF x) (.int 1)=some (.int (x.2:Int)):=rfl
theorem V8(n)(c d)(J:c.Og)(hd:d.Og)(hm:c.m=d.m):run K a (n+3) xh [ag c,ag d]=.ok (.fr .aG):=by
 rw[CP];unfold A8;rw?;rw[yC n c J];rw?;rw[yC n d hd];rw?;rw[pI];rw?;rw[pI];rw?;rw[hm];rw?
noncomputable abbrev pT:=List Bool×(Nat×Nat)
noncomputable def nQ(p:pT):W:=.tup [aA p.1,aF p.2]
theorem UO(l:List pT):cK (l.map nQ)=some (l.map λp=>(aA p.1,aF p.2)):=by
 induction l with
 |nil=>rfl
 |cons p l ih=>
  grind [cK,nQ]
noncomputable def iI(s t:List Pr):List pT:=(s.zip t).map λp=>(p.1.1++p.2.1,(p.1.2,p.2.2))
theorem OC(s t:List Pr):(s.map ao).zip (t.map ao)=(s.zip t).map λp=>(ao p.1,ao p.2):=by
 rw[List.zip_map];rfl
noncomputable def gP:W×W->W
 |(.tup [.tup x,p],.tup [.tup y,q])=>.tup [.tup (x++y),.tup [p,q]]
 |_=>.aG
theorem W4(n)(s t)(hs:s.length<=100)(C:∀p∈s,p.1.length<=100)(h2:∀p∈t,p.1.length<=100):run K a (n+1) A5 [ar s,ar t]=.ok (.own none ((iI s t).map nQ)):=by
 have hz:((s.zip t).map λp=>(ao p.1,ao p.2)).length<=100:=by grind
 rw[Hb];unfold Dl ar;rw?;rw[OC];rw[if_pos (by omega)];rw[Dx (q:=λ_=>true) (g:=gP)]
 .rw?;rw[w3d.mpr (λ_ _=>rfl)]
  unfold iI;rw[w0s,w0s];congr 2;refine w0r λp hp=>?_
  show W.tup [.tup (p.1.1.map .bl++p.2.1.map .bl),_]=nQ _;unfold nQ aA;rw[w0g];rfl
 .intro q hq;obtain⟨p,hp,rfl⟩:=w0k.mp hq;have m1:=C p.1 (w1e hp).1;have m2:=h2 p.2 (w1e hp).2;refine⟨_,rfl,λ_=>?_⟩
  unfold LV ao aA;rw?;rw[if_pos (by grind)];rw?;exact⟨_,rfl⟩
theorem Jr(J:c.Og)(hd:d.Og)(h:jU c d x):∀p∈iI (c.af.getD x.1 []) (d.af.getD x.2 []),jU c d p.2:=by
 intro p hp;obtain⟨q,hq,rfl⟩:=w0k.mp hp;exact⟨(J.pr _ (fE h.1) _ (w1e hq).1).2,(hd.pr _ (fE h.2) _ (w1e hq).2).2⟩
theorem V9(J:c.Og)(h:jU c d x):(iI (c.af.getD x.1 []) (d.af.getD x.2 [])).length<=8:=by
 have p8:2^c.m<=8:=w0l (w1b (by decide) J.gJ) (by decide);unfold iI;rw[w0a,List.length_zip,J.st _ (fE h.1)];omega
theorem OD:∀bs:List Bool,bA (bs.map .bl)=true
 |[]=>rfl
 |b::bs=>by show(true&&bA (bs.map .bl))=true;rw[OD bs];rfl
theorem OE(p):noFn (ao p)=true:=by
 show(bA (p.1.map .bl)&&(true&&true))=true;rw[OD];rfl
theorem yE{f:α->W}(h:∀x,noFn (f x)=true):∀l:List α,bA (l.map f)=true
 |[]=>rfl
 |x::l=>by show(noFn (f x)&&bA (l.map f))=true;rw[h x,yE h l];rfl
theorem Y'(c):noFn (ag c)=true:=by
 show(true&&(true&&(bA (c.af.map ar)&&true)))=true;rw[yE (f:=ar) λs=>show bA (s.map ao)=true from yE OE s];rfl
theorem l3(n)(J:c.Og)(hd:d.Og)(h:jU c d x)(e):fW bo (run K a (n+2)) xa t5 [ag c,ag d] [aF x] e=.ok (.lst ((iI (c.af.getD x.1 []) (d.af.getD x.2 [])).map nQ)) e:=by
 refine H_ Ud (by show(noFn (aF x)&&true)=true;rfl) (by show(noFn (ag c)&&(noFn (ag d)&&true))=true;grind [Y']) ?_;show run K a (n+2) xa [aF x,ag c,ag d]=_;have p8:2^c.m<=8:=w0l (w1b (by decide) J.gJ) (by decide);have w1:=J.wg;have w2:=hd.wg;have hr:=W4 (K:=K) (a:=a) n (c.af.getD x.1 []) (d.af.getD x.2 []) (by rw[J.st _ (fE h.1)];omega) (λp hp=>by rw[(J.pr _ (fE h.1) p hp).1];omega) (λp hp=>by rw[(hd.pr _ (fE h.2) p hp).1];omega)
 rw[G9];unfold C8;rw?;rw[nE];rw?;rw[Kd];rw?;rw[sE h.1];rw?;rw[nE];rw?;rw[Ke];rw?;rw[sE h.2];rw?;rw[hr];rw?;rfl
noncomputable abbrev Pq:=Nat×Nat
noncomputable def bF(l:List Pq)(x:Pq):List Pq:=if x∈l then l else l++[x]
theorem W5(l)(x):∃m,bF l x=l++m:=by
 unfold bF;split
 all_goals simp_all
theorem OF(l)(x):x∈bF l x:=by
 grind [bF]
theorem JM(h:l.Nodup)(x):(bF l x).Nodup:=by
 grind [bF]
theorem Bg:∀(xs l:List Pq),∃m,xs.foldl bF l=l++m
 |[],l=>⟨[],by simp⟩
 |x::xs,l=>by
  obtain⟨m1,C⟩:=W5 l x;obtain⟨m2,h2⟩:=Bg xs (bF l x)
  grind
theorem ND:∀(xs l:List Pq),∀x∈xs,x∈xs.foldl bF l
 |[],_,_,h=>nomatch h
 |y::xs,l,x,h=>by
  rw[w1j];rcases w0m.mp h with rfl|h
  .obtain⟨m,e⟩:=Bg xs (bF l x)
   grind [OF]
  .exact ND xs _ x h
theorem NF:∀(xs:List Pq){l:List Pq},l.Nodup->(xs.foldl bF l).Nodup
 |[],_,h=>h
 |x::xs,l,h=>NF xs (JM h x)
theorem M4{B:Pq->Prop}:∀(xs l:List Pq),(∀x∈l,B x)->(∀x∈xs,B x)->∀x∈xs.foldl bF l,B x
 |[],_,h,_=>h
 |y::xs,l,h,g=>M4 xs (bF l y) (λx hx=>by
   grind [bF]) λx hx=>g x (by simp[hx])
theorem Za{m:List Pq}(h:x∈l):(l++m).idxOf x=l.idxOf x:=by
 grind
theorem O5{x:Pq}(h:x∉l):(l++x::m).idxOf x=l.length:=by
 grind
theorem J1{l:List Pq}(h:x∈l):l.idxOf x<l.length:=w2k.mpr h
theorem Zb{l:List Pq}(h:x∈l):l.getD (l.idxOf x) (0,0)=x:=by
 grind
noncomputable def bg(g:Pq->List pT)(b:Pq):Nat->List Pq
 |0=>[b]
 |i+1=>if i<(bg g b i).length then((g ((bg g b i).getD i (0,0))).map (·.2)).foldl bF (bg g b i)else bg g b i
theorem Eb(g)(b)(i):∃m,bg g b (i+1)=bg g b i++m:=by
 show ∃m,(if i<(bg g b i).length then((g ((bg g b i).getD i (0,0))).map (·.2)).foldl bF (bg g b i)else bg g b i)=_;split
 all_goals simp_all [Bg]
theorem NG(g)(b)(i):∀d,∃m,bg g b (i+d)=bg g b i++m
 |0=>⟨[],by simp⟩
 |d+1=>by
  obtain⟨m1,C⟩:=NG g b i d;obtain⟨m2,h2⟩:=Eb g b (i+d)
  grind
theorem yT(g)(b):∀i,(bg g b i).Nodup
 |0=>by simp[bg]
 |i+1=>by
  unfold bg;split
  .exact NF _ (yT g b i)
  .exact yT g b i
theorem vv{B:Pq->Prop}(h0:B b)(hs:∀x,B x->∀p∈g x,B p.2):∀i,∀x∈bg g b i,B x
 |0=>λx hx=>by
  grind [bg]
 |i+1=>by
  unfold bg;split
  .rename_i hi;refine M4 _ _ (vv h0 hs i) λx hx=>?_
   obtain⟨p,hp,rfl⟩:=w0k.mp hx;refine hs _ (vv h0 hs i _ ?_) p hp
   grind
  .exact vv h0 hs i
theorem W6(g)(b)(i):∃m,bg g b i=b::m:=by
 obtain⟨m,h⟩:=NG g b 0 i;rw[w1w]at h;exact⟨m,by rw[h];rfl⟩
noncomputable def dj(T:List Pq)(s:List pT):List Pr:=s.map λp=>(p.1,T.idxOf p.2)
theorem W7(h:∀p∈s,p.2∈T):dj (T++m) s=dj T s:=by
 grind [dj,List.map_congr_left]
theorem J2{g:Pq->List pT}{b:Pq}:∀i,i<=(bg g b i).length->∀x∈(bg g b i).take i,∀p∈g x,p.2∈bg g b i
 |0,_,x,hx=>by simp at hx
 |i+1,hl,x,hx=>by
  obtain⟨m,hm⟩:=Eb g b i;intro p hp
  by_cases hi:i<(bg g b i).length
  .have wI:x∈(bg g b i).take (i+1):=by
    grind
   rw[w1i hi]at wI;rcases w1d.mp wI with z|z
   .rw[hm];exact w1l _ (J2 i (by omega) x z p hp)
   .rw[w0t]at z;subst z;unfold bg;rw[if_pos hi]
    grind [ND]
  .have e:bg g b (i+1)=bg g b i:=by
    simp_all [bg,if_neg]
   rw[e]at hl;omega
theorem z60(hi:i<(bg g b i).length):((bg g b (i+1)).take (i+1)).map (λx=>dj (bg g b (i+1)) (g x))=((bg g b i).take i).map (λx=>dj (bg g b i) (g x))++[dj (bg g b (i+1)) (g ((bg g b i).getD i (0,0)))]:=by
 obtain⟨m,hm⟩:=Eb g b i;have e:(bg g b i).getD i (0,0)=(bg g b i)[i]:=by simp[List.getD,hi]
 have C:(bg g b (i+1)).take (i+1)=(bg g b i).take i++[(bg g b i)[i]]:=by
  grind [List.take_succ_eq_append_getElem]
 rw[C,w0g,e];congr 1;refine w0r λx hx=>?_
 rw[hm];exact W7 (J2 i (by omega) x hx)
noncomputable def gW(c d:Mc)(x:Pq):List pT:=iI (c.af.getD x.1 []) (d.af.getD x.2 [])
theorem Js(h:(bg g b k).length<=k):∀d,bg g b (k+d)=bg g b k
 |0=>rfl
 |d+1=>by
  have ih:=Js h d;show(if k+d<(bg g b (k+d)).length then _ else bg g b (k+d))=_
  grind
noncomputable def dP(g:Pq->List pT)(T:List Pq)(x:Pq)(r:Nat):List Pq:=(((g x).take r).map (·.2)).foldl bF T
theorem Zc(h:(g x)[r]?=some p):dP g T x (r+1)=bF (dP g T x r) p.2:=by
 grind [dP,List.take_add_one]
theorem EC(J:c.Og)(hd:d.Og)(hm:c.m=d.m){x:Pq}(hx:jU c d x)(hr:r<2^c.m):(gW c d x)[r]?=some ((aN c x.1 r).1++(aN d x.2 r).1,((aN c x.1 r).2,(aN d x.2 r).2)):=by
 have C:=J.st _ (fE hx.1);have h2:=hd.st _ (fE hx.2)
 simp_all [gW,iI,aN]
theorem J3(J:c.Og)(hd:d.Og)(hm:c.m=d.m){x:Pq}(hx:jU c d x):(gW c d x).length=2^c.m:=by
 have C:=J.st _ (fE hx.1);have h2:=hd.st _ (fE hx.2)
 grind [gW,iI]
theorem Ec(g)(T)(x):dP g T x 0=T:=by simp[dP]
structure BK(c d:Mc)(Q:Qu)(p i:Nat):Prop extends BI (prod c d) (0,0) Q p i where
 od:Q.map (·.1)=dP (gW c d) (bg (gW c d) (0,0) p) ((bg (gW c d) (0,0) p).getD p (0,0)) i
 lt:0<i->p<(bg (gW c d) (0,0) p).length
theorem BK.init(c d):BK c d [((0,0),[])] 0 0:=⟨BI.init _ _,(Ec ..).symm,λh=>by omega⟩
theorem BK.here(B:BK c d Q p i)(hq:Q[p]?=some q):p<(bg (gW c d) (0,0) p).length/\(bg (gW c d) (0,0) p).getD p (0,0)=q.1:=by
 have od:=B.od;have h:(Q.map (·.1))[p]?=some q.1:=by grind
 have lt:p<(bg (gW c d) (0,0) p).length:=by
  rcases Nat.eq_zero_or_pos i with rfl|z
  .grind [Ec]
  .exact B.lt z
 refine⟨lt,?_⟩;unfold dP at od;obtain⟨m,e⟩:=Bg (((gW c d ((bg (gW c d) (0,0) p).getD p (0,0))).take i).map (·.2)) (bg (gW c d) (0,0) p)
 grind
theorem BK.succ(T:Wo c d)(B:BK c d Q p i)(hq:Q[p]?=some q)(hi:i<(prod c d).R):dP (gW c d) (bg (gW c d) (0,0) p) ((bg (gW c d) (0,0) p).getD p (0,0)) (i+1)=bF (Q.map (·.1)) ((prod c d).nx q.1 i):=by
 have fj:=B.CA T ⟨T.oc.pos,T.od.pos⟩ q (w0d hq);obtain⟨_,e⟩:=B.here hq;rw[B.od,e,Zc (EC T.oc T.od T.hm fj hi)];rfl
theorem BK.old{c d:Mc}(T:mw c d){Q:Qu}{p:Nat}(B:BK c d Q p i)(hq:Q[p]?=some q)(hi:i<(prod c d).R)(hb:(prod c d).bad q.1 i=false)(fj:(prod c d).nx q.1 i∈Q.map (·.1)):BK c d Q p (i+1):=
 ⟨B.toBI.old hq hb fj,by rw[B.succ T.toWo hq hi];exact(if_pos fj).symm,λ_=>(B.here hq).1⟩
theorem BK.new{c d:Mc}(T:mw c d){Q:Qu}{p:Nat}(B:BK c d Q p i)(hq:Q[p]?=some q)(hi:i<(prod c d).R)(hb:(prod c d).bad q.1 i=false)(fj:(prod c d).nx q.1 i∉Q.map (·.1)):BK c d (Q++[((prod c d).nx q.1 i,q.2++[i])]) p (i+1):=
 ⟨B.toBI.new hq hi hb fj,by rw[B.succ T.toWo hq hi,w0g];exact(if_neg fj).symm,λ_=>(B.here hq).1⟩
theorem BK.next(T:mw c d)(B:BK c d Q p (prod c d).R)(hq:Q[p]?=some q):BK c d Q (p+1) 0:=by
 have fj:=B.CA T.toWo ⟨T.oc.pos,T.od.pos⟩ q (w0d hq);obtain⟨C,h2⟩:=B.here hq;refine⟨B.toBI.next,?_,λh=>by omega⟩
 rw[Ec,B.od];show _=if p<(bg (gW c d) (0,0) p).length then _ else _;rw[if_pos C];unfold dP;rw[w2s];rw[h2,J3 T.oc T.od T.hm fj];exact w0c _
theorem W8(n)(T:mw c d)(B:BK c d Q p i)(hq:Q[p]?=some q)(z9)(hz:eU z9=false)(hb:(prod c d).bad q.1 i=true):
  ∃e',tU K a (run K a (n+1)) (iO c d Q p q.1 i (.fr (ao (aN c q.1.1 i))) (.fr (ao (aN d q.1.2 i))) z9)=.rt (.fr (.tup [.str "unlike", .lst ((q.2++[i]).map nI)])) e':=by
 have hl:=B.len T.toWo ⟨T.oc.pos,T.od.pos⟩;have hp:p<Q.length:=(w0b.mp hq).1;have sf:=B.wl p q hq;have hr:=W3 (K:=K) (a:=a) n B.toBI (w0d hq) (by omega);unfold lh at hr;have hb:(!decide ((aN c q.1.1 i).1=(aN d q.1.2 i).1))=true:=hb;unfold tU iO eQ;rw?;rw[qZ];rw?;rw[qZ];rw?;rw[CF];rw?;rw[if_pos hb,if_pos (by simp only[w3b,List.all_nil,hz];rfl),hr];rw?;rw[if_pos (by simp;omega)];rw?;exact⟨_,by rw[w0g];rfl⟩
theorem V_(n)(T:mw c d)(B:BK c d Q p i)(hq:Q[p]?=some q)(hi:i<(prod c d).R)(z9)(hz:eU z9=false)(hb:(prod c d).bad q.1 i=false):
  ∃Q' nG,eU nG=false/\BK c d Q' p (i+1)/\Q'[p]?=some q/\tU K a (run K a (n+1)) (iO c d Q p q.1 i (.fr (ao (aN c q.1.1 i))) (.fr (ao (aN d q.1.2 i))) z9)=.nx (iO c d Q' p q.1 (i+1) (.fr (ao (aN c q.1.1 i))) (.fr (ao (aN d q.1.2 i))) nG):=by
 have hl:=B.len T.toWo ⟨T.oc.pos,T.od.pos⟩;have hp:p<Q.length:=(w0b.mp hq).1;have oB:¬((!decide ((aN c q.1.1 i).1=(aN d q.1.2 i).1))=true):=by rw[show(!decide ((aN c q.1.1 i).1=(aN d q.1.2 i).1))=false from hb];exact w1k
 obtain⟨y,hy⟩:∃y,(prod c d).nx q.1 i=y:=⟨_,rfl⟩;have ey:W.tup [.int ((aN c q.1.1 i).2:Int),.int ((aN d q.1.2 i).2:Int)]=aF y:=by rw[<- hy];rfl
 have en:=Bw (fz:=false) (sh:=oh) (ks:=Q.map λq=>bE q.1) (ws:=Q.map (kM (prod c d) (0,0))) (sx y) (q_ y)
 unfold tU iO eQ;rw?;rw[qZ];rw?;rw[qZ];rw?;rw[CF];rw?;rw[if_neg oB,sC];rw?;rw[sC];rw?;rw[ey,en];rw?
 by_cases fj:y∈Q.map (·.1)
 .obtain⟨q',C,h2⟩:=w0k.mp fj;have lk:=yW (v:=kM (prod c d) (0,0)) B.nd C;rw[h2]at lk;rw[lk];rw?;exact⟨Q,.fr (aF y),rfl,B.old T hq hi hb (by rw[hy];exact fj),hq,by simp⟩
 .have lk:=tK (f:=Prod.fst) (v:=kM (prod c d) (0,0)) (x:=y) (l:=Q) λq' C z=>fj (w0k.mpr ⟨q',C,z⟩)
  rw[lk];rw?;rw[if_pos (by rfl),JF (sx y) (by grind) (by rfl) (q_ y) lk];rw?;rw[if_pos (by grind)];rw?;have nw:=B.new T hq hi hb (by rw[hy];exact fj);rw[hy]at nw;refine⟨Q++[(y,q.2++[i])],.fr (aF y),rfl,nw,by grind,?_⟩;rw[w0g,w0g,w0g,w0p,w0p,w0p,M1,(B.vh q (w0d hq)).1];rfl
theorem NH{i j:Nat}{b:List S->SR}(I:Nat->List S->Prop)(Rt:S->Prop):∀(ps:List (W×W))(k:Nat)(e:List S),I k e ->
  (∀(m:Nat)(p:W×W),ps[m]?=some p->∀e,I (k+m) e->(∃e',b ((e.set i (.fr p.1)).set j (.fr p.2))=.nx e'/\I (k+m+1) e')\/∃s e',b ((e.set i (.fr p.1)).set j (.fr p.2))=.rt s e'/\Rt s) ->
  (∃e',d8 i j b ps e=.nx e'/\I (k+ps.length) e')\/∃s e',d8 i j b ps e=.rt s e'/\Rt s
 |[],k,e,h,_=>.inl ⟨e,rfl,h⟩
 |p::ps,k,e,h,st=>by
  rcases st 0 p rfl e h with⟨e1,C,h2⟩|⟨s,e1,C,h2⟩
  .have:=NH I Rt ps (k+1) e1 h2 λm q hq e he=>by
    have z:=st (m+1) q (by simpa using hq) e (by grind);rw[show k+(m+1)=k+1+m by omega]at z;exact z
   rcases this with⟨e2,h3,h4⟩|⟨s,e2,h3,h4⟩
   .refine .inl ⟨e2,?_,by grind⟩;show(b ((e.set i (.fr p.1)).set j (.fr p.2))).dD (d8 i j b ps)=_;rw[C];exact h3
   .refine .inr ⟨s,e2,?_,h4⟩;show(b ((e.set i (.fr p.1)).set j (.fr p.2))).dD (d8 i j b ps)=_;rw[C];exact h3
  .refine .inr ⟨s,e1,?_,h2⟩;show(b ((e.set i (.fr p.1)).set j (.fr p.2))).dD (d8 i j b ps)=_;rw[C];rfl
theorem Zd(T:mw c d)(h:jU c d x):((c.af.getD x.1 []).map ao).zip ((d.af.getD x.2 []).map ao)=(List.range (prod c d).R).map λr=>(ao (aN c x.1 r),ao (aN d x.2 r)):=by
 have l1:(c.af.getD x.1 []).length=2^c.m:=T.oc.st _ (fE h.1);have l2:(d.af.getD x.2 []).length=2^c.m:=by rw[T.hm];exact T.od.st _ (fE h.2)
 apply w1q;intro r
 by_cases hr:r<2^c.m
 .simp_all [prod,aN]
 .rw[w3m (by grind),w3m (by rw[w0a,List.length_range];exact Nat.le_of_not_lt hr)]
noncomputable def Told(g:Gr)(s:S):Prop:=∃w:List Nat,s=.fr (.tup [.str "unlike", .lst (w.map nI)])/\w.length<=14000/\g.D (0,0) w/\∀u,g.D (0,0) u->sle w u
theorem V'(n:Nat){c d:Mc}(T:mw c d){Q:Qu}{p:Nat}(B:BK c d Q p 0)(hq:Q[p]?=some q)(t7 t8 z9:S)(hz:eU z9=false):
  (∃e',d8 7 8 (tU K a (run K a (n+1))) ((List.range (prod c d).R).map λr=>(ao (aN c q.1.1 r),ao (aN d q.1.2 r))) (iO c d Q p q.1 0 t7 t8 z9)=.nx e'/\∃Q' vN vO nG,eU nG=false/\BK c d Q' p (prod c d).R/\Q'[p]?=some q/\e'=iO c d Q' p q.1 (prod c d).R vN vO nG) \/
  ∃s e',d8 7 8 (tU K a (run K a (n+1))) ((List.range (prod c d).R).map λr=>(ao (aN c q.1.1 r),ao (aN d q.1.2 r))) (iO c d Q p q.1 0 t7 t8 z9)=.rt s e'/\Told (prod c d) s:=by
 have:=NH (i:=7) (j:=8) (b:=tU K a (run K a (n+1))) (λk e=>∃Q' vN vO nG,eU nG=false/\BK c d Q' p k/\Q'[p]?=some q/\e=iO c d Q' p q.1 k vN vO nG) (Told (prod c d))
  ((List.range (prod c d).R).map λr=>(ao (aN c q.1.1 r),ao (aN d q.1.2 r))) 0 (iO c d Q p q.1 0 t7 t8 z9) ⟨Q,t7,t8,z9,hz,B,hq,rfl⟩ λm pr hm e he=>by
   obtain⟨Q',vN,vO,nG,C,h2,h3,rfl⟩:=he;rw[w1w]at h2 |-
   obtain⟨r,hr,rfl⟩:∃r,(List.range (prod c d).R)[m]?=some r/\(ao (aN c q.1.1 r),ao (aN d q.1.2 r))=pr:=by
    rw[w1u]at hm;exact w0e.mp hm
   obtain⟨cY,rfl⟩:=w0b.mp hr;rw[w3u];rw[List.length_range]at cY;have es:((iO c d Q' p q.1 m vN vO nG).set 7 (.fr (ao (aN c q.1.1 m)))).set 8 (.fr (ao (aN d q.1.2 m)))=iO c d Q' p q.1 m (.fr (ao (aN c q.1.1 m))) (.fr (ao (aN d q.1.2 m))) nG:=rfl;simp only[w1w];rw[es];cases hb:(prod c d).bad q.1 m with
   |true=>
    obtain⟨e',h4⟩:=W8 (K:=K) (a:=a) n T h2 h3 nG C hb;have wl:=h2.wl p q h3;have ll:=h2.len T.toWo ⟨T.oc.pos,T.od.pos⟩;have pl:=(w0b.mp h3).1;exact .inr ⟨_,e',h4,_,rfl,by rw[w1o];simp;omega,h2.least h3 cY hb⟩
   |false=>
    obtain⟨Q2,z2,k1,k2,k3,k4⟩:=V_ (K:=K) (a:=a) n T h2 h3 cY nG C hb;exact .inl ⟨_,k4,Q2,_,_,z2,k1,k2,k3,rfl⟩
 simpa using this
theorem E6{Q:Qu}{p:Nat}(hq:Q[p]?=some q):cq (Q.map λq=>aF q.1) (p:Int)=some (aF q.1):=by
 grind [p_]
theorem M5(n:Nat){c d:Mc}(T:mw c d):∀(fuel:Nat)(Q:Qu)(p:Nat)(y i t7 t8 z9:S),BK c d Q p 0->p<=Q.length->14001<fuel+p->eU z9=false ->
  (∃Q' e',bc (tV K a (run K a (n+1))) (pG K a (run K a (n+1))) fuel [.fr (ag c),.fr (ag d),eQ (prod c d) (0,0) Q,.own none (Q.map λq=>aF q.1),.fr (.int (p:Int)),y,i,t7,t8,z9]=.nx ([.fr (ag c),.fr (ag d),eQ (prod c d) (0,0) Q',.own none (Q'.map λq=>aF q.1)]++e')/\(∃p',BK c d Q' p' 0/\Q'.length=p')) \/
  ∃s e',bc (tV K a (run K a (n+1))) (pG K a (run K a (n+1))) fuel [.fr (ag c),.fr (ag d),eQ (prod c d) (0,0) Q,.own none (Q.map λq=>aF q.1),.fr (.int (p:Int)),y,i,t7,t8,z9]=.rt s e'/\Told (prod c d) s
 |0,Q,p,y,i,t7,t8,z9,B,hp,hf,h9=>by
  have:=B.len T.toWo ⟨T.oc.pos,T.od.pos⟩;omega
 |fuel+1,Q,p,y,i,t7,t8,z9,B,hp,hf,h9=>by
  have hl:=B.len T.toWo ⟨T.oc.pos,T.od.pos⟩
  have Ti:tV K a (run K a (n+1)) [.fr (ag c),.fr (ag d),eQ (prod c d) (0,0) Q,.own none (Q.map λq=>aF q.1),.fr (.int (p:Int)),y,i,t7,t8,z9]=.ok (decide (p<Q.length)) [.fr (ag c),.fr (ag d),eQ (prod c d) (0,0) Q,.own none (Q.map λq=>aF q.1),.fr (.int (p:Int)),y,i,t7,t8,z9]:=by
   unfold tV;rw?
   simp_all
  rw[yL,Ti]
  by_cases cY:p<Q.length
  .rw[decide_eq_true cY];obtain⟨q,hq⟩:∃q,Q[p]?=some q:=⟨_,w0j cY⟩;have fj:=B.CA T.toWo ⟨T.oc.pos,T.od.pos⟩ q (w0d hq);have rows:=V' (K:=K) (a:=a) n T B hq t7 t8 z9 h9
   have turn:pG K a (run K a (n+1)) [.fr (ag c),.fr (ag d),eQ (prod c d) (0,0) Q,.own none (Q.map λq=>aF q.1),.fr (.int (p:Int)),y,i,t7,t8,z9]=(d8 7 8 (tU K a (run K a (n+1))) ((List.range (prod c d).R).map λr=>(ao (aN c q.1.1 r),ao (aN d q.1.2 r))) (iO c d Q p q.1 0 t7 t8 z9)).seq (aJ 4 (aq bY (ae 4) (dC (.int 1)))):=by
    unfold pG;rw?;rw[E6 hq];rw?;rw[nE];rw?;rw[Kd];rw?;rw[sE fj.1];rw?;rw[nE];rw?;rw[Ke];rw?;rw[sE fj.2];unfold ar;rw?;rw[Zd T fj];rfl
   rcases rows with⟨e',C,Q',vN,vO,nG,k1,k2,k3,rfl⟩|⟨s,e',C,h2⟩
   .have k4:=k2.next T k3;have R7:p<Q'.length:=(w0b.mp k3).1
    have jB:(pG K a (run K a (n+1)) [.fr (ag c),.fr (ag d),eQ (prod c d) (0,0) Q,.own none (Q.map λq=>aF q.1),.fr (.int (p:Int)),y,i,t7,t8,z9])=.nx [.fr (ag c),.fr (ag d),eQ (prod c d) (0,0) Q',.own none (Q'.map λq=>aF q.1),.fr (.int ((p+1:Nat):Int)),.fr (aF q.1),.fr (.int ((prod c d).R:Int)),vN,vO,nG]:=by
     rw[turn,C];unfold iO;rw?;rfl
    have go:=M5 n T fuel Q' (p+1) (.fr (aF q.1)) (.fr (.int ((prod c d).R:Int))) vN vO nG k4 (by omega) (by omega) k1;rw[show((R.ok true [S.fr (ag c),.fr (ag d),eQ (prod c d) (0,0) Q,.own none (Q.map λq=>aF q.1),.fr (.int (p:Int)),y,i,t7,t8,z9]).cQ λx e1=>if x=true then(pG K a (run K a (n+1)) e1).turn (bc (tV K a (run K a (n+1))) (pG K a (run K a (n+1))) fuel)else SR.nx e1)=(pG K a (run K a (n+1)) [S.fr (ag c),.fr (ag d),eQ (prod c d) (0,0) Q,.own none (Q.map λq=>aF q.1),.fr (.int (p:Int)),y,i,t7,t8,z9]).turn (bc (tV K a (run K a (n+1))) (pG K a (run K a (n+1))) fuel)from rfl,jB]
    exact go
   .refine .inr ⟨s,e',?_,h2⟩;show((pG K a (run K a (n+1)) _).turn _)=_;rw[turn,C];rfl
  .rw[decide_eq_false cY];refine .inl ⟨Q,[.fr (.int (p:Int)),y,i,t7,t8,z9],rfl,p,B,by omega⟩
theorem NI(n)(T:mw c d):run K a (n+4) yw [ag c,ag d]=.ok (.fr .aG):=by
 have both:run K a (n+3) xh [ag c,ag d]=.ok (.fr .aG):=by
  rw[CP];unfold A8;rw?;rw[yC n c T.oc];rw?;rw[yC n d T.od];rw?;rw[pI];rw?;rw[pI];rw?;rw[T.hm];rw?
 rw[Hd];unfold Dm;rw?;rw[both];rw?;rw[ua];rw?;rw[ua];rw?
 grind [mw.hw]
noncomputable def sr(L:List Pq):List W:=L.map λy=>nI (L.idxOf y)
noncomputable def qM(L:List Pq):S:=.dw oh (L.map bE) (sr L)
theorem NJ(h:y∉L):sr (L++[y])=sr L++[nI L.length]:=by
 grind [sr,List.map_congr_left]
theorem J7(hn:L.Nodup){y:Pq}(h:y∈L):ja (L.map bE) (sr L) (bE y)=some (nI (L.idxOf y)):=yW (f:=id) (v:=λy=>nI (L.idxOf y)) (by simpa using hn) h
theorem O6{y:Pq}(h:y∉L):ja (L.map bE) (sr L) (bE y)=none:=tK (f:=id) (v:=λy=>nI (L.idxOf y)) λq hq e=>h (by grind)
theorem Wa(r)(w0 w1)(T)(hT:T.length<=20000)(hn:T.Nodup)(sts)(z5)(st:List Pr)(i9:st.length<=100)(t)(y:Pq):
  yx K a r [.fr w0,.fr w1,.own none (T.map aF),qM T,.own none sts,.fr z5,.own none (st.map ao),.fr (aA t),.fr (aF y)] =
   .nx [.fr w0,.fr w1,.own none ((bF T y).map aF),qM (bF T y),.own none sts,.fr z5,.own none ((st++[(t,(bF T y).idxOf y)]).map ao),.fr (aA t),.fr (aF y)]:=by
 have en:=Bw (fz:=false) (sh:=oh) (ks:=T.map bE) (ws:=sr T) (sx y) (q_ y);have Lv:=JM hn y;unfold yx qM;rw?;rw[en];rw?
 by_cases h:y∈T
 .have e:bF T y=T:=if_pos h;rw[e,J7 hn h];rw?;rw[if_neg (by simp),Ce (sx y) (q_ y),J7 hn h];rw?;rw[if_pos (by rfl),if_pos (by grind),w0g];rfl
 .have e:bF T y=T++[y]:=if_neg h;rw[e]at Lv |-
  have CC:=J7 Lv (show y∈T++[y] by simp);rw[NJ h,O5 h,w0g]at CC;have CC:ja (T.map bE++[bE y]) (sr T++[nI T.length]) (bE y)=some (nI T.length):=CC;have hl:(sr T).length=T.length:=by simp[sr]
  rw[O6 h];rw?;rw[if_pos (by rfl),w0a,show(W.int (T.length:Int))=nI T.length from rfl,JF (sx y) (by grind) (by rfl) (q_ y) (O6 h)];rw?;rw[if_pos (by grind)];rw?;rw[Ce (sx y) (q_ y),CC];rw?;rw[if_pos (by rfl),if_pos (by grind),NJ h,O5 h,w0g,w0g,w0g];rfl
theorem Oa(r:Nat->List W->FR)(w0 w1:W)(sts:List W)(z5:W):∀(ps:List pT)(T:List Pq)(st:List Pr)(z7 z8:S),T.Nodup->T.length+ps.length<=20000->st.length+ps.length<=100 ->
  ∃uC uD,d8 7 8 (yx K a r) (ps.map λp=>(aA p.1,aF p.2)) [.fr w0,.fr w1,.own none (T.map aF),qM T,.own none sts,.fr z5,.own none (st.map ao),z7,z8] =
   .nx [.fr w0,.fr w1,.own none (((ps.map (·.2)).foldl bF T).map aF),qM ((ps.map (·.2)).foldl bF T),.own none sts,.fr z5,.own none ((st++dj ((ps.map (·.2)).foldl bF T) ps).map ao),uC,uD]
 |[],T,st,z7,z8,_,_,_=>⟨z7,z8,by show SR.nx _=_;simp[dj]⟩
 |p::ps,T,st,z7,z8,hn,C,h2=>by
  have q:=Wa (K:=K) (a:=a) r w0 w1 T (by simp at C;omega) hn sts z5 st (by simp at h2;omega) p.1 p.2;have hl:(bF T p.2).length<=T.length+1:=by unfold bF;split<;>simp
  obtain⟨uC,uD,g⟩:=Oa r w0 w1 sts z5 ps (bF T p.2) (st++[(p.1,(bF T p.2).idxOf p.2)]) (.fr (aA p.1)) (.fr (aF p.2)) (JM hn p.2) (by simp at C;omega) (by simp at h2 |-;omega);refine⟨uC,uD,?_⟩;show(yx K a r [.fr w0,.fr w1,.own none (T.map aF),qM T,.own none sts,.fr z5,.own none (st.map ao),.fr (aA p.1),.fr (aF p.2)]).dD (d8 7 8 (yx K a r) (ps.map λp=>(aA p.1,aF p.2)))=_
  rw[q];rw?;rw[g];show _=SR.nx [.fr w0,.fr w1,.own none (((ps.map (·.2)).foldl bF (bF T p.2)).map aF),qM ((ps.map (·.2)).foldl bF (bF T p.2)),.own none sts,.fr z5,.own none ((st++dj ((ps.map (·.2)).foldl bF (bF T p.2)) (p::ps)).map ao),uC,uD];obtain⟨m,hm⟩:=Bg (ps.map (·.2)) (bF T p.2)
  have e:(st++[(p.1,(bF T p.2).idxOf p.2)])++dj ((ps.map (·.2)).foldl bF (bF T p.2)) ps=st++dj ((ps.map (·.2)).foldl bF (bF T p.2)) (p::ps):=by
   unfold dj;rw[w0p,w0y];congr 2;rw[hm,Za (OF T p.2)];rfl
  rw[e]
structure zw(K:Fg)(a:bu)(n:Nat)(j:Nat)(l:Lm)(aL:List W)(g:Pq->List pT)(B:Pq->Prop):Prop where
 call:∀x,B x->∀e,fW bo (run K a n) j l aL [aF x] e=.ok (.lst ((g x).map nQ)) e
 next:∀x,B x->∀p∈g x,B p.2
 gJ:∀l:List Pq,l.Nodup->(∀x∈l,B x)->l.length<=14000
 len:∀x,B x->(g x).length<=8
noncomputable def l7(w0 w1:W)(g:Pq->List pT)(b:Pq)(i:Nat)(z5 z6 z7 z8:S):List S:=[.fr w0,.fr w1,.own none ((bg g b i).map aF),qM (bg g b i),.own none ((((bg g b i).take i).map λx=>dj (bg g b i) (g x)).map ar),z5,z6,z7,z8]
theorem zD{L:List Pq}(h:i<L.length):cq (L.map aF) (i:Int)=some (aF (L.getD i (0,0))):=by
 grind [p_]
theorem M6(n:Nat){j:Nat}{l:Lm}{aL:List W}{g:Pq->List pT}{B:Pq->Prop}(H:zw K a n j l aL g B)(w0:W)(b:Pq)(hb:B b):∀(fuel i:Nat)(z5 z6 z7 z8:S),i<=(bg g b i).length->14001<=i+fuel ->
  ∃(I:Nat)(y5 y6 y7 y8:S),(bg g b I).length=I/\bc (A6 K a (run K a n)) (A7 K a (run K a n)) (fuel+1) (l7 w0 (.fn j l aL) g b i z5 z6 z7 z8)=.nx (l7 w0 (.fn j l aL) g b I y5 y6 y7 y8)
 |0,i,z5,z6,z7,z8,hi,hf=>by
  have:=H.gJ _ (yT g b i) (vv hb H.next i);omega
 |fuel+1,i,z5,z6,z7,z8,hi,hf=>by
  have hl:=H.gJ _ (yT g b i) (vv hb H.next i);have ht:(((bg g b i).take i).map λx=>dj (bg g b i) (g x)).length=i:=by grind
  have hw:A6 K a (run K a n) (l7 w0 (.fn j l aL) g b i z5 z6 z7 z8)=.ok (decide (i<(bg g b i).length)) (l7 w0 (.fn j l aL) g b i z5 z6 z7 z8):=by
   unfold A6 l7 qM;rw?
   simp_all
  rw[yL,hw]
  by_cases h:i<(bg g b i).length
  .have hB:B ((bg g b i).getD i (0,0)):=vv hb H.next i _ (by grind);have RM:=H.len _ hB
   have he:bg g b (i+1)=((g ((bg g b i).getD i (0,0))).map (·.2)).foldl bF (bg g b i):=by
    simp_all [bg]
   obtain⟨y7,y8,q⟩:=Oa (K:=K) (a:=a) (run K a n) w0 (.fn j l aL) ((((bg g b i).take i).map λx=>dj (bg g b i) (g x)).map ar) (aF ((bg g b i).getD i (0,0))) (g ((bg g b i).getD i (0,0))) (bg g b i) [] z7 z8 (yT g b i) (by omega) (by grind)
   rw[<- he]at q
   have Fu:A7 K a (run K a n) (l7 w0 (.fn j l aL) g b i z5 z6 z7 z8)=.nx (l7 w0 (.fn j l aL) g b (i+1) (.fr (aF ((bg g b i).getD i (0,0)))) (.fr (ar (dj (bg g b (i+1)) (g ((bg g b i).getD i (0,0)))))) y7 y8):=by
    unfold A7 l7;unfold qM at q |-
    rw?;rw[w0a,ht,zD h];rw?;rw[H.call _ hB];rw?;rw[UO];rw?;rw[show([]:List W)=([]:List Pr).map ao from rfl,q];rw?;rw[if_pos (by grind),z60 h,w0g];rfl
   rw[decide_eq_true h];rw?;rw[Fu];rw?;obtain⟨m,hm⟩:=Eb g b i
   exact M6 n H w0 b hb fuel (i+1) _ _ _ _ (by
    grind) (by omega)
  .rw[decide_eq_false h];rw?
   grind
theorem IJ(n)(T:Wo c d):zw K a (n+2) xa t5 [ag c,ag d] (gW c d) (jU c d) where
 call:=λx hx e=>l3 n T.oc T.od hx e
 next:=λx hx p hp=>Jr T.oc T.od hx p hp
 gJ:=λl C h2=>w0l (xj T C h2) T.sz
 len:=λx hx=>V9 T.oc hx
theorem Gq(l:List Pq):bA (l.map aF)=true:=yE (λ_=>rfl) l
theorem Wb(n)(T:Wo c d):∃I:Nat,(bg (gW c d) (0,0) I).length=I /\
  run K a (n+3) Ba [.tup [.int 0,.int 0],.fn xa t5 [ag c,ag d]]=.ok (.fr (.tup [.lst (((bg (gW c d) (0,0) I).map λx=>dj (bg (gW c d) (0,0) I) (gW c d x)).map ar),.lst ((bg (gW c d) (0,0) I).map aF)])):=by
 obtain⟨I,y5,y6,y7,y8,C,h2⟩:=M6 (K:=K) (a:=a) (n+2) (IJ n T) (.tup [.int 0,.int 0]) (0,0) ⟨T.oc.pos,T.od.pos⟩ 999999 0 .no .no .no .no (by simp) (by omega);have h2:bc (A6 K a (run K a (n+2))) (A7 K a (run K a (n+2))) 1000000 [.fr (.tup [.int 0,.int 0]),.fr (.fn xa t5 [ag c,ag d]),.own none [.tup [.int 0,.int 0]],.dw (.tup [.int,.int]) [.tup [.int 0,.int 0]] [.int 0],.own none [],.no,.no,.no,.no]=_:=h2;rw[Hv];unfold Dt;rw?;rw[show gN (.tup [.int 0,.int 0])=some (.tup [.int 0,.int 0])from rfl];rw?;rw[h2];unfold l7 qM;rw?
 grind
noncomputable def bG(c d:Mc)(L:List Pq):Mc:=⟨c.m,c.wide+d.wide,L.map λx=>dj L (gW c d x)⟩
theorem Ze(n)(T:Wo c d):∃I:Nat,(bg (gW c d) (0,0) I).length=I /\
  run K a (n+4) qX [ag c,ag d]=.ok (.fr (.tup [ag (bG c d (bg (gW c d) (0,0) I)),.lst ((bg (gW c d) (0,0) I).map aF)])):=by
 obtain⟨I,C,g⟩:=Wb (K:=K) (a:=a) n T;refine⟨I,C,?_⟩;rw[HN];unfold D8;rw?;rw[V8 n c d T.oc T.od T.hm];rw?;rw[show dq [0,1] [S.fr (ag c),S.fr (ag d),S.no]=some [ag c,ag d]from rfl,GK,g,Ia (by show(bA (List.map ar _)&&(bA (List.map aF _)&&true))=true;rw[Gq,yE (f:=ar) λs=>show bA (s.map ao)=true from yE OE s];rfl)]
 rw?;rw[pI];rw?;rw[ua];rw?;rw[ua];rw?;rfl
theorem O7:∀ks:List Nat,eu (ks.map nI)=some (ks.map fun(k:Nat)=>(k:Int))
 |[]=>rfl
 |k::ks=>by
  show(eu (ks.map nI)).map _=_;rw[O7 ks];rfl
theorem Jt:∀{ks:List Nat},k∈ks->lW (k:Int) (ks.map λk:Nat=>(k:Int))=some (ks.idxOf k)
 |[],h=>nomatch h
 |y::ks,h=>by
  show(if(y:Int)=(k:Int)then some 0 else(lW (k:Int) (ks.map λk:Nat=>(k:Int))).map (·+1))=_
  by_cases e:y=k
  .grind
  .rw[if_neg (by omega),Jt ((w0m.mp h).resolve_left λz=>e z.symm),w3n,beq_false_of_ne e]
   rfl
theorem Zf{k:Nat}(h:k∈ks):f_ (.lst (ks.map nI)) [.int (k:Int)]=some (.int ((ks.idxOf k:Nat):Int)):=by
 show(match eu (ks.map nI)with
  |some ys=>match lW (k:Int) ys with
   |some j=>some (W.int (j:Int))
   |none=>none
  |none=>none)=_
 rw[O7];dsimp only;rw[Jt h]
theorem Bx{f h:α->W}:∀(l:List α),(∀x∈l,∃e',d (.fr (f x)::pe)=.ok (h x) e')->ei cP d pe (l.map f)=some (l.map h)
 |[],_=>rfl
 |x::l,H=>by
  obtain⟨e',C⟩:=H x (by simp);rw[w0p,Vp];show(match d (.fr (f x)::pe)with|.ok w _=>(ei cP d pe (l.map f)).map (w::·)|_=>none)=_;rw[C,Bx l λy hy=>H y (by simp[hy])]
  rfl
theorem O8{f:α->W}{h:α->List W}:∀(l:List α),(∀x∈l,∃e',d (.fr (f x)::pe)=.ok (h x) e')->jj d pe (l.map f)=some (l.map h)
 |[],_=>rfl
 |x::l,H=>by
  obtain⟨e',C⟩:=H x (by simp);unfold jj;rw[w0p];dsimp only;rw[C,O8 l λy hy=>H y (by simp[hy])]
  rfl
noncomputable def f0(c:Mc)(ord:List Nat)(k:Nat):List Pr:=(c.af.getD k []).map λp=>(p.1,ord.idxOf p.2)
theorem z61(r){ord:List Nat}(h:p.2∈ord):∃e',G5 K a r [.fr (ao p),.fr (.lst (ord.map nI))]=.ok (ao (p.1,ord.idxOf p.2)) e':=by
 unfold G5;rw?;rw[qZ];rw?;rw[sC];rw?;rw[Zf h];rw?;exact⟨_,rfl⟩
theorem Qe(r)(J:c.Ok)(ho:∀x,x<c.af.length->x∈ord){k:Nat}(hk:k<c.af.length):∃e',tX K a r [.fr (.int (k:Int)),.fr (ag c),.fr (.lst (ord.map nI))]=.ok ((f0 c ord k).map ao) e':=by
 have hl:=J.st _ (fE hk)
 have p8:2^c.m<=8:=by
  have:c.m=0\/c.m=1\/c.m=2\/c.m=3:=by have:=J.gJ;omega
  grind
 unfold tX;rw?;rw[nE];rw?;rw[sE hk];unfold ar;rw?;rw[if_pos (by grind),Ya (w:=.lst (ord.map nI)) rfl,Z4 (w:=.lst (ord.map nI)) rfl,Bx (h:=λp=>ao (p.1,ord.idxOf p.2)) _ λp hp=>z61 r (ho _ (J.pr _ (fE hk) p hp).2)]
 rw?
 simp_all [f0]
structure GS(c:Mc)(size:Nat)(sts:List (List Pr)):Prop where
 len:sts.length=size
 st:∀s∈sts,s.length=2^c.m
 pr:∀s∈sts,∀p∈s,p.1.length=c.wide/\p.2<size
theorem GS.two(h:GS c size sts)(J:c.Ok)(h0:0<size)(C:size<=20):Tw c ⟨c.m,c.wide,sts⟩:=
 ⟨J,⟨⟨J.gJ,J.wg,by grind [len],by grind [len],h.st,λs hs p hp=>⟨(h.pr s hs p hp).1,by show p.2<sts.length;rw[h.len];exact(h.pr s hs p hp).2⟩⟩,J.wd,by grind [len]⟩,rfl,rfl⟩
theorem Ed{l:List α}{v x:α}(h:x∈l.set k v):x∈l\/x=v:=List.mem_or_eq_of_mem_set h
theorem GS.set(h:GS c size sts)(C:s.length=2^c.m)(h2:∀p∈s,p.1.length=c.wide/\p.2<size):GS c size (sts.set k s):=by
 refine⟨by grind [len],λt ht=>?_,λt ht=>?_⟩
 .rcases Ed ht with z|rfl
  .exact h.st t z
  .exact C
 .rcases Ed ht with z|rfl
  .exact h.pr t z
  .exact h2
theorem GS.get(h:GS c size sts)(hk:k<size):sts.getD k []∈sts/\sts[k]?=some (sts.getD k []):=by
 grind [len]
structure Or(n:Nat)(ord:List Nat):Prop where
 len:ord.length=n
 all:∀x,x<n->x∈ord
 lt:∀x∈ord,x<n
theorem Fp(J:c.Ok)(ho:Or c.af.length ord):GS c c.af.length (ord.map (f0 c ord)):=by
 refine⟨by rw[w0a];exact ho.len,λs hs=>?_,λs hs p hp=>?_⟩
 .obtain⟨k,hk,rfl⟩:=w0k.mp hs;unfold f0;rw[w0a];exact J.st _ (fE (ho.lt k hk))
 .obtain⟨k,hk,rfl⟩:=w0k.mp hs;obtain⟨q,hq,rfl⟩:=w0k.mp hp;obtain⟨C,h2⟩:=J.pr _ (fE (ho.lt k hk)) q hq;exact⟨C,by rw[<- ho.len];exact w2k.mpr (ho.all _ h2)⟩
noncomputable def gH(A:W)(c:Mc)(way:Int)(ord:List Nat)(z5 z6 z7 z8 z9 mB:S):List S:=[.fr A,.fr (ag c),.fr (.int way),.fr (.int (c.af.length:Int)),.fr (.lst (ord.map nI)),z5,z6,z7,z8,z9,mB]
theorem z62(r)(A)(J:c.Ok)(ho:Or c.af.length ord)(hw:way%4=3):
  (nN (mY 2 4 3) (bV 5 (dz [1,4] (ae 4) cP (g8 (tX K a r)))) (lC 5 [1,4] (ae 4) (tX K a r))) (gH A c way ord .no .no .no .no .no .no)=.nx (gH A c way ord (.own none ((ord.map (f0 c ord)).map ar)) .no .no .no .no .no):=by
 have hm:=J.most;have hl:=ho.len;unfold gH;rw?;rw[hw];rw?;rw[if_pos (by grind)];simp only[gK,nB,w0x,w0z]
 rw[Bx (h:=λk=>ar (f0 c ord k)) _ λk hk=>by
  obtain⟨e',z⟩:=Qe (K:=K) (a:=a) r J ho.all (ho.lt k hk);refine⟨e',?_⟩;have z:tX K a r [.fr (nI k),.fr (ag c),.fr (.lst (ord.map nI))]=_:=z;rw[Xn,z];rfl]
 rw?;rw[w0s];rfl
theorem O9(r)(A)(J:c.Ok)(ho:Or c.af.length ord)(hw:¬way%4=3):
  (nN (mY 2 4 3) (bV 5 (dz [1,4] (ae 4) cP (g8 (tX K a r)))) (lC 5 [1,4] (ae 4) (tX K a r))) (gH A c way ord .no .no .no .no .no .no)=.nx (gH A c way ord (.nest ((ord.map (f0 c ord)).map λs=>s.map ao)) .no .no .no .no .no):=by
 have hm:=J.most;have hl:=ho.len;unfold gH;rw?;rw[if_neg hw,if_pos (by grind)];simp only[gK,nB,w0x,w0z]
 rw[O8 (h:=λk=>(f0 c ord k).map ao) _ λk hk=>by
  obtain⟨e',z⟩:=Qe (K:=K) (a:=a) r J ho.all (ho.lt k hk);exact⟨e',z⟩]
 rw?;rw[w0s];rfl
theorem Em(h:k<n):jn n (k:Int)=some k:=by
 simp_all [jn]
theorem vA(h:0<n):∃k:Nat,v%(n:Int)=(k:Int)/\k<n:=by
 have C:=w2f v (show(n:Int)≠0 by omega);have h2:=w2d v (show(0:Int)<(n:Int) by omega);exact⟨(v%(n:Int)).toNat,by omega,by omega⟩
theorem yb{sts:List (List Pr)}{k:Nat}(h:sts[k]?=some s):cq (sts.map λs=>s.map ao) (k:Int)=some (s.map ao):=by
 grind [p_]
theorem Kr{s:List Pr}{k:Nat}(h:s[k]?=some p):cq (s.map ao) (k:Int)=some (ao p):=by
 grind [p_]
theorem Cm{sts:List (List Pr)}{k:Nat}(h:sts[k]?=some s):cq (sts.map ar) (k:Int)=some (ar s):=by
 grind [p_]
theorem Ju(sts:List (List Pr)):(sts.map λs=>s.map ao).map W.lst=sts.map ar:=by
 rw[w0s];rfl
theorem IZ(sts:List (List Pr))(j)(s):((sts.map λs=>s.map ao).set j (s.map ao)).map W.lst=(sts.set j s).map ar:=by
 rw[<- Ju,w2x,w2x,w2x]
theorem xA(A)(hz:z5=.fr (.lst (sts.map ar))\/z5=.own none (sts.map ar))(z6 z7 z8 z9 mB):
  ∃e',(a9 (bP (ab (aq aM (ae 1) (dC (.int 0))) (ab (aq aM (ae 1) (dC (.int 1))) (ab (ae 5) ah))))) (gH A c way ord z5 z6 z7 z8 z9 mB)=.rt (.fr (ag ⟨c.m,c.wide,sts⟩)) e':=by
 unfold gH;rw?;rw[pI];rw?;rw[ua];rw?;rcases hz with rfl|rfl
 .rw?;exact⟨_,rfl⟩
 .rw?;exact⟨_,rfl⟩
theorem Qf{sts:List (List Pr)}{j:Nat}(hj:sts[j]?=some s)(hk:k<s.length):((cq (sts.map λs=>s.map ao) (j:Int)).bind λws=>kC (ao p) ws [.int (k:Int)])=some ((s.set k p).map ao):=by
 grind [yb,Z6,List.map_set]
theorem IT(r)(A)(J:c.Ok)(ho:Or c.af.length ord)(hw:way%4=2):
  ∃sts e',GS c c.af.length sts/\vo K a r (gH A c way ord .no .no .no .no .no .no)=.rt (.fr (ag ⟨c.m,c.wide,sts⟩)) e':=by
 have g0:=Fp J ho;have sn:=O9 (K:=K) (a:=a) r A J ho (way:=way) (by omega);generalize ord.map (f0 c ord)=eG at g0 sn;obtain⟨j,j1,j2⟩:=vA (v:=way / 4) J.pos;obtain⟨m1,m2⟩:=g0.get j2;generalize eG.getD j []=s at m1 m2;have FZ:=g0.st s m1;obtain⟨k,k1,k2⟩:=vA (v:=way / 80) (n:=s.length) (by grind);obtain⟨f,f1,f2⟩:=vA (v:=way / 640) J.pos;have hp:s[k]?=some s[k]:=w0j k2;generalize s[k]=p at hp;have Cy:=g0.pr s m1 p (w0d hp)
 have gd:GS c c.af.length (eG.set j (s.set k (p.1,f))):=g0.set (by grind) λq hq=>by
  rcases Ed hq with z|rfl
  .exact g0.pr s m1 q z
  .exact⟨Cy.1,f2⟩
 have rt:=xA A (c:=c) (way:=way) (ord:=ord) (sts:=eG.set j (s.set k (p.1,f))) (.inl rfl);have pp:=Qf (p:=(p.1,f)) m2 k2;have FH:jn (eG.map λs=>s.map ao).length (j:Int)=some j:=Em (by grind)
 unfold vo;rw[Jy,sn,DX];generalize (a9 (bP (ab (aq aM (ae 1) (dC (.int 0))) (ab (aq aM (ae 1) (dC (.int 1))) (ab (ae 5) ah)))))=RT at rt |-
 unfold gH at rt |-
 rw?;rw[hw];rw?;rw[if_pos (by have:=J.pos;omega),j1,Ju,Cm m2];unfold ar;rw?;rw[w0a,if_pos (by omega),k1];rw?;rw[yb m2];rw?;rw[Kr hp];rw?;rw[qZ];rw?;have gM:(0:Int)<(c.af.length:Int):=by have:=J.pos;omega
 rw[if_pos gM,f1];have hn:=λe h3=>OT (e:=e) (i:=5) (us:=[.int (k:Int)]) FH pp h3
 rw[yb m2];simp only[w2r,if_true];rw[show jq 5 (D.kC (W.tup [aA p.fst,W.int ↑f])) ↑j [W.int ↑k] _ _=_ from hn _ rfl,IZ];rw?;rw[hw];rw?;obtain⟨e',z⟩:=rt (.fr (.int (j:Int))) (.fr (.int (k:Int))) .no .no .no;exact⟨_,e',gd,z⟩
theorem z9t(bs:List Bool):ne2 (.lst (bs.map W.bl)) (.lst [])=some (.bl (!bs.isEmpty)):=by
 cases bs with
 |nil=>rfl
 |cons b bs=>
  unfold ne2;rw[if_pos (by simp_all [aW,yq,cV])];rfl
theorem IQ(r)(A)(J:c.Ok)(ho:Or c.af.length ord)(hw:way%4=1):
  ∃sts e',GS c c.af.length sts/\vo K a r (gH A c way ord .no .no .no .no .no .no)=.rt (.fr (ag ⟨c.m,c.wide,sts⟩)) e':=by
 have g0:=Fp J ho;have sn:=O9 (K:=K) (a:=a) r A J ho (way:=way) (by omega);generalize ord.map (f0 c ord)=eG at g0 sn;obtain⟨j,j1,j2⟩:=vA (v:=way / 4) J.pos;obtain⟨m1,m2⟩:=g0.get j2;generalize eG.getD j []=s at m1 m2;have FZ:=g0.st s m1;obtain⟨k,k1,k2⟩:=vA (v:=way / 80) (n:=s.length) (by grind);have hp:s[k]?=some s[k]:=w0j k2;generalize s[k]=p at hp;have Cy:=g0.pr s m1 p (w0d hp);have hwd:=J.wd
 have gd:∀bs:List Bool,bs.length=c.wide->GS c c.af.length (eG.set j (s.set k (bs,p.2))):=λbs hb=>g0.set (by grind) λq hq=>by
  rcases Ed hq with z|rfl
  .exact g0.pr s m1 q z
  .exact⟨hb,Cy.2⟩
 have rt:=λbs:List Bool=>xA A (c:=c) (way:=way) (ord:=ord) (sts:=eG.set j (s.set k (bs,p.2))) (.inl rfl)
 have pp:=λbs:List Bool=>Qf (p:=(bs,p.2)) m2 k2
 have FH:jn (eG.map λs=>s.map ao).length (j:Int)=some j:=Em (by grind)
 have hn:=λbs e h3=>OT (e:=e) (i:=5) (us:=[.int (k:Int)]) FH (pp bs) h3
 have gM:(0:Int)<(c.af.length:Int):=by have:=J.pos;omega
 unfold vo;rw[Jy,sn,DX];generalize (a9 (bP (ab (aq aM (ae 1) (dC (.int 0))) (ab (aq aM (ae 1) (dC (.int 1))) (ab (ae 5) ah)))))=RT at rt |-
 unfold gH at rt |-
 rw?;rw[hw];rw?;rw[if_pos gM,j1,Ju,Cm m2];unfold ar;rw?;rw[w0a,if_pos (by omega),k1];rw?;rw[yb m2];rw?;rw[Kr hp];rw?;rw[qZ];unfold aA;rw?;simp only[w2r,if_true];rw[z9t]
 by_cases hb:p.1=[]
 .rw[hb];have hn:=hn [];rw[hb]at Cy;simp only[List.isEmpty_nil,Bool.not_true];rw?;rw[sC];rw?;rw[yb m2];simp only[w2r,if_true];rw[show jq 5 (D.kC (W.tup [W.tup [],W.int ↑p.snd])) ↑j [W.int ↑k] _ _=_ from hn _ rfl,IZ];rw?;rw[hw];rw?;obtain⟨e',z⟩:=rt [] (.fr (.int (j:Int))) (.fr (.int (k:Int))) (.fr (ao p)) (.fr (.lst [])) .no
  grind
 .obtain⟨q,q1,q2⟩:=vA (v:=way / 640) (n:=p.1.length) (List.length_pos_iff.mpr hb);have hq:cq (p.1.map W.bl) (q:Int)=some (.bl p.1[q]):=p_ (by grind);rw[show p.1.isEmpty=false by grind];generalize RA:(!p.1[q])=b';rw?;rw[w0a,if_pos (show(0:Int)<(p.1.length:Int) by omega),q1,hq];rw?;rw[RA,w0a,q1,Em q2,if_pos (show(0:Int)<(p.1.length:Int) by omega),L0,<- w2x];have hn:=hn (p.1.set q b');rw?;rw[sC];rw?;rw[yb m2];simp only[w2r,if_true];rw[show jq 5 (D.kC (W.tup [W.tup ((p.1.set q b').map W.bl),W.int ↑p.snd])) ↑j [W.int ↑k] _ _=_ from hn _ rfl,IZ];rw?;rw[hw];rw?;obtain⟨e',z⟩:=rt (p.1.set q b') (.fr (.int (j:Int))) (.fr (.int (k:Int))) (.fr (ao p)) (.fr (.lst ((p.1.set q b').map W.bl))) .no
  grind
noncomputable def twin(size t:Nat)(p:Pr):Pr:=(p.1,if p.2=t then size else p.2)
theorem z63(r){size t:Nat}(p):∃e',GZ K a r [.fr (ao p),.fr (.int (size:Int)),.fr (.int (t:Int))]=.ok (ao (twin size t p)) e':=by
 unfold GZ;rw?;rw[qZ];rw?;rw[sC];rw?;rw[sC];rw?;unfold twin
 by_cases h:p.2=t
 .rw[h];rw?;exact⟨_,rfl⟩
 .rw[if_neg h];rw[if_neg (show ¬(p.2:Int)=(t:Int) by omega)];rw?;exact⟨_,rfl⟩
theorem IU(r:Nat->List W->FR)(A:W){c:Mc}(J:c.Ok){ord:List Nat}(ho:Or c.af.length ord){way:Int}(hw:way%4=3):
  ∃size sts e',0<size/\size<=20/\GS c size sts/\vo K a r (gH A c way ord .no .no .no .no .no .no)=.rt (.fr (ag ⟨c.m,c.wide,sts⟩)) e':=by
 have g0:=Fp J ho;have sn:=z62 (K:=K) (a:=a) r A J ho hw;generalize ord.map (f0 c ord)=eG at g0 sn;have rt:=λsts=>xA A (c:=c) (way:=way) (ord:=ord) (sts:=sts) (.inr rfl)
 have gM:(0:Int)<(c.af.length:Int):=by have:=J.pos;omega
 unfold vo;rw[Jy,sn,DX];generalize (a9 (bP (ab (aq aM (ae 1) (dC (.int 0))) (ab (aq aM (ae 1) (dC (.int 1))) (ab (ae 5) ah)))))=RT at rt |-
 unfold gH at rt |-
 rw?;rw[hw];rw?
 by_cases C:way / 4%2=1
 .rw[C]
  by_cases h2:c.af.length<20
  .obtain⟨t,t1,t2⟩:=vA (v:=way / 8) J.pos;obtain⟨j,j1,j2⟩:=vA (v:=way / 160) J.pos;obtain⟨Gp,Ls⟩:=g0.get t2;generalize eG.getD t []=s at Gp Ls;obtain⟨CD,Lr⟩:=g0.get j2;generalize eG.getD j []=s2 at CD Lr
   have gd:GS c (c.af.length+1) ((eG++[s]).set j (s2.map (twin c.af.length t))):=by
    have g1:GS c (c.af.length+1) (eG++[s]):=by
     refine⟨by rw[w1o,g0.len];rfl,λx hx=>?_,λx hx p hp=>?_⟩
     .rcases w1d.mp hx with z|z
      .exact g0.st x z
      .rw[w0t.mp z];exact g0.st s Gp
     .have:p.1.length=c.wide/\p.2<c.af.length:=by
       rcases w1d.mp hx with z|z
       .exact g0.pr x z p hp
       .rw[w0t.mp z]at hp;exact g0.pr s Gp p hp
      exact⟨this.1,by omega⟩
    refine g1.set (by rw[w0a];exact g0.st s2 CD) λq hq=>?_
    obtain⟨p,hp,rfl⟩:=w0k.mp hq;obtain⟨h3,h4⟩:=g0.pr s2 CD p hp;refine⟨h3,?_⟩;show(if p.2=t then c.af.length else p.2)<_;split<;>omega
   have RO:(eG++[s])[j]?=some s2:=by rw[w1p (by rw[g0.len];exact j2)];exact Lr
   have pZ:=g0.st s2 CD
   have p8:2^c.m<=8:=by
    have:c.m=0\/c.m=1\/c.m=2\/c.m=3:=by have:=J.gJ;omega
    rcases this with h|h|h|h<;>rw[h]<;>decide
   rw?;rw[if_pos (by omega),if_pos gM,if_pos gM,t1,j1,Cm Ls];unfold ar;rw?;have fl:(λs=>W.lst (List.map ao s))=ar:=rfl
   have fa:eG.map ar++[W.lst (s.map ao)]=(eG++[s]).map ar:=by rw[w0g];rfl
   have le:(eG++[s]).length=c.af.length+1:=by rw[w1o,g0.len];rfl
   rw[fl,fa,Cm RO,w0a,if_pos (by rw[g0.len];omega)];unfold ar;rw?;rw[fl,if_pos (by rw[w0a];omega)];simp only[a8,gK,gb,nB,w0x,w0z];rw[Bx (h:=λp=>ao (twin c.af.length t p)) _ λp hp=>z63 (K:=K) (a:=a) r p]
   rw?;have fe:W.lst (List.map (λp=>ao (twin c.af.length t p)) s2)=ar (s2.map (twin c.af.length t)):=by unfold ar;rw[w0s];rfl
   rw[w0a,le,Em (by omega),L0,fe,<- w2x,DX];obtain⟨e',z⟩:=rt ((eG++[s]).set j (s2.map (twin c.af.length t))) (.fr (.int (j:Int))) .no .no .no (.fr (.int (t:Int)));exact⟨_,_,e',by omega,by omega,gd,z⟩
  .rw?;rw[if_neg (by omega)];obtain⟨e',z⟩:=rt eG .no .no .no .no .no;exact⟨_,_,e',J.pos,J.most,g0,z⟩
 .rw[if_neg C];obtain⟨e',z⟩:=rt eG .no .no .no .no .no;exact⟨_,_,e',J.pos,J.most,g0,z⟩
noncomputable def ki(wide:Nat)(p:Pr):Pr:=((p.1++List.replicate 12 false).take wide,p.2)
theorem Qg{k:Nat}(h:k<=l.length):jx l none (some (k:Int))=l.take k:=by
 simp[jx,HT.kF,HT.l_]
theorem Ta{bs:List Bool}(h:k<=bs.length):vK (.tup (bs.map W.bl)) none (some (k:Int))=some (aA (bs.take k)):=by
 by_cases e:k=bs.length
 .rw[z9j (by rw[HT.kF,HT.l_,w0a];omega),w2s (by omega)];rfl
 .rw[z9i (by rw[HT.kF,HT.l_,w0a];omega),Qg (by grind),<- List.map_take];rfl
theorem z64(r)(hw:wide<=12)(hp:p.1.length<=100):∃e',GY K a r [.fr (ao p),.fr (.int (wide:Int))]=.ok (ao (ki wide p)) e':=by
 unfold GY;rw?;rw[qZ];unfold aA;rw?;rw[Yw (by omega) (by omega)];rw?;rw[if_pos (by grind)];have Q7:List.map W.bl p.fst++[W.bl false,W.bl false,W.bl false,W.bl false,W.bl false,W.bl false,W.bl false,W.bl false,W.bl false,W.bl false,W.bl false,W.bl false]=(p.1++List.replicate 12 false).map W.bl:=by simp_all
 rw[Q7,Ta (by grind)];rw?;rw[sC];rw?;exact⟨_,rfl⟩
noncomputable def fit(m wide:Nat)(s:List Pr):List Pr:=((List.replicate 8 (s.map (ki wide))).flatten).take (2^m)
theorem len_rep(n)(l:List α):(List.replicate n l).flatten.length=n*l.length:=by
 simp_all
theorem Xo{m:Nat}(hm:m<=3)(hw:wide<=12)(hR:r vt [.int (m:Int)]=.ok (.fr (.int ((2^m:Nat):Int))))(A)(C:0<s.length)(h2:s.length<=8)(h3:∀p∈s,p.1.length<=100)(done)(hd:done.length<=100)(z5):
  ∃uB,AZ K a r [.fr A,.fr (.int (m:Int)),.fr (.int (wide:Int)),.own none (done.map ar),.fr (ar s),z5]=.nx [.fr A,.fr (.int (m:Int)),.fr (.int (wide:Int)),.own none ((done++[fit m wide s]).map ar),.fr (ar s),uB]:=by
 have p8:2^m<=8:=by
  have:m=0\/m=1\/m=2\/m=3:=by omega
  grind
 have fl:(λs=>W.lst (List.map ao s))=ar:=rfl
 refine⟨.fr (.lst ((s.map (ki wide)).map ao)),?_⟩;unfold AZ;rw?;rw[show gQ (ar s)=some (s.map ao)from rfl];rw?;rw[if_pos (by grind)];simp only[a8,gK,gb,nB,w0x,w0z];rw[Bx (h:=λp=>ao (ki wide p)) _ λp hp=>z64 (K:=K) (a:=a) r hw (h3 p hp)]
 rw[show s.map (λp=>ao (ki wide p))=(s.map (ki wide)).map ao by rw[w0s];rfl]
 rw?
 have e8:kD (.lst ((s.map (ki wide)).map ao)) (.int 8)=some (.lst (((List.replicate 8 (s.map (ki wide))).flatten).map ao)):=by
  rw[JR,if_pos ⟨rfl,by grind⟩]
  simp_all
 rw[e8];unfold fit;have hl:=len_rep 8 (s.map (ki wide));rw[w0a]at hl;generalize (List.replicate 8 (s.map (ki wide))).flatten=L at hl |-
 rw?;rw[hR];rw?;rw[Qg (by grind),<- List.map_take,if_pos (by grind),w0g];rfl
theorem Of{r:Nat->List W->FR}{m:Nat}(hm:m<=3)(hw:wide<=12)(hR:r vt [.int (m:Int)]=.ok (.fr (.int ((2^m:Nat):Int))))(A:W):∀(rest done:List (List Pr))(z4 z5:S),(∀s∈rest,0<s.length/\s.length<=8/\∀p∈s,p.1.length<=100)->done.length+rest.length<=100 ->
  ∃EI uB,dH 4 (AZ K a r) (rest.map ar) [.fr A,.fr (.int (m:Int)),.fr (.int (wide:Int)),.own none (done.map ar),z4,z5]=.nx [.fr A,.fr (.int (m:Int)),.fr (.int (wide:Int)),.own none ((done++rest.map (fit m wide)).map ar),EI,uB]
 |[],done,z4,z5,_,_=>⟨z4,z5,by rw[w2i,w2i,w1v];rfl⟩
 |s::rest,done,z4,z5,h,hd=>by
  rw[w1g]at hd;obtain⟨C,h2,h3⟩:=h s (by simp);obtain⟨y5,t⟩:=Xo (K:=K) (a:=a) hm hw hR A C h2 h3 done (by omega) z5;obtain⟨y4,q5,t2⟩:=Of hm hw hR A rest (done++[fit m wide s]) (.fr (ar s)) y5 (λx hx=>h x (by simp[hx])) (by grind)
  grind [Jf,Il]
theorem Zg(h:p∈fit m wide s):∃q∈s,p=ki wide q:=by
 have h:=w3p h;obtain⟨l,hl,hp⟩:=List.mem_flatten.mp h
 grind
theorem UP(n)(J:c.Ok)(ho:o.Ok):∃d,Tw c d/\run K a (n+2) vm [ag o,.int (c.m:Int),.int (c.wide:Int)]=.ok (.fr (ag d)):=by
 have ro:=MD (K:=K) (a:=a) n c.m J.gJ
 have pw:∀m,m<=3->0<2^m/\2^m<=8:=λm h=>by
  have:m=0\/m=1\/m=2\/m=3:=by omega
  grind
 have hwo:=ho.wd
 have i9:∀s∈o.af,0<s.length/\s.length<=8/\∀p∈s,p.1.length<=100:=λs hs=>by
  rw[ho.st s hs];exact⟨(pw _ ho.gJ).1,(pw _ ho.gJ).2,λp hp=>by rw[(ho.pr s hs p hp).1];omega⟩
 obtain⟨z4,z5,f⟩:=Of (K:=K) (a:=a) J.gJ J.wd ro (ag o) o.af [] .no .no i9 (by grind [Mc.Ok.most])
 have gs:GS c o.af.length (o.af.map (fit c.m c.wide)):=by
  refine⟨w0a _,λs hs=>?_,λs hs p hp=>?_⟩
  .obtain⟨q,hq,rfl⟩:=w0k.mp hs;unfold fit;rw[List.length_take,len_rep,w0a];have:=i9 q hq;have:=pw _ J.gJ;omega
  .obtain⟨q,hq,rfl⟩:=w0k.mp hs;obtain⟨p,wF,rfl⟩:=Zg hp;refine⟨?_,(ho.pr q hq p wF).2⟩;show((p.1++List.replicate 12 false).take c.wide).length=_
   grind [Mc.Ok.wd]
 refine⟨_,gs.two J ho.pos ho.most,?_⟩;rw[G8];generalize run K a (n+1)=r at ro f |-
 rw[if_pos (show[ag o,W.int (c.m:Int),W.int (c.wide:Int)].length=3 from rfl)];unfold De init;generalize AZ K a r=LL at f |-
 rw?;rw[nE];rw?;have f:dH 4 LL (List.map ar o.af) [S.fr (ag o),S.fr (W.int ↑c.m),S.fr (W.int ↑c.wide),S.own none [],S.no,S.no]=_:=f;rw[f];rw?;rfl
theorem z9u(h0:0<n){o:List Int}(hp:o.Perm (b_ 1 (n:Int))):Or n (0::o.map Int.toNat)/\(0::o.map Int.toNat).map nI=W.int 0::o.map .int:=by
 have mem:∀i,i∈o↔∃k:Nat,k<n-1/\i=1+(k:Int):=λi=>by
  grind [b_]
 refine⟨⟨?_,λx hx=>?_,λx hx=>?_⟩,?_⟩
 .grind [List.length_map,List.Perm.length_eq,b_]
 .by_cases e:x=0
  .grind
  .refine w1a _ (w0k.mpr ⟨(x:Int),(mem _).mpr ⟨x-1,by omega,by omega⟩,by omega⟩)
 .grind
 .rw[w0p,w0s];congr 1;refine w0r λi hi=>?_
  obtain⟨k,hk,rfl⟩:=(mem _).mp hi;show W.int (((1+(k:Int)).toNat:Nat):Int)=_
  grind
theorem Xp(J:c.Ok)(o)(C:r pH [A,.int 20]=.ok (.fr (.int way)))(uX:oc.Ok)(h2:r qW [A,.int 8]=.ok (.fr (ag oc)))
  (h3:∃d,Tw c d/\r vm [ag oc,.int (c.m:Int),.int (c.wide:Int)]=.ok (.fr (ag d)))(h4:∀i w:Int,∃n:Int,rl 35 [.int i,.int w]=.ok (.fr (.int n))):
  (AX K a r rl o (init 11 [A,ag c])).map SR.fn=none\/∃d,Tw c d/\(AX K a r rl o (init 11 [A,ag c])).map SR.fn=some (.ok (.fr (ag d))):=by
 have hm:=J.most;have gM:=J.pos
 have e1:aJ 2 (ax (r pH) (ab (ae 0) (ab (dC (.int 20)) ah))) (init 11 [A,ag c])=.nx [.fr A,.fr (ag c),.fr (.int way),.no,.no,.no,.no,.no,.no,.no,.no]:=by
  unfold init;rw?;rw[C];rw?
 have e2:aJ 3 (cX bW (ab (aq aM (ae 1) (dC (.int 2))) ah)) [.fr A,.fr (ag c),.fr (.int way),.no,.no,.no,.no,.no,.no,.no,.no]=.nx [.fr A,.fr (ag c),.fr (.int way),.fr (.int (c.af.length:Int)),.no,.no,.no,.no,.no,.no,.no]:=by
  rw?;rw[nE];rw?;rw[w0a]
 unfold AX m_;rw[e1];simp only;rw[e2];simp only
 by_cases hw:way%4=0
 .obtain⟨d,T,h3⟩:=h3;refine .inr ⟨d,T,?_⟩
  have e3:(bt (aD (aq eq2 (aq bC (ae 2) (dC (.int 4))) (dC (.int 0)))) (a9 (ax (r vm) (ab (ax (r qW) (ab (ae 0) (ab (dC (.int 8)) ah))) (ab (aq aM (ae 1) (dC (.int 0))) (ab (aq aM (ae 1) (dC (.int 1))) ah))))) dG) [.fr A,.fr (ag c),.fr (.int way),.fr (.int (c.af.length:Int)),.no,.no,.no,.no,.no,.no,.no]=.rt (.fr (ag d)) [.fr A,.fr (ag c),.fr (.int way),.fr (.int (c.af.length:Int)),.no,.no,.no,.no,.no,.no,.no]:=by
   rw?;rw[hw];rw?;rw[h2];rw?;rw[pI];rw?;rw[ua];rw?;rw[h3];rw?
  rw[e3];rfl
 .have e3:∀B,(bt (aD (aq eq2 (aq bC (ae 2) (dC (.int 4))) (dC (.int 0)))) B dG) [.fr A,.fr (ag c),.fr (.int way),.fr (.int (c.af.length:Int)),.no,.no,.no,.no,.no,.no,.no]=.nx [.fr A,.fr (ag c),.fr (.int way),.fr (.int (c.af.length:Int)),.no,.no,.no,.no,.no,.no,.no]:=λB=>by
   rw?;rw[if_neg hw]
  rw[e3];simp only;have ok:qS bo rl 35 vq [.int way] 1 (c.af.length:Int):=⟨by omega,by omega,by omega,by omega,by omega,SV,rfl,λi _=>h4 i way⟩
  have eo:qv 4 bo rl 35 vq [2] (.inr 1) (.inl 3) o [.fr A,.fr (ag c),.fr (.int way),.fr (.int (c.af.length:Int)),.no,.no,.no,.no,.no,.no,.no]=tS 4 bo rl 35 vq o [.fr A,.fr (ag c),.fr (.int way),.fr (.int (c.af.length:Int)),.no,.no,.no,.no,.no,.no,.no] (some 1) (some (c.af.length:Int)) (some [.int way]):=rfl;unfold pN;rw[eo];unfold tS;simp only;rw[if_pos ok]
  by_cases hp:o.Perm (b_ 1 (c.af.length:Int))
  .rw[if_pos hp];obtain⟨ho,em⟩:=z9u gM hp;generalize 0::o.map Int.toNat=ord at ho em;rw[<- em];refine .inr ?_
   have key:∃d e',Tw c d/\vo K a r (gH A c way ord .no .no .no .no .no .no)=.rt (.fr (ag d)) e':=by
    have:way%4=1\/way%4=2\/way%4=3:=by omega
    rcases this with h|h|h
    .obtain⟨sts,e',g,z⟩:=IQ (K:=K) (a:=a) r A J ho h;exact⟨_,e',g.two J gM hm,z⟩
    .obtain⟨sts,e',g,z⟩:=IT (K:=K) (a:=a) r A J ho h;exact⟨_,e',g.two J gM hm,z⟩
    .obtain⟨size,sts,e',s1,s2,g,z⟩:=IU (K:=K) (a:=a) r A J ho h;exact⟨_,e',g.two J s1 s2,z⟩
   grind [gH,SR.fn]
  grind
theorem Xq(n)(i w):∃k:Int,run K a (n+2) 35 [.int i,.int w]=.ok (.fr (.int k)):=by
 refine⟨mX w i,?_⟩;show run K a (n+1+1) GG _=_;rw[Gz,if_pos (show[W.int i,W.int w].length=2 from rfl)];unfold CK;have m:=DK (K:=K) (a:=a) n w i;generalize run K a (n+1)=r at m |-
 simp only[w0p,w2i];rw?;rw[m];rfl
theorem z65(ns:List Int)(c)(J:c.Ok)(o):sec K a 147 o [.lst (ns.map .int),ag c]=none\/∃d,Tw c d/\sec K a 147 o [.lst (ns.map .int),ag c]=some (.ok (.fr (ag d))):=by
 obtain⟨oc,uX,h2⟩:=Mr (K:=K) (a:=a) 146 ns 8;have C:run K a 149 pH [.lst (ns.map .int),.int 20]=_:=yK (K:=K) (a:=a) 148 ns (k:=20) (by omega);have h2:run K a 149 qW [.lst (ns.map .int),.int 8]=_:=h2;have h3:∃d,Tw c d/\run K a 149 vm _=_:=UP (K:=K) (a:=a) 147 J uX;have h4:=Xq (K:=K) (a:=a) 145;have h4:∀i w:Int,∃n:Int,run K a 147 35 [.int i,.int w]=.ok (.fr (.int n)):=h4;unfold sec;rw[if_pos (show[W.lst (ns.map .int),ag c].length=2 from rfl)];exact Xp (K:=K) (a:=a) J o C uX h2 h3 h4
noncomputable def bX(k:Nat):W:=.int (k:Int)
noncomputable def bK(ks:List Nat):W:=.lst (ks.map bX)
theorem Qv:∀bs:List Bool,iT (bs.map .bl)=some (bs.map .bl)
 |[]=>rfl
 |b::bs=>by
  show(match yp (.bl b),iT (bs.map .bl)with|some k,some ks=>some (k::ks)|_,_=>none)=_;rw[Qv bs];rfl
noncomputable def fM(ks:List Nat)(p:Pr):W:=.tup [aA p.1,bX (ks.getD p.2 0)]
theorem z9v(ks)(p):yp (fM ks p)=some (oN ks p):=by
 show(iT [aA p.1,bX (ks.getD p.2 0)]).map Kx.tup=_
 have e:iT [aA p.1,bX (ks.getD p.2 0)]=some [.tup (p.1.map .bl),.int ((ks.getD p.2 0:Nat):Int)]:=by
  show(match(iT (p.1.map .bl)).map Kx.tup,(some [Kx.int ((ks.getD p.2 0:Nat):Int)]:Option (List Kx))with|some k,some ks=>some (k::ks)|_,_=>none)=_;rw[Qv];rfl
 rw[e];rfl
theorem Qh(ks):∀s:List Pr,iT (s.map (fM ks))=some (s.map (oN ks))
 |[]=>rfl
 |p::s=>by
  show(match yp (fM ks p),iT (s.map (fM ks))with|some k,some ks=>some (k::ks)|_,_=>none)=_;rw[z9v,Qh ks s];rfl
theorem J8(ks)(s):gN (.tup (s.map (fM ks)))=some (stK ks s):=by
 show(iT (s.map (fM ks))).map Kx.tup=_;rw[Qh];rfl
theorem O_:∀bs:List Bool,mD (bs.map .bl) .bl
 |[]=>trivial
 |_::bs=>⟨trivial,O_ bs⟩
theorem Qi:∀bs:List Bool,Kx.cJ (bs.map .bl)=0
 |[]=>rfl
 |b::bs=>by show max 0 (Kx.cJ (bs.map .bl))=0;rw[Qi bs];rfl
theorem JN(ks)(s):fits (stK ks s) (.many (.tup [.many .bl,.int])):=by
 have C:∀s:List Pr,mD (s.map (oN ks)) (.tup [.many .bl,.int]):=λs=>by
  induction s with
  |nil=>trivial
  |cons p s ih=>exact⟨⟨O_ p.1,trivial,trivial⟩,ih⟩
 have h2:∀s:List Pr,Kx.cJ (s.map (oN ks))<=2:=λs=>by
  induction s with
  |nil=>exact w0q _
  |cons p s ih=>
   show max (max (Kx.cJ (p.1.map .bl)+1) (max 0 0)+1) (Kx.cJ (s.map (oN ks)))<=2;rw[Qi];omega
 refine⟨C s,?_⟩;show Kx.cJ (s.map (oN ks))+1<=7;have:=h2 s;omega
noncomputable def Dj(c:Mc)(ks:List Nat)(j:Nat):List Kx:=((c.af.take j).map (stK ks)).foldl cI []
theorem O'(h):Dj c ks (j+1)=cI (Dj c ks j) (stK ks c.af[j]):=by
 grind [Dj,Bf]
theorem z66(j):(Dj c ks j).length<=j:=by
 grind [f6,Dj]
theorem z67(h:x∈Dj c ks j):posK ((c.af.map (stK ks)).foldl cI []) x=posK (Dj c ks j) x:=by
 have e:(c.af.map (stK ks)).foldl cI []=(((c.af.drop j).map (stK ks)).foldl cI (Dj c ks j)):=by
  grind [Dj,List.take_append_drop]
 rw[e];obtain⟨m,hm⟩:=Jp ((c.af.drop j).map (stK ks)) (Dj c ks j)
 grind [Jo]
noncomputable def qz(c:Mc)(ks:List Nat)(s:List Pr):Nat:=posK ((c.af.map (stK ks)).foldl cI []) (stK ks s)
theorem xo(h:i<ks.length):cq (ks.map bX) (i:Int)=some (bX (ks.getD i 0)):=by
 grind [p_]
theorem Wc{c:Mc}(h:(c.af.map ar)[j]?=some w):∃hj:j<c.af.length,w=ar c.af[j]:=by
 grind
theorem Wd(n)(c)(J:c.Og)(ks)(hk:ks.length=c.af.length)(j)(hj)(out)(ho:out.length<=1000)(w0)(z5):
  ∃uB,CV K a (run K a n) [.fr w0,.fr (bK ks),.dw (.many (.tup [.many .bl,.int])) (Dj c ks j) (ez 0 (Dj c ks j).length),.own none (out.map bX),.fr (ar c.af[j]),z5] =
   .nx [.fr w0,.fr (bK ks),.dw (.many (.tup [.many .bl,.int])) (Dj c ks (j+1)) (ez 0 (Dj c ks (j+1)).length),.own none ((out++[qz c ks c.af[j]]).map bX),.fr (ar c.af[j]),uB]:=by
 have oC:=J.mo;have hs:=J.st _ (w1h hj);have FX:=J.pr _ (w1h hj);have p8:2^c.m<=8:=w0l (w1b (by decide) J.gJ) (by decide);have fj:=O1 (Dj c ks j) (stK ks c.af[j]);have gM:=z67 (c:=c) (ks:=ks) (j:=j+1) (x:=stK ks c.af[j]) (by grind [O']);have K1:=z66 (c:=c) (ks:=ks) j;have uY:=O' (c:=c) (ks:=ks) hj;generalize i9:c.af[j]=s at *
 have Ao:List.map (λp:W×W=>W.tup [p.1,(aM (bK ks) p.2).getD .aG]) (List.filter (λ_=>true) (s.map λp=>(aA p.1,W.int (p.2:Int))))=s.map (fM ks):=by
  rw[w3d.mpr (λ_ _=>rfl),w0s]
  refine w0r λp hp=>?_
  show W.tup [aA p.1,(cq (ks.map bX) (p.2:Int)).getD .aG]=fM ks p;rw[xo (by grind)];rfl
 unfold CV;unfold ar;rw?;rw[Dq];rw?;rw[if_pos (by grind)];simp only[gK,nB,w0x,w0z];rw[Dx (q:=λ_=>true) (g:=λp=>.tup [p.1,(aM (bK ks) p.2).getD .aG])]
 .rw?;rw[Ao,Bw (J8 ks s) (JN ks s),Ea]
  have app:∀D:List Kx,D=cI (Dj c ks j) (stK ks s)->∃uB,(dQ 3 (ab (cU (aq p6 (ae 2) (ae 5))) ah)) [.fr w0,.fr (bK ks),.dw (.many (.tup [.many .bl,.int])) D (ez 0 D.length),.own none (out.map bX),.fr (.lst (s.map ao)),.fr (.tup (s.map (fM ks)))] =
    .nx [.fr w0,.fr (bK ks),.dw (.many (.tup [.many .bl,.int])) (Dj c ks (j+1)) (ez 0 (Dj c ks (j+1)).length),.own none ((out++[qz c ks s]).map bX),.fr (.lst (s.map ao)),uB]:=by
   rintro D rfl;rw?;rw[Ce (J8 ks s) (JN ks s),Ea,if_pos fj];rw?;rw[if_pos (by grind),uY];refine⟨.fr (.tup (s.map (fM ks))),?_⟩;rw[uY]at gM;rw[<- gM,w0g];rfl
  by_cases hm:stK ks s∈Dj c ks j
  .rw[if_pos hm];have e:cI (Dj c ks j) (stK ks s)=Dj c ks j:=if_pos hm;have q:=app (Dj c ks j) e.symm;revert q;rw?;exact id
  .rw[if_neg hm];have e:cI (Dj c ks j) (stK ks s)=Dj c ks j++[stK ks s]:=if_neg hm;have q:=app _ e.symm;revert q;rw?;intro q;rw[JF (J8 ks s) (by omega) (by rfl) (JN ks s) (by rw[Ea,if_neg hm])];rw?;rw[show ez 0 (Dj c ks j).length++[W.int ((Dj c ks j).length:Int)]=ez 0 (Dj c ks j++[stK ks s]).length by rw[w1o];have:=MZ (Dj c ks j).length 0;grind];exact q
 .intro q hq;obtain⟨p,hp,rfl⟩:=w0k.mp hq;refine⟨_,rfl,λ_=>?_⟩
  unfold LK bK;rw?;rw[xo (by grind)];rw?;exact⟨_,rfl⟩
theorem M7(n:Nat)(c:Mc)(J:c.Og)(ks:List Nat)(hk:ks.length=c.af.length):run K a (n+1) yu [.lst (c.af.map ar),bK ks]=.ok (.own none ((fin c ks).map bX)):=by
 have oC:=J.mo;rw[G6];unfold C';rw?
 obtain⟨e',C,z4,z5,h2⟩:=Bt (b:=CV K a (run K a n)) (i:=4) (λj e=>∃z4 z5,e=[.fr (.lst (c.af.map ar)),.fr (bK ks),.dw (.many (.tup [.many .bl,.int])) (Dj c ks j) (ez 0 (Dj c ks j).length),.own none (((c.af.take j).map (qz c ks)).map bX),z4,z5]) (c.af.map ar) 0 [.fr (.lst (c.af.map ar)),.fr (bK ks),.dw (.many (.tup [.many .bl,.int])) [] [],.own none [],.no,.no] ⟨_,_,rfl⟩ (by
  rintro j w e hw ⟨z4,z5,rfl⟩;obtain⟨hj,rfl⟩:=Wc hw;rw[w1w]at *;obtain⟨uB,q⟩:=Wd (K:=K) (a:=a) n c J ks hk j hj ((c.af.take j).map (qz c ks)) (by simp;omega) _ z5;refine⟨_,q,.fr (ar c.af[j]),uB,?_⟩;rw[Bf hj,w0g (f:=qz c ks)];rfl)
 rw[C,h2];rw?;rw[w0a,w2s (by omega)];rfl
noncomputable def jy(c:Mc)(t:Nat):List W:=(List.range (t+1)).map λs=>bK (cH c s)
theorem M8(c)(t):jy c (t+1)=jy c t++[bK (cH c (t+1))]:=by
 grind [jy,List.range_succ]
theorem Xr(c)(t):(jy c t).length=t+1:=by unfold jy;simp
theorem Bn{x:α}:cq (l++[x]) (-1)=some x:=by
 unfold cq jn;rw[if_neg (by decide),if_pos (by simp;omega)];have e:(-1+((l++[x]).length:Int)).toNat=l.length:=by simp;omega
 simp_all
theorem M9(c)(t):cq (jy c t) (-1)=some (bK (cH c t)):=by
 cases t with
 |zero=>exact Bn (l:=[])
 |succ t=>rw[M8];exact Bn
theorem z9w(m:Nat)(h:m<=1000):kD (.lst [.int 0]) (.int (m:Int))=some (bK (List.replicate m 0)):=by
 rw[JR,if_pos ⟨t_ (by omega) (by omega),by simp;omega⟩,w1f]
 simp_all [bK,bX]
theorem Qj(J:c.Og)(t):cH c t≠[]:=λh=>by
 grind [sy,Mc.Og.pos]
noncomputable def iH(c:Mc)(L:Nat):Prop:=∀i j,i<c.af.length->j<c.af.length->kd c L i=kd c L j->kd c (L+1) i=kd c (L+1) j
theorem Oh{c:Mc}(J:c.Og){L:Nat}(h:iH c L):∀(t i j:Nat),i<c.af.length->j<c.af.length->kd c L i=kd c L j->kd c t i=kd c t j
 |0,i,j,_,_,_=>by rw[xl,xl]
 |t+1,i,j,hi,hj,e=>by
  have e1:=(Bm J hi hj).mp (h i j hi hj e);exact(Bm J hi hj).mpr λr hr=>⟨(e1 r hr).1,Oh J h t _ _ (qY J hi hr) (qY J hj hr) (e1 r hr).2⟩
theorem M_:∀(xs D:List Kx),(∀k,k<D.length->∃x∈D,posK D x=k)->∀k,k<(xs.foldl cI D).length->∃x∈xs.foldl cI D,posK (xs.foldl cI D) x=k
 |[],D,h=>h
 |y::xs,D,h=>by
  rw[w1j];refine M_ xs (cI D y) λk hk=>?_
  unfold cI at hk |-
  by_cases hy:y∈D
  .grind
  .rw[if_neg hy]at hk |-
   by_cases FI:k<D.length
   .obtain⟨x,hx,e⟩:=h k FI;exact⟨x,w1l _ hx,by rw[Jo hx,e]⟩
   grind [NW]
theorem Na:∀(xs D:List Kx),∀x∈xs.foldl cI D,x∈D\/x∈xs
 |[],D,x,h=>.inl h
 |y::xs,D,x,h=>by
  rw[w1j]at h;rcases Na xs (cI D y) x h with z|z
  all_goals grind [cI]
theorem sD(h:i<c.af.length):kd c t i∈cH c t:=by
 grind [sy,kd]
theorem z68(h:k∈cH c t):∃i,i<c.af.length/\kd c t i=k:=by
 obtain⟨i,hi,e⟩:=w1y h;refine⟨i,by grind [sy],?_⟩
 grind [kd]
theorem Xs{c:Mc}(J:c.Og):∀(t:Nat){M k:Nat},M∈cH c t->k<=M->∃i,i<c.af.length/\kd c t i=k
 |0,M,k,hM,hk=>by
  have e:M=0:=w2j hM;exact⟨0,J.pos,by rw[xl];omega⟩
 |t+1,M,k,hM,hk=>by
  have Ct:M∈fin c (cH c t):=hM;unfold fin at Ct;obtain⟨s,hs,e⟩:=w0k.mp Ct;have C:=O0 (Bl (c.af.map (stK (cH c t))) [] _ (w1z hs));obtain⟨x,hx,e2⟩:=M_ (c.af.map (stK (cH c t))) [] (λk hk=>by simp at hk) k (by omega)
  rcases Na _ _ x hx with z|z
  .simp at z
  .obtain⟨s',tE,rfl⟩:=w0k.mp z;refine z68 (t:=t+1) ?_
   grind [fin,cH]
theorem Zh{c:Mc}(J:c.Og){L M M':Nat}(hM:M∈cH c L)(KS:∀k∈cH c L,k<=M)(KU:∀k∈cH c (L+1),k<=M')(hle:M'<=M):iH c L:=by
 have Td:=λk (hk:k<=M)=>Xs J L hM hk
 let rep:Nat->Nat:=λk=>Classical.epsilon λi=>i<c.af.length/\kd c L i=k
 have tD:∀k,k<=M->rep k<c.af.length/\kd c L (rep k)=k:=λk hk=>Classical.epsilon_spec (p:=λi=>i<c.af.length/\kd c L i=k) (Td k hk)
 have FO:((List.range (M+1)).map λk=>kd c (L+1) (rep k)).Nodup:=by
  refine List.pairwise_map.mpr (List.Pairwise.imp_of_mem (R:=(·≠·)) ?_ List.nodup_range);intro x y hx hy pX e;refine pX ?_;have hx:=tD x (by have:=w1c.mp hx;omega);have hy:=tD y (by have:=w1c.mp hy;omega);have:=Ig J L hx.1 hy.1 e;rw[hx.2,hy.2]at this;exact this
 have key:∀i,i<c.af.length->kd c (L+1) i=kd c (L+1) (rep (kd c L i)):=λi hi=>by
  have hm:=z6y (n:=M+1) FO (λx hx=>by
   obtain⟨k,hk,rfl⟩:=w0k.mp hx;have hk:=tD k (by have:=w1c.mp hk;omega);have:=KU _ (sD (t:=L+1) hk.1);omega) (by simp) (y:=kd c (L+1) i) (by have:=KU _ (sD (t:=L+1) hi);omega)
  obtain⟨k,hk,e⟩:=w0k.mp hm;have hk:=tD k (by have:=w1c.mp hk;omega);have:=Ig J L hk.1 hi e;rw[hk.2]at this;rw[<- this];exact e.symm
 intro i j hi hj e;rw[key i hi,key j hj,e]
theorem Qk(h:ks≠[]):∃M:Nat,l4 [bK ks]=some (.int (M:Int))/\M∈ks/\∀k∈ks,k<=M:=by
 cases ks with
 |nil=>exact absurd rfl h
 |cons k ks=>
  have e:l4 [bK (k::ks)]=some (.int (fm (k:Int) (ks.map λx:Nat=>(x:Int)))):=by
   have:=z6c (n:=(k:Int)) (ns:=ks.map λx:Nat=>(x:Int))
   rw[w0p,w0s]at this;exact this
  obtain⟨C,h2,h3⟩:=JE (ks.map λx:Nat=>(x:Int)) (k:Int)
  have wz:∀M:Nat,fm (k:Int) (ks.map λx:Nat=>(x:Int))=(M:Int)->∀x∈k::ks,x<=M:=λM hM x hx=>by
   rcases w0m.mp hx with rfl|hx
   all_goals simp_all
  grind
noncomputable def rep(c:Mc)(L k:Nat):Nat:=(cH c L).idxOf k
theorem k8(h:k∈cH c L):rep c L k<c.af.length:=by
 rw[<- sy c L];exact Qt h
theorem ue(h:k∈cH c L):kd c L (rep c L k)=k:=Qa h
noncomputable def dB(c:Mc)(L k:Nat):List Pr:=(c.af.getD (rep c L k) []).map λp=>(p.1,kd c L p.2)
theorem Pa(J:c.Og)(h:k∈cH c L):∀p∈dB c L k,p.2∈cH c L:=λp hp=>by
 unfold dB at hp;obtain⟨q,hq,rfl⟩:=w0k.mp hp;exact sD (J.pr _ (fE (k8 h)) q hq).2
noncomputable def fQ(c:Mc)(L:Nat)(T:List Nat):Mc:=⟨c.m,c.wide,T.map λk=>bQ T (dB c L k)⟩
structure Cl(c:Mc)(L:Nat)(T:List Nat):Prop where
 nd:T.Nodup
 mem:∀k∈T,k∈cH c L
 pos:0<T.length
 cl:∀k∈T,∀p∈dB c L k,p.2∈T
theorem Cl.len(J:c.Og)(h:Cl c L T):T.length<=c.af.length:=xv _ h.nd λk hk=>Eu J.pos L k (h.mem k hk)
theorem Cl.ok(J:c.Og)(h:Cl c L T):(fQ c L T).Og where
 gJ:=J.gJ
 wg:=J.wg
 pos:=by show 0<(T.map _).length;grind [pos]
 mo:=by
  show(T.map _).length<=700;rw[w0a];have:=h.len J;have:=J.mo;omega
 st:=λs hs=>by
  obtain⟨k,hk,rfl⟩:=w0k.mp hs;unfold bQ dB;rw[w0a,w0a];exact J.st _ (fE (k8 (h.mem k hk)))
 pr:=λs hs p hp=>by
  obtain⟨k,hk,rfl⟩:=w0k.mp hs;have R7:=hp;unfold bQ at hp;obtain⟨q,hq,rfl⟩:=w0k.mp hp;have h2:=h.cl k hk q hq;unfold dB at hq;obtain⟨q',Sa,rfl⟩:=w0k.mp hq;refine⟨(J.pr _ (fE (k8 (h.mem k hk))) q' Sa).1,?_⟩;show _<(T.map _).length
  grind
theorem z69(hx:x<T.length):(fQ c L T).af.getD x []=bQ T (dB c L (T.getD x 0)):=by
 show(T.map _).getD x []=_;simp[List.getD,hx]
theorem z7a(J:c.Og)(h:Cl c L T)(hx:x<T.length)(hr:r<2^c.m):told (fQ c L T) x r=told c (rep c L (T.getD x 0)) r/\jB (fQ c L T) x r=T.idxOf (kd c L (jB c (rep c L (T.getD x 0)) r)):=by
 have hk:T.getD x 0∈cH c L:=h.mem _ (by grind);have hl:=J.st _ (fE (k8 hk))
 grind [told,jB,z69,bQ,dB]
noncomputable def nD:Nat->List Nat->List (Key×Sv)
 |_,[]=>[]
 |o,x::T=>(.inl (x:Int),.inl (o:Int))::nD (o+1) T
theorem Pb:∀(T:List Nat)(o:Nat),nD o (T++[x])=nD o T++[(.inl (x:Int),.inl ((o+T.length:Nat):Int))]
 |[],o=>rfl
 |y::T,o=>by
  show _::nD (o+1) (T++[x])=_::(nD (o+1) T++_);rw[Pb T (o+1),show o+1+T.length=o+(y::T).length by simp;omega]
theorem Ql:∀(T:List Nat)(o:Nat),(nD o T).length=T.length
 |[],_=>rfl
 |_::T,o=>by show(nD (o+1) T).length+1=_;rw[Ql T];rfl
theorem Kf{x:Nat}:∀(T:List Nat)(o:Nat),lk (nD o T) (.inl (x:Int))=if x∈T then some (.inl ((o+T.idxOf x:Nat):Int))else none
 |[],o=>by rw[if_neg (by simp)];rfl
 |y::T,o=>by
  unfold lk;rw[nD,w2q]
  by_cases e:y=x
  .subst e;simp
  .rw[decide_eq_false (λz=>e (by grind))]
   show lk (nD (o+1) T) (.inl (x:Int))=_;rw[Kf T (o+1)]
   grind
theorem z7b{T:List Nat}(h:x∉T):putL (nD 0 T) (.inl (x:Int)) (.inl (T.length:Int))=nD 0 (T++[x]):=by
 have e:∀(T:List Nat)(o:Nat),x∉T->((nD o T).any λp=>decide (p.1=.inl (x:Int)))=false:=λT=>by
  induction T with
  |nil=>intro _ _;rfl
  |cons y T ih=>
   intro o h;show(decide ((Sum.inl (y:Int):Key)=.inl (x:Int))||(nD (o+1) T).any _)=false
   grind
 unfold putL;rw[if_neg (by grind),Pb,w1w]
theorem Xt{n:Int}:kB i (.int m) (.int n) e (some (.aY (.k kvs)))=if kvs.length<16777216/\mZ i e=true then .nx (e.set i (.aY (.k (putL kvs (.inl n) (.inl m)))))else .no:=rfl
theorem We(r)(w0 w1)(T)(hT:T.length<=1000)(sts)(z5)(st:List Pr)(i9:st.length<=1000)(t)(f:Nat):
  yz K a r [.fr w0,.fr w1,.own none (T.map bX),.aY (.k (nD 0 T)),.own none sts,.fr z5,.own none (st.map ao),.fr (aA t),.fr (.int (f:Int))] =
   .nx [.fr w0,.fr w1,.own none ((bw T f).map bX),.aY (.k (nD 0 (bw T f))),.own none sts,.fr z5,.own none ((st++[(t,(bw T f).idxOf f)]).map ao),.fr (aA t),.fr (.int (f:Int))]:=by
 unfold yz;rw?;rw[Kf]
 by_cases h:f∈T
 .have e:bw T f=T:=if_pos h;rw[if_pos h,if_neg (by simp)];rw?;rw[if_pos (by rfl),if_pos (by grind),w0g,e];rfl
 .have e:bw T f=T++[f]:=if_neg h;rw[if_neg h,if_pos (by rfl),Xt,if_pos ⟨by rw[Ql];omega,by rfl⟩,w0a,z7b h];rw?;rw[if_pos (by grind)];rw?;rw[Kf,if_pos (by simp)];rw?;rw[if_pos (by rfl),if_pos (by grind),w0g,e,w0g];rfl
theorem Ol(r:Nat->List W->FR)(w0 w1:W)(sts:List W)(z5:W):∀(ps:List Pr)(T:List Nat)(st:List Pr)(z7 z8:S),T.length+ps.length<=1000->st.length+ps.length<=100 ->
  ∃uC uD,d8 7 8 (yz K a r) (ps.map λp=>(aA p.1,W.int (p.2:Int))) [.fr w0,.fr w1,.own none (T.map bX),.aY (.k (nD 0 T)),.own none sts,.fr z5,.own none (st.map ao),z7,z8] =
   .nx [.fr w0,.fr w1,.own none (((ps.map (·.2)).foldl bw T).map bX),.aY (.k (nD 0 ((ps.map (·.2)).foldl bw T))),.own none sts,.fr z5,.own none ((st++bQ ((ps.map (·.2)).foldl bw T) ps).map ao),uC,uD]
 |[],T,st,z7,z8,_,_=>⟨z7,z8,by show SR.nx _=_;simp[bQ]⟩
 |p::ps,T,st,z7,z8,C,h2=>by
  have q:=We (K:=K) (a:=a) r w0 w1 T (by simp at C;omega) sts z5 st (by simp at h2;omega) p.1 p.2;have hl:(bw T p.2).length<=T.length+1:=by unfold bw;split<;>simp
  obtain⟨uC,uD,g⟩:=Ol r w0 w1 sts z5 ps (bw T p.2) (st++[(p.1,(bw T p.2).idxOf p.2)]) (.fr (aA p.1)) (.fr (.int (p.2:Int))) (by simp at C;omega) (by simp at h2 |-;omega);refine⟨uC,uD,?_⟩;show(yz K a r [.fr w0,.fr w1,.own none (T.map bX),.aY (.k (nD 0 T)),.own none sts,.fr z5,.own none (st.map ao),.fr (aA p.1),.fr (.int (p.2:Int))]).dD (d8 7 8 (yz K a r) (ps.map λp=>(aA p.1,W.int (p.2:Int))))=_
  rw[q];rw?;rw[g];show _=SR.nx [.fr w0,.fr w1,.own none (((ps.map (·.2)).foldl bw (bw T p.2)).map bX),.aY (.k (nD 0 ((ps.map (·.2)).foldl bw (bw T p.2)))),.own none sts,.fr z5,.own none ((st++bQ ((ps.map (·.2)).foldl bw (bw T p.2)) (p::ps)).map ao),uC,uD];obtain⟨m,hm⟩:=DJ (ps.map (·.2)) (bw T p.2)
  have e:(st++[(p.1,(bw T p.2).idxOf p.2)])++bQ ((ps.map (·.2)).foldl bw (bw T p.2)) ps=st++bQ ((ps.map (·.2)).foldl bw (bw T p.2)) (p::ps):=by
   unfold bQ;rw[w0p,w0y];congr 2;rw[hm,z6z (Ow T p.2)];rfl
  rw[e]
structure lO(K:Fg)(a:bu)(n:Nat)(j:Nat)(l:Lm)(aL:List W)(g:Nat->List Pr)(B:Nat->Prop):Prop where
 call:∀x,B x->∀e,fW bo (run K a n) j l aL [.int (x:Int)] e=.ok (ar (g x)) e
 next:∀x,B x->∀p∈g x,B p.2
 gJ:∀x,B x->x<700
 len:∀x,B x->(g x).length<=8
noncomputable def kR(w0 w1:W)(g:Nat->List Pr)(b i:Nat)(z5 z6 z7 z8:S):List S:=[.fr w0,.fr w1,.own none ((bf g b i).map bX),.aY (.k (nD 0 (bf g b i))),.own none ((((bf g b i).take i).map λx=>bQ (bf g b i) (g x)).map ar),z5,z6,z7,z8]
theorem Nb(n:Nat){j:Nat}{l:Lm}{aL:List W}{g:Nat->List Pr}{B:Nat->Prop}(H:lO K a n j l aL g B)(w0:W)(b:Nat)(hb:B b):∀(fuel i:Nat)(z5 z6 z7 z8:S),i<=(bf g b i).length->701<=i+fuel ->
  ∃(I:Nat)(y5 y6 y7 y8:S),(bf g b I).length=I/\bc (Di K a (run K a n)) (Dk K a (run K a n)) (fuel+1) (kR w0 (.fn j l aL) g b i z5 z6 z7 z8)=.nx (kR w0 (.fn j l aL) g b I y5 y6 y7 y8)
 |0,i,z5,z6,z7,z8,hi,hf=>by
  have:=xv 700 (Cb g b i) (λx hx=>H.gJ x (vz hb H.next i x hx))
  omega
 |fuel+1,i,z5,z6,z7,z8,hi,hf=>by
  have hl:=xv 700 (Cb g b i) (λx hx=>H.gJ x (vz hb H.next i x hx))
  have ht:(((bf g b i).take i).map λx=>bQ (bf g b i) (g x)).length=i:=by grind
  have hw:Di K a (run K a n) (kR w0 (.fn j l aL) g b i z5 z6 z7 z8)=.ok (decide (i<(bf g b i).length)) (kR w0 (.fn j l aL) g b i z5 z6 z7 z8):=by
   unfold Di kR;rw?
   simp_all
  rw[yL,hw]
  by_cases h:i<(bf g b i).length
  .have hB:B ((bf g b i).getD i 0):=vz hb H.next i _ (by grind);have RM:=H.len _ hB
   have he:bf g b (i+1)=((g ((bf g b i).getD i 0)).map (·.2)).foldl bw (bf g b i):=by
    simp_all [bf]
   obtain⟨y7,y8,q⟩:=Ol (K:=K) (a:=a) (run K a n) w0 (.fn j l aL) ((((bf g b i).take i).map λx=>bQ (bf g b i) (g x)).map ar) (.int ((bf g b i).getD i 0:Int)) (g ((bf g b i).getD i 0)) (bf g b i) [] z7 z8 (by omega) (by grind)
   rw[<- he]at q
   have Fu:Dk K a (run K a n) (kR w0 (.fn j l aL) g b i z5 z6 z7 z8)=.nx (kR w0 (.fn j l aL) g b (i+1) (.fr (.int ((bf g b i).getD i 0:Int))) (.fr (ar (bQ (bf g b (i+1)) (g ((bf g b i).getD i 0))))) y7 y8):=by
    unfold Dk kR;rw?;rw[w0a,ht,xo h];unfold bX at q |-
    rw?;rw[H.call _ hB];unfold ar at q |-
    rw?;rw[Dq];rw?;rw[show([]:List W)=([]:List Pr).map ao from rfl,q];rw?;rw[if_pos (by grind),z9r h,w0g];rfl
   rw[decide_eq_true h];rw?;rw[Fu];rw?;obtain⟨m,hm⟩:=Ew g b i
   exact Nb n H w0 b hb fuel (i+1) _ _ _ _ (by
    grind) (by omega)
  .rw[decide_eq_false h];rw?
   grind
theorem Om(n)(H:lO K a n j l aL g B)(b)(hb:B b):∃I:Nat,(bf g b I).length=I /\
  run K a (n+1) yD [.int (b:Int),.fn j l aL]=.ok (.fr (.tup [.lst (((bf g b I).map λx=>bQ (bf g b I) (g x)).map ar),.lst ((bf g b I).map bX)])):=by
 rw[Ho];unfold DD;rw?;obtain⟨I,y5,y6,y7,y8,C,h2⟩:=Nb (K:=K) (a:=a) n H (.int (b:Int)) b hb 999999 0 .no .no .no .no (by simp) (by omega);rw[show(1000000:Nat)=999999+1 from rfl];have e:([S.fr (W.int (b:Int)),.fr (.fn j l aL),.own none [W.int (b:Int)],.aY (.k [(.inl (b:Int),.inl 0)]),.own none [],.no,.no,.no,.no]:List S)=kR (.int (b:Int)) (.fn j l aL) g b 0 .no .no .no .no:=rfl;rw[e,h2];unfold kR;rw?
 grind
theorem z7c(t)(hi:i<c.af.length):cq ((cH c t).map bX) (i:Int)=some (.int ((kd c t i:Nat):Int)):=xo (by rw[sy];exact hi)
theorem UQ(n:Nat)(c:Mc)(J:c.Og):∀(fuel t M:Nat),l4 [bK (cH c t)]=some (.int (M:Int))->M∈cH c t->(∀k∈cH c t,k<=M)->t<=M->M<c.af.length->c.af.length<=t+fuel ->
  ∃(L:Nat)(z:S),iH c L/\L<c.af.length/\bc (CM K a (run K a (n+1))) (GH K a (run K a (n+1))) (fuel+1) [.fr (.lst (c.af.map ar)),.own none (jy c t),.fr (bK (cH c (t+1)))]=.nx [.fr (.lst (c.af.map ar)),.own none (jy c L),z]:=by
 intro fuel
 induction fuel with
 |zero=>grind
 |succ fuel ih=>
  intro t M C Rr KS h2 h3 h4;have oC:=J.mo;obtain⟨M',m1,m2,m3⟩:=Qk (Qj J (t+1));have Ct:=Eu J.pos (t+1) M' m2
  have hw:CM K a (run K a (n+1)) [.fr (.lst (c.af.map ar)),.own none (jy c t),.fr (bK (cH c (t+1)))]=.ok (decide ((M:Int)<(M':Int))) [.fr (.lst (c.af.map ar)),.own none (jy c t),.fr (bK (cH c (t+1)))]:=by
   unfold CM;rw?;rw[m1];rw?;rw[M9];rw?;rw[C];rw?
  rw[yL,hw];rw?
  by_cases cY:(M:Int)<(M':Int)
  .rw[if_pos cY];unfold GH;rw?;rw[if_pos (by rw[Xr];omega)];rw?;rw[M7 n c J (cH c (t+1)) (sy c (t+1))];rw?;have q:=ih (t+1) M' m1 m2 m3 (by omega) Ct (by omega);rw[M8]at q;exact q
  .rw[if_neg cY];exact⟨t,_,Zh J Rr KS m3 (by omega),by omega,rfl⟩
theorem Xu(n)(c)(J:c.Og):∃L:Nat,iH c L/\L<c.af.length/\run K a (n+2) AW [.lst (c.af.map ar)]=.ok (.own none (jy c L)):=by
 have oC:=J.mo;have gM:=J.pos;rw[GI];unfold CN;rw?;rw[w0a,z9w _ (by omega)];rw?;rw[show cq [bK (List.replicate c.af.length 0)] (-1)=some (bK (cH c 0)) by exact Bn (l:=[])];rw?;rw[M7 n c J (cH c 0) (sy c 0)];rw?;obtain⟨M,m1,m2,m3⟩:=Qk (Qj J 0);have hM:=Eu J.pos 0 M m2;obtain⟨L,z,q0,q1,q2⟩:=UQ (K:=K) (a:=a) n c J 999999 0 M m1 m2 m3 (by omega) hM (by omega);have e:([bK (List.replicate c.af.length 0)]:List W)=jy c 0:=rfl;rw[e];rw[show(W.lst (List.map bX (fin c (cH c 0))))=bK (cH c 1)from rfl];rw[show(1000000:Nat)=999999+1 from rfl];rw[q2];rw?
 grind
theorem Pc:∀ks:List Nat,eu (ks.map bX)=some (ks.map λk:Nat=>(k:Int))
 |[]=>rfl
 |k::ks=>by
  show(eu (ks.map bX)).map _=_;rw[Pc ks];rfl
theorem Nd(h:k∈ks):f_ (.lst (ks.map bX)) [.int (k:Int)]=some (.int ((ks.idxOf k:Nat):Int)):=by
 show(match eu (ks.map bX)with
  |some ys=>match lW (k:Int) ys with
   |some j=>some (W.int (j:Int))
   |none=>none
  |none=>none)=_
 grind [Pc,Jt]
theorem Qw:∀bs:List Bool,bA (bs.map .bl)=true
 |[]=>rfl
 |b::bs=>by show(true&&bA (bs.map .bl))=true;rw[Qw bs];rfl
theorem z9x(p):noFn (ao p)=true:=by
 show(bA (p.1.map .bl)&&(true&&true))=true;rw[Qw];rfl
theorem En{f:α->W}(h:∀x,noFn (f x)=true):∀l:List α,bA (l.map f)=true
 |[]=>rfl
 |x::l=>by show(noFn (f x)&&bA (l.map f))=true;rw[h x,En h l];rfl
theorem z9y(s):noFn (ar s)=true:=En z9x s
theorem Eo(l:List (List Pr)):noFn (.lst (l.map ar))=true:=En z9y l
theorem wX(ks:List Nat):noFn (.lst (ks.map bX))=true:=En (λ_=>rfl) ks
theorem z7d(n)(c)(J:c.Og)(L k)(hk:k∈cH c L):run K a (n+1) AY [.lst (c.af.map ar),bK (cH c L),.int (k:Int)]=.ok (.own none ((dB c L k).map ao)):=by
 have hr:=k8 hk;have hs:=fE hr;have FX:=J.pr _ hs;have hl:=J.st _ hs;have p8:2^c.m<=8:=w0l (w1b (by decide) J.gJ) (by decide);rw[GF];unfold CW bK;rw?;rw[Nd hk];rw?;rw[show(((cH c L).idxOf k:Nat):Int)=((rep c L k:Nat):Int)from rfl,sE hr];unfold dB;generalize c.af.getD (rep c L k) []=s at *;unfold ar;rw?;rw[Dq];rw?;rw[if_pos (by grind)];simp only[gK,nB,w0x,w0z];rw[Dx (q:=λ_=>true) (g:=λp=>.tup [p.1,(aM (bK (cH c L)) p.2).getD .aG])]
 .rw?;rw[w3d.mpr (λ_ _=>rfl),w0s,w0s]
  congr 2;refine w0r λp hp=>?_
  show W.tup [aA p.1,(cq ((cH c L).map bX) (p.2:Int)).getD .aG]=_;rw[xo (by rw[sy];exact(FX p hp).2)];rfl
 .intro q hq;obtain⟨p,hp,rfl⟩:=w0k.mp hq;refine⟨_,rfl,λ_=>?_⟩
  unfold LG bK;rw?;rw[xo (by rw[sy];exact(FX p hp).2)];rw?;exact⟨_,rfl⟩
theorem z7e(n)(c)(J:c.Og)(L):lO K a (n+2) C6 yA [.lst (c.af.map ar),bK (cH c L)] (dB c L) (·∈cH c L) where
 call:=λx hx e=>by
  refine H_ Ue rfl (by show(noFn (.lst (c.af.map ar))&&(noFn (bK (cH c L))&&true))=true;grind [Eo,bK,wX]) ?_;show run K a (n+2) C6 [.int (x:Int),.lst (c.af.map ar),bK (cH c L)]=_;rw[G_];unfold C9;rw?;rw[z7d n c J L x hx];rw?;rfl
 next:=λx hx=>Pa J hx
 gJ:=λx hx=>by
  have:=Eu J.pos L x hx;have:=J.mo;omega
 len:=λx hx=>by
  have p8:2^c.m<=8:=w0l (w1b (by decide) J.gJ) (by decide);unfold dB;rw[w0a,J.st _ (fE (k8 hx))];exact p8
theorem z7f(n)(c:Mc)(J:c.Og):lO K a (n+1) C7 yB [.lst (c.af.map ar)] (λx=>c.af.getD x []) (·<c.af.length) where
 call:=λx hx e=>by
  refine H_ Ug rfl (by show(noFn (.lst (c.af.map ar))&&true)=true;rw[Eo];rfl) ?_;show run K a (n+1) C7 [.int (x:Int),.lst (c.af.map ar)]=_;rw[Ha];unfold C_;rw?;rw[sE hx];rw?;rfl
 next:=λx hx p hp=>(J.pr _ (fE hx) p hp).2
 gJ:=λx hx=>by
  have:=J.mo;omega
 len:=λx hx=>by
  have p8:2^c.m<=8:=w0l (w1b (by decide) J.gJ) (by decide);rw[J.st _ (fE hx)];exact p8
theorem ED(J:c.Og)(h:(bf (dB c L) (kd c L 0) I).length=I):Cl c L (bf (dB c L) (kd c L 0) I) where
 nd:=Cb _ _ _
 mem:=vz (B:=(·∈cH c L)) (sD J.pos) (λx hx=>Pa J hx) I
 pos:=by
  obtain⟨m,e⟩:=JK (dB c L) (kd c L 0) I;rw[e];simp
 cl:=λk hk=>Kc I (by omega) k (by grind)
theorem Zi(J:c.Og)(hs:iH c L)(h:Cl c L T)(h0:kd c L 0∈T)(i):∀x∈bf (λx=>c.af.getD x []) 0 i,x<c.af.length/\kd c L x∈T:=
 vz (B:=λx=>x<c.af.length/\kd c L x∈T) ⟨J.pos,h0⟩ (λx hx p hp=>by
  have hl:=J.st _ (fE hx.1);have wF:=(J.pr _ (fE hx.1) p hp).2;refine⟨wF,?_⟩;obtain⟨r,hr,e⟩:=w1y hp;have hk:=sD (t:=L) hx.1
  have e1:jB c x r=p.2:=by
   grind [jB]
  have q:=((Bm J (k8 hk) hx.1).mp (hs _ _ (k8 hk) hx.1 (ue hk)) r (by omega)).2;rw[e1]at q;rw[<- q];have hl2:=J.st _ (fE (k8 hk));refine h.cl _ hx.2 (((c.af.getD (rep c L (kd c L x)) []).getD r ([],0)).1,kd c L (jB c (rep c L (kd c L x)) r)) ?_
  grind [dB,jB]) i
theorem Zj(m:Nat)(h:m<=1000):uh (.lst [.aG]) (.int (m:Int))=some (List.replicate m .aG):=by
 show(if qR (m:Int)=true/\([W.aG]:List W).length*(m:Int).toNat<=16777216 then some (List.replicate (m:Int).toNat [W.aG]).flatten else none)=_;rw[if_pos ⟨t_ (by omega) (by omega),by rw[w1f];simp;omega⟩,w1f,List.flatten_replicate_singleton]
theorem VX(n)(c)(L)(T:List Nat)(w0 w1 w3)(x)(hx:x<c.af.length)(hk:kd c L x∈T)(ws)(hw:ws.length=c.af.length):
  ∃ws':List W,ws'.length=c.af.length/\DH K a (run K a n) [.fr w0,.fr w1,.fr (bK (cH c L)),.fr (.tup [w3,.lst (T.map bX)]),.own none ws,.fr (.int (x:Int))]=.nx [.fr w0,.fr w1,.fr (bK (cH c L)),.fr (.tup [w3,.lst (T.map bX)]),.own none ws',.fr (.int (x:Int))]:=by
 unfold DH bK;rw?;rw[z7c L hx];rw?;rw[Nd hk];rw?;rw[show jn ws.length (x:Int)=some x by simp_all [jn]];rw?
 grind
theorem VY(n)(c)(J:c.Og):∃(L I:Nat)(ws:List W),iH c L/\(bf (dB c L) (kd c L 0) I).length=I/\run K a (n+4) pL [ag c]=.ok (.fr (.tup [ag (fQ c L (bf (dB c L) (kd c L 0) I)),.lst ws])):=by
 have oC:=J.mo;have gM:=J.pos;obtain⟨L,hS,hL,k1⟩:=Xu (K:=K) (a:=a) (n+1) c J;obtain⟨I,hI,c1⟩:=Om (K:=K) (a:=a) (n+2) (z7e n c J L) (kd c L 0) (sD J.pos);obtain⟨hc,hJ,c2⟩:=Om (K:=K) (a:=a) (n+2) (z7f (n+1) c J) 0 J.pos;have jG:=ED J hI
 have h0:kd c L 0∈bf (dB c L) (kd c L 0) I:=by
  obtain⟨m,e⟩:=JK (dB c L) (kd c L 0) I;rw[e];simp
 have KY:=Zi J hS jG h0 hc;rw[HP];unfold D9;rw?;rw[yC (n+1) c J];rw?;rw[nE];rw?;rw[k1];rw?;rw[M9];rw?;rw[show aM (bK (cH c L)) (.int 0)=some (.int ((kd c L 0:Nat):Int))from xo (i:=0) (by rw[sy];exact gM)];rw?;generalize hT:bf (dB c L) (kd c L 0) I=T at *;rw[show dq [1,2] [S.fr (ag c),S.fr (W.lst (List.map ar c.af)),S.fr (bK (cH c L)),S.no,S.no,S.no]=some [.lst (c.af.map ar),bK (cH c L)]from rfl,GK,c1,Ia (by show(noFn (.lst ((T.map λx=>bQ T (dB c L x)).map ar))&&(noFn (.lst (T.map bX))&&true))=true;rw[Eo,wX];rfl)]
 rw?;rw[w0a,Zj _ (by omega)];rw?;rw[show ∀s3 s4:S,dq [1] [S.fr (ag c),S.fr (W.lst (List.map ar c.af)),S.fr (bK (cH c L)),s3,s4,S.no]=some [.lst (c.af.map ar)]from λ_ _=>rfl,GK]
 rw[show(W.int 0)=W.int ((0:Nat):Int)from rfl,c2,Ia (by show(noFn (.lst _)&&(noFn (.lst _)&&true))=true;rw[Eo,wX];rfl)];rw?
 obtain⟨e',f1,ws,z5,f2,rfl⟩:=JI (b:=DH K a (run K a (n+3))) (i:=5) (λ_ e=>∃(ws:List W)(z5:S),ws.length=c.af.length/\e=[S.fr (ag c),S.fr (W.lst (List.map ar c.af)),S.fr (bK (cH c L)),S.fr (W.tup [W.lst (List.map ar (List.map (λx=>bQ T (dB c L x)) T)),W.lst (List.map bX T)]),S.own none ws,z5])
  (List.map bX (bf (λx=>c.af.getD x []) 0 hc)) 0 [S.fr (ag c),S.fr (W.lst (List.map ar c.af)),S.fr (bK (cH c L)),S.fr (W.tup [W.lst (List.map ar (List.map (λx=>bQ T (dB c L x)) T)),W.lst (List.map bX T)]),S.own none (List.replicate c.af.length W.aG),S.no] ⟨_,_,w1n,rfl⟩ (by
  rintro j w e hw ⟨ws,z5,C,rfl⟩;obtain⟨x,hx,rfl⟩:=w0k.mp hw;obtain⟨x1,x2⟩:=KY x hx;obtain⟨ws',w1,w2⟩:=VX (K:=K) (a:=a) (n+3) c L T (ag c) (W.lst (List.map ar c.af)) (W.lst (List.map ar (List.map (λx=>bQ T (dB c L x)) T))) x x1 x2 ws C
  exact⟨_,w2,ws',_,w1,rfl⟩)
 rw[f1];rw?;rw[pI];rw?;rw[ua];rw?;refine⟨L,I,ws,hS,by rw[hT];exact hI,?_⟩;rw[hT];rfl
theorem DY(h:(bf g b hc).length=hc):∀d,bf g b (hc+d)=bf g b hc
 |0=>rfl
 |d+1=>by
  show(if hc+d<(bf g b (hc+d)).length then _ else bf g b (hc+d))=_;rw[if_neg (by rw[DY h d];omega),DY h d]
theorem Oo{l:List Nat}(h:j<l.length):l.getD j 0∈l:=by
 grind
noncomputable def Sm(f:List Bool->List Bool)(c d:Mc):Nat->Nat->Nat->Prop
 |0,_,_=>True
 |t+1,i,j=>∀r,r<2^c.m->f (told c i r)=told d j r/\Sm f c d t (jB c i r) (jB d j r)
noncomputable def Al(f:List Bool->List Bool)(c d:Mc)(i j:Nat):Prop:=∀t,Sm f c d t i j
theorem DL{f:List Bool->List Bool}{c d e:Mc}(h:c.m=d.m):∀{t i j k:Nat},Sm f c d t i j->Sm id d e t j k->Sm f c e t i k
 |0,_,_,_,_,_=>trivial
 |t+1,_,_,_,C,h2=>λr hr=>⟨(C r hr).1.trans (h2 r (by rw[<- h];exact hr)).1,DL h (C r hr).2 (h2 r (by rw[<- h];exact hr)).2⟩
theorem P7{f:List Bool->List Bool}{c d:Mc}:∀{t i j k:Nat},Sm id c c t i j->Sm f c d t j k->Sm f c d t i k
 |0,_,_,_,_,_=>trivial
 |t+1,_,_,_,C,h2=>λr hr=>⟨by rw[show told c _ r=_ from(C r hr).1];exact(h2 r hr).1,P7 (C r hr).2 (h2 r hr).2⟩
theorem BQ{f:List Bool->List Bool}{c d e:Mc}(h:c.m=d.m):∀{t i j k:Nat},Sm f c d t i j->Sm f c e t i k->Sm id d e t j k
 |0,_,_,_,_,_=>trivial
 |t+1,_,_,_,C,h2=>λr hr=>have q:=C r (by rw[h];exact hr);have p:=h2 r (by rw[h];exact hr);⟨q.1.symm.trans p.1,BQ h q.2 p.2⟩
theorem xH{f:List Bool->List Bool}(inj:∀x y,f x=f y->x=y){c d e:Mc}(h:c.m=d.m):∀{t i j k:Nat},Sm f c e t i k->Sm f d e t j k->Sm id c d t i j
 |0,_,_,_,_,_=>trivial
 |t+1,_,_,_,C,h2=>λr hr=>have q:=C r hr;have p:=h2 r (by rw[<- h];exact hr);⟨inj _ _ (q.1.trans p.1.symm),xH inj h q.2 p.2⟩
theorem Al.step(h:Al f c d i j)(hr:r<2^c.m):f (told c i r)=told d j r/\Al f c d (jB c i r) (jB d j r):=⟨(h 1 r hr).1,λt=>(h (t+1) r hr).2⟩
theorem EF{c:Mc}(J:c.Og):∀{t i j:Nat},i<c.af.length->j<c.af.length->(Sm id c c t i j↔kd c t i=kd c t j)
 |0,i,j,_,_=>⟨λ_=>by rw[xl,xl],λ_=>trivial⟩
 |t+1,i,j,hi,hj=>by
  rw[Bm J hi hj];exact forall_congr' λr=>⟨λh hr=>⟨(h hr).1,(EF J (qY J hi hr) (qY J hj hr)).mp (h hr).2⟩,λh hr=>⟨(h hr).1,(EF J (qY J hi hr) (qY J hj hr)).mpr (h hr).2⟩⟩
theorem yU(J:c.Og)(hs:iH c L)(hi:i<c.af.length)(hj:j<c.af.length):Al id c c i j↔kd c L i=kd c L j:=
 ⟨λh=>(EF J hi hj).mp (h L),λh t=>(EF J hi hj).mpr (Oh J hs t i j hi hj h)⟩
inductive F2(P:Nat->Nat->Prop):List Nat->List Nat->Prop
 |nil:F2 P [] []
 |cons {x y l m}:P x y->F2 P l m->F2 P (x::l) (y::m)
theorem F2.len:∀{l m:List Nat},F2 P l m->l.length=m.length
 |_,_,.nil=>rfl
 |_,_,.cons _ h=>by rw[w1g,w1g,h.len]
theorem F2.get:∀{l m:List Nat}{i:Nat},F2 P l m->i<l.length->P (l.getD i 0) (m.getD i 0)
 |_,_,_,.nil,h=>by cases h
 |_,_,0,.cons p _,_=>p
 |_,_,i+1,.cons _ h,hi=>by
  have:=h.get (i:=i) (by simpa using hi)
  simpa using this
theorem F2.snoc(p:P x y):∀{l m:List Nat},F2 P l m->F2 P (l++[x]) (m++[y])
 |_,_,.nil=>.cons p .nil
 |_,_,.cons q h=>.cons q (F2.snoc p h)
theorem F2.mem(u:∀x y x' y',P x y->P x' y'->(x=x'↔y=y'))(p:P x y):∀{l m:List Nat},F2 P l m->(x∈l↔y∈m)
 |_,_,.nil=>by simp
 |_,_,.cons q h=>by rw[w0m,w0m,F2.mem u p h,u _ _ _ _ p q]
theorem F2.ix(u:∀x y x' y',P x y->P x' y'->(x=x'↔y=y'))(p:P x y):∀{l m:List Nat},F2 P l m->l.idxOf x=m.idxOf y
 |_,_,.nil=>rfl
 |x'::l,y'::m,.cons q h=>by
  rw[w3n,w3n,F2.ix u p h]
  grind
theorem F2.add(u:∀x y x' y',P x y->P x' y'->(x=x'↔y=y'))(p:P x y)(h:F2 P l m):F2 P (bw l x) (bw m y):=by
 unfold bw
 by_cases e:x∈l
 .rw[if_pos e,if_pos ((h.mem u p).mp e)];exact h
 .rw[if_neg e,if_neg λz=>e ((h.mem u p).mpr z)];exact h.snoc p
theorem F2.fold{P:Nat->Nat->Prop}(u:∀x y x' y',P x y->P x' y'->(x=x'↔y=y')):∀{xs ys l m:List Nat},F2 P xs ys->F2 P l m->F2 P (xs.foldl bw l) (ys.foldl bw m)
 |[],[],_,_,_,h=>h
 |[],_::_,_,_,q,_=>nomatch q
 |_::_,[],_,_,q,_=>nomatch q
 |x::xs,y::ys,l,m,q,h=>by
  cases q with
  |cons p q=>exact F2.fold (xs:=xs) (ys:=ys) (l:=bw l x) (m:=bw m y) u q (h.add u p)
theorem F2.AI{f g:α->Nat}:∀{l:List α},(∀x∈l,P (f x) (g x))->F2 P (l.map f) (l.map g)
 |[],_=>.nil
 |x::l,h=>.cons (h x (by simp)) (F2.AI λy hy=>h y (by simp[hy]))
theorem F2.vc{f g:Nat->α}(e:∀x y,P x y->f x=g y):∀{l m:List Nat},F2 P l m->l.map f=m.map g
 |_,_,.nil=>rfl
 |_,_,.cons p h=>by rw[w0p,w0p,e _ _ p,F2.vc e h]
theorem F2.bf(u:∀x y x' y',P x y->P x' y'->(x=x'↔y=y')){g g':Nat->List Pr}{b b':Nat}(p:P b b')(hg:∀x y,P x y->F2 P ((g x).map (·.2)) ((g' y).map (·.2))):∀i,F2 P (Q.bf g b i) (Q.bf g' b' i)
 |0=>.cons p .nil
 |i+1=>by
  have h:=F2.bf u p hg i;show F2 P (if i<(Q.bf g b i).length then _ else _) (if i<(Q.bf g' b' i).length then _ else _)
  by_cases e:i<(Q.bf g b i).length
  .rw[if_pos e,if_pos (by rw[<- h.len];exact e)];exact F2.fold u (hg _ _ (h.get e)) h
  .rw[if_neg e,if_neg (by rw[<- h.len];exact e)];exact h
theorem F2.stop(u:∀x y x' y',P x y->P x' y'->(x=x'↔y=y')){g g':Nat->List Pr}{b b':Nat}(p:P b b')(hg:∀x y,P x y->F2 P ((g x).map (·.2)) ((g' y).map (·.2))){I I':Nat}(hI:(Q.bf g b I).length=I)(yh:(Q.bf g' b' I').length=I'):F2 P (Q.bf g b I) (Q.bf g' b' I'):=by
 have h:=F2.bf u p hg;rcases Nat.le_total I I' with le|le
 .have l1:(Q.bf g' b' I).length=I:=by grind [len]
  have:=DY l1 (I'-I)
  grind
 .have l1:(Q.bf g b I').length=I':=by grind [len]
  have:=DY l1 (I-I')
  grind
theorem Xv(J:c.Og)(hi:i<c.af.length):c.af.getD i []=(List.range (2^c.m)).map λr=>(told c i r,jB c i r):=by
 have hl:=J.st _ (fE hi);unfold told jB;generalize c.af.getD i []=s at hl |-
 refine List.ext_getElem (by simp[hl]) λr C h2=>?_
 simp[List.getD,C]
theorem Bh(J:c.Og)(hk:k∈cH c L):dB c L k=(List.range (2^c.m)).map λr=>(told c (rep c L k) r,kd c L (jB c (rep c L k) r)):=by
 unfold dB;rw[Xv J (k8 hk),w0s];rfl
structure Rk(f:List Bool->List Bool)(c d:Mc)(L L' x y:Nat):Prop where
 cm:x∈cH c L
 dm:y∈cH d L'
 a:Al f c d (rep c L x) (rep d L' y)
structure Go(f:List Bool->List Bool)(c d:Mc)(L L':Nat):Prop where
 J:c.Og
 hd:d.Og
 hm:c.m=d.m
 hs:iH c L
 tE:iH d L'
 inj:∀x y,f x=f y->x=y
 al:Al f c d 0 0
theorem Go.of(G:Go f c d L L')(hi:i<c.af.length)(hj:j<d.af.length)(h:Al f c d i j):Rk f c d L L' (kd c L i) (kd d L' j):=by
 have k1:=sD (t:=L) hi;have k2:=sD (t:=L') hj;refine⟨k1,k2,λt=>?_⟩
 have a1:=(yU G.J G.hs (k8 k1) hi).mpr (ue k1);have a2:=(yU G.hd G.tE hj (k8 k2)).mpr (ue k2).symm;exact P7 (a1 t) (DL G.hm (h t) (a2 t))
theorem Go.Mn{f:List Bool->List Bool}{c d:Mc}{L L':Nat}(G:Go f c d L L'):∀x y x' y',Rk f c d L L' x y->Rk f c d L L' x' y'->(x=x'↔y=y'):=λx y x' y' p q=>by
 constructor
 .rintro rfl;have:=(yU G.hd G.tE (k8 p.dm) (k8 q.dm)).mp λt=>BQ G.hm (p.a t) (q.a t)
  rwa [ue p.dm,ue q.dm]at this
 .rintro rfl;have:=(yU G.J G.hs (k8 p.cm) (k8 q.cm)).mp λt=>xH G.inj rfl (p.a t) (q.a t)
  rwa [ue p.cm,ue q.cm]at this
theorem Go.next(G:Go f c d L L')(p:Rk f c d L L' x y)(hr:r<2^c.m):f (told c (rep c L x) r)=told d (rep d L' y) r/\Rk f c d L L' (kd c L (jB c (rep c L x) r)) (kd d L' (jB d (rep d L' y) r)):=by
 obtain⟨C,h2⟩:=p.a.step hr;exact⟨C,G.of (qY G.J (k8 p.cm) hr) (qY G.hd (k8 p.dm) (by rw[<- G.hm];exact hr)) h2⟩
theorem Go.f2(G:Go f c d L L')(hI:(bf (dB c L) (kd c L 0) I).length=I)(yh:(bf (dB d L') (kd d L' 0) I').length=I'):
  F2 (Rk f c d L L') (bf (dB c L) (kd c L 0) I) (bf (dB d L') (kd d L' 0) I'):=
 F2.stop G.Mn (G.of G.J.pos G.hd.pos G.al) (λx y p=>by
  rw[Bh G.J p.cm,Bh G.hd p.dm,w0s,w0s,<- G.hm];exact F2.AI λr hr=>(G.next p (w1c.mp hr)).2) hI yh
theorem Go.canon{c d:Mc}{L L':Nat}(G:Go id c d L L')(hw:c.wide=d.wide){I I':Nat}(hI:(bf (dB c L) (kd c L 0) I).length=I)(yh:(bf (dB d L') (kd d L' 0) I').length=I'):
  fQ c L (bf (dB c L) (kd c L 0) I)=fQ d L' (bf (dB d L') (kd d L' 0) I'):=by
 have f:=G.f2 hI yh;unfold fQ;rw[G.hm,hw];congr 1;refine F2.vc (λx y p=>?_) f
 unfold bQ;rw[Bh G.J p.cm,Bh G.hd p.dm,w0s,w0s,<- G.hm];refine w0r λr hr=>?_
 obtain⟨e1,e2⟩:=G.next p (w1c.mp hr);exact Prod.ext e1 (F2.ix G.Mn e2 f)
theorem P8(J:c.Og)(hs:iH c L)(h:Cl c L T):∀(t x:Nat),x<T.length->Sm id c (fQ c L T) t (rep c L (T.getD x 0)) x
 |0,_,_=>trivial
 |t+1,x,hx=>λr hr=>by
  have hk:=h.mem _ (Oo hx);obtain⟨e1,e2⟩:=z7a J h hx hr;have hn:=qY J (k8 hk) hr
  have fj:kd c L (jB c (rep c L (T.getD x 0)) r)∈T:=h.cl _ (Oo hx) (told c (rep c L (T.getD x 0)) r,kd c L (jB c (rep c L (T.getD x 0)) r)) (by
   grind [Bh])
  refine⟨e1.symm,?_⟩;rw[e2];have ih:=P8 J hs h t _ (Qt fj);rw[Qa fj]at ih;have k1:=sD (t:=L) hn;exact DL rfl ((yU J hs hn (k8 k1)).mpr (ue k1).symm t) ih
theorem Pd(J:c.Og)(hs:iH c L)(hI:(bf (dB c L) (kd c L 0) I).length=I):Al id c (fQ c L (bf (dB c L) (kd c L 0) I)) 0 0:=λt=>by
 have h:=ED J hI;have:=P8 J hs h t 0 h.pos;obtain⟨m,hm⟩:=JK (dB c L) (kd c L 0) I;have e:(bf (dB c L) (kd c L 0) I).getD 0 0=kd c L 0:=by rw[hm];rfl
 rw[e]at this;have k1:=sD (t:=L) J.pos;exact DL rfl ((yU J hs J.pos (k8 k1)).mpr (ue k1).symm t) this
noncomputable def oG(L:List Pq):List W:=L.map λ_=>W.bl true
noncomputable def si(L:List Pq):S:=.dw oh (L.map bE) (oG L)
noncomputable def qI(L:List Pq):W:=.dw true oh (L.map bE) (oG L)
theorem P9(hn:L.Nodup){y:Pq}(h:y∈L):ja (L.map bE) (oG L) (bE y)=some (.bl true):=yW (f:=id) (v:=λ_=>W.bl true) (by simpa using hn) h
theorem Zk{y:Pq}(h:y∉L):ja (L.map bE) (oG L) (bE y)=none:=tK (f:=id) (v:=λ_=>W.bl true) λq hq e=>h (by grind)
theorem Oq:∀L:List Pq,gX (oG L)=true
 |[]=>rfl
 |_::L=>Oq L
theorem Zl(n)(P)(hl:L.length<16777216){x:Pq}(hx:jU c d x)(hn:x∉L):Du K a (run K a (n+1)) [.fr (ag c),.fr (ag d),.fr P,si L,.fr (aF x)]=.nx [.fr (ag c),.fr (ag d),.fr P,si (L++[x]),.fr (aF x)]:=by
 have e1:oS 3 (.bl true) (aF x) [.fr (ag c),.fr (ag d),.fr P,si L,.fr (aF x)] (some (si L))=if(L.map bE).length<16777216/\([S.fr (ag c),.fr (ag d),.fr P,.no,.fr (aF x)]).all (λs=>!eU s)=true/\fits (bE x) oh/\(gX (oG L)&&gX [.bl true])=true then(if(ja (L.map bE) (oG L) (bE x)).isSome=true then .nx [.fr (ag c),.fr (ag d),.fr P,si L,.fr (aF x)]else .nx [.fr (ag c),.fr (ag d),.fr P,.dw oh (L.map bE++[bE x]) (oG L++[.bl true]),.fr (aF x)])else .no:=rfl
 unfold Du;rw?;rw[Kd];rw?;rw[Hr n c hx.1];rw?;rw[Ke];rw?;rw[Hr n d hx.2];rw?;unfold si at e1 |-
 rw?;rw[e1,if_pos ⟨by grind,rfl,q_ x,by rw[Oq];rfl⟩,Zk hn,if_neg (by simp)]
 grind [oG]
theorem Pe(n:Nat){c d:Mc}(P:W):∀(l L:List Pq)(z4:S),eU z4=false->(∀x∈l,jU c d x)->(L++l).Nodup->L.length+l.length<16777216 ->
  ∃EI,eU EI=false/\dH 4 (Du K a (run K a (n+1))) (l.map aF) [.fr (ag c),.fr (ag d),.fr P,si L,z4]=.nx [.fr (ag c),.fr (ag d),.fr P,si (L++l),EI]
 |[],L,z4,hz,_,_,_=>⟨z4,hz,by rw[w1v];rfl⟩
 |x::l,L,z4,hz,hi,hn,hl=>by
  have e:=Zl (K:=K) (a:=a) n P (L:=L) (x:=x) (by simp at hl;omega) (hi x (by simp)) λz=>(List.nodup_append.mp hn).2.2 x z x (by simp) rfl
  obtain⟨z,C,h2⟩:=Pe n P l (L++[x]) (.fr (aF x)) rfl (λy hy=>hi y (by simp[hy])) (by simpa using hn) (by simp at hl |-;omega)
  grind [dH]
theorem VZ(n)(hn:L.Nodup)(s t)(h:∀p∈s.zip t,p.1.1=p.2.1/\(p.1.2,p.2.2)∈L):run K a (n+1) A1 [ar s,ar t,qI L]=.ok (.fr (.bl true)):=by
 rw[GR];unfold C2 ar;rw?;rw[OC]
 obtain⟨e,C,z3,z4,rfl⟩:=Jm (i:=3) (j:=4) (b:=GN K a (run K a n)) (λe=>∃z3 z4,e=[.fr (.lst (s.map ao)),.fr (.lst (t.map ao)),.fr (qI L),z3,z4]) ((s.zip t).map λp=>(ao p.1,ao p.2)) [.fr (.lst (s.map ao)),.fr (.lst (t.map ao)),.fr (qI L),.no,.no] ⟨_,_,rfl⟩ (by
  rintro q hq e ⟨z3,z4,rfl⟩;obtain⟨p,hp,rfl⟩:=w0k.mp hq;obtain⟨e1,e2⟩:=h p hp;refine⟨[.fr (.lst (s.map ao)),.fr (.lst (t.map ao)),.fr (qI L),.fr (ao p.1),.fr (ao p.2)],?_,_,_,rfl⟩;unfold GN qI;rw?;rw[qZ];rw?;rw[qZ];rw?;rw[CF,e1];rw?;rw[sC];rw?;rw[sC];rw?;rw[show W.tup [.int (p.1.2:Int),.int (p.2.2:Int)]=aF (p.1.2,p.2.2)from rfl,Bw (sx _) (q_ _),P9 hn e2];rw?;simp)
 rw[C];rw?
theorem Pf:∀L:List Pq,cK ((L.map bE).map wK)=some (L.map λx=>(.int (x.1:Int),.int (x.2:Int)))
 |[]=>rfl
 |x::L=>by
  show(cK ((L.map bE).map wK)).map ((W.int (x.1:Int),W.int (x.2:Int))::·)=_;rw[Pf L];rfl
theorem Pg(n:Nat){c d:Mc}{L:List Pq}(hn:L.Nodup):∀{l:List Pq},(∀x∈l,jU c d x/\∀p∈(c.af.getD x.1 []).zip (d.af.getD x.2 []),p.1.1=p.2.1/\(p.1.2,p.2.2)∈L)->dy cP (xg K a (run K a (n+1))) [.fr (ag c),.fr (ag d),.fr (qI L)] (l.map λx=>(.int (x.1:Int),.int (x.2:Int)))=some (l.map λ_=>.bl true)
 |[],_=>rfl
 |x::l,h=>by
  obtain⟨C,h2⟩:=h x (by simp)
  have e:xg K a (run K a (n+1)) [.fr (.int (x.1:Int)),.fr (.int (x.2:Int)),.fr (ag c),.fr (ag d),.fr (qI L)]=.ok (.bl true) [.fr (.int (x.1:Int)),.fr (.int (x.2:Int)),.fr (ag c),.fr (ag d),.fr (qI L)]:=by
   unfold xg;rw?;rw[nE];rw?;rw[sE C.1];rw?;rw[nE];rw?;rw[sE C.2];rw?;rw[VZ n hn _ _ h2];rfl
  have r:=Pg n hn (l:=l) λy hy=>h y (w1a _ hy)
  show(match xg K a (run K a (n+1)) [.fr (.int (x.1:Int)),.fr (.int (x.2:Int)),.fr (ag c),.fr (ag d),.fr (qI L)]with
   |.ok y _=>(dy cP (xg K a (run K a (n+1))) [.fr (ag c),.fr (ag d),.fr (qI L)] (l.map λx:Pq=>(W.int (x.1:Int),W.int (x.2:Int)))).map (y::·)
   |_=>none)=_
  rw[e,r];rfl
theorem z7g(L:List Pq):all1 [.lst (L.map λ_=>.bl true)]=some (.bl true):=by
 have e:∀L:List Pq,ip (L.map λ_=>.bl true)=some (L.map λ_=>true):=λL=>by
  induction L with
  |nil=>rfl
  |cons x L ih=>
   grind [ip]
 show(ip (L.map λ_=>.bl true)).map _=_
 rw[e];simp
theorem UR(n)(T:mw c d){L:List Pq}(hn:L.Nodup)(hl:L.length<=14000)(h0:(0,0)∈L)(h:∀x∈L,jU c d x/\∀p∈(c.af.getD x.1 []).zip (d.af.getD x.2 []),p.1.1=p.2.1/\(p.1.2,p.2.2)∈L):
  run K a (n+5) tZ [ag c,ag d,.lst (L.map aF)]=.ok (.fr (.bl true)):=by
 rw[Hz];unfold DV;rw?;rw[NI n T];rw?;obtain⟨z4,hz,h2⟩:=Pe (K:=K) (a:=a) (n+3) (.lst (L.map aF)) L [] .no rfl (λx hx=>(h x hx).1) (by simpa using hn) (by simp;omega)
 rw[show S.dw (Sh.tup [Sh.int,Sh.int]) [] []=si []from rfl,h2,w3l];unfold si;rw?;rw[show W.tup [.int 0,.int 0]=aF (0,0)from rfl,Bw (sx _) (q_ _),P9 hn h0];rw?;have cm:=Pg (K:=K) (a:=a) (n+3) hn h;unfold qI at cm;rw[if_neg (by simp),Xg (by simp only[List.set_cons_succ,List.set_cons_zero,w3b,List.all_nil,hz];rfl) rfl,Pf];rw?;rw[w0a,if_pos (by omega)];have ef:gK (gK (gK [.fr (ag c),.fr (ag d),.fr (.lst (L.map aF)),.fr (.dw true oh (L.map bE) (oG L)),z4] 0) 1) 3=([.fr (ag c),.fr (ag d),.fr (.lst (L.map aF)),.fr (.dw true oh (L.map bE) (oG L)),z4]:List S):=rfl;have Q3:dy cP (xg K a (run K a (n+4))) [nB [.fr (ag c),.fr (ag d),.fr (.lst (L.map aF)),.fr (.dw true oh (L.map bE) (oG L)),z4] 0,nB [.fr (ag c),.fr (ag d),.fr (.lst (L.map aF)),.fr (.dw true oh (L.map bE) (oG L)),z4] 1,nB [.fr (ag c),.fr (ag d),.fr (.lst (L.map aF)),.fr (.dw true oh (L.map bE) (oG L)),z4] 3] (L.map λx=>(.int (x.1:Int),.int (x.2:Int)))=some (L.map λ_=>.bl true):=cm
 rw[ef,Q3];rw?;rw[z7g];rw?
theorem Xw(h:(bg g b I).length=I)(h':(bg g b hc).length=hc):bg g b I=bg g b hc:=by
 rcases Nat.le_total I hc with z|z
 .have:=Js (w3k h) (hc-I)
  grind
 .have:=Js (w3k h') (I-hc)
  grind
structure LL(c d:Mc)(L:List Pq):Prop where
 w:Wo c d
 nd:L.Nodup
 jH:∀x∈L,jU c d x
 hd:∃t,L=(0,0)::t
 cl:∀x∈L,∀r,r<2^c.m->(prod c d).nx x r∈L
theorem LL.of(T:Wo c d)(h:(bg (gW c d) (0,0) I).length=I):LL c d (bg (gW c d) (0,0) I) where
 w:=T
 nd:=yT _ _ I
 jH:=vv ⟨T.oc.pos,T.od.pos⟩ (λx hx p hp=>Jr T.oc T.od hx p hp) I
 hd:=W6 _ _ I
 cl:=λx hx r hr=>by
  have fj:=vv (B:=jU c d) ⟨T.oc.pos,T.od.pos⟩ (λx hx p hp=>Jr T.oc T.od hx p hp) I x hx
  exact J2 I (by omega) x (by grind) _ (w0d (EC T.oc T.od T.hm fj hr))
theorem LL.h0(h:LL c d L):(0,0)∈L/\L.idxOf (0,0)=0:=by
 grind [hd]
theorem LL.pr(h:LL c d L)(hx:x∈L)(hr:r<2^c.m):aN (bG c d L) (L.idxOf x) r=((aN c x.1 r).1++(aN d x.2 r).1,L.idxOf ((prod c d).nx x r)):=by
 have hl:=J1 hx
 have e:(L.map λx=>dj L (gW c d x)).getD (L.idxOf x) []=dj L (gW c d x):=by
  grind
 show((L.map λx=>dj L (gW c d x)).getD (L.idxOf x) []).getD r ([],0)=_
 rw[e];unfold dj;rw[List.getD_eq_getElem?_getD,w1u,EC h.w.oc h.w.od h.w.hm (h.jH x hx) hr];rfl
theorem LL.og(h:LL c d L)(hl:L.length<=700)(hw:c.wide+d.wide<=40):(bG c d L).Og where
 gJ:=h.w.oc.gJ
 wg:=hw
 pos:=by
  obtain⟨t,e⟩:=h.hd;show 0<(L.map _).length;rw[e];simp
 mo:=by show(L.map _).length<=700;grind
 st:=λs hs=>by
  obtain⟨x,hx,rfl⟩:=w0k.mp hs;unfold dj;rw[w0a];exact J3 h.w.oc h.w.od h.w.hm (h.jH x hx)
 pr:=λs hs p hp=>by
  obtain⟨x,hx,rfl⟩:=w0k.mp hs;obtain⟨r,hr,rfl⟩:=w1y hp
  have r_:r<2^c.m:=by
   unfold dj at hr
   rwa [w0a,J3 h.w.oc h.w.od h.w.hm (h.jH x hx)]at hr
  have e:(dj L (gW c d x))[r]?=some ((aN c x.1 r).1++(aN d x.2 r).1,L.idxOf ((prod c d).nx x r)):=by
   unfold dj;rw[w1u,EC h.w.oc h.w.od h.w.hm (h.jH x hx) r_];rfl
  rw[w0j hr]at e;rw[Option.some.inj e];refine⟨?_,by show _<(L.map _).length;rw[w0a];exact J1 (h.cl x hx r r_)⟩;rw[w1o,(xm h.w.oc (h.jH x hx).1 r_).2,(xm h.w.od (h.jH x hx).2 (by rw[<- h.w.hm];exact r_)).2];rfl
noncomputable def goN(c:Mc)(w:List Nat):List (List Bool)×Nat:=w.foldl (λq r=>(q.1++[(aN c q.2 r).1],(aN c q.2 r).2)) ([],0)
theorem zS(c)(rs):c.go rs=goN c (rs.map bM):=by
 unfold Mc.go goN;rw[List.foldl_map];rfl
theorem oT(c)(w)(r):goN c (w++[r])=((goN c w).1++[(aN c (goN c w).2 r).1],(aN c (goN c w).2 r).2):=by
 grind [goN]
theorem xk{P:List Nat->Prop}(h0:P [])(hs:∀w r,P w->P (w++[r]))(w):P w:=by
 rw[<- List.reverse_reverse w]
 induction w.reverse with
 |nil=>exact h0
 |cons r l ih=>grind
theorem xp(c)(w):(goN c w).1.length=w.length:=
 xk (P:=λw=>(goN c w).1.length=w.length) rfl (λw r ih=>by grind [oT]) w
theorem By(c d)(w):(prod c d).node (0,0) w=((goN c w).2,(goN d w).2):=
 xk (P:=λw=>(prod c d).node (0,0) w=((goN c w).2,(goN d w).2)) rfl (λw r ih=>by rw[Ih,ih,oT,oT];rfl) w
theorem LL.at(h:LL c d L)(w):(∀r∈w,r<2^c.m)->((goN c w).2,(goN d w).2)∈L:=
 xk (P:=λw=>(∀r∈w,r<2^c.m)->((goN c w).2,(goN d w).2)∈L) (λ_=>h.h0.1) (λw r ih ho=>by
  have:=h.cl _ (ih λi hi=>ho i (by simp[hi])) r (ho r (by simp))
  rw[oT,oT];exact this) w
theorem LL.go(h:LL c d L)(w):(∀r∈w,r<2^c.m)->goN (bG c d L) w=(List.zipWith (·++·) (goN c w).1 (goN d w).1,L.idxOf ((goN c w).2,(goN d w).2)):=
 xk (P:=λw=>(∀r∈w,r<2^c.m)->goN (bG c d L) w=(List.zipWith (·++·) (goN c w).1 (goN d w).1,L.idxOf ((goN c w).2,(goN d w).2))) (λ_=>by show([],0)=_;rw[show((goN c []).2,(goN d []).2)=((0,0):Pq)from rfl,h.h0.2];rfl) (λw r ih ho=>by
  have qF:∀r∈w,r<2^c.m:=λi hi=>ho i (by simp[hi])
  rw[oT,ih qF,h.pr (h.at w qF) (ho r (by simp)),oT,oT,List.zipWith_append (by rw[xp,xp])];rfl) w
theorem Ph(c d:Mc)(w:List Nat):(prod c d).ok w->(∀v,v.length<=w.length->¬(prod c d).D (0,0) v)->(goN c w).1=(goN d w).1:=
 xk (P:=λw=>(prod c d).ok w->(∀v,v.length<=w.length->¬(prod c d).D (0,0) v)->(goN c w).1=(goN d w).1) (λ_ _=>rfl) (λw r ih ho hd=>by
  have e:=ih (eA.mp ho).1 λv hv=>hd v (by simp;omega)
  rw[oT,oT,e]
  have b:(prod c d).bad ((prod c d).node (0,0) w) r=false:=by
   cases q:(prod c d).bad ((prod c d).node (0,0) w) r
   .rfl
   .exact(hd _ (w0c _) ⟨w,r,rfl,ho,q⟩).elim
  rw[By]at b;have b:(!decide ((aN c (goN c w).2 r).1=(aN d (goN d w).2 r).1))=false:=b
  grind) w
theorem z9z{y:List Bool}(h:x.length=y.length):(x++y=y++x)↔x=y:=⟨λe=>(List.append_inj e h).1,λe=>by rw[e]⟩
theorem Ep(T:mw c d)(h:LL c d L)(h':LL d c L')(u):(prod (bG c d L) (bG d c L')).D (0,0) u↔(prod c d).D (0,0) u:=by
 refine exists_congr λw=>exists_congr λr=>and_congr_right λe=>and_congr_right fun(ho:(prod c d).ok u)=>?_
 subst e;obtain⟨o1,o2⟩:=eA.mp ho;have Ly:∀r∈w,r<2^d.m:=by rw[<- T.hm];exact o1
 have Lz:r<2^d.m:=by rw[<- T.hm];exact o2
 have i1:=h.at w o1;have i2:=h'.at w Ly;rw[By,By];show(!decide ((aN (bG c d L) (goN (bG c d L) w).2 r).1=(aN (bG d c L') (goN (bG d c L') w).2 r).1))=true↔(!decide ((aN c (goN c w).2 r).1=(aN d (goN d w).2 r).1))=true;rw[h.go w o1,h'.go w Ly,h.pr i1 o2,h'.pr i2 Lz];have l1:=(xm T.oc (h.jH _ i1).1 o2).2;have l2:=(xm T.od (h.jH _ i1).2 Lz).2
 grind [mw.hw,z9z]
theorem Xx(h:sle u v)(h':sle v u):u=v:=by
 rcases h with h|h
 .exact h
 .rcases h' with h'|h'
  .exact h'.symm
  .exact(Oy (Ik h h')).elim
noncomputable def NB(c d:Mc)(L:List Pq):Prop:=∀x∈L,∀r,r<2^c.m->(aN c x.1 r).1=(aN d x.2 r).1
theorem Kg(h:LL c d L)(b:NB c d L):Al id c d 0 0:=λt=>by
 have:∀t,∀x∈L,Sm id c d t x.1 x.2:=λt=>by
  induction t with
  |zero=>exact λ_ _=>trivial
  |succ t ih=>exact λx hx r hr=>⟨b x hx r hr,ih _ (h.cl x hx r hr)⟩
 exact this t _ h.h0.1
theorem z7h(h:LL c d L)(b:NB c d L):Al (λx=>x++x) c (bG c d L) 0 0:=λt=>by
 have:∀t,∀x∈L,Sm (λx=>x++x) c (bG c d L) t x.1 (L.idxOf x):=λt=>by
  induction t with
  |zero=>exact λ_ _=>trivial
  |succ t ih=>
   intro x hx r hr;have e:=h.pr hx hr;refine⟨?_,?_⟩
   .show _=(aN (bG c d L) (L.idxOf x) r).1;rw[e,<- b x hx r hr];rfl
   .show Sm _ c _ t _ (aN (bG c d L) (L.idxOf x) r).2;rw[e];exact ih _ (h.cl x hx r hr)
 have:=this t _ h.h0.1
 rwa [h.h0.2]at this
theorem EG(A:Al id c d 0 0)(u):¬(prod c d).D (0,0) u:=by
 rintro⟨w,r,rfl,ho,hb⟩;obtain⟨o1,o2⟩:=eA.mp ho
 have:(∀r∈w,r<2^c.m)->Al id c d (goN c w).2 (goN d w).2:=
  xk (P:=λw=>(∀r∈w,r<2^c.m)->Al id c d (goN c w).2 (goN d w).2) (λ_=>A) (λw r ih ho=>by
   rw[oT,oT];exact((ih λi hi=>ho i (by simp[hi])).step (ho r (by simp))).2) w
 have q:=((this o1).step o2).1;rw[By]at hb;have hb:(!decide ((aN c (goN c w).2 r).1=(aN d (goN d w).2 r).1))=true:=hb;rw[decide_eq_true (show(aN c (goN c w).2 r).1=(aN d (goN d w).2 r).1 from q)]at hb;cases hb
theorem Zm(x y:List Bool)(h:x++x=y++y):x=y:=by
 have:=congrArg List.length h;simp at this;exact(List.append_inj h (by omega)).1
theorem LL.zip(h:LL c d L)(b:NB c d L):∀x∈L,jU c d x/\∀p∈(c.af.getD x.1 []).zip (d.af.getD x.2 []),p.1.1=p.2.1/\(p.1.2,p.2.2)∈L:=λx hx=>by
 refine⟨h.jH x hx,λp hp=>?_⟩
 obtain⟨r,hr,e⟩:=w1y hp;have l1:=h.w.oc.st _ (fE (h.jH x hx).1);have l2:=h.w.od.st _ (fE (h.jH x hx).2);have r_:r<2^c.m:=by grind
 have hr2:r<2^d.m:=by grind
 have k1:aN c x.1 r=p.1:=by
  rw[<- e];unfold aN
  grind
 have k2:aN d x.2 r=p.2:=by
  rw[<- e]
  simp_all [aN]
 rw[<- k1,<- k2];exact⟨b x hx r r_,h.cl x hx r r_⟩
theorem Xy(n)(T:mw c d):(∃I,(bg (gW c d) (0,0) I).length=I/\run K a (n+5) p7 [ag c,ag d]=.ok (.fr (.tup [.str "alike", .lst ((bg (gW c d) (0,0) I).map aF)]))/\NB c d (bg (gW c d) (0,0) I)) \/
  ∃w:List Nat,run K a (n+5) p7 [ag c,ag d]=.ok (.fr (.tup [.str "unlike", .lst (w.map nI)]))/\w.length<=14000/\(prod c d).D (0,0) w/\∀u,(prod c d).D (0,0) u->sle w u:=by
 have lp:=M5 (K:=K) (a:=a) (n+3) T 1000000 [((0,0),[])] 0 .no .no .no .no .no (BK.init c d) (by simp) (by omega) rfl;rw[GD];unfold CU;rw?;rw[NI n T];rw?;rcases lp with⟨Q',e',C,p',B,hp⟩|⟨s,e',C,w,rfl,h0,h2,h3⟩
 .have zU:bc (tV K a (run K a (n+4))) (pG K a (run K a (n+4))) 1000000 [S.fr (ag c),S.fr (ag d),S.dw (Sh.tup [Sh.int,Sh.int]) [Kx.tup [Kx.int 0,Kx.int 0]] [W.aG],S.own none [W.tup [W.int 0,W.int 0]],S.fr (W.int 0),S.no,S.no,S.no,S.no,S.no]=_:=C;have od:=B.od;rw[Ec]at od;rw[zU];simp only[w3j,w3l];rw?;refine .inl ⟨p',by grind,by rw[<- od,w0s];rfl,?_⟩;rw[<- od];intro x hx r hr;obtain⟨q,hq,rfl⟩:=w0k.mp hx;obtain⟨k,hk⟩:=w3q hq;have:=(B.yd k (by grind) q hk r hr).1;have:(!decide ((aN c q.1.1 r).1=(aN d q.1.2 r).1))=false:=this
  simpa using this
 .have zU:bc (tV K a (run K a (n+4))) (pG K a (run K a (n+4))) 1000000 [S.fr (ag c),S.fr (ag d),S.dw (Sh.tup [Sh.int,Sh.int]) [Kx.tup [Kx.int 0,Kx.int 0]] [W.aG],S.own none [W.tup [W.int 0,W.int 0]],S.fr (W.int 0),S.no,S.no,S.no,S.no,S.no]=_:=C;rw[zU];exact .inr ⟨w,rfl,h0,h2,h3⟩
noncomputable def uL(K:Fg)(a:bu)(r:Nat->List W->FR):List S->SR:=
 (au (aJ 12 (g8 (dz [1] (ae 5) cP (Bk K a r))))
  (au (aJ 8 (ax (r m6) (ab (ae 1) (ab (ae 12) ah))))
  (au (aJ 9 (ax (r m6) (ab (ae 2) (ab (ae 12) ah))))
  (a9 (c_ (aq eq2 (ae 4) (dC (.str "unlike"))) (c_ (j8 (ae 11)) (c_ (aq eq2 (kT (ae 8) dE (g9 (mR iC (dC (.int 1))))) (kT (ae 9) dE (g9 (mR iC (dC (.int 1)))))) (aq ne2 (aq aM (ae 8) (mR iC (dC (.int 1)))) (aq aM (ae 9) (mR iC (dC (.int 1))))))))))))
noncomputable def eL(K:Fg)(a:bu)(r:Nat->List W->FR):List S->SR:=
 (au (aJ 11 (aq eq2 (cX cb (ab (aq aM (ax (r pL) (ab (ae 1) ah)) (dC (.int 0))) ah)) (cX cb (ab (aq aM (ax (r pL) (ab (ae 2) ah)) (dC (.int 0))) ah))))
  (au (bt (aD (aq eq2 (ae 4) (dC (.str "alike"))))
  (a9 (c_ (ae 11) (c_ (aq oE (ax (r tZ) (ab (ae 1) (ab (ae 2) (ab (ae 5) ah)))) (dC (.bl true))) (c_ (aq eq2 (cX cb (ab (ae 5) ah)) (cX cb (ab (ae 7) ah))) (aq eq2 (ae 8) (ae 9))))))
  dG)
  (uL K a r)))
noncomputable def cL(K:Fg)(a:bu)(r:Nat->List W->FR):List S->SR:=
 (au (bt (iM (aD (aq sj (cX bW (ab (aq aM (ae 6) (dC (.int 2))) ah)) (dC (.int 30)))) (aD (aq n5 (aq aM (ae 1) (dC (.int 1))) (dC (.int 4)))))
  (au (bt (lT (kU (ax (r tY) (ab (ae 1) (ab (ae 2) (ab (ae 6) (ab (ae 4) (ab (ae 5) ah))))))))
  (a9 (dC (.bl false)))
  dG)
  (au (aJ 10 (aq aM (ax (r qX) (ab (ae 6) (ab (ae 1) ah))) (dC (.int 0))))
  (bt (aD (aq ne2 (ax (r m6) (ab (ae 10) (ab (ae 3) ah))) (g8 (c5 [] (jD (ab (ae 8) (ab (ae 9) ah))) cP (D_ K a r)))))
  (a9 (dC (.bl false)))
  dG)))
  dG)
  (eL K a r))
noncomputable def bL(K:Fg)(a:bu)(r:Nat->List W->FR):List S->SR:=
 (au (bt (aD (aq ne2 (cX cb (ab (ax (r m6) (ab (ae 6) (ab (ae 3) ah))) ah)) (cX cb (ab (g8 (c5 [] (jD (ab (ae 8) (ab (ae 9) ah))) cP (D' K a r))) ah))))
  (a9 (dC (.bl false)))
  dG)
  (au (bt (aD (aq ne2 (aq aM (ae 7) (ax (r qV) (ab (ae 6) (ab (ae 3) ah)))) (bP (ab (ax (r qV) (ab (ae 1) (ab (ae 3) ah))) (ab (ax (r qV) (ab (ae 2) (ab (ae 3) ah))) ah)))))
  (a9 (dC (.bl false)))
  dG)
  (cL K a r)))
theorem T5(K)(a)(r):Dw K a r =
 (au (aJ 3 (ax (r vk) (ab (ae 0) (ab (dC (.int 30)) (ab (aq aM (ae 1) (dC (.int 0))) ah)))))
  (au (g_ 4 5 (ax (r p7) (ab (ae 1) (ab (ae 2) ah))))
  (au (g_ 6 7 (ax (r qX) (ab (ae 1) (ab (ae 2) ah))))
  (au (aJ 8 (ax (r m6) (ab (ae 1) (ab (ae 3) ah))))
  (au (aJ 9 (ax (r m6) (ab (ae 2) (ab (ae 3) ah))))
  (bL K a r)))))):=rfl
noncomputable def tL(K:Fg)(a:bu)(r:Nat->List W->FR):List S->SR:=
 (au (bt (iM (aD (aq sj (cX bW (ab (aq aM (ae 2) (dC (.int 2))) ah)) (dC (.int 25)))) (iM (aD (aq n5 (aq aM (ae 0) (dC (.int 0))) (dC (.int 2)))) (aD (aq ne2 (cX bW (ab (aq aM (aq aM (ax (r pL) (ab (ae 2) ah)) (dC (.int 0))) (dC (.int 2))) ah)) (cX bW (ab (aq aM (aq aM (ax (r pL) (ab (ae 0) ah)) (dC (.int 0))) (dC (.int 2))) ah))))))
  (a9 (dC (.bl false)))
  dG)
  (a9 (aq oE (ax (r tZ) (ab (ae 2) (ab (ae 5) (ab (ae 7) ah)))) (dC (.bl true)))))
theorem LM(K)(a)(r):yy K a r =
 (au (aJ 5 (aq aM (ax (r qX) (ab (ae 1) (ab (ae 0) ah))) (dC (.int 0))))
  (au (g_ 6 7 (ax (r p7) (ab (ae 2) (ab (ae 5) ah))))
  (au (bt (aD (aq ne2 (ae 6) (ae 3)))
  (a9 (dC (.bl false)))
  dG)
  (au (bt (aD (aq eq2 (ae 3) (dC (.str "unlike"))))
  (a9 (aq eq2 (ae 7) (ae 4)))
  dG)
  (tL K a r))))):=rfl
structure Rs(r:Nat->List W->FR):Prop where
 w:∀{c d:Mc},Wo c d->∃I:Nat,(bg (gW c d) (0,0) I).length=I/\r qX [ag c,ag d]=.ok (.fr (.tup [ag (bG c d (bg (gW c d) (0,0) I)),.lst ((bg (gW c d) (0,0) I).map aF)]))
 t:∀{c d:Mc},mw c d->(∃I,(bg (gW c d) (0,0) I).length=I/\r p7 [ag c,ag d]=.ok (.fr (.tup [.str "alike", .lst ((bg (gW c d) (0,0) I).map aF)]))/\NB c d (bg (gW c d) (0,0) I)) \/
  ∃w:List Nat,r p7 [ag c,ag d]=.ok (.fr (.tup [.str "unlike", .lst (w.map nI)]))/\w.length<=14000/\(prod c d).D (0,0) w/\∀u,(prod c d).D (0,0) u->sle w u
 s:∀{c:Mc},c.Og->∃(L I:Nat)(ws:List W),iH c L/\(bf (dB c L) (kd c L 0) I).length=I/\r pL [ag c]=.ok (.fr (.tup [ag (fQ c L (bf (dB c L) (kd c L 0) I)),.lst ws]))
 c:∀{c d:Mc},mw c d->∀{L:List Pq},LL c d L->NB c d L->r tZ [ag c,ag d,.lst (L.map aF)]=.ok (.fr (.bl true))
 g:∀{c:Mc},c.Og->∀rs:List (List Bool),(∀r∈rs,r.length=c.m)->rs.length<=20000->r m6 [ag c,.lst (rs.map aA)]=.ok (.fr (.lst ((goN c (rs.map bM)).1.map aA)))
 b:∀{c:Mc},c.Og->∀rs:List (List Bool),(∀r∈rs,r.length=c.m)->rs.length<=20000->r qV [ag c,.lst (rs.map aA)]=.ok (.fr (.int ((goN c (rs.map bM)).2:Int)))
theorem QH(n):Rs (run K a (n+5)) where
 w:=λT=>Ze (n+1) T
 t:=λT=>Xy n T
 s:=λh=>VY (n+1) _ h
 c:=λT _ h b=>UR n T h.nd (w0l (xj T.toWo h.nd h.jH) T.sz) h.h0.1 (h.zip b)
 g:=λh rs C h2=>by grind [zS,Uk]
 b:=λh rs C h2=>by grind [zS,UN]
theorem Xz(T:Tw c d)(h:LL c d L)(h':LL d c L')(hl:L.length<=30):mw (bG c d L) (bG d c L'):=by
 have w1:=T.oc.wd;have w2:=T.od.wd;have q:L'.length<=400:=w0l (xj h'.w h'.nd h'.jH) (w2b T.od.most T.oc.most);refine⟨⟨h.og (by omega) (by omega),h'.og (by omega) (by omega),T.hm,?_⟩,Nat.add_comm ..⟩;show(L.map _).length*(L'.map _).length<=14000;rw[w0a,w0a];exact w0l (w2b hl q) (by decide)
theorem Pj(T:Tw c d):Wo d c:=(Tw.two ⟨T.od,T.oc,T.hm.symm,T.hw.symm⟩).toWo
theorem V0(h:LL c d L)(b:NB c d L)(hb:(bG c d L).Og)(s1:iH c Lc)(i1:(bf (dB c Lc) (kd c Lc 0) Ic).length=Ic)(s2:iH (bG c d L) Lb)(i2:(bf (dB (bG c d L) Lb) (kd (bG c d L) Lb 0) Ib).length=Ib):
  (fQ (bG c d L) Lb (bf (dB (bG c d L) Lb) (kd (bG c d L) Lb 0) Ib)).af.length=(fQ c Lc (bf (dB c Lc) (kd c Lc 0) Ic)).af.length:=by
 have:=(Go.f2 (f:=λx=>x++x) ⟨h.w.oc,hb,rfl,s1,s2,Zm,z7h h b⟩ i1 i2).len
 show(List.map _ _).length=(List.map _ _).length
 grind
theorem z90(w:List Nat):eq2 (.lst (w.map nI)) (.lst (w.map nI))=some (.bl true):=by
 have h:∀w:List Nat,de (w.map nI) (w.map nI)=some true/\aW (w.map nI)=0:=λw=>by
  induction w with
  |nil=>exact⟨rfl,rfl⟩
  |cons k w ih=>
   refine⟨?_,?_⟩
   .show(match i4 (nI k) (nI k),de (w.map nI) (w.map nI)with|some a,some b=>some (a&&b)|_,_=>none)=_;rw[ih.1,show i4 (nI k) (nI k)=some true from congrArg some (beq_self_eq_true _)];rfl
   .show max 0 (aW (w.map nI))=0;rw[ih.2];rfl
 unfold eq2;rw[if_pos (by show aW (w.map nI)+1<=150;rw[(h w).2];decide)];show(de (w.map nI) (w.map nI)).map _=_;rw[(h w).1];rfl
theorem xT(R:Rs r)(T:Tw c d)(h:LL c d L)(hl:L.length<=30):
  (NB c d L->∀X,(yy K a r [.fr (ag c),.fr (ag d),.fr (ag (bG c d L)),.fr (.str "alike"),.fr X,.no,.no,.no]).fn=.ok (.fr (.bl true))) /\
  ∀w:List Nat,(prod c d).D (0,0) w->(∀u,(prod c d).D (0,0) u->sle w u)->(yy K a r [.fr (ag c),.fr (ag d),.fr (ag (bG c d L)),.fr (.str "unlike"),.fr (.lst (w.map nI)),.no,.no,.no]).fn=.ok (.fr (.bl true)):=by
 obtain⟨I',yh,e1⟩:=R.w (Pj T);have h':=LL.of (Pj T) yh;generalize bg (gW d c) (0,0) I'=L' at *;have T2:=Xz T h h' hl;have tt:=T.two;refine⟨λb X=>?_,λw hD hm=>?_⟩
 .rcases R.t T2 with⟨I,hI,e2,b2⟩|⟨w,_,_,hw,_⟩
  .have h2:=LL.of T2.toWo hI;generalize bg (gW (bG c d L) (bG d c L')) (0,0) I=L2 at *;have e3:=R.c T2 h2 b2;obtain⟨Lb,Ib,wb,sb,ib,eb⟩:=R.s T2.oc;obtain⟨Lc,Ic,wc,sc,ic,ec⟩:=R.s tt.oc;have sl:=V0 h b T2.oc sc ic sb ib;generalize fQ (bG c d L) Lb (bf (dB (bG c d L) Lb) (kd (bG c d L) Lb 0) Ib)=ub at *;generalize fQ c Lc (bf (dB c Lc) (kd c Lc 0) Ic)=uc at *
   have tl:(tL K a r [.fr (ag c),.fr (ag d),.fr (ag (bG c d L)),.fr (.str "alike"),.fr X,.fr (ag (bG d c L')),.fr (.str "alike"),.fr (.lst (L2.map aF))]).fn=.ok (.fr (.bl true)):=by
    unfold tL;rw?;rw[nE];rw?;rw[pI];rw?;rw[eb];rw?;rw[nE];rw?;rw[ec];rw?;rw[nE];rw?;rw[e3,w0a,w0a,w0a,sl];rw?;simp
   rw[LM];rw?;rw[e1];rw?;rw[e2];rw?;exact tl
  grind [EG,Kg,Ep]
 .rcases R.t T2 with⟨I,hI,e2,b2⟩|⟨w2,e2,_,hw,tq⟩
  .have h2:=LL.of T2.toWo hI;exact(EG (Kg h2 b2) w ((Ep tt h h' w).mpr hD)).elim
  .have e:w2=w:=Xx (tq w ((Ep tt h h' w).mpr hD)) (hm w2 ((Ep tt h h' w2).mp hw));subst e;rw[LM];rw?;rw[e1];rw?;rw[e2];rw?;rw[z90];rw?
noncomputable def E2(r:Nat->List W->FR)(c d:Mc)(L:List Pq):Prop:=(NB c d L->∀X,r tY [ag c,ag d,ag (bG c d L),.str "alike", X]=.ok (.fr (.bl true))) /\
  ∀w:List Nat,(prod c d).D (0,0) w->(∀u,(prod c d).D (0,0) u->sle w u)->r tY [ag c,ag d,ag (bG c d L),.str "unlike", .lst (w.map nI)]=.ok (.fr (.bl true))
theorem V1(n)(T:Tw c d)(h:LL c d L)(hl:L.length<=30):E2 (run K a (n+6)) c d L:=by
 have q:=xT (K:=K) (a:=a) (QH (K:=K) (a:=a) n) T h hl;refine⟨λb X=>?_,λw hD hm=>?_⟩
 .rw[CQ,if_pos (by rfl)];exact q.1 b X
 .rw[CQ,if_pos (by rfl)];exact q.2 w hD hm
theorem U_(q)(r)(h:r.length<=q):ba (aA r)=true/\cV (aA r)=1/\pR (aA r)<=q:=by
 obtain⟨C,h2,h3⟩:=yq r;refine⟨C,?_,?_⟩
 .show aW (r.map .bl)+1=1;rw[h2]
 .show d_ (r.map .bl)<=q;rw[h3];exact h
theorem XA(C:aI ws=true)(h2:aW ws<=90)(h3:d_ ws<=1000000):∃x:Str,cb [.tup ws]=some (.str x):=by
 obtain⟨d,d1,d2,d3,d4,d5⟩:=DR (.tup ws) C;refine⟨d.shown,?_⟩;show(toD (.tup ws)).bind _=_;rw[d1];show(if d.showable=true/\d.depth<=100/\d.shown.length<=16777216 then some (W.str d.shown)else none)=_;have hw:d.weight<=2^20:=by rw[d5];exact w0l h3 (by decide)
 have hs:=PyData.shown_fits (B:=8) (by decide) (by decide) d3 hw;rw[sizeLine_eq]at hs;exact if_pos ⟨d2,by rw[d4];show aW ws+1<=100;omega,hs⟩
theorem Ng(hw:wide<=24)(hs:size<=400):∀s:List Pr,(∀p∈s,p.1.length=wide/\p.2<size)->aI (s.map ao)=true/\aW (s.map ao)<=2/\d_ (s.map ao)<=60*s.length
 |[],_=>⟨rfl,w0q _,w0q _⟩
 |p::s,h=>by
  obtain⟨i1,i2,i3⟩:=Ng hw hs s λq hq=>h q (by simp[hq])
  obtain⟨p1,p2⟩:=h p (by simp);obtain⟨b1,b2,b3⟩:=U_ 24 p.1 (by omega);have hi:ba (.int (p.2:Int))=true:=decide_eq_true ⟨by omega,by omega⟩;have hg:=WW (n:=p.2) (by omega);refine⟨?_,?_,?_⟩
  .simp_all [ba,aI,ao]
  .show max (max (cV (aA p.1)) (max 0 0)+1) (aW (s.map ao))<=2;rw[b2];omega
  .show(pR (aA p.1)+1+(pR (.int (p.2:Int))+1+0))+1+d_ (s.map ao)<=60*(s.length+1);omega
theorem Nh(hm:m<=3)(hw:wide<=24)(hs:size<=400):∀l:List (List Pr),(∀s∈l,s.length=2^m/\∀p∈s,p.1.length=wide/\p.2<size)->aI (l.map ar)=true/\aW (l.map ar)<=3/\d_ (l.map ar)<=500*l.length
 |[],_=>⟨rfl,w0q _,w0q _⟩
 |s::l,h=>by
  obtain⟨i1,i2,i3⟩:=Nh hm hw hs l λq hq=>h q (by simp[hq])
  obtain⟨s1,s2⟩:=h s (by simp);obtain⟨b1,b2,b3⟩:=Ng hw hs s s2;have hp:2^m<=2^3:=w1b (by decide) hm;have R9:(2:Nat)^3=8:=rfl;refine⟨?_,?_,?_⟩
  .show(aI (s.map ao)&&aI (l.map ar))=true;rw[b1,i1];rfl
  .show max (aW (s.map ao)+1) (aW (l.map ar))<=3;omega
  .show d_ (s.map ao)+1+d_ (l.map ar)<=500*(l.length+1);omega
theorem V2(c)(gJ:c.m<=3)(wd:c.wide<=24)(most:c.af.length<=400)(st:∀s∈c.af,s.length=2^c.m/\∀p∈s,p.1.length=c.wide/\p.2<c.af.length):ba (ag c)=true/\cV (ag c)<=6/\pR (ag c)<=201000:=by
 obtain⟨b1,b2,b3⟩:=Nh gJ wd most c.af st;have C:ba (.int (c.m:Int))=true:=decide_eq_true ⟨by omega,by omega⟩;have h2:ba (.int (c.wide:Int))=true:=decide_eq_true ⟨by omega,by omega⟩;have g1:=D6 (n:=c.m) (by omega);have g2:=D6 (n:=c.wide) (by omega);refine⟨?_,?_,?_⟩
 .show(ba (.int (c.m:Int))&&(ba (.int (c.wide:Int))&&(aI (c.af.map ar)&&true)))=true;rw[C,h2,b1];rfl
 .show max 0 (max 0 (max (aW (c.af.map ar)+1) 0))+1<=6;omega
 .show pR (.int (c.m:Int))+1+(pR (.int (c.wide:Int))+1+(d_ (c.af.map ar)+1+0))<=201000;omega
theorem Zn(C:x.1<20/\x.2<20):ba (aF x)=true/\cV (aF x)=1/\pR (aF x)<=18:=by
 have w1:=D6 (n:=x.1) (by omega);have w2:=D6 (n:=x.2) (by omega);refine⟨?_,rfl,?_⟩
 .show(decide (0<=(x.1:Int)/\(x.1:Int)<512)&&(decide (0<=(x.2:Int)/\(x.2:Int)<512)&&true))=true;rw[decide_eq_true (by omega),decide_eq_true (by omega)];rfl
 .show pR (.int (x.1:Int))+1+(pR (.int (x.2:Int))+1+0)<=_;omega
theorem Ot:∀l:List (Nat×Nat),(∀x∈l,x.1<20/\x.2<20)->aI (l.map aF)=true/\aW (l.map aF)<=1/\d_ (l.map aF)<=19*l.length
 |[],_=>⟨rfl,w0q _,w0q _⟩
 |x::l,h=>by
  obtain⟨i1,i2,i3⟩:=Ot l λq hq=>h q (by simp[hq])
  grind [Zn,aI,aW,d_]
noncomputable def nM(x:Str):List Nat:=x.cps.toList
noncomputable def nS(i:Int):List Nat:=nM ((toString i:String):Str)
mutual
noncomputable def sW:W->List Nat
 |.aG=>[78,111,110,101]
 |.bl b=>if b then[84,114,117,101]else[70,97,108,115,101]
 |.int i=>nS i
 |.tup ws=>40::(jW ws++if ws.length==1 then[44,41]else[41])
 |.lst ws=>91::(jW ws++[93])
 |_=>[]
noncomputable def jW:List W->List Nat
 |[]=>[]
 |w::ws=>sW w++tW ws
noncomputable def tW:List W->List Nat
 |[]=>[]
 |w::ws=>44::32::(sW w++tW ws)
end
theorem yM(a b):nM (a++b)=nM a++nM b:=by
 show((a++b).cps).toList=_;rw[Str.cps_append,w3r];rfl
theorem I_:∀(ws:List W)(ts:List Str),ts.map nM=ws.map sW->nM (Str.join ", " ts)=jW ws
 |[],[],_=>rfl
 |[],_::_,h=>by simp at h
 |_::_,[],h=>by simp at h
 |[w],[t],h=>by
  have h:nM t=sW w:=by simpa using h
  show nM t=sW w++[];rw[h,w1v]
 |[w],_::_::_,h=>by simp at h
 |_::_::_,[t],h=>by simp at h
 |w::v::ws,t::u::ts,h=>by
  have C:nM t=sW w:=by simp at h;exact h.1
  have h2:(u::ts).map nM=(v::ws).map sW:=by simp at h |-;exact h.2
  show nM (t++", "++Str.join ", " (u::ts))=_;rw[yM,yM,C,I_ (v::ws) (u::ts) h2];show(sW w++[44,32])++jW (v::ws)=sW w++(44::32::jW (v::ws))
  grind
mutual
theorem QI:∀(w:W),ba w=true->∀d,toD w=some d->nM d.shown=sW w
 |.aG,_,d,h=>by cases h;rw[PyData.shown_none];rfl
 |.bl b,_,d,h=>by cases h;rw[PyData.shown_bool];cases b<;>rfl
 |.int i,_,d,h=>by cases h;rw[PyData.shown_int];rfl
 |.tup ws,p,d,h=>by
  obtain⟨ds,C,rfl⟩:=w0e.mp (show(fw ws).map PyData.tuple=some d from h);obtain⟨e1,e2⟩:=J9 ws p ds C;rw[PyData.shown_tuple,yM,yM,I_ ws _ e1,e2];show([40]++jW ws)++nM _=40::(jW ws++_);split<;>rfl
 |.lst ws,p,d,h=>by
  obtain⟨ds,C,rfl⟩:=w0e.mp (show(fw ws).map PyData.list=some d from h);obtain⟨e1,e2⟩:=J9 ws p ds C;rw[PyData.shown_list,yM,yM,I_ ws _ e1];rfl
 |.str i,h,_,_=>by cases h
 |.exc i,h,_,_=>by cases h
 |.aY i,h,_,_=>by cases h
 |.dw _ _ _ _,h,_,_=>by cases h
 |.fn _ _ _,h,_,_=>by cases h
theorem J9:∀(ws:List W),aI ws=true->∀ds,fw ws=some ds->(PyData.shownAll ds).map nM=ws.map sW/\ds.length=ws.length
 |[],_,ds,h=>by cases h;grind [PyData.shownAll_nil]
 |w::ws,p,ds,h=>by
  have p:(ba w&&aI ws)=true:=p;rw[w0v]at p;unfold fw at h;split at h
  .rename_i d Q5 C h2;cases h;obtain⟨e1,e2⟩:=J9 ws p.2 Q5 h2;rw[PyData.shownAll_cons,w0p,w0p,QI w p.1 d C,e1]
   grind
  .cases h
end
noncomputable def dg(c:Nat):Bool:=48<=c&&c<=57
noncomputable def dec(l:List Nat):Nat:=l.foldl (λa c=>10*a+(c-48)) 0
theorem Bz:∀n:Fin 512,(nS ((n.val:Nat):Int)).all dg=true/\nS ((n.val:Nat):Int)≠[]/\dec (nS ((n.val:Nat):Int))=n.val:=by decide +kernel
noncomputable def pP:List Nat->Bool
 |[]=>true
 |c::_=>c==44||c==41||c==93
noncomputable def AQ:List Nat->Bool
 |44::32::_=>false
 |_=>true
theorem JO:∀{l r:List Nat},l.all dg=true->pP r=true->(l++r).takeWhile dg=l
 |[],[],_,_=>rfl
 |[],c::r,_,h=>by
  have:dg c=false:=by
   have h:(c==44||c==41||c==93)=true:=h;simp only[w2o,beq_iff_eq]at h;rcases h with(rfl|rfl)|rfl<;>rfl
  simp_all
 |c::l,r,h,hr=>by
  rw[w3b,w0v]at h;rw[w3j,List.takeWhile_cons,if_pos h.1,JO h.2 hr]
theorem Zo{i:Int}(hi:0<=i/\i<512)(hj:0<=j/\j<512)(s1:pP r1=true)(s2:pP r2=true)(e:nS i++r1=nS j++r2):i=j/\r1=r2:=by
 obtain⟨m,rfl⟩:∃n:Fin 512,i=((n.val:Nat):Int):=⟨⟨i.toNat,by omega⟩,by simp;omega⟩;obtain⟨n,rfl⟩:∃n:Fin 512,j=((n.val:Nat):Int):=⟨⟨j.toNat,by omega⟩,by simp;omega⟩;have t:=congrArg (List.takeWhile dg) e;rw[JO (Bz m).1 s1,JO (Bz n).1 s2]at t;rw[t]at e;have q:=congrArg dec t;rw[(Bz m).2.2,(Bz n).2.2]at q
 simp_all
noncomputable def knd:W->Nat
 |.aG=>0
 |.bl true=>1
 |.bl false=>2
 |.int _=>3
 |.tup _=>4
 |_=>5
noncomputable def kn:Nat->Nat
 |78=>0
 |84=>1
 |70=>2
 |40=>4
 |91=>5
 |_=>3
theorem DZ:∀(w:W),ba w=true->∃c l,sW w=c::l/\kn c=knd w/\pP (c::l)=false
 |.aG,_=>⟨_,_,rfl,rfl,rfl⟩
 |.bl true,_=>⟨_,_,rfl,rfl,rfl⟩
 |.bl false,_=>⟨_,_,rfl,rfl,rfl⟩
 |.tup ws,_=>⟨_,_,rfl,rfl,rfl⟩
 |.lst ws,_=>⟨_,_,rfl,rfl,rfl⟩
 |.int i,h=>by
  have h:=of_decide_eq_true (show decide (0<=i/\i<512)=true from h);obtain⟨n,rfl⟩:∃n:Fin 512,i=((n.val:Nat):Int):=⟨⟨i.toNat,by omega⟩,by simp;omega⟩;obtain⟨a1,a2,_⟩:=Bz n;show ∃c l,nS _=c::l/\_;cases q:nS ((n.val:Nat):Int)with
  |nil=>exact absurd q a2
  |cons c l=>
   rw[q,w3b,w0v]at a1
   have J:48<=c/\c<=57:=by
    simp_all [dg]
   refine⟨c,l,rfl,?_,?_⟩
   .show kn c=3;unfold kn
    grind
   .show(c==44||c==41||c==93)=false
    grind
 |.str i,h=>by cases h
 |.exc i,h=>by cases h
 |.aY i,h=>by cases h
 |.dw _ _ _ _,h=>by cases h
 |.fn _ _ _,h=>by cases h
theorem z7i(C:ba w=true)(h2:ba v=true)(e:sW w++r1=sW v++r2):knd w=knd v:=by
 obtain⟨c,l,a1,a2,_⟩:=DZ w C;obtain⟨c',l',b1,b2,_⟩:=DZ v h2
 grind
theorem Er(ws)(h:pP e=true):pP (tW ws++e)=true:=by
 cases ws with
 |nil=>exact h
 |cons w ws=>rfl
noncomputable def Cn(b:Bool):List Nat:=if b then[44,41]else[41]
theorem P_(b)(r):pP (Cn b++r)=true/\AQ (Cn b++r)=true:=by cases b<;>exact⟨rfl,rfl⟩
mutual
theorem uniq:∀(w v:W),ba w=true->ba v=true->∀r1 r2,pP r1=true->pP r2=true->sW w++r1=sW v++r2->w=v/\r1=r2
 |w,v,C,h2,r1,r2,s1,s2,e=>by
  have k:=z7i C h2 e;cases w with
  |aG=>
   cases v with
   |aG=>simp_all
   |bl b=>cases b<;>cases k
   |int i=>cases k
   |tup i=>cases k
   |lst i=>cases k
   |_=>cases h2
  |bl b=>
   cases v with
   |bl b'=>
    cases b<;>cases b'<;>first|exact⟨rfl,List.append_cancel_left e⟩|cases k
   |aG=>cases b<;>cases k
   |int i=>cases b<;>cases k
   |tup i=>cases b<;>cases k
   |lst i=>cases b<;>cases k
   |_=>cases h2
  |int i=>
   cases v with
   |int j=>
    obtain⟨a,b⟩:=Zo (of_decide_eq_true C) (of_decide_eq_true h2) s1 s2 e;exact⟨by rw[a],b⟩
   |bl b=>cases b<;>cases k
   |aG=>cases k
   |tup i=>cases k
   |lst i=>cases k
   |_=>cases h2
  |tup ws=>
   cases v with
   |tup vs=>
    have e:(jW ws++Cn (ws.length==1))++r1=(jW vs++Cn (vs.length==1))++r2:=(List.cons.inj e).2;rw[w0y,w0y]at e;obtain⟨a1,a2⟩:=P_ (ws.length==1) r1;obtain⟨b1,b2⟩:=P_ (vs.length==1) r2;obtain⟨z1,z2⟩:=vQ ws vs C h2 _ _ a1 a2 b1 b2 e
    simp_all
   |bl b=>cases b<;>cases k
   |aG=>cases k
   |int i=>cases k
   |lst i=>cases k
   |_=>cases h2
  |lst ws=>
   cases v with
   |lst vs=>
    have e:(jW ws++[93])++r1=(jW vs++[93])++r2:=(List.cons.inj e).2;rw[w0y,w0y]at e;obtain⟨z1,z2⟩:=vQ ws vs C h2 _ _ rfl rfl rfl rfl e
    grind
   |bl b=>cases b<;>cases k
   |aG=>cases k
   |int i=>cases k
   |tup i=>cases k
   |_=>cases h2
  |_=>cases C
theorem vQ:∀(ws vs:List W),aI ws=true->aI vs=true->∀e1 e2,pP e1=true->AQ e1=true->pP e2=true->AQ e2=true->jW ws++e1=jW vs++e2->ws=vs/\e1=e2
 |[],[],_,_,e1,e2,_,_,_,_,e=>⟨rfl,e⟩
 |[],v::vs,_,h2,e1,e2,s1,_,_,_,e=>by
  have h2:(ba v&&aI vs)=true:=h2;rw[w0v]at h2;obtain⟨c,l,a1,_,a3⟩:=DZ v h2.1;have e:e1=(sW v++tW vs)++e2:=e;rw[a1]at e;subst e;have a3:(c==44||c==41||c==93)=false:=a3;have s1:(c==44||c==41||c==93)=true:=s1
  grind
 |w::ws,[],C,_,e1,e2,_,_,s2,_,e=>by
  have C:(ba w&&aI ws)=true:=C;rw[w0v]at C;obtain⟨c,l,a1,_,a3⟩:=DZ w C.1;have e:(sW w++tW ws)++e1=e2:=e;rw[a1]at e;subst e;have a3:(c==44||c==41||c==93)=false:=a3;have s2:(c==44||c==41||c==93)=true:=s2
  grind
 |w::ws,v::vs,C,h2,e1,e2,s1,n1,s2,n2,e=>by
  have C:(ba w&&aI ws)=true:=C;have h2:(ba v&&aI vs)=true:=h2;rw[w0v]at C h2;have e:(sW w++tW ws)++e1=(sW v++tW vs)++e2:=e;rw[w0y,w0y]at e;obtain⟨rfl,z⟩:=uniq w v C.1 h2.1 _ _ (Er ws s1) (Er vs s2) e;obtain⟨rfl,z2⟩:=vR ws vs C.2 h2.2 e1 e2 s1 n1 s2 n2 z;exact⟨rfl,z2⟩
theorem vR:∀(ws vs:List W),aI ws=true->aI vs=true->∀e1 e2,pP e1=true->AQ e1=true->pP e2=true->AQ e2=true->tW ws++e1=tW vs++e2->ws=vs/\e1=e2
 |[],[],_,_,e1,e2,_,_,_,_,e=>⟨rfl,e⟩
 |[],v::vs,_,h2,e1,e2,_,n1,_,_,e=>by
  have e:e1=44::32::((sW v++tW vs)++e2):=e;subst e;cases n1
 |w::ws,[],C,_,e1,e2,_,_,_,n2,e=>by
  have e:44::32::((sW w++tW ws)++e1)=e2:=e;subst e;cases n2
 |w::ws,v::vs,C,h2,e1,e2,s1,n1,s2,n2,e=>by
  have C:(ba w&&aI ws)=true:=C;have h2:(ba v&&aI vs)=true:=h2;rw[w0v]at C h2;have e:44::32::((sW w++tW ws)++e1)=44::32::((sW v++tW vs)++e2):=e;have e:=(List.cons.inj (List.cons.inj e).2).2;rw[w0y,w0y]at e;obtain⟨rfl,z⟩:=uniq w v C.1 h2.1 _ _ (Er ws s1) (Er vs s2) e;obtain⟨rfl,z2⟩:=vR ws vs C.2 h2.2 e1 e2 s1 n1 s2 n2 z;exact⟨rfl,z2⟩
end
theorem XB(C:aI ws=true)(h2:aI vs=true)(e1:cb [.tup ws]=some (.str x))(e2:cb [.tup vs]=some (.str x)):ws=vs:=by
 have key:∀us:List W,aI us=true->cb [.tup us]=some (.str x)->nM x=sW (.tup us):=λus h e=>by
  obtain⟨d,hd,_⟩:=DR (.tup us) h;have e:(toD (.tup us)).bind (λd=>if d.showable=true/\d.depth<=100/\d.shown.length<=16777216 then some (W.str d.shown)else none)=some (.str x):=e
  rw[hd]at e;have e:(if d.showable=true/\d.depth<=100/\d.shown.length<=16777216 then some (W.str d.shown)else none)=some (.str x):=e;split at e
  .injection e with e
   injection e with e
   rw[<- e];exact QI (.tup us) h d hd
  .cases e
 have q:=(key ws C e1).symm.trans (key vs h2 e2);have:=(uniq (.tup ws) (.tup vs) C h2 [] [] rfl rfl (by rw[q])).1;injection this
noncomputable def KG:W->List Bool
 |.tup ws=>ws.map fun|.bl b=>b|_=>false
 |_=>[]
noncomputable def zN:W->Pr
 |.tup [b,.int k]=>(KG b,k.toNat)
 |_=>([],0)
noncomputable def zO:W->List Pr
 |.lst ws=>ws.map zN
 |_=>[]
noncomputable def wm:W->Mc
 |.tup [.int m,.int w,.lst s]=>⟨m.toNat,w.toNat,s.map zO⟩
 |_=>⟨0,0,[]⟩
theorem Qm(c):wm (ag c)=c:=by
 simp_all [KG,aA,Function.comp_def,zN,ao,zO,ar,wm,ag]
theorem Pk(J:c.Og)(hw:c.wide<=24)(hm:c.af.length<=400):ba (ag c)=true/\∃x:Str,cb [ag c]=some (.str x):=by
 obtain⟨C,h2,h3⟩:=V2 c J.gJ hw hm λs hs=>⟨J.st s hs,J.pr s hs⟩
 have s_:aW [W.int (c.m:Int),.int (c.wide:Int),.lst (c.af.map ar)]+1<=6:=h2;have h3':d_ [W.int (c.m:Int),.int (c.wide:Int),.lst (c.af.map ar)]<=201000:=h3;exact⟨C,XA C (by omega) (by omega)⟩
theorem Wg(l:List (List Bool))(h:∀x∈l,x.length<=40)(hl:l.length<=100):∃x:Str,cb [.lst (l.map aA)]=some (.str x):=by
 obtain⟨C,h2,h3⟩:=MC 40 l h
 grind [NL]
theorem z7j(T:Tw c d)(h:LL c d L):∃x:Str,cb [.lst (L.map aF)]=some (.str x):=by
 have q:L.length<=400:=w0l (xj h.w h.nd h.jH) (w2b T.oc.most T.od.most);obtain⟨C,h2,h3⟩:=Ot L λx hx=>⟨w0n (h.jH x hx).1 T.oc.most,w0n (h.jH x hx).2 T.od.most⟩
 grind [NL]
theorem JP(l:List (List Bool)):eq2 (.lst (l.map aA)) (.lst (l.map aA))=some (.bl true)/\ne2 (.lst (l.map aA)) (.lst (l.map aA))=some (.bl false):=by
 have h:aW (l.map aA)<=1:=by
  induction l with
  |nil=>decide
  |cons x l ih=>
   show max (aW (x.map .bl)+1) (aW (l.map aA))<=1;rw[(yq x).2.1];omega
 refine⟨?_,Y6 l h⟩;unfold eq2;rw[if_pos (by show aW _+1<=150;omega)];show(de (l.map aA) (l.map aA)).map _=_;rw[Ie];rfl
theorem z91(x:Pq):ne2 (aF x) (aF x)=some (.bl false):=by
 show some (W.bl (!((x.1:Int)==x.1&&((x.2:Int)==x.2&&true))))=_;simp
theorem Ja:∀(l m:List (List Bool)),(∀x∈l,∀y∈m,∃e',e [.fr (aA x),.fr (aA y)]=.ok (aA (f x y)) e')->dy cP e [] ((l.map aA).zip (m.map aA))=some ((List.zipWith f l m).map aA)
 |[],_,_=>rfl
 |_::_,[],_=>rfl
 |x::l,y::m,h=>by
  obtain⟨e',he⟩:=h x (by simp) y (by simp);have ih:=Ja (f:=f) l m λu hu v hv=>h u (by simp[hu]) v (by simp[hv])
  simp_all [dy,cP]
theorem Ki(hx:x.length<=100)(hy:y.length<=100):bY (aA x) (aA y)=some (aA (x++y)):=by
 unfold aA;rw[Uy,if_pos (by grind),w0g]
theorem Cg:∀(l m:List (List Bool)),l.length=m.length->List.zipWith (·++·) (List.zipWith (·++·) l m) l=List.zipWith (λx y=>x++y++x) l m
 |[],[],_=>rfl
 |x::l,y::m,h=>by
  rw[w2t,w2t,w2t,Cg l m (by simpa using h)]
theorem Es(J:c.Og)(w):(∀r∈w,r<2^c.m)->(goN c w).2<c.af.length/\∀x∈(goN c w).1,x.length=c.wide:=
 xk (P:=λw=>(∀r∈w,r<2^c.m)->(goN c w).2<c.af.length/\∀x∈(goN c w).1,x.length=c.wide) (λ_=>⟨J.pos,λx hx=>nomatch hx⟩) (λw r ih ho=>by
  obtain⟨i1,i2⟩:=ih λi hi=>ho i (by simp[hi])
  obtain⟨p1,p2⟩:=xm J i1 (ho r (by simp))
  grind [oT]) w
theorem Ou(l)(x):jx (l++[x]) none (some (-1))=l:=by
 have e:HT.cx (l++[x]).length (l++[x]).length (some (-1))=l.length:=by
  show(if(-1:Int)<0 then(-1+((l++[x]).length:Int)).toNat else min (-1:Int).toNat (l++[x]).length)=_
  grind
 unfold jx;rw[e];show((l++[x]).drop 0).take (l.length-0)=l;simp
noncomputable def i7(A:W)(c d:Mc)(v3 v4 v5 v6 v7 v8 v9:W)(mB qh lK:S):List S:=[.fr A,.fr (ag c),.fr (ag d),.fr v3,.fr v4,.fr v5,.fr v6,.fr v7,.fr v8,.fr v9,mB,qh,lK]
noncomputable def pf(r:Nat->List W->FR)(c:Mc):Prop:=∀k:Nat,k<2^c.m->∃bs:List Bool,r su [.int (k:Int),.int (c.m:Int)]=.ok (.fr (aA bs))/\bs.length=c.m/\bM bs=k
noncomputable def RT(s:SR):Prop:=∃e',s=.rt (.fr (.bl true)) e'/\e'.length=13
theorem z92(R:Rs r)(A)(T:Tw c d)(row:pf r c)
  (hl:w.length<=14000)(hD:(prod c d).D (0,0) w)(hm:∀u,(prod c d).D (0,0) u->sle w u)(v3 v6 v7 v8 v9)(mB lK):
  RT (uL K a r (i7 A c d v3 (.str "unlike") (.lst (w.map nI)) v6 v7 v8 v9 mB (.fr (.bl false)) lK)):=by
 have tt:=T.two
 obtain⟨fs,f1,f2,f3⟩:∃fs:List (List Bool),ei cP (Bk K a r) [.fr (ag c)] (w.map nI)=some (fs.map aA)/\(∀x∈fs,x.length=c.m)/\fs.map bM=w:=by
  have ho:∀k∈w,k<2^c.m:=by obtain⟨_,_,rfl,ho,_⟩:=hD;exact ho
  clear hD hm hl
  induction w with
  |nil=>exact⟨[],rfl,(λx hx=>nomatch hx),rfl⟩
  |cons k w ih=>
   obtain⟨fs,f1,f2,f3⟩:=ih λi hi=>ho i (by simp[hi])
   obtain⟨bs,b1,b2,b3⟩:=row k (ho k (by simp))
   have e:Bk K a r [.fr (nI k),.fr (ag c)]=.ok (aA bs) [.fr (nI k),.fr (ag c)]:=by
    unfold Bk nI;rw?;rw[pI];rw?;rw[b1];rw?
   refine⟨bs::fs,?_,λx hx=>?_,by grind⟩
   all_goals grind [ei,cP]
 have fl:fs.length<=14000:=by grind
 have g1:=R.g tt.oc fs f2 (by omega);have g2:=R.g tt.od fs (λx hx=>by grind [Tw.hm]) (by omega)
 rw[f3]at g1 g2;obtain⟨u,q,ew,ho,hb⟩:=hD
 have ou:=Ph c d u (eA.mp (by rw[<- ew];exact ho)).1 λv hv z=>by
  have:=JL (hm v z)
  grind
 rw[By]at hb;have hb:(!decide ((aN c (goN c u).2 q).1=(aN d (goN d u).2 q).1))=true:=hb;rw[ew]at g1 g2;rw[oT,w0g]at g1 g2;rw[<- ou]at g2;unfold uL i7;rw?;rw[if_pos (by grind)];simp only[gK,nB,w0x,w0z];rw[f1];rw?;rw[g1];rw?;rw[g2];rw?;rw[Ou,Ou,(JP _).1];rw?;rw[Bn];rw?;rw[Bn];rw?;rw[CF,hb];rw?;exact⟨_,rfl,rfl⟩
inductive ya(c d:Mc)(L:List Pq):W->W->Prop
 |a:NB c d L->ya c d L (.str "alike") (.lst (L.map aF))
 |u {w:List Nat}:w.length<=14000->(prod c d).D (0,0) w->(∀u,(prod c d).D (0,0) u->sle w u)->ya c d L (.str "unlike") (.lst (w.map nI))
theorem z93(R:Rs r)(A)(T:Tw c d)(row:pf r c)
  (h:LL c d L)(td:ya c d L v4 v5)(ho:∀r∈w,r<2^c.m)(v3 v6)(mB):
  RT (eL K a r (i7 A c d v3 v4 v5 v6 (.lst (L.map aF)) (.lst ((goN c w).1.map aA)) (.lst ((goN d w).1.map aA)) mB .no .no)):=by
 have tt:=T.two;have w1:=T.oc.wd;have w2:=T.od.wd;have m1:=T.oc.most;have m2:=T.od.most;obtain⟨Lc,Ic,wc,sc,ic,ec⟩:=R.s tt.oc;obtain⟨Ld,Id,wd,sd,F8,ed⟩:=R.s tt.od;have kc:=ED tt.oc ic;have kd:=ED tt.od F8;have lc:=kc.len tt.oc;have ld:=kd.len tt.od;have oc:=kc.ok tt.oc;have od:=kd.ok tt.od;obtain⟨pc,xc,rc⟩:=Pk oc (by show c.wide<=24;omega) (by show(List.map _ _).length<=400;grind);obtain⟨pd,xd,rd⟩:=Pk od (by show d.wide<=24;omega) (by show(List.map _ _).length<=400;grind);cases td with
 |a b=>
  have al:=Kg h b;have cn:=Go.canon ⟨tt.oc,tt.od,tt.hm,sc,sd,(λx y e=>e),al⟩ tt.hw ic F8
  rw[cn]at ec rc;rw[rc]at rd;cases rd;obtain⟨xn,rn⟩:=z7j T h;have cl:=R.c tt h b;have oe:=Ph c d w ho λv _=>EG al v
  rw[<- oe];generalize fQ d Ld (bf (dB d Ld) (Q.kd d Ld 0) Id)=ud at *;unfold eL i7;rw?;rw[ec];rw?;rw[rc];rw?;rw[ed];rw?;rw[rc];rw?;rw[cl];rw?;rw[rn];rw?;rw[rn];rw?;rw[(JP _).1];rw?;exact⟨_,rfl,rfl⟩
 |u C h2 h3=>
  have ne:xc≠xd:=λe=>by
   subst e;have q:=XB pc pd rc rd;have q:ag _=ag _:=congrArg W.tup q;have q:=congrArg wm q;rw[Qm,Qm]at q;have a1:=Pd tt.oc sc ic;have a2:=Pd tt.od sd F8;rw[q]at a1;exact EG (λt=>xH (f:=id) (λx y e=>e) tt.hm (a1 t) (a2 t)) _ h2
  generalize fQ d Ld (bf (dB d Ld) (Q.kd d Ld 0) Id)=ud at *;generalize fQ c Lc (bf (dB c Lc) (Q.kd c Lc 0) Ic)=uc at *;have ur:=λv8 v9=>z92 (K:=K) (a:=a) R A T row C h2 h3 v3 v6 (.lst (L.map aF)) v8 v9 mB .no
  unfold i7 at ur;unfold eL i7;rw?;rw[ec];rw?;rw[rc];rw?;rw[ed];rw?;rw[rd];rw?
  grind
theorem Pl(hr:∀x∈rows,x.length=m):∀k∈rows.map bM,k<2^m:=λk hk=>by
 grind [JJ]
theorem z94(R:Rs r)(A)(T:Tw c d)(row:pf r c)
  (h:LL c d L)(td:ya c d L v4 v5)(hr:∀x∈rows,x.length=c.m)(hl:rows.length<=100)(tw:L.length<=30->r tY [ag c,ag d,ag (bG c d L),v4,v5]=.ok (.fr (.bl true))):
  RT (cL K a r (i7 A c d (.lst (rows.map aA)) v4 v5 (ag (bG c d L)) (.lst (L.map aF)) (.lst ((goN c (rows.map bM)).1.map aA)) (.lst ((goN d (rows.map bM)).1.map aA)) .no .no .no)):=by
 have tt:=T.two;have w1:=T.oc.wd;have w2:=T.od.wd;have ho:=Pl hr;have er:=λmB=>z93 (K:=K) (a:=a) R A T row h td ho (.lst (rows.map aA)) (ag (bG c d L)) mB
 have sl:((bG c d L).af.map ar).length=L.length:=by
  show(List.map _ (List.map _ _)).length=_
  grind
 unfold i7 at er;unfold cL i7;rw?;rw[nE];rw?;rw[ua];rw?;rw[sl]
 by_cases Cr:(L.length:Int)<=30
 .have hb:=h.og (by omega) (by omega)
  have T3:Wo (bG c d L) c:=⟨hb,tt.oc,rfl,by
   show(L.map _).length*_<=14000;rw[w0a];exact w0l (w2b (show L.length<=30 by omega) T.oc.most) (by decide)⟩
  obtain⟨I3,Rq,e3⟩:=R.w T3;have h3:=LL.of T3 Rq;generalize bg (gW (bG c d L) c) (0,0) I3=L3 at *
  have q3:L3.length<=600:=w0l (xj T3 h3.nd h3.jH) (by
   show(L.map _).length*_<=600;rw[w0a];exact w2b (show L.length<=30 by omega) T.oc.most)
  have o3:=h3.og (by omega) (by show c.wide+d.wide+c.wide<=40;omega);have g3:=R.g o3 rows hr (by omega);rw[h3.go _ ho,h.go _ ho]at g3
  have cz:=Ja (f:=λx y=>x++y++x) (e:=D_ K a r) (goN c (rows.map bM)).1 (goN d (rows.map bM)).1 λx hx y hy=>by
   have x1:=(Es tt.oc _ ho).2 x hx;have y1:=(Es tt.od _ (by rw[<- T.hm];exact ho)).2 y hy;unfold D_;rw?;rw[Ki (by omega) (by omega)];rw?;rw[Ki (by grind) (by omega)];exact⟨_,rfl⟩
  have gl:=xp c (rows.map bM);rw[w0a]at gl;rw[if_pos Cr]
  by_cases h4:(c.wide:Int)<4
  .rw[if_pos h4,tw (by omega)];rw?;rw[e3];rw?;rw[g3];rw?;rw[if_pos (by grind),cz];rw?;rw[Cg _ _ (by rw[xp,xp]),(JP _).2];rw?;exact er _
  grind
 grind
theorem z95(R:Rs r)(A)(T:Tw c d)(row:pf r c)
  (h:LL c d L)(td:ya c d L v4 v5)(hr:∀x∈rows,x.length=c.m)(hl:rows.length<=100)(tw:L.length<=30->r tY [ag c,ag d,ag (bG c d L),v4,v5]=.ok (.fr (.bl true))):
  RT (bL K a r (i7 A c d (.lst (rows.map aA)) v4 v5 (ag (bG c d L)) (.lst (L.map aF)) (.lst ((goN c (rows.map bM)).1.map aA)) (.lst ((goN d (rows.map bM)).1.map aA)) .no .no .no)):=by
 have tt:=T.two;have w1:=T.oc.wd;have w2:=T.od.wd;have ho:=Pl hr;have qF:∀k∈rows.map bM,k<2^d.m:=by rw[<- T.hm];exact ho
 have cr:=z94 (K:=K) (a:=a) R A T row h td hr hl tw;have q:L.length<=400:=w0l (xj h.w h.nd h.jH) (w2b T.oc.most T.od.most);have hb:=h.og (by omega) (by omega);have g3:=R.g hb rows hr (by omega);have b3:=R.b hb rows hr (by omega);have b1:=R.b tt.oc rows hr (by omega);have b2:=R.b tt.od rows (by rw[<- T.hm];exact hr) (by omega);rw[h.go _ ho]at g3 b3;have ia:=h.at _ ho;have o1:=(Es tt.oc _ ho).2;have o2:=(Es tt.od _ qF).2;have gl:=xp c (rows.map bM);have Rj:=xp d (rows.map bM);rw[w0a]at gl Rj
 have cz:=Ja (f:=(·++·)) (e:=D' K a r) (goN c (rows.map bM)).1 (goN d (rows.map bM)).1 λx hx y hy=>by
  have x1:=o1 x hx;have y1:=o2 y hy;unfold D';rw?;rw[Ki (by omega) (by omega)];exact⟨_,rfl⟩
 obtain⟨xr,rr⟩:=Wg (List.zipWith (·++·) (goN c (rows.map bM)).1 (goN d (rows.map bM)).1) (λx hx=>by
  rw[<- List.map_uncurry_zip_eq_zipWith]at hx;obtain⟨p,hp,rfl⟩:=w0k.mp hx;have x1:=o1 _ (w1e hp).1;have y1:=o2 _ (w1e hp).2
  grind) (by grind)
 generalize goN c (rows.map bM)=gc at *;generalize goN d (rows.map bM)=gd at *;unfold i7 at cr;unfold bL i7;rw?;rw[g3];rw?;rw[rr];rw?;rw[if_pos (by grind),cz];rw?;rw[rr];rw?;rw[b3];rw?;rw[zD (J1 ia),Zb ia];rw?;rw[b1];rw?;rw[b2];rw?;rw[show W.tup [.int (gc.2:Int),.int (gd.2:Int)]=aF (gc.2,gd.2)from rfl,z91];rw?;exact cr
theorem XC(R:Rs r)(A)(T:Tw c d)(row:pf r c)
  (tw:∀{L:List Pq},LL c d L->L.length<=30->E2 r c d L)
  (pl:r vk [A,.int 30,.int (c.m:Int)]=.ok (.own none (rows.map aA)))(hr:∀x∈rows,x.length=c.m)(hl:rows.length<=100):
  RT (Dw K a r [.fr A,.fr (ag c),.fr (ag d),.no,.no,.no,.no,.no,.no,.no,.no,.no,.no]):=by
 have tt:=T.two;obtain⟨I,hI,ew⟩:=R.w tt.toWo;have h:=LL.of tt.toWo hI
 obtain⟨v4,v5,et,td⟩:∃v4 v5,r p7 [ag c,ag d]=.ok (.fr (.tup [v4,v5]))/\ya c d (bg (gW c d) (0,0) I) v4 v5:=by
  rcases R.t tt with⟨hc,hJ,e,b⟩|⟨w,e,C,h2,h3⟩
  .rw[Xw hJ hI]at e b;exact⟨_,_,e,.a b⟩
  .exact⟨_,_,e,.u C h2 h3⟩
 generalize bg (gW c d) (0,0) I=L at *;have g1:=R.g tt.oc rows hr (by omega);have g2:=R.g tt.od rows (by rw[<- T.hm];exact hr) (by omega)
 have br:=z95 (K:=K) (a:=a) R A T row h td hr hl λCr=>by
  cases td with
  |a b=>exact(tw h Cr).1 b _
  |u C h2 h3=>exact(tw h Cr).2 _ h2 h3
 unfold i7 at br;rw[T5];rw?;rw[pI];rw?;rw[pl];rw?;rw[et];rw?;rw[ew];rw?;rw[g1];rw?;rw[g2];rw?;exact br
theorem y7p(M:nJ K mg a)(ns:List Int)(hl:ns.length<=63):l9 K a 147 [.lst (ns.map .int)]=.ok (.fr (.bl true)):=by
 obtain⟨c,J,mr⟩:=Mr (K:=K) (a:=a) 147 ns 0;have mr:run K a 150 qW [.lst (ns.map .int),.int 0]=.ok (.fr (ag c)):=mr;have so:=λo=>z65 (K:=K) (a:=a) ns c J o
 obtain⟨rows,pl,r1,r2⟩:=U6 (K:=K) (a:=a) 148 ns 30 c.m (by have:=J.gJ;omega);have pl:run K a 150 vk [.lst (ns.map .int),.int 30,.int (c.m:Int)]=.ok (.own none (rows.map aA)):=pl;have R:Rs (run K a 150):=QH (K:=K) (a:=a) 145;have row:pf (run K a 150) c:=λk hk=>VH (K:=K) (a:=a) 149 k c.m (by have:=J.gJ;omega) hk
 have tw:∀{d:Mc},Tw c d->∀{L:List Pq},LL c d L->L.length<=30->E2 (run K a 150) c d L:=λT _ h hl=>V1 (K:=K) (a:=a) 144 T h hl
 unfold l9;rw[if_pos (show[W.lst (ns.map .int)].length=1 from rfl)];refine Xd (n:=13) λo r hr=>?_
 generalize run K a (147+3)=R' at *;unfold Kh m_ at hr
 have e1:(aJ 1 (ax (R' qW) (ab (ae 0) (ab (dC (.int 0)) ah)))) (init 13 [.lst (ns.map .int)])=.nx [.fr (.lst (ns.map .int)),.fr (ag c),.no,.no,.no,.no,.no,.no,.no,.no,.no,.no,.no]:=by
  unfold init;rw?;rw[mr];rw?
 rw[e1]at hr;unfold pN qw at hr
 have e2:(ab (ae 0) (ab (ae 1) ah)) [.fr (.lst (ns.map .int)),.fr (ag c),.no,.no,.no,.no,.no,.no,.no,.no,.no,.no,.no]=.ok [.lst (ns.map .int),ag c] [.fr (.lst (ns.map .int)),.fr (ag c),.no,.no,.no,.no,.no,.no,.no,.no,.no,.no,.no]:=by
  rw?
 simp only[e2]at hr;rcases so o with z|⟨d,T,z⟩
 .rw[z]at hr;cases hr
 .rw[z]at hr;have q:=XC (K:=K) (a:=a) R (.lst (ns.map .int)) T row (tw T) pl r1 r2;have hr:some (Dw K a R' [.fr (.lst (ns.map .int)),.fr (ag c),.fr (ag d),.no,.no,.no,.no,.no,.no,.no,.no,.no,.no])=some r:=hr;cases hr;exact q
theorem walk{l:PySem.W.OpenLaw}{q:Program}{loose:List Str}{XP:(Str->Option Value)->Heap->Prop}{YP:World->Heap->Prop}{d:DefRec}{K:Params->Fg}{tabs:List (Addr×Str)}(hn:l.most=some 63)(wA:d.params.defaults=[])
  (hY:∀(w:World)(h:Heap),YP w h->(K w.params).In h)(hT:∀(w:World)(h:Heap),YP w h->∀P∈tabs.map (·.1),h.get? P=some (tabObj #[]))
  (hG:∀w:World,((D.dS (K w.params)).lookup mainGlobals).isSome=true)(zX:∀w:World,iD (K w.params)=true)(hd:tabs.all (λp=>tabs.lookup p.1==some p.2)=true)
  (hK:∀w:World,tabs.all (λp=>((D.dS (K w.params)).lookup p.1).isNone)=true)(J:∀w:World,∀p∈tabs,∃c,codeHdIn (K w.params) c p.1=true)
  (F:∀(w:World)(mg:Str->Option Value)(fa:Addr)(h:Heap),(D.df (D.dS (K w.params)) tabs).In h->h.Ns mainGlobals mg->mg d.name=some (.ref fa) ->
   ∃fd:FuncData,(∀(s:Shared)(u:Value),BindsTo s fd ⟨[u],[]⟩ [("_law_script", u)])/\∀base:Heap,(D.df (D.dS (K w.params)) tabs).In base->base.Ns mainGlobals mg->BMain base mg->fN l.prog w (D.df (D.dS (K w.params)) tabs) mg base (eM l.prog w) 151 fa fd ["_law_script"] (o4 (D.df (D.dS (K w.params)) tabs))):
  PySem.W.WalkO q loose XP YP l.row.toRowW d [] (λf vs=>PySem.call f vs):=
 L2.WO (K:=λp=>D.df (D.dS (K p)) tabs) (tabs:=tabs) (n:=63) (k:=151) (x:="_law_script") (CX:=λw=>eM l.prog w) (sp:=λw=>o4 (D.df (D.dS (K w.params)) tabs)) hn (by decide) wA ⟨rfl,by decide,by decide,rfl⟩ (λw h Y=>D.F9 (hG w) (D.WN (hY w h Y))) F (λ_ _ a ns hl hS=>⟨a,ns,rfl,hS,hl,λ_=>rfl⟩) (λ_ _ _ _ _ z=>ZD z)
  (λw=>D.U0 (D.Us (zX w)) hd) (λw h Y=>D.YM (hY w h Y) (hT w h Y) (J w)) (λw=>D.lJ (hG w) (hK w))
end Q
open PySem PySem.W PyProof.Rows
set_option maxRecDepth 100000 in
set_option maxHeartbeats 0 in
theorem PySem.Challenge.cw_circuits_k63_whole_told_just_where_holds : PySem.Challenge.rw_circuits_k63_whole_told_just_where.Holds := by
 w_on; o_law; k_head; (case hw => w_witness2)
 k_fill
 refine Q.walk (l := PySem.Challenge.rw_circuits_k63_whole_told_just_where) (tabs := [(239, ("_law_second" ++ ".<locals>.") ++ "<lambda>"), (180, ("small" ++ ".<locals>.") ++ "<lambda>"), (116, ("woven" ++ ".<locals>.") ++ "<lambda>")]) rfl rfl (fun w h Y => PySem.W.km_in_of Y) (fun w h Y => PySem.W.km_tabs_of Y) (fun w => by kernel_rfl) (fun w => by kernel_rfl) (by decide +kernel) (fun w => by kernel_rfl) (fun w => w3a.mpr ⟨⟨241, by kernel_rfl⟩, w3a.mpr ⟨⟨184, by kernel_rfl⟩, w3a.mpr ⟨⟨120, by kernel_rfl⟩, fun _ h => nomatch h⟩⟩⟩) ?F
 case F =>
  intro w mg fa h KX G hmg;refine' Q.mk hmg ?zA ?zB ?zM ?zK 147 ?hL
  (case zA => constructor <;> exact Q.at_k KX G (D.ns_m (D.q3y (by k_is) (by kernel_rfl))) (D.q6c (D.q1q (by k_is) (by kernel_rfl))) (D.z6l (D.x6t (by k_is) (by kernel_rfl))) (D.z6m (by kernel_rfl)) fun _ _ _ _ _ _ => by first | exact Q.us1 fun _ => rfl | exact Q.us2 fun _ _ => rfl | exact Q.us3 fun _ _ _ => rfl | exact Q.us5 fun _ _ _ _ _ => rfl)
  (case zB => constructor <;> exact mg_none_of KX G (D.ns_m (D.q3y (by k_is) (by kernel_rfl))))
  (case zM => constructor <;> first | trivial | exact mg_of KX G (D.ns_m (D.q3y (by k_is) (by kernel_rfl))) | exact D.no_m (by kernel_rfl) D.y56 | kernel_rfl)
  (case zK => constructor <;> first | exact Q.mk_k (st := Q.q7c) KX G (D.ns_m (D.q3y (by k_is) (by kernel_rfl))) (D.q6c (D.q1q (by k_is) (by kernel_rfl))) rfl (show codeHdIn _ _ 116 = true by kernel_rfl) (w0h _ (by simp)) | exact Q.mk_k (st := Q.q4v) KX G (D.ns_m (D.q3y (by k_is) (by kernel_rfl))) (D.q6c (D.q1q (by k_is) (by kernel_rfl))) rfl (show codeHdIn _ _ 180 = true by kernel_rfl) (w0h _ (by simp)) | exact Q.mk_k (st := Q.q0h) KX G (D.ns_m (D.q3y (by k_is) (by kernel_rfl))) (D.q6c (D.q1q (by k_is) (by kernel_rfl))) rfl (show codeHdIn _ _ 239 = true by kernel_rfl) (w0h _ (by simp)))
  (case hL => exact fun a M ns hl => Q.y7p M ns hl)
