import PyProof.Rows.All
import Wide.All
import OpenK.AllK
import Wide.FinOn
import PyProof.TupleKey
import PyProof.EqAt
import PyProof.EqKinds
import Wide.Seal
import Lean
import PyProof.TupleCall
import KE.KTryMore
import KE.KRevIter
import PyProof.CollectIter
import PyProof.ConsumeWalk
import PyProof.TupleOfStr
import KE.KIsAll
import PyProof.ExcArgs
import PyProof.ExcAttrAll.ValueError
import PyProof.CompUse
import PyProof.NeKinds
import PyProof.EnumIter
import PyProof.EnumFor
import PyProof.EnumMake
import PyProof.EnumStmt
import PyProof.ListMulRoad
import PyProof.ZipIter
import PyProof.TupleIter
import PyProof.Rows.SortWalk
import PyProof.SetKind
import PyProof.Rows.SetFrom
import PyProof.FactsAll.set_1
import KE.KDictSum
import PyProof.FactsAll.set_2
import PyProof.FactsAll.tuple_2
import PyProof.ReprRoads
import PyProof.Rows.SeqMore
import PyProof.ReprLen
import PyProof.WalkInts
import PyProof.SeqI3
import PyProof.Rows.TupIter
import PyProof.ListRange
import PyProof.SumWalk
import PyProof.DictIter
import PyProof.DictWalks
import PyProof.DictRoadsH
import PyProof.DictTruth
import KE.KDictList
import PyProof.Rows.TupDisplay
import PyProof.Draws
import PyProof.StrBlockI
import PyProof.StrLawsIn
import PyProof.StrOps2
import PyProof.ReprStr
import PyProof.ListNew
import PyProof.Rows.SortRev
import KE.KRevSl
import KE.RegMulBits
import PyProof.AttrMissHeap
import KE.KDictOf
import PySem.Challenge.RW_circuits_k61_closed
set_option Elab.async false
set_option linter.all false
set_option maxRecDepth 100000
set_option maxHeartbeats 1000000
local macro_rules | `(tactic| omega) => `(tactic| first | with_reducible assumption | decide | with_reducible exact Nat.le_refl _ | with_reducible exact Nat.zero_le _ | lia)
set_option genSizeOf false
set_option genInjectivity false
local macro_rules | `(tactic| walk_at "1") => `(tactic| (first | exact Or.inl rfl | exact Or.inr (Or.inl rfl) | exact Or.inr (Or.inr rfl)))
local macro_rules | `(tactic| walk_at "2") => `(tactic| (first | exact .inl rfl | exact .inr rfl | assumption))
local macro_rules | `(tactic| walk_at "3") => `(tactic| (first | exact Or.inl rfl | exact Or.inr rfl))
open PySem.W (codeHdIn findIn keepIn kia_one kitOne kla_obj methodObj mg_none_of mg_of pyHash_slot specialIn tabObj takesIn)
def w0a:=@List.length_map
def w0b:=@List.getElem?_eq_some_iff
def w0c:=@List.size_toArray
def w0d:=@List.getElem?_eq_getElem
def w0e:=@Option.map_eq_some_iff
def w0f:=@List.getElem?_set_ne
def w0g:=@Nat.le_refl
def w0h:=@List.getElem?_set_self
def w0i:=@List.mem_append_right
def w0j:=@List.getElem?_map
def w0k:=@List.mem_cons_of_mem
def w0l:=@List.length_append
def w0m:=@List.map_append
def w0n:=@List.mem_of_getElem?
def w0o:=@List.all_eq_true
def w0p:=@List.mem_cons
def w0q:=@List.mem_singleton
def w0r:=@Bool.false_ne_true
def w0s:=@Bool.and_eq_true
def w0t:=@Nat.lt_of_lt_of_le
def w0u:=@Nat.ne_of_lt
def w0v:=@List.map_cons
def w0w:=@List.getElem?_cons_succ
def w0x:=@List.length_cons
def w0y:=@List.lookup_cons
def w0z:=@List.mem_map
def w1a:=@List.mem_append
def w1b:=@Nat.zero_le
def w1c:=@Nat.le_trans
def w1d:=@List.mem_cons_self
def w1e:=@List.replicate_succ
def w1f:=@Option.bind_eq_some_iff
def w1g:=@List.nodup_cons
def w1h:=@Bool.eq_false_iff
def w1i:=@Int.emod_lt_of_pos
def w1j:=@List.append_nil
def w1k:=@List.length_replicate
def w1l:=@Int.emod_nonneg
def w1m:=@List.getElem?_append_left
def w1n:=@List.flatten_cons
def w1o:=@List.all_cons
def w1p:=@Int.eq_ofNat_of_zero_le
def w1q:=@List.map_map
def w1r:=@Array.getElem?_append_left
def w1s:=@List.getElem?_append_right
def w1t:=@Bool.false_and
def w1u:=@Bool.false_eq_true
def w1v:=@List.getElem?_cons_zero
def w1w:=@Bool.true_and
def w1x:=@List.mem_range
def w1y:=@Int.toNat_natCast
def w1z:=@List.find?_cons
def w2a:=@Array.getElem?_eq_some_iff
def w2b:=@List.length_take
def w2c:=@List.getElem?_eq_none
def w2d:=@List.forIn_cons
def w2e:=@Option.isSome_iff_exists
def w2f:=@List.reverse_cons
def w2g:=@List.append_assoc
def w2h:=@Bool.eq_iff_iff
def w2i:=@List.nodup_append
def w2j:=@Option.isSome_some
def w2k:=@Nat.lt_irrefl
def w2l:=@List.getD_eq_getElem?_getD
def w2m:=@List.mem_append_left
def w2n:=@List.getElem?_zip_eq_some
def w2o:=@List.getElem_mem
def w2p:=@List.drop_length
def w2q:=@List.not_mem_nil
def w2r:=@Array.length_toList
def w2s:=@List.length_reverse
def w2t:=@List.mem_filterMap
def w2u:=@List.of_mem_zip
def w2v:=@List.getElem?_replicate
def w2w:=@List.length_set
def w2x:=@List.filter_cons_of_pos
def w2y:=@List.ext_getElem?
def w2z:=@Nat.lt_succ_of_lt
def w3a:=@Option.isSome_map
def w3b:=@Nat.ne_of_gt
def w3c:=@List.map_nil
def w3d:=@List.map_set
def w3e:=@Nat.pow_le_pow_right
def w3f:=@List.filterMap_cons
def w3g:=@List.map_congr_left
def w3h:=@List.mem_map_of_mem
def w3i:=@Nat.mul_comm
def w3j:=@List.set_cons_succ
def w3k:=@List.set_cons_zero
def w3l:=@List.drop_eq_getElem_cons
def w3m:=@List.forIn_nil
def w3n:=@Array.getElem?_eq_getElem
def w3o:=@Nat.not_lt
def w3p:=@List.length_range
def w3q:=@List.filter_cons_of_neg
def w3r:=@Nat.min_le_right
def w3s:=@List.length_drop
def w3t:=@List.map_reverse
def w3u:=@List.mem_filter
def w3v:=@Nat.le_of_lt
def w3w:=@List.length_singleton
def w3x:=@Bool.or_eq_true
def w3y:=@List.nil_append
def w3z:=@Int.natCast_mul
def w4a:=@List.mem_of_mem_take
def w4b:=@Bool.and_false
def w4c:=@Array.toList_append
def w4d:=@List.replicate_zero
def w4e:=@Array.forIn_toList
def w4f:=@Bool.not_true
def w4g:=@Bool.and_true
def w4h:=@List.any_cons
def w4i:=@List.lookup_append
def w4j:=@List.getElem_range
def w4k:=@List.map_take
def w4l:=@List.all_map
def w4m:=@Nat.zero_add
def w4n:=@List.set_set
def w4o:=@List.all_nil
def w4p:=@Nat.le_succ
abbrev Fg:=PySem.W.Frag
noncomputable section
namespace PySem.W.Fast
theorem tw16418599978100378158:True:=trivial
theorem tw3902974382951428307:True:=trivial
theorem tw12855278135115279467:True:=trivial
theorem tw11549954318696918530:True:=trivial
theorem tw9073222123486596206:True:=trivial
theorem tw18067101651776060368:True:=trivial
theorem tw12417982976232755972:True:=trivial
theorem tw18249808027701147351:True:=trivial
theorem tw5406006598993462279:True:=trivial
theorem tw5630384260006794992:True:=trivial
theorem tw16121254704898999742:True:=trivial
theorem tw14255918590786533529:True:=trivial
theorem tw13057439217136294805:True:=trivial
theorem tw3721458038973099441:True:=trivial
theorem tw14224886267050764077:True:=trivial
theorem tw15952209439932668859:True:=trivial
theorem tw9011705605996916239:True:=trivial
theorem tw7266331633178971923:True:=trivial
theorem tw12878439938194638145:True:=trivial
theorem tw5980699989206358945:True:=trivial
theorem tw1258967098972633998:True:=trivial
theorem tw7519187721633724056:True:=trivial
theorem tw8237344383677600786:True:=trivial
theorem tw4627209176814868798:True:=trivial
theorem tw7529231562236360565:True:=trivial
theorem tw843528890467761752:True:=trivial
theorem tw7496806954652261935:True:=trivial
theorem tw4444237158920744950:True:=trivial
theorem tw9247163936074960390:True:=trivial
theorem tw15937596468264838447:True:=trivial
theorem tw14362149951890871954:True:=trivial
theorem tw10580661239294283189:True:=trivial
theorem tw17046028074038454685:True:=trivial
theorem tw4534532884022314144:True:=trivial
theorem tw866249951160660185:True:=trivial
theorem tw10350095290258592821:True:=trivial
theorem tw12077722324979320770:True:=trivial
theorem tw3097782223981620182:True:=trivial
theorem tw8632365828222357258:True:=trivial
theorem tw7179503951956307979:True:=trivial
theorem tw9176391901489923322:True:=trivial
theorem tw729937684880354083:True:=trivial
theorem tw6313213431400970762:True:=trivial
theorem tw12981620628825572124:True:=trivial
theorem tw13862892206842654051:True:=trivial
theorem tw16264355908171680460:True:=trivial
theorem tw14533675454246845948:True:=trivial
theorem tw5199993538164544715:True:=trivial
theorem tw16644918169725608975:True:=trivial
theorem tw2928291950031703530:True:=trivial
theorem tw4859196463686302843:True:=trivial
theorem tw14952304022476572870:True:=trivial
theorem tw6129835375521475908:True:=trivial
theorem tw13834052726149137410:True:=trivial
theorem tw16816097238055081257:True:=trivial
theorem tw17097817933606418284:True:=trivial
theorem tw4746342274504667271:True:=trivial
theorem tw13847059885861942317:True:=trivial
theorem tw11581305682836200026:True:=trivial
theorem tw15993865437590477414:True:=trivial
end PySem.W.Fast
namespace L2
open PySem PySem.Spec PyProof.Rows
variable{a b:Addr}{A:Around}{op:CmpOp}{e tg:Expr}{fd:FuncData}{h h':Heap}{pins:List (Addr×Obj)}{ch fp:List Addr}{es:List Expr}{N ps:List Str}{us:List Value}{i k t':Nat}{p pos:Pos}{P prog:Program}{K:Fg}{s:Shared}{x:Str}{mg:Str->Option Value}{u:Value}{E:Value->Shared->Prop}{f:Value->Value->Sem Value}{w:World}
set_option genInjectivity true in
inductive Kx where
 |non|bl (b:Bool)|int (i:Int)|str (x:Str)|tup (ks:List Kx)
inductive Sh where
 |ob|bl|int|str|tup (ss:List Sh)|many (s:Sh)
noncomputable instance:DecidableEq Kx:=fun _ _=>Classical.propDecidable _
mutual
def Kx.depth:Kx->Nat
 |.tup ks=>Kx.depths ks+1
 |_=>0
def Kx.depths:List Kx->Nat
 |[]=>0
 |k::ks=>max k.depth (Kx.depths ks)
end
mutual
def Conf:Kx->Sh->Prop
 |.non,.ob=>True
 |.bl _,.ob=>True
 |.bl _,.bl=>True
 |.int _,.int=>True
 |.str _,.str=>True
 |.tup ks,.tup ss=>Confs ks ss
 |.tup ks,.many s=>ConfM ks s
 |_,_=>False
def Confs:List Kx->List Sh->Prop
 |[],[]=>True
 |k::ks,s::ss=>Conf k s/\Confs ks ss
 |_,_=>False
def ConfM:List Kx->Sh->Prop
 |[],_=>True
 |k::ks,s=>Conf k s/\ConfM ks s
end
mutual
def KIs(h:Heap):Kx->Value->Prop
 |.non,v=>v=.none
 |.bl b,v=>v=.bool b
 |.int i,v=>∃t,v=.int i t
 |.str x,v=>∃t,v=.str x t
 |.tup ks,v=>∃a o items n,v=.ref a/\h.get? a=some o/\o.cls=.type "tuple" /\ o.data=.seq items n/\KAre h ks items.toList
def KAre(h:Heap):List Kx->List Value->Prop
 |[],vs=>vs=[]
 |k::ks,vs=>∃v r,vs=v::r/\KIs h k v/\KAre h ks r
end
mutual
theorem x2i{h:Heap}:∀(k k':Kx){v:Value},KIs h k v->KIs h k' v->k=k'
 |.non,k',v,x,y=>by
  cases(show v=.none from x);cases k' with
  |non=>rfl
  |bl c=>cases(show Value.none=.bool c from y)
  |int i=>obtain⟨t,e⟩:=y;cases e
  |str i=>obtain⟨t,e⟩:=y;cases e
  |tup ks=>obtain⟨_,_,_,_,e,_⟩:=y;cases e
 |.bl b,k',v,x,y=>by
  cases(show v=.bool b from x);cases k' with
  |non=>cases(show Value.bool b=.none from y)
  |bl c=>cases(show Value.bool b=.bool c from y);rfl
  |int i=>obtain⟨t,e⟩:=y;cases e
  |str i=>obtain⟨t,e⟩:=y;cases e
  |tup ks=>obtain⟨_,_,_,_,e,_⟩:=y;cases e
 |.int b,k',v,x,y=>by
  obtain⟨t,rfl⟩:=x;cases k' with
  |non=>cases y
  |bl c=>cases y
  |int i=>obtain⟨t,e⟩:=y;cases e;rfl
  |str i=>obtain⟨t,e⟩:=y;cases e
  |tup ks=>obtain⟨_,_,_,_,e,_⟩:=y;cases e
 |.str b,k',v,x,y=>by
  obtain⟨t,rfl⟩:=x;cases k' with
  |non=>cases y
  |bl c=>cases y
  |int i=>obtain⟨t,e⟩:=y;cases e
  |str i=>obtain⟨t,e⟩:=y;cases e;rfl
  |tup ks=>obtain⟨_,_,_,_,e,_⟩:=y;cases e
 |.tup ks,k',v,x,y=>by
  obtain⟨a,o,it,n,rfl,h1,h2,h3,h4⟩:=x;cases k' with
  |non=>cases y
  |bl c=>cases y
  |int i=>obtain⟨t,e⟩:=y;cases e
  |str i=>obtain⟨t,e⟩:=y;cases e
  |tup ks'=>
   obtain⟨a',o',it',n',e,g1,g2,g3,g4⟩:=y;cases e;rw[h1]at g1;cases g1;rw[h3]at g3;injection g3 with e1 _
   subst e1;rw[q7j ks ks' h4 g4]
theorem q7j{h:Heap}:∀(ks ks':List Kx){vs:List Value},KAre h ks vs->KAre h ks' vs->ks=ks'
 |[],ks',vs,x,y=>by
  cases(show vs=[]from x);cases ks' with
  |nil=>rfl
  |cons k ks'=>obtain⟨v,r,e,_⟩:=y;cases e
 |k::ks,ks',vs,x,y=>by
  obtain⟨v,r,rfl,h1,h2⟩:=x;cases ks' with
  |nil=>cases(show v::r=[]from y)
  |cons k' ks'=>
   obtain⟨v',r',e,g1,g2⟩:=y;cases e;rw[x2i k k' h1 g1,q7j ks ks' h2 g2]
end
mutual
theorem q9e{h h':Heap}(hk:∀a o,h.get? a=some o->o.cls=.type "tuple"->(∃it n,o.data=.seq it n)->h'.get? a=some o):∀(k:Kx){v:Value},KIs h k v->KIs h' k v
 |.non,v,x=>x
 |.bl b,v,x=>x
 |.int b,v,x=>x
 |.str b,v,x=>x
 |.tup ks,v,x=>by
  obtain⟨a,o,it,n,rfl,h1,h2,h3,h4⟩:=x;exact⟨a,o,it,n,rfl,hk a o h1 h2 ⟨it,n,h3⟩,h2,h3,q72 hk ks h4⟩
theorem q72{h h':Heap}(hk:∀a o,h.get? a=some o->o.cls=.type "tuple"->(∃it n,o.data=.seq it n)->h'.get? a=some o):∀(ks:List Kx){vs:List Value},KAre h ks vs->KAre h' ks vs
 |[],vs,x=>x
 |k::ks,vs,x=>by
  obtain⟨v,r,rfl,h1,h2⟩:=x;exact⟨v,r,rfl,q9e hk k h1,q72 hk ks h2⟩
end
theorem KAre.length:∀(ks:List Kx){vs:List Value},KAre h ks vs->vs.length=ks.length
 |[],vs,x=>by cases(show vs=[]from x);rfl
 |k::ks,vs,x=>by
  obtain⟨v,r,rfl,h1,h2⟩:=x;rw[w0x,w0x,KAre.length ks h2]
mutual
def kHash(w:World):Kx->Int
 |.non=>PySem.W.hashW w.params .none
 |.bl b=>reduceHash (if b=true then 1 else 0)
 |.int i=>hashInt i
 |.str x=>hashStr w x
 |.tup ks=>reduceHash (Builtin.Tuple.tupleHashOf (kHashes w ks))
def kHashes(w:World):List Kx->List Int
 |[]=>[]
 |k::ks=>kHash w k::kHashes w ks
end
mutual
def kDraws:Kx->Nat
 |.tup ks=>kDrawss ks+1
 |_=>1
def kDrawss:List Kx->Nat
 |[]=>0
 |k::ks=>kDraws k+kDrawss ks
end
mutual
theorem x2j:∀(k:Kx)(v:Value)(A:Around)(s:Shared)(Q:Int->Shared->Prop),KIs s.heap k v->A.units+k.depth<cLine->Q (kHash w k) {s with toks:=s.toks+kDraws k}->wpAny (model prog w) A (pyHash v) Q E s
 |.non,v,A,s,Q,x,hu,h=>by
  cases(show v=.none from x);exact pyHash_slot (T:="NoneType") rfl F.slot_NoneType_hash F.entry_NoneType_hash (F.args_NoneType_hash_1 _) (beq_builtin_none _) (.inr (by omega)) (wpAny_bind (wpAny_pure (wpAny_bind (wpAny_mkInt (wpAny_pure ⟨_,_,rfl,h⟩)))))
 |.bl b,v,A,s,Q,x,hu,h=>by
  cases(show v=.bool b from x);refine pyHash_slot (T:="bool") rfl F.slot_bool_hash entry_int_hash (args_int_hash _) (beq_builtin_none _) (.inr (by omega)) ?_;cases b
  ·exact(show wpAny _ _ (do ret (<- mkInt 0)) _ _ s from wpAny_bind (wpAny_mkInt (wpAny_pure ⟨_,_,rfl,h⟩)))
  ·exact(show wpAny _ _ (do ret (<- mkInt 1)) _ _ s from wpAny_bind (wpAny_mkInt (wpAny_pure ⟨_,_,rfl,h⟩)))
 |.int i,v,A,s,Q,x,hu,h=>by
  obtain⟨t,rfl⟩:=x;exact wpAny_pyHash_int h
 |.str i,v,A,s,Q,x,hu,h=>by
  obtain⟨t,rfl⟩:=x;exact wpAny_pyHash_str h
 |.tup ks,v,A,s,Q,x,hu,h=>by
  obtain⟨a,o,it,n,rfl,h1,h2,h3,h4⟩:=x;refine pyHash_slot (T:="tuple") ⟨_,h1,h2⟩ F.slot_tuple_hash F.entry_tuple_hash (F.args_tuple_hash_1 _) (beq_builtin_none _) (.inr (by omega)) ?_;show wpAny _ _ (Builtin.Tuple.tupleItemsOf (.ref a) >>= _) _ _ s;refine wpAny_bind (wpAny_tupleItemsOf h1 h3 ?_);refine wpAny_bind ?_;rw[<- w4e];refine q9f ks it.toList A.in1 s #[] _ h4 (by simp only[Kx.depth,Around.in1_units]at hu |-;omega) fun b hb=>?_
  show wpAny _ _ (retInt (Builtin.Tuple.tupleHashOf b.toList)) _ _ _;rw[hb];exact wpAny_bind (wpAny_mkInt (wpAny_pure ⟨_,_,rfl,by simpa [kHash,kDraws,Nat.add_assoc]using h⟩))
theorem q9f:∀(ks:List Kx)(vs:List Value)(A:Around)(s:Shared)(b:Array Int)(Q:Array Int->Shared->Prop),KAre s.heap ks vs->A.units+Kx.depths ks<cLine ->
  (∀b',b'.toList=b.toList++kHashes w ks->Q b' {s with toks:=s.toks+kDrawss ks}) ->
  wpAny (model prog w) A (forIn vs b fun x r=>do let h <- pyHash x;pure PUnit.unit;pure (ForInStep.yield (r.push h))) Q E s
 |[],vs,A,s,b,Q,x,hu,h=>by
  cases(show vs=[]from x);exact wpAny_pure (h b (by simp[kHashes]))
 |k::ks,vs,A,s,b,Q,x,hu,h=>by
  obtain⟨v,r,rfl,h1,h2⟩:=x;simp only[Kx.depths]at hu;rw[w2d];refine wpAny_bind (wpAny_bind (x2j k v A s _ h1 (by omega) ?_));refine wpAny_bind (wpAny_pure (wpAny_pure ?_))
  exact q9f ks r A _ _ Q h2 (by omega) fun b' hb=>by
   have:=h b' (by simp[hb,kHashes])
   simpa [kDrawss,Nat.add_assoc]using this
end
theorem x2k(a b:Bool):decide (Kx.bl a=Kx.bl b)=(a==b):=by
 by_cases e:a=b
 ·subst e;simp
 ·rw[decide_eq_false (fun z=>e (by injection z))];exact(beq_eq_false_iff_ne.mpr e).symm
theorem x7i(a b:Int):decide (Kx.int a=Kx.int b)=(a==b):=by
 by_cases e:a=b
 ·subst e;simp
 ·rw[decide_eq_false (fun z=>e (by injection z))];exact(beq_eq_false_iff_ne.mpr e).symm
theorem x7j(a b:Str):decide (Kx.str a=Kx.str b)=(a==b):=by
 by_cases e:a=b
 ·subst e;simp
 ·rw[decide_eq_false (fun z=>e (by injection z))];exact(beq_eq_false_iff_ne.mpr e).symm
def sameAt(ks ks':List Kx)(j:Nat):Bool:=decide (ks[j]?=ks'[j]?)
theorem x7k:∀ks ks':List Kx,((List.range (min ks.length ks'.length)).all (sameAt ks ks')&&ks.length==ks'.length)=decide (Kx.tup ks=Kx.tup ks'):=by
 intro ks ks'
 by_cases e:ks=ks'
 ·subst e;rw[decide_eq_true rfl];simp[sameAt]
 ·rw[decide_eq_false (fun z=>e (by injection z))]
  rw[Bool.and_eq_false_iff]
  by_cases hl:ks.length=ks'.length
  ·left
   rw[w1h];intro ha;refine e (w2y fun j=>?_)
   by_cases hj:j<ks.length
   ·have:=w0o.mp ha j (w1x.mpr (by omega));exact of_decide_eq_true this
   ·rw[w2c (by omega),w2c (by omega)]
  ·right
   simpa using hl
theorem q5x:∀(ks:List Kx){vs:List Value},KAre h ks vs->∀(j:Nat)(v:Value),vs[j]?=some v->∃k,ks[j]?=some k/\KIs h k v
 |[],vs,x,j,v,e=>by cases(show vs=[]from x);simp at e
 |k::ks,vs,x,j,v,e=>by
  obtain⟨u,r,rfl,h1,h2⟩:=x;cases j with
  |zero=>cases e;exact⟨k,rfl,h1⟩
  |succ j=>exact q5x ks h2 j v (by simpa using e)
theorem q58:∀(ks:List Kx)(j:Nat)(k:Kx),ks[j]?=some k->k.depth<=Kx.depths ks
 |[],j,k,e=>by simp at e
 |x::ks,j,k,e=>by
  simp only[Kx.depths];cases j with
  |zero=>cases e;omega
  |succ j=>have:=q58 ks j k (by simpa using e);omega
theorem q59:∀(ks:List Kx)(ss:List Sh),Confs ks ss->∀(j:Nat)(k:Kx),ks[j]?=some k->∃s,ss[j]?=some s/\Conf k s
 |[],ss,_,j,k,e=>by simp at e
 |x::ks,[],c,j,k,e=>c.elim
 |x::ks,s::ss,c,j,k,e=>by
  cases j with
  |zero=>cases e;exact⟨s,rfl,c.1⟩
  |succ j=>exact q59 ks ss c.2 j k (by simpa using e)
theorem q6a:∀(ks:List Kx)(s:Sh),ConfM ks s->∀(j:Nat)(k:Kx),ks[j]?=some k->Conf k s
 |[],s,_,j,k,e=>by simp at e
 |x::ks,s,c,j,k,e=>by
  cases j with
  |zero=>cases e;exact c.1
  |succ j=>exact q6a ks s c.2 j k (by simpa using e)
theorem y88(s:Shared):∀(n:Nat)(k k':Kx)(sh:Sh)(v v':Value)(A:Around),k.depth<=n->Conf k sh->Conf k' sh->KIs s.heap k v->KIs s.heap k' v'->A.units+n<cLine->SeqAt.EqAt A s v v' (decide (k=k')):=by
 intro n
 induction n with
 |zero=>
  intro k k' sh v v' A hd c c' x y hu;cases k with
  |non=>
   cases sh with
   |ob=>
    cases k' with
    |non=>cases(show v=.none from x);cases(show v'=.none from y);rw[decide_eq_true rfl];exact .same _
    |bl b=>cases(show v=.none from x);cases(show v'=.bool b from y);rw[decide_eq_false (fun z=>nomatch z)];exact .none_bool b
    |_=>exact c'.elim
   |_=>exact c.elim
  |bl a=>
   cases sh with
   |ob=>
    cases k' with
    |non=>cases(show v=.bool a from x);cases(show v'=.none from y);rw[decide_eq_false (fun z=>nomatch z)];exact .bool_none a
    |bl b=>cases(show v=.bool a from x);cases(show v'=.bool b from y);rw[x2k];exact .bool_bool a b
    |_=>exact c'.elim
   |bl=>
    cases k' with
    |bl b=>cases(show v=.bool a from x);cases(show v'=.bool b from y);rw[x2k];exact .bool_bool a b
    |_=>exact c'.elim
   |_=>exact c.elim
  |int a=>
   cases sh with
   |int=>
    cases k' with
    |int b=>obtain⟨t,rfl⟩:=x;obtain⟨u,rfl⟩:=y;rw[x7i];exact .int_int a t b u
    |_=>exact c'.elim
   |_=>exact c.elim
  |str a=>
   cases sh with
   |str=>
    cases k' with
    |str b=>obtain⟨t,rfl⟩:=x;obtain⟨u,rfl⟩:=y;rw[x7j];exact .str_str a t b u
    |_=>exact c'.elim
   |_=>exact c.elim
  |tup ks=>simp only[Kx.depth]at hd;omega
 |succ n ih=>
  intro k k' sh v v' A hd c c' x y hu;cases k with
  |non=>exact ih .non k' sh v v' A (w1b _) c c' x y (by omega)
  |bl a=>exact ih (.bl a) k' sh v v' A (w1b _) c c' x y (by omega)
  |int a=>exact ih (.int a) k' sh v v' A (w1b _) c c' x y (by omega)
  |str a=>exact ih (.str a) k' sh v v' A (w1b _) c c' x y (by omega)
  |tup ks=>
   obtain⟨a,o,it,m,rfl,h1,h2,h3,h4⟩:=x
   have tail:∀ks',k'=.tup ks'->(∀(j:Nat)(u u':Kx),ks[j]?=some u->ks'[j]?=some u'->∃s,Conf u s/\Conf u' s)->SeqAt.EqAt A s (.ref a) v' (decide (Kx.tup ks=k')):=by
    rintro ks' rfl hc;obtain⟨b,o',it',m',rfl,g1,g2,g3,g4⟩:=y
    by_cases hab:a=b
    ·subst hab;rw[h1]at g1;cases g1;rw[h3]at g3;injection g3 with e1 _
     subst e1;rw[q7j ks ks' h4 g4,decide_eq_true rfl];exact .same _
    ·have l1:=KAre.length ks h4;have l2:=KAre.length ks' g4;rw[<- x7k]
     have:=SeqAt.RcAt.tuples (A:=A) (s:=s) (e:=sameAt ks ks') (show s.heap.IsTuple a it from⟨o,h1,h2,m,h3⟩) (show s.heap.IsTuple b it' from⟨o',g1,g2,m',g3⟩) (by omega) (fun j j1 j2=>by
      obtain⟨u,u1,u2⟩:=q5x ks h4 j it[j] (by simp[j1]);obtain⟨u',u1',u2'⟩:=q5x ks' g4 j it'[j] (by simp[j2]);obtain⟨sh',c1,c2⟩:=hc j u u' u1 u1';have hdj:=q58 ks j u u1;simp only[Kx.depth]at hd;have z:=ih u u' sh' _ _ A.in1 (by omega) c1 c2 u2 u2' (by rw[Around.in1_units];omega)
      have e:sameAt ks ks' j=decide (u=u'):=by
       unfold sameAt;rw[u1,u1']
       by_cases q:u=u'
       ·rw[q];simp
       ·rw[decide_eq_false q,decide_eq_false (fun z=>q (Option.some.inj z))]
      rw[e];exact z)
     rw[show it.size=ks.length by simpa using l1,show it'.size=ks'.length by simpa using l2]at this;exact .of_refs hab this
   cases sh with
   |tup ss=>
    cases k' with
    |tup ks'=>
     refine tail ks' rfl fun j u u' e1 e2=>?_
     obtain⟨s1,q1,q2⟩:=q59 ks ss c j u e1;obtain⟨s2,q3,q4⟩:=q59 ks' ss c' j u' e2;rw[q1]at q3;cases q3;exact⟨s1,q2,q4⟩
    |_=>exact c'.elim
   |many s1=>
    cases k' with
    |tup ks'=>exact tail ks' rfl fun j u u' e1 e2=>⟨s1,q6a ks s1 c j u e1,q6a ks' s1 c' j u' e2⟩
    |_=>exact c'.elim
   |_=>exact c.elim
theorem x7l:∀(n:Nat)(k:Kx)(v:Value)(s:Shared)(Q:Bool->Shared->Prop),k.depth<=n->KIs s.heap k v->Q true s->wpAny (model prog w) A (eqIsQuiet n v) Q E s:=by
 intro n
 induction n with
 |zero=>
  intro k v s Q hd x h;cases k with
  |non=>cases(show v=.none from x);rw[eqIsQuiet_byValue _ rfl];exact wpAny_pure h
  |bl b=>cases(show v=.bool b from x);rw[eqIsQuiet_byValue _ rfl];exact wpAny_pure h
  |int i=>obtain⟨t,rfl⟩:=x;rw[eqIsQuiet_byValue _ rfl];exact wpAny_pure h
  |str i=>obtain⟨t,rfl⟩:=x;rw[eqIsQuiet_byValue _ rfl];exact wpAny_pure h
  |tup ks=>simp only[Kx.depth]at hd;omega
 |succ n ih=>
  intro k v s Q hd x h;cases k with
  |non=>cases(show v=.none from x);rw[eqIsQuiet_byValue _ rfl];exact wpAny_pure h
  |bl b=>cases(show v=.bool b from x);rw[eqIsQuiet_byValue _ rfl];exact wpAny_pure h
  |int i=>obtain⟨t,rfl⟩:=x;rw[eqIsQuiet_byValue _ rfl];exact wpAny_pure h
  |str i=>obtain⟨t,rfl⟩:=x;rw[eqIsQuiet_byValue _ rfl];exact wpAny_pure h
  |tup ks=>
   obtain⟨a,o,it,m,rfl,h1,h2,h3,h4⟩:=x;have hT:s.TypeIs (.ref a) "tuple":=⟨o,h1,h2⟩;unfold eqIsQuiet;refine wpAny_bind (wpAny_specialOf hT F.slot_tuple_eq.lookup ?_);show wpAny _ _ (isInstance (.ref a) (.type "tuple") >>= _) _ _ s;refine wpAny_bind (wpAny_isInstance hT isSubtype_tuple_tuple ?_);simp only[w4f,w1u,if_false];refine wpAny_bind (wpAny_seqItems h1 h3 ?_);refine wpAny_bind ?_;show wpAny _ _ (forIn it _ _) _ _ s;rw[<- w4e];refine wpAny_forIn_list _ (fun rest r s'=>r.1=none/\s'=s/\∀v∈rest,∃k:Kx,k.depth<=n/\KIs s.heap k v) _ ?_ ?_ _ _ ⟨rfl,rfl,fun v hv=>?_⟩
   ·rintro v rest r s' ⟨hr,rfl,hall⟩;obtain⟨k,k1,k2⟩:=hall v w1d;refine wpAny_bind (ih k v _ _ k1 k2 ?_);simp only[w4f,w1u,if_false];exact wpAny_pure ⟨rfl,rfl,fun u hu'=>hall u (w0k _ hu')⟩
   ·rintro⟨r1,r2⟩ s' ⟨hr,rfl,_⟩;simp only at hr;subst hr;exact wpAny_pure h
   ·obtain⟨j,hj,e⟩:=List.mem_iff_getElem.mp hv;obtain⟨k,k1,k2⟩:=q5x ks h4 j v (by rw[w0d hj,e]);have:=q58 ks j k k1;simp only[Kx.depth]at hd;exact⟨k,by omega,k2⟩
def treeKind(prog:Program)(w:World)(sh:Sh):HeapKind prog w Kx where
 is:=fun h k a=>KIs h k (.ref a)/\Conf k sh/\k.depth<=7
 hash:=kHash w
 draws:=kDraws
 room:=fun A=>A.units+8<cLine
 inj:=fun hx hy=>x2i _ _ hx.1 hy.1
 keeps:=fun {h h' k a d o es ep} x ho hd hs=>⟨q9e (fun b ob e1 e2 e3=>by
  have hne:b≠d:=by
   rintro rfl;rw[ho]at e1;cases e1;obtain⟨it,n,e⟩:=e3;rw[hd]at e;cases e
  exact(hs.2 b hne).trans e1) _ x.1,x.2⟩
 pyHash:=fun {A E s k a Q} hu hk h=>x2j k _ A s Q hk.1 (by have:=hk.2.2;omega) h
 eqBool:=fun {A E s x y a b Q} hu hx hy h=>y88 s 7 x y sh _ _ A hx.2.2 hx.2.1 hy.2.1 hx.1 hy.1 (by omega) prog w E Q h
 quiet:=fun {A E s k a Q} hk h=>x7l 8 k _ s Q (by have:=hk.2.2;omega) hk.1 h
set_option Elab.async false
set_option linter.all false
set_option maxRecDepth 100000
noncomputable abbrev Key:=Sum Int Str
def keyIs:Key->Value->Bool
 |.inl k,v=>Value.isInt k v
 |.inr x,v=>Value.isStrOf x v
def keyH(w:World):Key->Int
 |.inl k=>hashInt k
 |.inr x=>hashStr w x
theorem q1t:∀{k:Key}{v:Value},keyIs k v=true->(∃i t,k=Sum.inl i/\v=Value.int i t)\/(∃x t,k=Sum.inr x/\v=Value.str x t)
 |.inl i,v,h=>by
  obtain⟨t,e⟩:=Value.isInt_shape (k:=i) (v:=v) h;exact .inl ⟨i,t,rfl,e⟩
 |.inr x,v,h=>by
  obtain⟨t,e⟩:=Value.isStrOf_shape (x:=x) (v:=v) h;exact .inr ⟨x,t,rfl,e⟩
theorem x4v(i:Int)(t:Tok):keyIs (.inl i) (.int i t)=true:=by simp[keyIs,Value.isInt]
theorem x4w(x:Str)(t:Tok):keyIs (.inr x) (.str x t)=true:=by simp[keyIs,Value.isStrOf]
theorem y42(a b:Int):decide ((Sum.inl a:Key)=Sum.inl b)=(a==b):=by
 by_cases e:a=b
 ·subst e;simp
 ·have h:¬(Sum.inl a:Key)=Sum.inl b:=fun q=>e (Sum.inl.inj q)
  rw[decide_eq_false h];exact(beq_eq_false_iff_ne.mpr e).symm
theorem y43(a b:Str):decide ((Sum.inr a:Key)=Sum.inr b)=decide (a=b):=by
 by_cases e:a=b
 ·subst e;simp
 ·have h:¬(Sum.inr a:Key)=Sum.inr b:=fun q=>e (Sum.inr.inj q)
  rw[decide_eq_false h,decide_eq_false e]
theorem y44(a:Int)(b:Str):decide ((Sum.inl a:Key)=Sum.inr b)=false:=decide_eq_false (fun q=>nomatch q)
theorem y45(a:Str)(b:Int):decide ((Sum.inr a:Key)=Sum.inl b)=false:=decide_eq_false (fun q=>nomatch q)
def mixKind(prog:Program)(w:World):PySem.KeyKind prog w Key where
 is:=keyIs
 hash:=keyH w
 inj:=fun v a b ha hb=>by
  rcases q1t ha with⟨i,t,rfl,rfl⟩|⟨x,t,rfl,rfl⟩
  ·rcases q1t hb with⟨j,u,rfl,e⟩|⟨y,u,rfl,e⟩
   ·injection e with e1 _;rw[e1]
   ·exact nomatch e
  ·rcases q1t hb with⟨j,u,rfl,e⟩|⟨y,u,rfl,e⟩
   ·exact nomatch e
   ·injection e with e1 _;rw[e1]
 byValue:=fun k v h=>by
  rcases q1t h with⟨i,t,rfl,rfl⟩|⟨x,t,rfl,rfl⟩<;>rfl
 pyHash:=fun hv h=>by
  rcases q1t hv with⟨i,t,rfl,rfl⟩|⟨x,t,rfl,rfl⟩
  ·exact wpAny_pyHash_int h
  ·exact wpAny_pyHash_str h
 eqBool:=fun hu hv h=>by
  rcases q1t hu with⟨i,t,rfl,rfl⟩|⟨x,t,rfl,rfl⟩
  ·rcases q1t hv with⟨j,u,rfl,rfl⟩|⟨y,u,rfl,rfl⟩
   ·rw[y42]at h;exact wpAny_eqBool_int h
   ·rw[y44]at h;exact SeqAt.EqAt.int_str i t y u _ _ _ _ h
  ·rcases q1t hv with⟨j,u,rfl,rfl⟩|⟨y,u,rfl,rfl⟩
   ·rw[y45]at h;exact SeqAt.EqAt.str_int x t j u _ _ _ _ h
   ·rw[y43]at h;exact wpAny_eqBool_str h
 «strs»:=fun k x t v h=>by
  rcases q1t h with⟨i,u,rfl,e⟩|⟨y,u,rfl,e⟩
  ·exact nomatch e
  ·injection e with e1 _
   subst e1;cases v<;>rfl
theorem x17(prog:Program)(w:World)(i:Int)(t:Tok):(mixKind prog w).is (.inl i) (.int i t)=true:=x4v i t
theorem x18(prog:Program)(w:World)(x:Str)(t:Tok):(mixKind prog w).is (.inr x) (.str x t)=true:=x4w x t
set_option genInjectivity true in
inductive V where
 |non|bl (b:Bool)|int (i:Int)|str (x:Str)|byt (b:Array UInt8)|flt (b:UInt64)|ref (a:Addr)|ty (n:String)
 deriving DecidableEq
variable{xs:List V}{v:V}
def RelV:V->Value->Prop
 |.non,u=>u=Value.none
 |.bl b,u=>u=Value.bool b
 |.int i,u=>∃t,u=Value.int i t
 |.str x,u=>∃t,u=Value.str x t
 |.byt b,u=>∃t,u=Value.bytes b t
 |.flt b,u=>∃t,u=Value.float b t
 |.ref a,u=>u=Value.ref a
 |.ty n,u=>u=Value.type n
abbrev Vals:List V->List Value->Prop:=Paired RelV
theorem Vals.length(r:Vals xs us):xs.length=us.length:=Paired.length r
theorem Vals.get:∀{xs:List V}{us:List Value}{i:Nat}{x:V},Vals xs us->xs[i]?=some x->∃u,us[i]?=some u/\RelV x u
 |_,_,_,_,.nil,e=>by simp at e
 |_,_,0,_,.cons r _,e=>by simp at e;subst e;exact⟨_,rfl,r⟩
 |_,_,i+1,x,.cons _ t,e=>by
  obtain⟨u,h1,h2⟩:=Vals.get (i:=i) (x:=x) t (by simpa using e);exact⟨u,by simpa using h1,h2⟩
theorem Vals.set{x:V}(r:RelV x u):∀{xs:List V}{us:List Value}(i:Nat),Vals xs us->Vals (xs.set i x) (us.set i u)
 |_,_,_,.nil=>.nil
 |_,_,0,.cons _ t=>.cons r t
 |_,_,i+1,.cons q t=>.cons q (Vals.set r i t)
theorem Vals.append:∀{xs ys:List V}{us ws:List Value},Vals xs us->Vals ys ws->Vals (xs++ys) (us++ws)
 |_,_,_,_,.nil,s=>s
 |_,_,_,_,.cons r t,s=>.cons r (Vals.append t s)
theorem Vals.take:∀{xs:List V}{us:List Value}(n:Nat),Vals xs us->Vals (xs.take n) (us.take n)
 |_,_,0,_=>.nil
 |_,_,_+1,.nil=>.nil
 |_,_,n+1,.cons r t=>.cons r (Vals.take n t)
theorem Vals.drop:∀{xs:List V}{us:List Value}(n:Nat),Vals xs us->Vals (xs.drop n) (us.drop n)
 |_,_,0,r=>r
 |_,_,_+1,.nil=>.nil
 |_,_,n+1,.cons _ t=>Vals.drop n t
def RelO:Option V->Option Value->Prop
 |some v,some u=>RelV v u
 |none,none=>True
 |_,_=>False
def KV{κ:Type}:List (κ×V)->List (κ×Value)->Prop:=Paired fun(p:κ×V) (q:κ×Value)=>p.1=q.1/\RelV p.2 q.2
def kV:Key->V
 |.inl i=>.int i
 |.inr x=>.str x
inductive HO where
 /-- a list -/
 |lst (xs:List V)
 /-- a tuple (never changes) -/
 |tup (xs:List V)
 /-- a dict whose keys are ints and texts;one whose keys are tuples of ints and texts (the empty one is both) -/
 |dK (kvs:List (Key×V))|dT (sh:Sh) (kvs:List (Kx×V)) (kas:List Addr)
 /-- a set of ints: its members,its size -/
 |set (S:Int->Bool) (n:Nat)
 /-- an instance of the class at C,its dict at dx,its attributes -/
 |ins (C dx:Addr) (fs:List (Str×V))
 /-- the dict of the instance at x -/
 |own (x:Addr)
 /-- the dict of an exception -/
 |xd (fs:List (Str×V))
 /-- a bound method,f of x -/
 |met (f x:Addr)
 /-- a range object lo,lo+1,.. below hi -/
 |rng (lo hi:Int)
 /-- a thing that is known to the object (the script;a dict while a loop walks it): read,never written while it is so -/
 |frz (o:Obj) (u:HO)
 /-- a code object's table -/
 |tbl (ps:Array Value)
 /-- any other thing,by what is true of its one object (a def of one's own: SetO a S n:=HO.ext fun h=>..) -/
 |ext (φ:Heap->Prop)
noncomputable abbrev Hp:=Addr->Option HO
variable{H H':Hp}
def TupLike:HO->Prop
 |.tup _=>True
 |.frz _ (.tup _)=>True
 |.frz _ (.own _)=>True
 |_=>False
mutual
def KRep(H:Hp):Kx->V->Prop
 |.non,v=>v=.non
 |.bl b,v=>v=.bl b
 |.int i,v=>v=.int i
 |.str x,v=>v=.str x
 |.tup ks,v=>∃a xs,v=.ref a/\(H a=some (.tup xs)\/∃o,H a=some (.frz o (.tup xs)))/\KReps H ks xs
def KReps(H:Hp):List Kx->List V->Prop
 |[],vs=>vs=[]
 |k::ks,vs=>∃v r,vs=v::r/\KRep H k v/\KReps H ks r
end
mutual
theorem KRep.keeps{H H':Hp}(ht:∀b u,TupLike u->H b=some u->H' b=some u):∀(k:Kx){v:V},KRep H k v->KRep H' k v
 |.non,_,x=>x
 |.bl _,_,x=>x
 |.int _,_,x=>x
 |.str _,_,x=>x
 |.tup ks,_,x=>by
  obtain⟨a,xs,e,q,r⟩:=x;refine⟨a,xs,e,?_,KReps.keeps ht ks r⟩;rcases q with q|⟨o,q⟩
  ·exact .inl (ht _ _ True.intro q)
  ·exact .inr ⟨o,ht _ _ True.intro q⟩
theorem KReps.keeps{H H':Hp}(ht:∀b u,TupLike u->H b=some u->H' b=some u):∀(ks:List Kx){vs:List V},KReps H ks vs->KReps H' ks vs
 |[],_,x=>x
 |k::ks,_,x=>by
  obtain⟨v,r,e,h1,h2⟩:=x;exact⟨v,r,e,KRep.keeps ht k h1,KReps.keeps ht ks h2⟩
end
def upd(H:Hp)(a:Addr)(o:HO):Hp:=fun b=>if b=a then some o else H b
theorem q0d{o:HO}:upd H a o a=some o:=by unfold upd;rw[if_pos rfl]
theorem q0c{o:HO}(h:b≠a):upd H a o b=H b:=by unfold upd;rw[if_neg h]
theorem q80{o u:HO}:upd (upd H a o) a u=upd H a u:=by
 funext b;unfold upd;split<;>rfl
theorem q0x{o u:HO}(h:H a=some o)(h':H b=some u)(d:o≠u):a≠b:=by
 intro e;subst e;rw[h]at h';exact d (Option.some.inj h')
theorem q0n{o:HO}(h:H a=some o)(h':H b=none):a≠b:=by
 intro e;subst e;rw[h]at h';cases h'
section
variable(P:Program)(w:World)
def BareT(h:Heap)(a:Addr):Prop:=∃o,h.get? a=some o/\o.dict=none
def ObjOk(H:Hp)(h:Heap)(a:Addr):HO->Prop
 |.lst xs=>xs.length<=sizeLine/\∃(its:List Value)(n:Nat),Vals xs its/\h.get? a=some {cls:=.type "list", data:=.seq its.toArray n}
 |.tup xs=>xs.length<=sizeLine/\∃its:List Value,Vals xs its/\IsTup h a its.toArray/\BareT h a
 |.dK kvs=>kvs.length<=sizeLine/\(a==sysModules)=false/\∃vs,KV kvs vs/\h.DictOf (mixKind P w) a vs
 |.dT sh kvs kas=>kvs.length<=sizeLine/\(a==sysModules)=false/\∃xs:List (Kx×Addr×Value),
   Paired (fun(p:Kx×V) (q:Kx×Addr×Value)=>p.1=q.1/\(KRep H p.1 (.ref q.2.1)/\Conf p.1 sh/\p.1.depth<=7)/\RelV p.2 q.2.2) kvs xs/\xs.map (·.2.1)=kas /\
   ∃o es ep,h.get? a=some o/\o.ExactDict/\o.data=.dict es ep/\es.toList=xs.map (entryOfKey (treeKind P w sh))/\(xs.map (·.1)).Nodup
 |.set S n=>h.SetOf (intKind P w) a S n
 |.ins C dx fs=>H dx=some (.own a)/\fs.length<=1000/\dx≠a/\h.get? a=some (PySem.W.instObj C dx) /\
   ∃mA,h.Ns1 dx mA/\(∀f,RelO (fs.lookup f) (mA f))/\PySem.Within mA (fs.map (·.1))
 |.own _=>∃o,h.get? a=some o
 |.xd fs=>∃mA,h.Ns1 a mA/\∀f,RelO (fs.lookup f) (mA f)
 |.rng lo hi=>∃t u v,h.get? a=some {cls:=.type "range", data:=.fields #[.int lo t,.int hi u,.int 1 v]}
 |.frz o u=>h.get? a=some o/\ObjOk H h a u
 |.tbl ps=>(∃(q:Str)(qs:Array Value),ps[0]?=some (.bool true)/\ps[1]?=some (.str q 0)/\h.get? a=some {cls:=.none,data:=.fields qs}/\TriplesOk qs.toList/\∀(pos:Pos)(cv:Value),codeAmong pos qs.toList=some cv ->
   ∃(c:Addr)(oc:Obj)(vs:Array Value)(t:Tok),cv=.ref c/\H c=some (.frz oc (.own 0))/\oc.data=.fields vs/\vs[1]?=some (.str q t)) \/
   ∃(q:Str)(c:Addr)(oc ob:Obj)(vs:Array Value)(t:Tok),ps[0]?=some (.bool false)/\ps[1]?=some (.str q 0)/\ps[2]?=some (.ref c)/\H c=some (.frz oc (.own 0))/\oc.data=.fields vs/\vs[1]?=some (.str q t)/\h.get? a=some ob
 |.met f x=>h.get? a=some (methodObj (.ref f) (.ref x))
 |.ext φ=>φ h/\(∃o,h.get? a=some o)/\∀h1 h2:Heap,φ h1->(∀o,h1.get? a=some o->h2.get? a=some o)->φ h2
def HOk(H:Hp)(h:Heap):Prop:=∀a o,H a=some o->ObjOk P w H h a o
end
section
variable{o:HO}
theorem ObjOk.lt(x:ObjOk P w H h a o):a<h.objs.size:=by
 cases o with
 |lst xs=>obtain⟨_,_,_,_,e⟩:=x;exact Heap.lt_size e
 |tup xs=>obtain⟨_,_,_,p,_⟩:=x;exact p.lt
 |dK kvs=>obtain⟨_,_,_,_,o,_,_,e,_⟩:=x;exact Heap.lt_size e
 |dT sh kvs kas=>obtain⟨_,_,_,_,_,o,_,_,e,_⟩:=x;exact Heap.lt_size e
 |set S n=>obtain⟨o,_,_,_,e,_⟩:=x;exact Heap.lt_size e
 |ins C dx fs=>obtain⟨_,_,_,e,_⟩:=x;exact Heap.lt_size e
 |own y=>obtain⟨_,e⟩:=x;exact Heap.lt_size e
 |xd fs=>obtain⟨_,⟨_,_,_,e,_⟩,_⟩:=x;exact Heap.lt_size e
 |rng lo hi=>obtain⟨_,_,_,e⟩:=x;exact Heap.lt_size e
 |frz ob u=>obtain⟨e,_⟩:=x;exact Heap.lt_size e
 |tbl ps=>rcases x with⟨_,_,_,_,e,_⟩|⟨_,_,_,_,_,_,_,_,_,_,_,_,e⟩<;>exact Heap.lt_size e
 |met f y=>exact Heap.lt_size (show h.get? a=some _ from x)
 |ext φ=>obtain⟨_,⟨_,e⟩,_⟩:=x;exact Heap.lt_size e
theorem Paired.mapP{α β:Type}{F G:α->β->Prop}:∀{l₁:List α}{l₂:List β},Paired F l₁ l₂->(∀a b,F a b->G a b)->Paired G l₁ l₂
 |_,_,.nil,_=>.nil
 |_,_,.cons r t,f=>.cons (f _ _ r) (Paired.mapP t f)
theorem ObjOk.stay(x:ObjOk P w H h a o)(k:∀b u,(b=a\/H b=some (.own a))->h.get? b=some u->h'.get? b=some u)
  (ho:∀b,H b=some (.own a)->H' b=some (.own a))(ht:∀b u,TupLike u->H b=some u->H' b=some u):ObjOk P w H' h' a o:=by
 induction o with
 |lst xs=>obtain⟨z,its,n,r,e⟩:=x;exact⟨z,its,n,r,k _ _ (.inl rfl) e⟩
 |tup xs=>obtain⟨z,its,r,⟨ob,e,c⟩,⟨o2,e2,c2⟩⟩:=x;exact⟨z,its,r,⟨ob,k _ _ (.inl rfl) e,c⟩,⟨o2,k _ _ (.inl rfl) e2,c2⟩⟩
 |dK kvs=>obtain⟨z,y,vs,r,ob,es,ep,e,c⟩:=x;exact⟨z,y,vs,r,ob,es,ep,k _ _ (.inl rfl) e,c⟩
 |dT sh kvs kas=>
  obtain⟨z,y,xs,r,ka,ob,es,ep,e,c⟩:=x;exact⟨z,y,xs,Paired.mapP r fun p q z=>⟨z.1,⟨KRep.keeps ht _ z.2.1.1,z.2.1.2⟩,z.2.2⟩,ka,ob,es,ep,k _ _ (.inl rfl) e,c⟩
 |set S n=>obtain⟨ob,es,ep,t,e,c⟩:=x;exact⟨ob,es,ep,t,k _ _ (.inl rfl) e,c⟩
 |ins C dx fs=>
  obtain⟨d,z,ne,e,mA,⟨od,es,ep,e2,c⟩,r⟩:=x;exact⟨ho _ d,z,ne,k _ _ (.inl rfl) e,mA,⟨od,es,ep,k _ _ (.inr d) e2,c⟩,r⟩
 |own y=>obtain⟨ob,e⟩:=x;exact⟨ob,k _ _ (.inl rfl) e⟩
 |xd fs=>obtain⟨mA,⟨od,es,ep,e,c⟩,r⟩:=x;exact⟨mA,⟨od,es,ep,k _ _ (.inl rfl) e,c⟩,r⟩
 |rng lo hi=>obtain⟨t,u,v,e⟩:=x;exact⟨t,u,v,k _ _ (.inl rfl) e⟩
 |frz ob u ih=>obtain⟨e,q⟩:=x;exact⟨k _ _ (.inl rfl) e,ih q⟩
 |tbl ps=>
  rcases x with⟨q,qs,p0,p1,e,tr,cd⟩|⟨q,c,oc,ob,vs,t,p0,p1,p2,h3,h4,h5,e⟩
  ·refine .inl ⟨q,qs,p0,p1,k _ _ (.inl rfl) e,tr,fun pos cv z=>?_⟩
   obtain⟨c,oc,vs,t,h1,h3,h4,h5⟩:=cd pos cv z;exact⟨c,oc,vs,t,h1,ht _ _ True.intro h3,h4,h5⟩
  ·exact .inr ⟨q,c,oc,ob,vs,t,p0,p1,p2,ht _ _ True.intro h3,h4,h5,k _ _ (.inl rfl) e⟩
 |met f y=>
  have e:h.get? a=some (methodObj (.ref f) (.ref y)):=x;show h'.get? a=some (methodObj (.ref f) (.ref y));exact k a _ (.inl rfl) e
 |ext φ=>obtain⟨p,⟨o,e⟩,st⟩:=x;exact⟨st _ _ p fun o q=>k _ _ (.inl rfl) q,⟨o,k _ _ (.inl rfl) e⟩,st⟩
theorem HOk.lt(x:HOk P w H h)(e:H a=some o):a<h.objs.size:=(x a o e).lt
theorem HOk.fresh(x:HOk P w H h)(e:h.objs.size<=a):H a=none:=by
 cases q:H a with
 |none=>rfl
 |some u=>exact absurd (w0t (x.lt q) e) (w2k _)
theorem HOk.kept(x:HOk P w H h)(k:∀b u,h.get? b=some u->h'.get? b=some u):HOk P w H h':=fun a o e=>
 (x a o e).stay (fun b u _ q=>k b u q) (fun _ q=>q) fun _ _ _ q=>q
theorem HOk.laid(x:HOk P w H h)(k:∀b u,h.get? b=some u->h'.get? b=some u)(hp:h.objs.size<=a)(new:ObjOk P w (upd H a o) h' a o):HOk P w (upd H a o) h':=fun b u e=>by
 have hn:=x.fresh hp
 by_cases hb:b=a
 ·subst hb;rw[q0d]at e;cases e;exact new
 ·rw[q0c hb]at e;exact(x b u e).stay (fun c v _ q=>k c v q) (fun c q=>by rw[q0c (q0n q hn)];exact q) fun c xs _ q=>by rw[q0c (q0n q hn)];exact q
end
def Rd(H:Hp)(a:Addr)(u:HO):Prop:=H a=some u\/∃o,H a=some (.frz o u)
theorem Rd.ok{u:HO}(r:Rd H a u)(x:HOk P w H h):ObjOk P w H h a u:=by
 rcases r with r|⟨o,r⟩
 ·exact x a u r
 ·obtain⟨_,q⟩:=x a _ r;exact q
def Mut:Option HO->Prop
 |some (.lst _)=>True
 |some (.dK _)=>True
 |some (.dT _ _ _)=>True
 |some (.set _ _)=>True
 |some (.ins _ _ _)=>True
 |some (.ext _)=>True
 |_=>False
section
variable{x e:Addr}{o':HO}
theorem HOk.write(ok:HOk P w H h)(mu:Mut (H x))(he:e=x\/H e=some (.own x))(k:∀b u,b≠e->h.get? b=some u->h'.get? b=some u)(heo:∃u,h'.get? e=some u)
  (new:ObjOk P w (upd H x o') h' x o'):HOk P w (upd H x o') h':=fun b u q=>by
 have nown:∀c y,H c=some (.own y)->c≠x:=fun c y r z=>by subst z;rw[r]at mu;exact mu
 have ntup:∀c u,TupLike u->H c=some u->c≠x:=fun c u t r z=>by
  subst z;rw[r]at mu;cases u<;>first|exact mu|exact t
 by_cases hb:b=x
 ·subst hb;rw[q0d]at q;cases q;exact new
 ·rw[q0c hb]at q
  by_cases hbe:b=e
  ·have q':H b=some (.own x):=by
    rcases he with z|z
    ·exact absurd (hbe.trans z) hb
    ·rw[hbe];exact z
   rw[q]at q';cases q';obtain⟨v,hv⟩:=heo;exact⟨v,by rw[hbe];exact hv⟩
  ·refine(ok b u q).stay (fun c v hc r=>k c v ?_ r) (fun c r=>by rw[q0c (nown c b r)];exact r) fun c xs t r=>by rw[q0c (ntup c xs t r)];exact r
   rcases hc with rfl|hc
   ·exact hbe
   ·rintro rfl;rcases he with z|z
    ·exact nown c b hc z
    ·rw[hc]at z;cases z;exact hb rfl
end
structure Un(fs ex:List Addr)(H H':Hp)(h h':Heap):Prop where
 keep:∀b o,h.get? b=some o->H b=none->b∉fs->b∉ex->h'.get? b=some o
 slot:∀b o,h.get? b=some o->H b=none->b∈fs->b∉ex->∃sl,h'.get? b=some {o with slots:=sl}
 free:∀b o,h.get? b=some o->H b=none->b∉ex->H' b=none
 there:∀b o,h.get? b=some o->b∉ex->∃o',h'.get? b=some o'
 tups:∀b xs,H b=some (.tup xs)->H' b=some (.tup xs)
 frzs:∀b o u,H b=some (.frz o u)->H' b=some (.frz o u)
 tbls:∀b ps,H b=some (.tbl ps)->∃more,H' b=some (.tbl (ps++more))
section
variable{fs fs' ex ex':List Addr}{H1 H2:Hp}{h1 h2:Heap}{x e:Addr}{o:HO}
theorem Un.any(u:Un fs ex H H1 h h1){ob:Obj}(q:h.get? b=some ob)(n:H b=none)(hx:b∉ex):∃sl,h1.get? b=some {ob with slots:=sl}:=by
 by_cases hb:b∈fs
 ·exact u.slot b ob q n hb hx
 ·exact⟨ob.slots,u.keep b ob q n hb hx⟩
theorem Un.kept(k:∀b u,h.get? b=some u->h'.get? b=some u):Un fs ex H H h h':=
 ⟨fun b ob q _ _ _=>k b ob q,fun b ob q _ _ _=>⟨ob.slots,k b ob q⟩,fun _ _ _ n _=>n,fun b ob q _=>⟨ob,k b ob q⟩,fun _ _ q=>q,fun _ _ _ q=>q,fun _ ps q=>⟨#[],by rw[q];simp⟩⟩
theorem Un.refl:Un fs ex H H h h:=Un.kept fun _ _ q=>q
theorem Un.laid(k:∀b u,h.get? b=some u->h'.get? b=some u)(hp:h.objs.size<=a)(hn:H a=none):Un fs ex H (upd H a o) h h' where
 keep:=fun b u q _ _ _=>k b u q
 slot:=fun b u q _ _ _=>⟨u.slots,k b u q⟩
 free:=fun b u q n _=>by rw[q0c (w0u (w0t (Heap.lt_size q) hp))];exact n
 there:=fun b u q _=>⟨u,k b u q⟩
 tups:=fun b xs q=>by rw[q0c (q0n q hn)];exact q
 frzs:=fun b u xs q=>by rw[q0c (q0n q hn)];exact q
 tbls:=fun b ps q=>⟨#[],by rw[q0c (q0n q hn),q];simp⟩
theorem Un.write(mu:Mut (H x))(he:e=x\/H e=some (.own x))(k:∀b u,b≠e->h.get? b=some u->h'.get? b=some u)(heo:∃u,h'.get? e=some u):Un fs ex H (upd H x o) h h':=by
 have hx:∀b,H b=none->b≠x:=fun b n z=>by subst z;rw[n]at mu;exact mu
 have hb:∀b,H b=none->b≠e:=fun b n z=>by
  subst z;rcases he with r|r
  ·exact hx b n r
  ·rw[n]at r;cases r
 have hm:∀b u,H b=some u->¬Mut (some u)->b≠x:=fun b u q nm z=>by subst z;rw[q]at mu;exact nm mu
 refine⟨fun b u q n _ _=>k b u (hb b n) q,fun b u q n _ _=>⟨u.slots,k b u (hb b n) q⟩,fun b u q n _=>by rw[q0c (hx b n)];exact n,fun b u q _=>?_,
  fun b xs q=>by rw[q0c (hm b _ q fun z=>z)];exact q,fun b u xs q=>by rw[q0c (hm b _ q fun z=>z)];exact q,fun b ps q=>⟨#[],by rw[q0c (hm b _ q fun z=>z),q];simp⟩⟩
 by_cases hbe:b=e
 ·subst hbe;exact heo
 ·exact⟨u,k b u hbe q⟩
end
def trk(h:Heap)(H:Hp):List Addr:=(List.range h.objs.size).filter fun a=>(H a).isSome
def hidT(h:Heap)(H:Hp):Heap:=PySem.W.hideAll h (trk h H)
theorem q9g(h:Heap)(H:Hp):(hidT h H).objs.size=h.objs.size:=PySem.W.hideAll_size _ _
theorem x0k{o:Obj}(e:h.get? b=some o)(n:H b=none):(hidT h H).get? b=some o:=
 PySem.W.hideAll_get _ e fun hm=>by
  have q:(H b).isSome=true:=(w3u.mp hm).2;rw[n]at q;simp at q
theorem x2l{o:Obj}(e:(hidT h H).get? b=some o):h.get? b=some o/\H b=none:=by
 have e':h.get? b=some o:=PySem.W.of_hideAll (trk h H) e;refine⟨e',?_⟩;cases q:H b with
 |none=>rfl
 |some x=>
  have hm:b∈trk h H:=w3u.mpr ⟨w1x.mpr (Heap.lt_size e'),by simp[q]⟩;have z:(hidT h H).get? b=none:=PySem.W.hideAll_none (trk h H) hm;rw[z]at e;cases e
def allNews(g h:Heap)(L:Addr):List (Addr×Obj):=(List.range h.objs.size).filterMap fun a=>if a=L\/(g.get? a).isSome=true then none else(h.get? a).map fun o=>(a,o)
def rest(g h:Heap)(L d:Addr):List (Addr×Obj):=(allNews g h L).filter fun p=>decide (p.1≠d)
structure Mod(K:Fg)(mg:Str->Option Value)(base:Heap):Prop where
 kin:K.In base
 glob:base.Ns mainGlobals mg
 blt:∃mb,base.Ns builtinsNs mb/\∀x:Str,x≠"__name__"->mb x=bootBuiltins x
 nolimit:base.NoLimit
structure Cx where
 prog:Program
 w:World
 K:Fg
 mg:Str->Option Value
 base:Heap
 A:Around
 N:List Str
 s₀:Shared
 H₀:Hp
 env:Env
 outer:List Env
 stack:List Env
 ex:List Addr
 fn:Str->Bool
 calm:Bool
 pn:List (Addr×Obj)
 xe:Value->Shared->Prop
variable{X:Cx}
def frs(l:List Env):List Addr:=l.filterMap (·.frame)
noncomputable abbrev Cx.fs(X:Cx):List Addr:=frs X.outer
def Vis(sc:Scope)(x:Str):Prop:=sc.names.lookup x=some .local\/sc.names.lookup x=some .cell\/sc.names.lookup x=some .free
def Loc(sc:Scope)(x:Str):Prop:=sc.names.lookup x=some .local\/sc.names.lookup x=some .cell
def Look(env:Env)(h:Heap)(m:Str->Option Value)(x:Str)(u:Value):Prop:=
 (env.kindOf x=some .local/\m x=some u)\/((env.kindOf x=some .cell\/env.kindOf x=some .free)/\∃c,env.cells.lookup x=some c/\h.IsCell c (some u))
noncomputable abbrev markO(P:Addr)(q:Str):Obj:={cls:=.str q 0,data:=.fields #[.ref P]}
def TabOk(K:Fg)(H:Hp):Prop:=∀(a:Addr)(q:Str)(P:Addr),(a,markO P q)∈K->∃ps:Array Value,H P=some (.tbl ps)/\ps[0]?=some (.bool true)/\ps[1]?=some (.str q 0)
def noMark(K:Fg):Bool:=K.all fun p=>match p.2.cls with
 |.str _ _=>false
 |_=>true
theorem TabOk.vac(h:noMark K=true):TabOk K H:=fun a q P m=>by
 have:=w0o.mp h _ m;cases this
theorem TabOk.un{fs ex:List Addr}{h':Heap}(t:TabOk K H)(u:Un fs ex H H' h h'):TabOk K H':=fun a q P m=>by
 obtain⟨ps,e,p0,p1⟩:=t a q P m;obtain⟨more,e'⟩:=u.tbls P ps e;refine⟨_,e',?_,?_⟩
 ·rw[w1r (by obtain⟨z,_⟩:=w2a.mp p0;exact z)];exact p0
 ·rw[w1r (by obtain⟨z,_⟩:=w2a.mp p1;exact z)];exact p1
theorem TabOk.laid{D:Addr}{o:HO}(t:TabOk K H)(hn:H D=none):TabOk K (upd H D o):=fun a q P m=>by
 obtain⟨ps,e,p⟩:=t a q P m;exact⟨ps,by rw[q0c (q0n e hn)];exact e,p⟩
structure Cx.Ok(X:Cx):Prop where
 mod:Mod X.K X.mg X.base
 kind:X.env.scope.kind=.function
 glob:X.env.globals=mainGlobals
 blt:X.env.builtins=builtinsNs
 above:X.s₀.heap.objs.size<=X.env.locals
 inj:∀x y c,X.env.cells.lookup x=some c->X.env.cells.lookup y=some c->x=y
 has:∀x,(X.env.kindOf x=some .cell\/X.env.kindOf x=some .free)->∃c,X.env.cells.lookup x=some c
 cab:∀x c,X.fn x=true->X.env.cells.lookup x=some c->X.s₀.heap.objs.size<=c
 hd:X.calm=true->X.A.handled=none
 frames:X.A.frames=some X.stack
 stk:X.stack=X.outer\/(X.stack=X.env::X.outer/\X.env.frame=some X.env.locals)
 exf:∀b∈X.ex,b≠X.env.locals/\∀x c,X.env.cells.lookup x=some c->c≠b
 bs:∀b o,X.base.get? b=some o->X.s₀.heap.get? b=some o/\X.H₀ b=none
 bsz:X.base.objs.size<=X.s₀.heap.objs.size
 noex:∀b o,X.base.get? b=some o->b∉X.ex
 exfs:∀b∈X.ex,b∉X.fs
 funs:X.s₀.heap.FunFrames X.base X.outer
 frf:∀b∈X.fs,X.H₀ b=none
 tab:TabOk X.K X.H₀
structure Inv(X:Cx)(pins:List (Addr×Obj))(σ:List (Option V))(H:Hp)(s:Shared):Prop where
 ok:X.Ok
 os:s.os=X.s₀.os
 bare:AllBare s.gens
 base:Un X.fs X.ex X.H₀ H X.s₀.heap s.heap
 loc:∃m,s.heap.Ns X.env.locals m/\∀(i:Nat)(x:Str)(v:V),X.N[i]?=some x->σ[i]?=some (some v)->Vis X.env.scope x->∃u,RelV v u/\Look X.env s.heap m x u
 cell:∀x c,X.env.cells.lookup x=some c->∃v,s.heap.IsCell c v
 free:H X.env.locals=none
 freeC:∀x c,X.env.cells.lookup x=some c->H c=none
 pin:∀p∈X.pn++pins,s.heap.get? p.1=some p.2/\H p.1=none/\p.1≠X.env.locals/\p.1∉X.fs/\∀v,p.2.data≠.cell v
 hok:HOk X.prog X.w H s.heap
 len:σ.length=X.N.length
section
variable{σ:List (Option V)}
theorem Cx.Ok.nofr(ok:X.Ok){o:Obj}(e:X.base.get? b=some o):b∉X.fs:=fun hb=>by
 have:=(ok.funs.mem hb).1
 rw[e]at this;cases this
theorem Inv.bs(I:Inv X pins σ H s):∀b o,X.base.get? b=some o->s.heap.get? b=some o/\H b=none:=fun b o e=>
 ⟨I.base.keep b o (I.ok.bs b o e).1 (I.ok.bs b o e).2 (I.ok.nofr e) (I.ok.noex b o e),I.base.free b o (I.ok.bs b o e).1 (I.ok.bs b o e).2 (I.ok.noex b o e)⟩
theorem Inv.bk(I:Inv X pins σ H s):∀b o,X.base.get? b=some o->s.heap.get? b=some o:=fun b o e=>(I.bs b o e).1
theorem Inv.mod(I:Inv X pins σ H s):Mod X.K X.mg X.base:=I.ok.mod
theorem Inv.kIn(I:Inv X pins σ H s):X.K.In s.heap:=I.ok.mod.kin.keeps I.bk
theorem Inv.fr(I:Inv X pins σ H s):∃m,Fr X.base X.env.locals s.heap m:=
 let ⟨m,hn,_⟩:=I.loc
 ⟨m,hn,I.bk,w1c I.ok.bsz I.ok.above⟩
theorem Inv.lt(I:Inv X pins σ H s):X.env.locals<s.heap.objs.size:=let ⟨_,hn,_⟩:=I.loc;hn.lt
theorem Inv.sz(I:Inv X pins σ H s):X.s₀.heap.objs.size<=s.heap.objs.size:=w1c I.ok.above (w3v I.lt)
theorem Inv.nofs(I:Inv X pins σ H s)(h:s.heap.objs.size<=a):a∉X.fs:=fun hb=>by
 obtain⟨_,o,ho,_⟩:=I.ok.funs.mem hb
 exact absurd (w0t (Heap.lt_size ho) (w1c I.sz h)) (w2k _)
theorem Inv.cne(I:Inv X pins σ H s):∀x c,X.env.cells.lookup x=some c->c≠X.env.locals:=fun x c e z=>by
 obtain⟨v,o,ho,hd⟩:=I.cell x c e;obtain⟨m,⟨o',es,ep,ho',hd',_⟩,_⟩:=I.loc;rw[z,ho']at ho;cases ho;rw[hd']at hd;cases hd
theorem Inv.funs(I:Inv X pins σ H s):s.heap.FunFrames X.base X.outer:=by
 have all:∀(l:List Env),(∀b∈frs l,b∈X.fs)->X.s₀.heap.FunFrames X.base l->s.heap.FunFrames X.base l:=by
  intro l
  induction l with
  |nil=>intro _ _;trivial
  |cons env r ih=>
   intro hs hl;obtain⟨hk,⟨L,o,hf,hn,ho,hd⟩,hr⟩:=hl;have hL:L∈X.fs:=hs L (by unfold frs;rw[w3f,hf];exact w1d);obtain⟨sl,e⟩:=I.base.slot L o ho (I.ok.frf L hL) hL fun z=>I.ok.exfs L z hL
   exact⟨hk,⟨L,_,hf,hn,e,hd⟩,ih (fun b hb=>hs b (by unfold frs;rw[w3f,hf];exact w0k _ hb)) hr⟩
 exact all X.outer (fun _ hb=>hb) I.ok.funs
theorem Inv.stack(I:Inv X pins σ H s):s.heap.FunFrames X.base X.stack:=by
 rcases I.ok.stk with e|⟨e,hf⟩
 ·rw[e];exact I.funs
 ·rw[e];obtain⟨m,hn,_⟩:=I.loc;refine .cons (by rw[I.ok.kind];decide) hf hn ?_ I.funs
  exact Heap.get?_none_of_le (w1c I.ok.bsz I.ok.above)
theorem Inv.stkSub(I:Inv X pins σ H s):∀b∈frs X.stack,b∈X.env.locals::X.fs:=fun b hb=>by
 rcases I.ok.stk with e|⟨e,hf⟩
 ·rw[e]at hb;exact w0k _ hb
 ·rw[e]at hb;unfold frs at hb;rw[w3f,hf]at hb;exact hb
theorem Inv.stkFree(I:Inv X pins σ H s):∀b∈frs X.stack,H b=none:=fun b hb=>by
 rcases w0p.mp (I.stkSub b hb)with e|hb
 ·rw[e];exact I.free
 ·obtain⟨_,o,ho,_⟩:=I.ok.funs.mem hb
  exact I.base.free b o ho (I.ok.frf b hb) fun z=>I.ok.exfs b z hb
theorem Inv.step{g':Array GenState}{d':Drawn}{ch:List Addr}(I:Inv X pins σ H s)
  (hch:∀b∈ch,(b∈X.ex\/X.s₀.heap.objs.size<=b)/\b≠X.env.locals/\(∀x c,X.env.cells.lookup x=some c->c≠b)/\∀p∈X.pn++pins,p.1≠b)
  (keep:∀b o,b≠X.env.locals->b∉X.fs->b∉ch->s.heap.get? b=some o->H b=none->h'.get? b=some o)
  (slot:∀b o,b≠X.env.locals->b∈X.fs->b∉ch->s.heap.get? b=some o->H b=none->∃sl,h'.get? b=some {o with slots:=sl})(free:∀b o,b∉ch->s.heap.get? b=some o->H b=none->H' b=none)
  (there:∀b o,b∉ch->s.heap.get? b=some o->∃o',h'.get? b=some o')
  (tups:∀b xs,H b=some (.tup xs)->H' b=some (.tup xs))(frzs:∀b o u,H b=some (.frz o u)->H' b=some (.frz o u))(tbls:∀b ps,H b=some (.tbl ps)->∃more,H' b=some (.tbl (ps++more)))
  (ns:∀m,s.heap.Ns X.env.locals m->h'.Ns X.env.locals m)(hok:HOk X.prog X.w H' h')(hg:AllBare g'):
  Inv X pins σ H' {s with heap:=h',gens:=g',drawn:=d',toks:=t'}:=by
 have neL:∀b o,X.s₀.heap.get? b=some o->b≠X.env.locals:=fun b o e=>w0u (w0t (Heap.lt_size e) I.ok.above)
 have neC:∀b o,X.s₀.heap.get? b=some o->b∉X.ex->b∉ch:=fun b o e hx hb=>by
  rcases(hch b hb).1 with z|z
  ·exact hx z
  ·exact absurd (w0t (Heap.lt_size e) z) (w2k _)
 have cellK:∀x c,X.env.cells.lookup x=some c->∀v,s.heap.IsCell c v->h'.IsCell c v:=fun x c e v ⟨o,ho,hd⟩=>by
  have nch:c∉ch:=fun z=>(hch c z).2.2.1 x c e rfl
  by_cases hc:c∈X.fs
  ·obtain⟨sl,q⟩:=slot c o (I.cne x c e) hc nch ho (I.freeC x c e);exact⟨_,q,hd⟩
  ·exact⟨o,keep c o (I.cne x c e) hc nch ho (I.freeC x c e),hd⟩
 refine⟨I.ok,I.os,hg,⟨fun b o e n hb hx=>?_,fun b o e n hb hx=>?_,fun b o e n hx=>?_,fun b o e hx=>?_,fun b xs e=>tups b xs (I.base.tups b xs e),fun b o xs e=>frzs b o xs (I.base.frzs b o xs e),fun b ps e=>?_⟩,?_,fun x c e=>?_,?_,fun x c e=>?_,fun p hp=>?_,hok,I.len⟩
 ·exact keep b o (neL b o e) hb (neC b o e hx) (I.base.keep b o e n hb hx) (I.base.free b o e n hx)
 ·obtain⟨sl,e1⟩:=I.base.slot b o e n hb hx;obtain⟨sl',e2⟩:=slot b _ (neL b o e) hb (neC b o e hx) e1 (I.base.free b o e n hx);exact⟨sl',e2⟩
 ·obtain⟨o',e1⟩:=I.base.there b o e hx;exact free b o' (neC b o e hx) e1 (I.base.free b o e n hx)
 ·obtain⟨o',e1⟩:=I.base.there b o e hx;exact there b o' (neC b o e hx) e1
 ·obtain⟨m1,e1⟩:=I.base.tbls b ps e;obtain⟨m2,e2⟩:=tbls b _ e1;exact⟨m1++m2,by rw[e2,Array.append_assoc]⟩
 ·obtain⟨m,hn,hl⟩:=I.loc;refine⟨m,ns m hn,fun i x v e1 e2 e3=>?_⟩
  obtain⟨u,r,l⟩:=hl i x v e1 e2 e3;refine⟨u,r,?_⟩;rcases l with l|⟨k,c,e,z⟩
  ·exact .inl l
  ·exact .inr ⟨k,c,e,cellK x c e _ z⟩
 ·obtain⟨v,z⟩:=I.cell x c e;exact⟨v,cellK x c e v z⟩
 ·obtain⟨m,⟨o,_,_,ho,_⟩,_⟩:=I.loc;exact free _ o (fun z=>(hch _ z).2.1 rfl) ho I.free
 ·obtain⟨v,o,ho,hd⟩:=I.cell x c e;exact free c o (fun z=>(hch c z).2.2.1 x c e rfl) ho (I.freeC x c e)
 ·obtain⟨e,n,ne,nf,d⟩:=I.pin p hp;have nch:p.1∉ch:=fun z=>(hch p.1 z).2.2.2 p hp rfl
  exact⟨keep p.1 p.2 ne nf nch e n,free p.1 p.2 nch e n,ne,nf,d⟩
theorem Inv.un(I:Inv X pins σ H s)(u:Un X.fs [] H H' s.heap h')(hok:HOk X.prog X.w H' h'):Inv X pins σ H' {s with heap:=h',toks:=t'}:=by
 obtain⟨m,⟨o,es,ep,ho,r⟩,_⟩:=id I.loc;obtain⟨sl,hL⟩:=u.any ho I.free (by simp)
 exact I.step (g':=s.gens) (d':=s.drawn) (ch:=[]) (fun _ z=>nomatch z) (fun b o _ hb _ e n=>u.keep b o e n hb (by simp)) (fun b o _ hb _ e n=>u.slot b o e n hb (by simp)) (fun b o _ e n=>u.free b o e n (by simp)) (fun b o _ e=>u.there b o e (by simp)) u.tups u.frzs u.tbls (fun m' hm=>by
  obtain⟨o',es',ep',ho',r'⟩:=hm;rw[ho]at ho';cases ho';exact⟨_,es',ep',hL,r'⟩) hok I.bare
theorem Inv.call{g':Array GenState}{d':Drawn}(I:Inv X pins σ H s)(u:Un (frs X.stack) ch H H' s.heap h')(hok:HOk X.prog X.w H' h')(hg:AllBare g')
  (hch:∀b∈ch,(b∈X.ex\/X.s₀.heap.objs.size<=b)/\b≠X.env.locals/\(∀x c,X.env.cells.lookup x=some c->c≠b)/\∀p∈X.pn++pins,p.1≠b):
  Inv X pins σ H' {s with heap:=h',gens:=g',drawn:=d',toks:=t'}:=by
 obtain⟨m,⟨o,es,ep,ho,r⟩,_⟩:=id I.loc;obtain⟨sl,hL⟩:=u.any ho I.free fun z=>(hch _ z).2.1 rfl
 exact I.step (ch:=ch) hch (fun b o hL hb hc e n=>u.keep b o e n (fun z=>(w0p.mp (I.stkSub b z)).elim hL hb) hc) (fun b o _ _ hc e n=>u.any e n hc) (fun b o hc e n=>u.free b o e n hc) (fun b o hc e=>u.there b o e hc) u.tups u.frzs u.tbls (fun m' hm=>by
  obtain⟨o',es',ep',ho',r'⟩:=hm;rw[ho]at ho';cases ho';exact⟨_,es',ep',hL,r'⟩) hok hg
theorem Inv.turned{t':Nat}{it:Addr}(I:Inv X pins σ H s)(k:∀b o,b≠it->s.heap.get? b=some o->h'.get? b=some o)(hn:H it=none)(hL:it≠X.env.locals)
  (h1:it∈X.ex\/X.s₀.heap.objs.size<=it)(h2:∀x c,X.env.cells.lookup x=some c->c≠it)(h3:∀p∈X.pn++pins,p.1≠it):Inv X pins σ H {s with heap:=h',toks:=t'}:=by
 have nit:∀b u,H b=some u->b≠it:=fun b u e z=>by rw[z,hn]at e;cases e
 refine I.step (g':=s.gens) (d':=s.drawn) (ch:=[it]) (fun b hb=>?_) (fun b o _ _ hc e _=>k b o (fun z=>hc (by simp[z])) e) (fun b o _ _ hc e _=>⟨o.slots,k b o (fun z=>hc (by simp[z])) e⟩) (fun _ _ _ _ n=>n)
  (fun b o hc e=>⟨o,k b o (fun z=>hc (by simp[z])) e⟩) (fun _ _ e=>e) (fun _ _ _ e=>e) (fun b ps e=>⟨#[],by rw[e];simp⟩) (fun m hm=>?_) (fun b u e=>?_) I.bare
 ·have e:b=it:=by simpa using hb
  subst e;exact⟨h1,hL,h2,h3⟩
 ·obtain⟨o,es,ep,ho,r⟩:=hm;exact⟨o,es,ep,k _ o (Ne.symm hL) ho,r⟩
 ·refine(I.hok b u e).stay (fun c v hc q=>k c v ?_ q) (fun _ q=>q) fun _ _ _ q=>q
  rcases hc with z|z
  ·rw[z];exact nit b u e
  ·exact nit c _ z
theorem Inv.tok(I:Inv X pins σ H s)(t:Nat):Inv X pins σ H {s with toks:=t}:=I.un (h':=s.heap) (t':=t) Un.refl I.hok
theorem Inv.kept{t':Nat}(I:Inv X pins σ H s)(k:∀b u,s.heap.get? b=some u->h'.get? b=some u):Inv X pins σ H {s with heap:=h',toks:=t'}:=I.un (Un.kept k) (I.hok.kept k)
theorem Inv.laid{a:Addr}{o:HO}{t':Nat}(I:Inv X pins σ H s)(k:∀b u,s.heap.get? b=some u->h'.get? b=some u)(hp:s.heap.objs.size<=a)(new:ObjOk X.prog X.w (upd H a o) h' a o):
  Inv X pins σ (upd H a o) {s with heap:=h',toks:=t'}:=I.un (Un.laid k hp (I.hok.fresh hp)) (I.hok.laid k hp new)
theorem Inv.write{x e:Addr}{o:HO}{t':Nat}(I:Inv X pins σ H s)(mu:Mut (H x))(he:e=x\/H e=some (.own x))(k:∀b u,b≠e->s.heap.get? b=some u->h'.get? b=some u)(heo:∃u,h'.get? e=some u)
  (new:ObjOk X.prog X.w (upd H x o) h' x o):Inv X pins σ (upd H x o) {s with heap:=h',toks:=t'}:=I.un (Un.write mu he k heo) (I.hok.write mu he k heo new)
theorem Inv.weak{σ':List (Option V)}(I:Inv X pins σ H s)(hl:σ'.length=σ.length)(w:∀(i:Nat) v,σ'[i]?=some (some v)->σ[i]?=some (some v)):Inv X pins σ' H s:=
 ⟨I.ok,I.os,I.bare,I.base,let ⟨m,hn,hl'⟩:=I.loc;⟨m,hn,fun i x v e1 e2 e3=>hl' i x v e1 (w i v e2) e3⟩,I.cell,I.free,I.freeC,I.pin,I.hok,hl.trans I.len⟩
theorem Inv.pins_of{pins':List (Addr×Obj)}(I:Inv X pins σ H s)(h:∀p∈pins',s.heap.get? p.1=some p.2/\H p.1=none/\p.1≠X.env.locals/\p.1∉X.fs/\∀v,p.2.data≠.cell v):Inv X pins' σ H s:=
 ⟨I.ok,I.os,I.bare,I.base,I.loc,I.cell,I.free,I.freeC,fun p hp=>(w1a.mp hp).elim (fun z=>I.pin p (w2m _ z)) (h p),I.hok,I.len⟩
theorem x0l(hN:N.Nodup){j:Nat}(a:N[i]?=some x)(b:N[j]?=some x):i=j:=by
 obtain⟨h1,e1⟩:=w0b.mp a;obtain⟨h2,e2⟩:=w0b.mp b;exact(List.getElem_inj hN).mp (e1.trans e2.symm)
theorem x4x{M:Model}{Q:Unit->Shared->Prop}(I:Inv X pins σ H s)(hN:X.N.Nodup)(hi:X.N[i]?=some x)(hx:Loc X.env.scope x)(r:RelV v u)
  (h:∀s',Inv X pins (σ.set i (some v)) H s'->(∃a,Heap.SameBut a s.heap s'.heap/\(a=X.env.locals\/X.env.cells.lookup x=some a))->Q () s')(hf:X.fn x=true\/X.env.scope.names.lookup x=some .local:=by walk_at "2"):wpAny M A (storeName X.env x u) Q E s:=by
 obtain⟨m,hn,hl⟩:=id I.loc;have hcls:(X.env.scope.kind==.class||(X.env.scope.kind==.module&&X.env.locals != X.env.globals))=false:=by rw[I.ok.kind];rfl
 have hiσ:i<σ.length:=by rw[I.len];exact(w0b.mp hi).1
 have cne:=I.cne
 have tracked:∀{a:Addr}{h':Heap},(∃o,s.heap.get? a=some o/\H a=none)->Heap.SameBut a s.heap h'->HOk X.prog X.w H h':=fun {a h'} ha hs b ob e=>by
  obtain⟨_,_,hfree⟩:=ha;refine(I.hok b ob e).stay (fun c w' hc q=>(hs.2 c ?_).trans q) (fun _ q=>q) fun _ _ _ q=>q
  rintro rfl;rcases hc with rfl|hc
  ·rw[hfree]at e;cases e
  ·rw[hfree]at hc;cases hc
 rcases hx with hk|hk
 ·refine wpAny_storeName_local hk hn (fun h' hn' hs=>?_) hcls
  obtain⟨oL,_,_,hoL,_⟩:=id hn;refine h _ ⟨I.ok,I.os,I.bare,⟨fun b o e n hb hx=>?_,fun b o e n hb hx=>?_,I.base.free,fun b o e hx=>?_,I.base.tups,I.base.frzs,I.base.tbls⟩,⟨_,hn',fun j y v' e1 e2 e3=>?_⟩,fun y c e=>?_,I.free,I.freeC,fun p hp=>?_,tracked ⟨oL,hoL,I.free⟩ hs,by simpa using I.len⟩ ⟨_,hs,.inl rfl⟩
  ·exact(hs.2 b (w0u (w0t (Heap.lt_size e) I.ok.above))).trans (I.base.keep b o e n hb hx)
  ·obtain⟨sl,e1⟩:=I.base.slot b o e n hb hx;exact⟨sl,(hs.2 b (w0u (w0t (Heap.lt_size e) I.ok.above))).trans e1⟩
  ·obtain⟨o',e1⟩:=I.base.there b o e hx;exact⟨o',(hs.2 b (w0u (w0t (Heap.lt_size e) I.ok.above))).trans e1⟩
  ·by_cases hj:j=i
   ·subst hj;rw[hi]at e1;cases e1;rw[w0h hiσ]at e2;cases e2;exact⟨u,r,.inl ⟨hk,by simp⟩⟩
   ·rw[w0f (Ne.symm hj)]at e2;obtain⟨u',r',q⟩:=hl j y v' e1 e2 e3;refine⟨u',r',?_⟩;rcases q with⟨k,e⟩|⟨k,c,e,z⟩
    ·refine .inl ⟨k,?_⟩;have:y≠x:=fun e=>hj (x0l hN e1 (e ▸ hi))
     simp[this,e]
    ·exact .inr ⟨k,c,e,z.sameBut hs (cne y c e)⟩
  ·obtain⟨w',z⟩:=I.cell y c e;exact⟨w',z.sameBut hs (cne y c e)⟩
  ·obtain⟨e,n,ne,nf,d⟩:=I.pin p hp;exact⟨(hs.2 p.1 ne).trans e,n,ne,nf,d⟩
 ·have hfn:X.fn x=true:=by
   rcases hf with z|z
   ·exact z
   ·rw[z]at hk;cases hk
  obtain⟨c,hc⟩:=I.ok.has x (.inl hk);obtain⟨w',z⟩:=I.cell x c hc;refine wpAny_storeName_cell I.ok.kind hk hc z (fun h' hc' hs=>?_)
  obtain⟨oc,hoc,hocd⟩:=id z;refine h {s with heap:=h'} ⟨I.ok,I.os,I.bare,⟨fun b o e n hb hx=>?_,fun b o e n hb hx=>?_,I.base.free,fun b o e hx=>?_,I.base.tups,I.base.frzs,I.base.tbls⟩,⟨m,hn.sameBut hs (Ne.symm (cne x c hc)),fun j y v' e1 e2 e3=>?_⟩,fun y c' e=>?_,I.free,I.freeC,fun p hp=>?_,tracked ⟨oc,hoc,I.freeC x c hc⟩ hs,by simpa using I.len⟩ ⟨c,hs,.inr hc⟩
  ·exact(hs.2 b (w0u (w0t (Heap.lt_size e) (I.ok.cab x c hfn hc)))).trans (I.base.keep b o e n hb hx)
  ·obtain⟨sl,e1⟩:=I.base.slot b o e n hb hx;exact⟨sl,(hs.2 b (w0u (w0t (Heap.lt_size e) (I.ok.cab x c hfn hc)))).trans e1⟩
  ·obtain⟨o',e1⟩:=I.base.there b o e hx;exact⟨o',(hs.2 b (w0u (w0t (Heap.lt_size e) (I.ok.cab x c hfn hc)))).trans e1⟩
  ·by_cases hj:j=i
   ·subst hj;rw[hi]at e1;cases e1;rw[w0h hiσ]at e2;cases e2;exact⟨u,r,.inr ⟨.inl hk,c,hc,hc'⟩⟩
   ·rw[w0f (Ne.symm hj)]at e2;obtain⟨u',r',q⟩:=hl j y v' e1 e2 e3;refine⟨u',r',?_⟩;rcases q with q|⟨k,c',e,z'⟩
    ·exact .inl q
    ·refine .inr ⟨k,c',e,z'.sameBut hs ?_⟩;rintro rfl;exact hj (x0l hN e1 (I.ok.inj _ _ _ e hc ▸ hi))
  ·by_cases hcc:c'=c
   ·subst hcc;exact⟨_,hc'⟩
   ·obtain⟨w2,z2⟩:=I.cell y c' e;exact⟨w2,z2.sameBut hs hcc⟩
  ·obtain⟨e,n,ne,nf,d⟩:=I.pin p hp;refine⟨(hs.2 p.1 ?_).trans e,n,ne,nf,d⟩;intro q;rw[q,hoc]at e;have q':oc=p.2:=Option.some.inj e;exact d w' (by rw[<- q'];exact hocd)
theorem x0m{M:Model}{Q:Unit->Shared->Prop}(I:Inv X pins σ H s)(hN:X.N.Nodup)(hi:X.N[i]?=some x)(hx:Loc X.env.scope x)(r:RelV v u)
  (h:∀s',Inv X pins (σ.set i (some v)) H s'->Q () s')(hf:X.fn x=true\/X.env.scope.names.lookup x=some .local:=by walk_at "2"):wpAny M A (storeName X.env x u) Q E s:=
 x4x I hN hi hx r (fun s' I' _=>h s' I') hf
theorem Inv.call'{s':Shared}{ch:List Addr}(I:Inv X pins σ H s)(ho:s'.os=s.os)(u:Un (frs X.stack) ch H H' s.heap s'.heap)(hok:HOk X.prog X.w H' s'.heap)(hg:AllBare s'.gens)
  (hch:∀b∈ch,(b∈X.ex\/X.s₀.heap.objs.size<=b)/\b≠X.env.locals/\(∀x c,X.env.cells.lookup x=some c->c≠b)/\∀p∈X.pn++pins,p.1≠b):Inv X pins σ H' s':=by
 obtain⟨h',g',d',t',o'⟩:=s';have e:o'=s.os:=ho;subst e;exact I.call (g':=g') (t':=t') (d':=d') u hok hg hch
end
abbrev XK:=Value->Option Addr->Hp->Prop
noncomputable abbrev St:=List (Option V)
variable{σ:St}
abbrev VK:=V->Hp->Prop
abbrev TE:=St->Hp->VK->Prop
variable{ta te:TE}
abbrev TT:=St->Hp->(Bool->Hp->Prop)->Prop
abbrev TA:=St->Hp->(List V->Hp->Prop)->Prop
structure Ends where
 nx:St->Hp->Prop
 rt:VK
 bk:St->Hp->Prop:=fun _ _=>False
 ct:St->Hp->Prop:=fun _ _=>False
abbrev TS:=Ends->St->Hp->Prop
variable{tb:TS}
def EP(X:Cx)(pins:List (Addr×Obj))(σ:St)(Q:VK)(u:Value)(s':Shared):Prop:=∃v H',Inv X pins σ H' s'/\RelV v u/\Q v H'
def TP(X:Cx)(pins:List (Addr×Obj))(σ:St)(Q:Bool->Hp->Prop)(b:Bool)(s':Shared):Prop:=∃H',Inv X pins σ H' s'/\Q b H'
def AP(X:Cx)(pins:List (Addr×Obj))(σ:St)(Q:List V->Hp->Prop)(us:List Value)(s':Shared):Prop:=∃vs H',Inv X pins σ H' s'/\Vals vs us/\Q vs H'
def SP(X:Cx)(pins:List (Addr×Obj))(D:Ends)(f:Flow)(s':Shared):Prop:=
 match f with
 |.next=>∃σ' H',Inv X pins σ' H' s'/\D.nx σ' H'
 |.brk=>∃σ' H',Inv X pins σ' H' s'/\D.bk σ' H'
 |.cont=>∃σ' H',Inv X pins σ' H' s'/\D.ct σ' H'
 |.ret u=>∃v σ' H',Inv X pins σ' H' s'/\RelV v u/\D.rt v H'
def PE(X:Cx)(e:Expr)(t:TE):Prop:=
 ∀(pins:List (Addr×Obj))(s:Shared)(σ:St)(H:Hp)(Q:VK),Inv X pins σ H s->t σ H Q->wpAny (model X.prog X.w) X.A (eval e X.env) (EP X pins σ Q) X.xe s
def PT(X:Cx)(e:Expr)(t:TT):Prop:=
 ∀(pins:List (Addr×Obj))(s:Shared)(σ:St)(H:Hp)(Q:Bool->Hp->Prop),Inv X pins σ H s->t σ H Q->wpAny (model X.prog X.w) X.A (isTrue e X.env (eval e X.env)) (TP X pins σ Q) X.xe s
def PW(X:Cx)(e:Expr)(t:TT):Prop:=
 ∀(whole:Sem Value)(pins:List (Addr×Obj))(s:Shared)(σ:St)(H:Hp)(Q:Bool->Hp->Prop),Inv X pins σ H s->t σ H Q->wpAny (model X.prog X.w) X.A (isTrue e X.env whole) (TP X pins σ Q) X.xe s
theorem PW.pt{t:TT}(h:PW X e t):PT X e t:=h _
def PA(X:Cx)(es:List Expr)(t:TA):Prop:=
 ∀(pos:Pos)(pins:List (Addr×Obj))(s:Shared)(σ:St)(H:Hp)(Q:List V->Hp->Prop),Inv X pins σ H s->t σ H Q->wpAny (model X.prog X.w) X.A (spliced (backTo pos (starEach es X.env))) (AP X pins σ Q) X.xe s
def PS(X:Cx)(st:Stmt)(t:TS):Prop:=
 ∀(pins:List (Addr×Obj))(s:Shared)(σ:St)(H:Hp)(D:Ends),Inv X pins σ H s->t D σ H->wpAny (model X.prog X.w) X.A (exec st X.env) (SP X pins D) X.xe s
def PSs(X:Cx)(st:List Stmt)(t:TS):Prop:=
 ∀(pins:List (Addr×Obj))(s:Shared)(σ:St)(H:Hp)(D:Ends),Inv X pins σ H s->t D σ H->wpAny (model X.prog X.w) X.A (execs st X.env) (SP X pins D) X.xe s
theorem thn{α:Type}{t:Sem α}{Q Q':α->Shared->Prop}{M:Model}(h:wpAny M A t Q E s)(hQ:∀a s,Q a s->Q' a s):wpAny M A t Q' E s:=wpAny_mono h hQ fun _ _ x=>x
section
def tVar(i:Nat):TE:=fun σ H Q=>∃v,σ[i]?=some (some v)/\Q v H
def tC(v:V):TE:=fun _ H Q=>Q v H
theorem y46(hN:X.N[i]?=some x)(hv:Vis X.env.scope x)(hd:(x==("__debug__":Str))=false:=by decide)(hcd:(x==("__classdict__":Str))=false:=by decide):PE X (.Name x pos) (tVar i):=by
 intro pins s σ H Q I h;obtain⟨v,e,h⟩:=h;obtain⟨m,hn,hl⟩:=I.loc;obtain⟨u,r,l⟩:=hl i x v hN e hv;have fin:EP X pins σ Q u s:=⟨v,H,I,r,h⟩;rcases l with⟨hk,hm⟩|⟨hk,c,hc,hcell⟩
 ·exact wpAny_Name (wpAny_loadName_local I.ok.kind hk hn hm fin) hd
 ·rcases hk with hk|hk
  ·exact wpAny_Name (wpAny_loadName_cell I.ok.kind hk hc hcell fin) hd
  ·exact wpAny_Name (wpAny_loadName_free I.ok.kind hk hc hcell fin hcd) hd
theorem q4x{i j pos}:PE X (.Constant (.int i) j pos) (tC (.int i)):=fun _ _ _ H _ I h=>wpAny_Constant_int ⟨.int i,H,I.tok _,⟨_,rfl⟩,h⟩
theorem y0k{b j pos}:PE X (.Constant (.bool b) j pos) (tC (.bl b)):=fun _ _ _ H _ I h=>Constant_bool ⟨.bl b,H,I,rfl,h⟩
def Gl(X:Cx)(x:Str):Prop:=X.env.kindOf x=some .globalImplicit
theorem y01{Q:Value->Shared->Prop}(I:Inv X pins σ H s)(hg:Gl X x)(hm:X.mg x=some u)(h:Q u s)
  (hd:(x==("__debug__":Str))=false:=by decide):wpAny (model X.prog X.w) X.A (eval (.Name x pos) X.env) Q E s:=
 Calls.Name_function_global I.ok.kind hg (Calls.loadGlobal_global (by rw[I.ok.glob];exact I.mod.glob.keeps I.bk) hm h) hd
theorem q4y{Q:Value->Shared->Prop}(I:Inv X pins σ H s)(hg:Gl X x)(hm:X.mg x=none)(hv:bootBuiltins x=some u)(h:Q u s)
  (hn:x≠"__name__":=by decide)(hd:(x==("__debug__":Str))=false:=by decide):wpAny (model X.prog X.w) X.A (eval (.Name x pos) X.env) Q E s:=by
 obtain⟨mb,h1,h2⟩:=I.mod.blt;exact Calls.Name_function_global I.ok.kind hg (Calls.loadGlobal_builtin (by rw[I.ok.glob];exact I.mod.glob.keeps I.bk) hm (by rw[I.ok.blt];exact h1.keeps I.bk) ((h2 x hn).trans hv) h) hd
theorem y02{v:V}(hg:Gl X x)(hm:X.mg x=none)(hv:bootBuiltins x=some u)(r:RelV v u)(hn:x≠"__name__":=by decide)(hd:(x==("__debug__":Str))=false:=by decide):PE X (.Name x pos) (tC v):=
 fun _ _ _ H _ I h=>q4y I hg hm hv ⟨v,H,I,r,h⟩ hn hd
variable{a b:Expr}{tb:TE}
def PC(X:Cx)(op:CmpOp)(a b:Expr)(t:TE):Prop:=
 ∀(pins:List (Addr×Obj))(s:Shared)(σ:St)(H:Hp)(Q:VK),Inv X pins σ H s->t σ H Q ->
  wpAny (model X.prog X.w) X.A (eval a X.env) (fun v s₁=>wpAny (model X.prog X.w) X.A (eval b X.env) (fun u s₂=>wpAny (model X.prog X.w) X.A (compareOp op v u) (EP X pins σ Q) X.xe s₂) X.xe s₁) X.xe s
theorem nobehind(b:Expr)(h:op≠.In)(h2:op≠.NotIn):behindInMarks op b=false:=by
 have e1:(op==CmpOp.In)=false:=by cases op<;>first|rfl|exact absurd rfl h
 have e2:(op==CmpOp.NotIn)=false:=by cases op<;>first|rfl|exact absurd rfl h2
 cases b<;>simp[behindInMarks,e1,e2]
def tB(t:TE):TT:=fun σ H Q=>t σ H fun x H1=>∃c,x=.bl c/\Q c H1
theorem y47{t:TE}(h:PC X op a b t)(h1:behindInMarks op b=false:=by first|exact nobehind _ (by decide) (by decide)|rfl):PE X (.Compare a [op] [b] pos) t:=fun pins s σ H Q I hw=>wpAny_Compare1 (h pins s σ H Q I hw) h1
theorem y48{t:TE}(h:PC X op a b t)(h1:behindInMarks op b=false:=by first|exact nobehind _ (by decide) (by decide)|rfl):PT X (.Compare a [op] [b] pos) (tB t):=by
 intro pins s σ H Q I hw;refine wpAny_isTrue_Compare1 (thn (h pins s σ H _ I hw) fun v s1 h1=>thn h1 fun u s2 h2=>thn h2 fun c s3 ⟨x,H1,I1,r1,q1⟩=>?_) h1
 obtain⟨d,rfl,q⟩:=q1;cases r1;exact wpAny_truthy_bool ⟨H1,I1,q⟩
variable{tA tB':TT}{rest:List Expr}
def tAnd(t u:TT):TT:=fun σ H Q=>t σ H fun c H1=>if c=true then u σ H1 Q else Q false H1
def tOr(t u:TT):TT:=fun σ H Q=>t σ H fun c H1=>if c=true then Q true H1 else u σ H1 Q
def tNot(t:TT):TT:=fun σ H Q=>t σ H fun c H1=>Q (!c) H1
theorem y03(ha:PT X a tA):PW X (.BoolOp .And [a] pos) tA:=by
 intro wh pins s σ H Q I h;refine isTrue_and (thn (ha pins s σ H Q I h) fun c s1 e=>?_)
 cases c with
 |true=>exact isTrue_and_nil e
 |false=>exact e
theorem y49(ha:PT X a tA):PW X (.BoolOp .Or [a] pos) tA:=by
 intro wh pins s σ H Q I h;refine isTrue_or (thn (ha pins s σ H Q I h) fun c s1 e=>?_)
 cases c with
 |false=>exact isTrue_or_nil e
 |true=>exact e
theorem y5a(ha:PT X a tA)(hb:PW X (.BoolOp .And (b::rest) pos) tB'):PW X (.BoolOp .And (a::b::rest) pos) (tAnd tA tB'):=by
 intro wh pins s σ H Q I h;refine isTrue_and (thn (ha pins s σ H _ I h) fun c s1 ⟨H1,I1,q1⟩=>?_)
 cases c with
 |true=>exact hb wh pins s1 σ H1 Q I1 q1
 |false=>exact⟨H1,I1,q1⟩
theorem y89(ha:PT X a tA)(hb:PW X (.BoolOp .Or (b::rest) pos) tB'):PW X (.BoolOp .Or (a::b::rest) pos) (tOr tA tB'):=by
 intro wh pins s σ H Q I h;refine isTrue_or (thn (ha pins s σ H _ I h) fun c s1 ⟨H1,I1,q1⟩=>?_)
 cases c with
 |true=>exact⟨H1,I1,q1⟩
 |false=>exact hb wh pins s1 σ H1 Q I1 q1
theorem y5b(ha:PT X a tA):PT X (.UnaryOp .Not a pos) (tNot tA):=by
 intro pins s σ H Q I h;exact isTrue_not (ha pins s σ H (fun c H1=>Q (!c) H1) I h)
def tAndV(ta tb:TE):TE:=fun σ H Q=>ta σ H fun x H1=>∃c,x=.bl c/\if c=true then tb σ H1 Q else Q (.bl false) H1
def tNotV(ta:TE):TE:=fun σ H Q=>ta σ H fun x H1=>∃c,x=.bl c/\Q (.bl (!c)) H1
theorem y5c{op}{t:TE}(h:PE X a t):PE X (.BoolOp op [a] pos) t:=fun pins s σ H Q I hw=>BoolOp_one (h pins s σ H Q I hw)
theorem y5d(ha:PE X a ta)(hb:PE X (.BoolOp .And (b::rest) pos) tb):PE X (.BoolOp .And (a::b::rest) pos) (tAndV ta tb):=by
 intro pins s σ H Q I h;refine BoolOp_and (thn (ha pins s σ H _ I h) fun v s1 ⟨x,H1,I1,r1,q1⟩=>?_)
 obtain⟨c,rfl,q1⟩:=q1;cases r1;refine wpAny_truthy_bool ?_;cases c with
 |true=>exact hb pins s1 σ H1 Q I1 q1
 |false=>exact⟨.bl false,H1,I1,rfl,q1⟩
theorem y5e(ha:PE X a ta):PE X (.UnaryOp .Not a pos) (tNotV ta):=by
 intro pins s σ H Q I h;refine UnaryOp_ (thn (ha pins s σ H _ I h) fun v s1 ⟨x,H1,I1,r1,q1⟩=>?_)
 obtain⟨c,rfl,q1⟩:=q1;cases r1;exact not_of (wpAny_truthy_bool ⟨.bl (!c),H1,I1,rfl,q1⟩)
end
def SqL(K:Fg)(H:Hp)(a:Addr)(xs:List V):Prop:=
 Rd H a (.lst xs) \/
  ∃(o:Obj)(its:Array Value)(n:Nat),K.lookup a=some o/\o.cls=.type "list" /\ o.dict=none/\o.data=.seq its n/\its.size<=sizeLine/\Vals xs its.toList
def SqT(K:Fg)(H:Hp)(a:Addr)(xs:List V):Prop:=
 Rd H a (.tup xs) \/
  ∃(o:Obj)(its:Array Value)(n:Nat),K.lookup a=some o/\o.cls=.type "tuple" /\ o.dict=none/\o.data=.seq its n/\its.size<=sizeLine/\Vals xs its.toList
def absV:Value->Option V
 |.none=>some .non
 |.bool b=>some (.bl b)
 |.int i _=>some (.int i)
 |.str x _=>some (.str x)
 |.bytes b _=>some (.byt b)
 |.float b _=>some (.flt b)
 |.ref a=>some (.ref a)
 |.type n=>some (.ty n)
 |_=>none
theorem RelV.abs{x:V}(r:RelV x u):absV u=some x:=by
 cases x with
 |non=>cases r;rfl
 |bl _=>cases r;rfl
 |int _=>obtain⟨t,rfl⟩:=r;rfl
 |str _=>obtain⟨t,rfl⟩:=r;rfl
 |byt _=>obtain⟨t,rfl⟩:=r;rfl
 |flt _=>obtain⟨t,rfl⟩:=r;rfl
 |ref _=>cases r;rfl
 |ty _=>cases r;rfl
theorem RelV.inj{x y:V}(r:RelV x u)(q:RelV y u):x=y:=Option.some.inj (r.abs.symm.trans q.abs)
theorem Vals.inj:∀{xs ys:List V}{us:List Value},Vals xs us->Vals ys us->xs=ys
 |_,_,_,.nil,.nil=>rfl
 |_,_,_,.cons r t,.cons r' t'=>by rw[r.inj r',Vals.inj t t']
section
variable{ys:List V}
theorem SqL.of(h:H a=some (.lst xs)):SqL K H a xs:=.inl (.inl h)
theorem SqT.of(h:H a=some (.tup xs)):SqT K H a xs:=.inl (.inl h)
theorem Inv.list(I:Inv X pins σ H s)(h:SqL X.K H a xs):∃its:List Value,Vals xs its/\PlainL s.heap a its.toArray/\xs.length<=sizeLine:=by
 rcases h with h|⟨o,its,n,hk,hc,hd,hs,hz,r⟩
 ·obtain⟨z,its,n,r,e⟩:=h.ok I.hok;exact⟨its,r,⟨_,n,e,rfl,rfl,rfl⟩,z⟩
 ·refine⟨its.toList,r,⟨o,n,I.kIn a o hk,hc,hd,by simpa using hs⟩,?_⟩;have e:=r.length;simp only[w2r]at e;omega
theorem Inv.tuple(I:Inv X pins σ H s)(h:SqT X.K H a xs):∃its:List Value,Vals xs its/\IsTup s.heap a its.toArray/\xs.length<=sizeLine:=by
 rcases h with h|⟨o,its,n,hk,hc,_,hs,hz,r⟩
 ·obtain⟨z,its,r,p,_⟩:=h.ok I.hok;exact⟨its,r,p,z⟩
 ·refine⟨its.toList,r,⟨o,I.kIn a o hk,hc,n,by simpa using hs⟩,?_⟩;have e:=r.length;simp only[w2r]at e;omega
theorem Inv.list_inj(I:Inv X pins σ H s)(h:SqL X.K H a xs)(h':SqL X.K H a ys):xs=ys:=by
 obtain⟨its,r,⟨o,n,e,_,_,d⟩,_⟩:=I.list h;obtain⟨its',r',⟨o',n',e',_,_,d'⟩,_⟩:=I.list h';rw[e]at e';cases e';rw[d]at d';injection d' with d1 _
 have:its=its':=by simpa using congrArg Array.toList d1
 subst this;exact r.inj r'
theorem Inv.tuple_inj(I:Inv X pins σ H s)(h:SqT X.K H a xs)(h':SqT X.K H a ys):xs=ys:=by
 obtain⟨its,r,⟨o,e,_,n,d⟩,_⟩:=I.tuple h;obtain⟨its',r',⟨o',e',_,n',d'⟩,_⟩:=I.tuple h';rw[e]at e';cases e';rw[d]at d';injection d' with d1 _
 have:its=its':=by simpa using congrArg Array.toList d1
 subst this;exact r.inj r'
end
section
variable{st:Stmt}{rest:List Stmt}{t u:TS}
def tNext:TS:=fun D σ H=>D.nx σ H
def tSeq(t u:TS):TS:=fun D σ H=>t {D with nx:=u D} σ H
theorem y04:PSs X [] tNext:=fun _ _ σ H _ I h=>wpAny_execs_nil ⟨σ,H,I,h⟩
theorem q5y(h1:PS X st t)(h2:PSs X rest u):PSs X (st::rest) (tSeq t u):=by
 intro pins s σ H D I h;refine wpAny_execs_cons (thn (h1 pins s σ H {D with nx:=u D} I h) fun f s1 q=>?_)
 cases f with
 |next=>
  obtain⟨σ',H',I',q⟩:=q;exact h2 pins s1 σ' H' D I' q
 |ret v=>exact q
 |brk=>exact q
 |cont=>exact q
theorem x2m(h1:PS X st t):PSs X [st] t:=by
 intro pins s σ H D I h;refine wpAny_execs_cons (thn (h1 pins s σ H D I h) fun f s1 q=>?_)
 cases f with
 |next=>exact wpAny_execs_nil q
 |ret v=>exact q
 |brk=>exact q
 |cont=>exact q
theorem Inv.quiet(I:Inv X pins σ H s):interactive X.env=false:=by simp[interactive,I.ok.kind]
def tDrop(te:TE):TS:=fun D σ H=>te σ H fun _ H1=>D.nx σ H1
theorem q6x(he:PE X e te)(hs:swapsWith e none pos.line X.env=pure false:=by rfl):PS X (.Expr e pos) (tDrop te):=by
 intro pins s σ H D I h;exact wpAny_Expr_any (thn (he pins s σ H _ I h) fun v s1 ⟨x,H1,I1,r1,q1⟩=>⟨σ,H1,I1,q1⟩) I.quiet hs
def tRet(te:TE):TS:=fun D σ H=>te σ H D.rt
theorem x0n(he:PE X e te):PS X (.Return (some e) pos) (tRet te):=by
 intro pins s σ H D I h;exact wpAny_Return_some (thn (he pins s σ H _ I h) fun v s1 ⟨x,H1,I1,r1,q1⟩=>⟨x,σ,H1,I1,r1,q1⟩)
def tIfS(c:TT)(t u:TS):TS:=fun D σ H=>c σ H fun b H1=>if b=true then t D σ H1 else u D σ H1
theorem y9a{c:Expr}{a b:List Stmt}{tc:TT}(hc:PT X c tc)(ha:PSs X a t)(hb:PSs X b u):PS X (.If c a b pos) (tIfS tc t u):=by
 intro pins s σ H D I h;refine wpAny_If (thn (hc pins s σ H _ I h) fun d s1 ⟨H1,I1,q1⟩=>?_)
 cases d with
 |true=>exact ha pins s1 σ H1 D I1 q1
 |false=>exact hb pins s1 σ H1 D I1 q1
end
abbrev TG:=V->St->Hp->(St->Hp->Prop)->Prop
abbrev TGs:=List V->St->Hp->(St->Hp->Prop)->Prop
def PG(X:Cx)(target:Expr)(t:TG):Prop:=
 ∀(pins:List (Addr×Obj))(s:Shared)(σ:St)(H:Hp)(v:V)(u:Value)(Q:St->Hp->Prop),Inv X pins σ H s->RelV v u->t v σ H Q ->
  wpAny (model X.prog X.w) X.A (assign target X.env u) (fun _ s'=>∃σ' H',Inv X pins σ' H' s'/\Q σ' H') X.xe s
def PGs(X:Cx)(ts:List Expr)(t:TGs):Prop:=
 ∀(pins:List (Addr×Obj))(s:Shared)(σ:St)(H:Hp)(vs:List V)(us:List Value)(Q:St->Hp->Prop),Inv X pins σ H s->Vals vs us->t vs σ H Q ->
  wpAny (model X.prog X.w) X.A (assignInOrder ((assignEach ts X.env).map (·.2)) us) (fun _ s'=>∃σ' H',Inv X pins σ' H' s'/\Q σ' H') X.xe s
abbrev TSet:=V->V->V->Hp->(Hp->Prop)->Prop
def PSet(X:Cx)(t:TSet):Prop:=
 ∀(pins:List (Addr×Obj))(s:Shared)(σ:St)(H:Hp)(o i v:V)(ov iv u:Value)(Q:Hp->Prop),Inv X pins σ H s->RelV o ov->RelV i iv->RelV v u->t o i v H Q ->
  wpAny (model X.prog X.w) X.A (setItem ov iv u) (fun _ s'=>∃H',Inv X pins σ H' s'/\Q H') X.xe s
def gName(i:Nat):TG:=fun v σ H Q=>Q (σ.set i (some v)) H
theorem y05(hN:X.N.Nodup)(hi:X.N[i]?=some x)(hx:Loc X.env.scope x)(hf:X.fn x=true\/X.env.scope.names.lookup x=some .local:=by walk_at "2"):PG X (.Name x pos) (gName i):=by
 intro pins s σ H v u Q I r h;exact wpAny_assign_Name (x0m I hN hi hx r (fun s' I'=>⟨_,H,I',h⟩) hf)
def gNil:TGs:=fun vs σ H Q=>vs=[]/\Q σ H
def gCons(t:TG)(u:TGs):TGs:=fun vs σ H Q=>∃v r,vs=v::r/\t v σ H fun σ' H'=>u r σ' H' Q
theorem q81:PGs X [] gNil:=by
 intro pins s σ H vs us Q I r h;obtain⟨e,h⟩:=h;subst e;cases r;exact assignInOrder_nil ⟨σ,H,I,h⟩
theorem q34{t:TG}{u:TGs}(h1:PG X e t)(h2:PGs X es u)
  (hs:(assignEach (e::es) X.env).map (·.2)=assign e X.env::(assignEach es X.env).map (·.2):=by rfl):PGs X (e::es) (gCons t u):=by
 intro pins s σ H vs us Q I r h;obtain⟨v,vr,e1,h⟩:=h;subst e1;cases r with
 |cons r rr=>
  rw[hs];refine assignInOrder_cons (thn (h1 pins s σ H _ _ _ I r h) fun _ s1 ⟨σ1,H1,I1,q1⟩=>?_)
  exact h2 pins s1 σ1 H1 _ _ Q I1 rr q1
def gTup(K:Fg)(n:Nat)(t:TGs):TG:=fun v σ H Q=>∃a xs,v=.ref a/\SqT K H a xs/\xs.length=n/\t xs σ H Q
theorem x0o{t:TGs}{n:Nat}(hc:X.calm=true)(h:PGs X es t)
  (hn:(assignEach es X.env).length=n:=by rfl)(hst:(assignEach es X.env).findIdx? (·.1)=none:=by rfl):PG X (.Tuple es k pos) (gTup X.K n t):=by
 intro pins s σ H v u Q I r hw;obtain⟨a,xs,e1,hq,hl,hw⟩:=hw;subst e1;cases r;obtain⟨its,rv,ht,hz⟩:=I.tuple hq;refine assign_Tuple_tuple (I.ok.hd hc) ht (by simp[hn,<- hl,rv.length]) hst fun h' hx=>?_
 have I1:Inv X pins σ H {s with heap:=h'}:=I.kept (t':=s.toks) fun b o e=>hx b o (w0u (Heap.lt_size e)) e
 exact h pins _ σ H xs _ Q I1 (by simpa using rv) hw
def gSub(to ti:TE)(t:TSet):TG:=fun v σ H Q=>to σ H fun o H1=>ti σ H1 fun i H2=>t o i v H2 fun H3=>Q σ H3
theorem x4y{o i:Expr}{to ti:TE}{t:TSet}(ho:PE X o to)(hi:PE X i ti)(hs:PSet X t)
  (ha:∀v,assign (.Subscript o i pos) X.env v=(do
   let ov <- holding [v] (eval o X.env)
   let iv <- holding [v,ov] (eval i X.env)
   standAt pos
   holding [v,ov,iv] (setItem ov iv v)
   release [v,ov,iv] []):=by intro _;rfl):PG X (.Subscript o i pos) (gSub to ti t):=by
 intro pins s σ H v u Q I r h;rw[ha];refine wpAny_bind (wpAny_holding (thn (ho pins s σ H _ I h) fun ov s1 ⟨x,H1,I1,r1,q1⟩=>?_))
 refine wpAny_bind (wpAny_holding (thn (hi pins s1 σ H1 _ I1 q1) fun iv s2 ⟨y,H2,I2,r2,q2⟩=>?_))
 refine wpAny_bind (wpAny_standAt (wpAny_bind (wpAny_holding (thn (hs pins s2 σ H2 x y v ov iv u _ I2 r1 r2 r q2) fun _ s3 ⟨H3,I3,q3⟩=>?_))))
 exact wpAny_release ⟨σ,H3,I3,q3⟩
def tAsg(te:TE)(g:TG):TS:=fun D σ H=>te σ H fun x H1=>g x σ H1 D.nx
theorem x0p{g:TG}(he:PE X e te)(hg:PG X tg g)(hs:swapsWithSole [tg] e pos.line X.env=pure false:=by rfl)(hw:swappedStores [tg] e X.env=pure none:=by rfl)
  (h1:(assignEach [tg] X.env).map (·.2)=[assign tg X.env]:=by rfl):PS X (.Assign [tg] e pos) (tAsg te g):=by
 intro pins s σ H D I h;refine wpAny_Assign_stores (thn (he pins s σ H _ I h) fun v s1 ⟨x,H1,I1,r1,q1⟩=>?_) hs hw
 rw[h1];exact thn (hg pins s1 σ H1 x v _ I1 r1 q1) fun _ s2 q=>q
theorem y5f{pos':Pos}(hN:X.N.Nodup)(hi:X.N[i]?=some x)(hx:Loc X.env.scope x)(he:PE X e te)(hs:swapsWith e (some (.Name x pos')) pos.line X.env=pure false:=by rfl)(hf:X.fn x=true\/X.env.scope.names.lookup x=some .local:=by walk_at "2"):
  PS X (.Assign [.Name x pos'] e pos) (tAsg te (gName i)):=by
 intro pins s σ H D I h;refine wpAny_Assign_Name (thn (he pins s σ H _ I h) fun v s1 ⟨y,H1,I1,r1,q1⟩=>?_) hs
 exact x0m I1 hN hi hx r1 (fun s2 I2=>⟨_,H1,I2,q1⟩) hf
structure It where
 go:Nat->Hp->Prop
 yld:Nat->Hp->V->Hp->Prop
 stop:Nat->Hp->Prop
def FpOk(X:Cx)(pins:List (Addr×Obj))(H:Hp)(b:Addr):Prop:=
 H b=none/\b≠X.env.locals/\b∉X.fs/\(b∈X.ex\/X.s₀.heap.objs.size<=b)/\(∀x c,X.env.cells.lookup x=some c->c≠b)/\∀p∈X.pn++pins,p.1≠b
theorem Inv.fpOk(I:Inv X pins σ H s)(hb:s.heap.objs.size<=b)(hn:H' b=none):FpOk X pins H' b:=by
 refine⟨hn,w3b (w0t I.lt hb),I.nofs hb,.inr (w1c I.sz hb),fun x c e z=>?_,fun p hp z=>?_⟩
 ·obtain⟨v,q⟩:=I.cell x c e;exact absurd (w0t q.lt (by rw[z];exact hb)) (w2k _)
 ·exact absurd (w0t (Heap.lt_size (I.pin p hp).1) (by rw[z];exact hb)) (w2k _)
structure Turn(P:Program)(w:World)(K:Fg)(tg:Expr)(J:It)(fp:List Addr)(it:Addr)(tn:Nat->Heap->Prop):Prop where
 mem:it∈fp
 obj:∀i h,tn i h->∀b∈fp,∃o,h.get? b=some o/\∀v,o.data≠.cell v
 keep:∀i h h',tn i h->(∀b∈fp,∀o,h.get? b=some o->h'.get? b=some o)->tn i h'
 item:∀(X:Cx),X.prog=P->X.w=w->X.K=K->X.calm=true->∀(i:Nat)(pins:List (Addr×Obj))(s:Shared)(σ:St)(H:Hp)(E:Value->Shared->Prop),Inv X pins σ H s->(∀b∈fp,FpOk X pins H b)->tn i s.heap->J.go i H ->
  wpAny (model P w) X.A (pyNext (.ref it)) (fun r s1=>∃u,r=some u /\
   wpAny (model P w) X.A (letOwnedTupleGo tg (.ref it) u) (fun _ s2=>∃x H',Inv X pins σ H' s2/\RelV x u/\J.yld i H x H'/\tn (i+1) s2.heap/\∀b∈fp,H' b=none) E s1) E s
 done:∀(X:Cx),X.prog=P->X.w=w->X.K=K->X.calm=true->∀(i:Nat)(pins:List (Addr×Obj))(s:Shared)(σ:St)(H:Hp)(E:Value->Shared->Prop),Inv X pins σ H s->(∀b∈fp,FpOk X pins H b)->tn i s.heap->J.stop i H ->
  wpAny (model P w) X.A (pyNext (.ref it)) (fun r s1=>r=none/\Inv X pins σ H s1) E s
 self:∀(A:Around)(i:Nat)(s:Shared)(Q:Value->Shared->Prop)(E:Value->Shared->Prop),tn i s.heap->Q (.ref it) s->wpAny (model P w) A (pyIter (.ref it)) Q E s
abbrev TI:=St->Hp->(It->Hp->Prop)->Prop
def PIE(X:Cx)(pins:List (Addr×Obj))(σ:St)(tg:Expr)(R:It->Hp->Prop)(itv:Value)(s2:Shared):Prop:=
 ∃(it:Addr)(fp:List Addr)(tn:Nat->Heap->Prop)(J:It)(H':Hp),itv=.ref it/\Inv X pins σ H' s2/\Turn X.prog X.w X.K tg J fp it tn/\tn 0 s2.heap/\(∀b∈fp,FpOk X pins H' b)/\R J H'
def PI(X:Cx)(tg iter:Expr)(wi:TI):Prop:=
 ∀(pins:List (Addr×Obj))(s:Shared)(σ:St)(H:Hp)(R:It->Hp->Prop),Inv X pins σ H s->wi σ H R ->
  wpAny (model X.prog X.w) X.A (eval iter X.env) (fun v s1=>wpAny (model X.prog X.w) X.A (pyIter v) (PIE X pins σ tg R) X.xe s1) X.xe s
theorem x0f{M : Model}{E : Value -> Shared -> Prop}{s : Shared}{it : Addr}{o : Obj}{n : String}{vs : Array Value}{Q : Unit -> Shared -> Prop}(ho : s.heap.get? it = some o)(hc : o.cls = .type n)(hd : o.data = .fields vs)
    (hn : ["enumerate", "zip", "dict_itemiterator", "dict_reverseitemiterator", "odict_iterator", "itertools.zip_longest", "itertools.pairwise"].contains n = false)(hQ : Q () s) : wpAny M A (letOwnedTupleGo tg (.ref it) u) Q E s := by
  unfold letOwnedTupleGo
  cases tg <;> first
    | exact wpAny_pure hQ
    | (cases u <;> first
        | exact wpAny_pure hQ
        | (refine wpAny_bind (wpAny_load ho ?_)
           rw [hc, hd];show wpAny M A (if (["enumerate", "zip", "dict_itemiterator", "dict_reverseitemiterator", "odict_iterator", "itertools.zip_longest", "itertools.pairwise"].contains n && vs[0]? == some (rawInt _)) = true then _ else _) Q E s;rw [if_neg (by intro h; rw [hn, w1t] at h; cases h)];exact wpAny_pure hQ))
def Itl(K:Fg)(a:Addr):It:=
 ⟨fun i H=>∃xs x,SqL K H a xs/\xs[i]?=some x,fun i H x H'=>H'=H/\∀xs,SqL K H a xs->xs[i]?=some x,fun i H=>∃xs,SqL K H a xs/\xs.length<=i⟩
def Itt(K:Fg)(a:Addr):It:=
 ⟨fun i H=>∃xs x,SqT K H a xs/\xs[i]?=some x,fun i H x H'=>H'=H/\∀xs,SqT K H a xs->xs[i]?=some x,fun i H=>∃xs,SqT K H a xs/\xs.length<=i⟩
def Itr(lo:Int)(n:Nat):It:=⟨fun i _=>i<n,fun i H x H'=>H'=H/\x=.int (lo+i),fun i _=>n<=i⟩
theorem x4z(a it:Addr):Turn P w K tg (Itl K a) [it] it (fun i h=>h.IsListIter it a i) where
 mem:=by simp
 obj:=fun i h st b hb=>by
  have e:b=it:=by simpa using hb
  subst e;obtain⟨o,e,c,d⟩:=st;exact⟨o,e,fun v z=>by rw[d]at z;cases z⟩
 keep:=fun i h h' st k=>st.at fun o e=>k it (by simp) o e
 item:=by
  intro X hP hw hK hc i pins s σ H E I hf st hg;subst hP hw hK;obtain⟨xs,x,hq,hx⟩:=hg;obtain⟨its,rv,p,hz⟩:=I.list hq;obtain⟨u,hu,ru⟩:=rv.get hx;obtain⟨f0,f1,f2,f3,f4,f5⟩:=hf it (by simp);refine wpAny_pyNext_list_item st p.isList (x:=u) (by simpa using hu) fun h' st' sb=>?_
  have I1:Inv X pins σ H {s with heap:=h'}:=I.turned (t':=s.toks) (fun b o hb e=>(sb.2 b hb).trans e) f0 f1 f3 f4 f5
  obtain⟨o,e,c,d⟩:=id st';exact⟨u,rfl,x0f (s:={s with heap:=h'}) e c d (by decide) ⟨x,H,I1,ru,⟨rfl,fun ys hy=>by rw[I.list_inj hy hq];exact hx⟩,st',fun b hb=>(hf b hb).1⟩⟩
 done:=by
  intro X hP hw hK hc i pins s σ H E I hf st hg;subst hP hw hK;obtain⟨xs,hq,hx⟩:=hg;obtain⟨its,rv,p,hz⟩:=I.list hq;obtain⟨f0,f1,f2,f3,f4,f5⟩:=hf it (by simp);have hl:=rv.length;exact wpAny_pyNext_list_end (I.ok.hd hc) st p.isList (by simp;omega) fun h' eb=>⟨rfl,I.turned (t':=s.toks) (fun b o hb e=>eb b o hb e) f0 f1 f3 f4 f5⟩
 self:=fun _ _ _ _ _ st h=>wpAny_pyIter_listiter st h
theorem x3q(a it:Addr):Turn P w K tg (Itt K a) [it] it (fun i h=>h.IsTupleIter it a i) where
 mem:=by simp
 obj:=fun i h st b hb=>by
  have e:b=it:=by simpa using hb
  subst e;obtain⟨o,e,c,d⟩:=st;exact⟨o,e,fun v z=>by rw[d]at z;cases z⟩
 keep:=fun i h h' st k=>st.at fun o e=>k it (by simp) o e
 item:=by
  intro X hP hw hK hc i pins s σ H E I hf st hg;subst hP hw hK;obtain⟨xs,x,hq,hx⟩:=hg;obtain⟨its,rv,p,hz⟩:=I.tuple hq;obtain⟨u,hu,ru⟩:=rv.get hx;obtain⟨f0,f1,f2,f3,f4,f5⟩:=hf it (by simp);refine wpAny_pyNext_tuple_item st (show s.heap.IsTuple a its.toArray from p) (x:=u) (by simpa using hu) fun h' st' sb=>?_
  have I1:Inv X pins σ H {s with heap:=h'}:=I.turned (t':=s.toks) (fun b o hb e=>(sb.2 b hb).trans e) f0 f1 f3 f4 f5
  obtain⟨o,e,c,d⟩:=id st';exact⟨u,rfl,x0f (s:={s with heap:=h'}) e c d (by decide) ⟨x,H,I1,ru,⟨rfl,fun ys hy=>by rw[I.tuple_inj hy hq];exact hx⟩,st',fun b hb=>(hf b hb).1⟩⟩
 done:=by
  intro X hP hw hK hc i pins s σ H E I hf st hg;subst hP hw hK;obtain⟨xs,hq,hx⟩:=hg;obtain⟨its,rv,p,hz⟩:=I.tuple hq;obtain⟨f0,f1,f2,f3,f4,f5⟩:=hf it (by simp);have hl:=rv.length;exact wpAny_pyNext_tuple_end (I.ok.hd hc) st (show s.heap.IsTuple a its.toArray from p) (by simp;omega) fun h' eb=>⟨rfl,I.turned (t':=s.toks) (fun b o hb e=>eb b o hb e) f0 f1 f3 f4 f5⟩
 self:=fun _ _ _ _ _ st h=>wpAny_pyIter_tupleiter st h
theorem x3r(it:Addr)(lo:Int)(n:Nat):Turn P w K tg (Itr lo n) [it] it (fun i h=>IsRangeIter h it (lo+(i:Nat)*1) ((n:Int)-(i:Nat)) 1) where
 mem:=by simp
 obj:=fun i h st b hb=>by
  have e:b=it:=by simpa using hb
  subst e
  exact⟨_,st,fun v z=>by
   have z':Data.fields _=Data.cell v:=z;cases z'⟩
 keep:=fun i h h' st k=>k it (by simp) _ st
 item:=by
  intro X hP hw hK hc i pins s σ H E I hf st hg;subst hP hw hK;obtain⟨f0,f1,f2,f3,f4,f5⟩:=hf it (by simp);have W:=Walks.range (prog:=X.prog) (w:=X.w) (I.ok.hd hc) it lo 1 n;refine W.item i s _ _ hg st fun v h' tk hv st' kk=>?_
  obtain⟨t,rfl⟩:=hv;have I1:Inv X pins σ H {s with heap:=h',toks:=tk}:=I.turned (fun b o hb e=>kk b o (by simpa using hb) e) f0 f1 f3 f4 f5
  refine⟨_,rfl,x0f (s:={s with heap:=h',toks:=tk}) (n:="range_iterator") st' rfl rfl (by decide) ⟨.int (lo+i),H,I1,⟨t,?_⟩,⟨rfl,rfl⟩,st',fun b hb=>(hf b hb).1⟩⟩
  rw[Int.mul_one]
 done:=by
  intro X hP hw hK hc i pins s σ H E I hf st hg;subst hP hw hK;obtain⟨f0,f1,f2,f3,f4,f5⟩:=hf it (by simp);exact wpAny_pyNext_range_end (I.ok.hd hc) st (by have:n<=i:=hg;omega) fun h' eb=>⟨rfl,I.turned (t':=s.toks) (fun b o hb e=>eb b o hb e) f0 f1 f3 f4 f5⟩
 self:=fun _ _ _ _ _ st h=>wpAny_pyIter_rangeiter st h
theorem x7m{R:It->Hp->Prop}{lo hi:Int}{t u v:Tok}{tk:Nat}(I:Inv X pins σ H s)(h1:-(2^62)<=lo)(h2:lo<2^62)(h3:-(2^62)<=hi)(h4:hi<2^62)
  (q:R (Itr lo (hi-lo).toNat) H):wpAny (model X.prog X.w) X.A (pyIter (.ref s.heap.objs.size)) (PIE X pins σ tg R) E {s with heap:=s.heap.push {cls:=.type "range", data:=.fields #[.int lo t,.int hi u,.int 1 v]},toks:=tk}:=by
 refine wpAny_pyIter_range (IsRange.new ..) (small_one h1 h2 h3 h4) ?_;have I1:Inv X pins σ H {s with heap:=s.heap.push {cls:=.type "range", data:=.fields #[.int lo t,.int hi u,.int 1 v]},toks:=tk}:=I.kept fun b o e=>Heap.get?_push_of_some _ e
 refine⟨(s.heap.push {cls:=.type "range", data:=.fields #[.int lo t,.int hi u,.int 1 v]}).objs.size,[(s.heap.push {cls:=.type "range", data:=.fields #[.int lo t,.int hi u,.int 1 v]}).objs.size],_,_,H,rfl,
  I1.kept (t':=tk) fun b o e=>Heap.get?_push_of_some _ e,x3r _ lo (hi-lo).toNat,?_,fun b hb=>?_,q⟩
 ·have e1:lo+((0:Nat):Int)*1=lo:=by simp
  have e2:(((hi-lo).toNat:Nat):Int)-((0:Nat):Int)=Builtin.Range.rangeSize lo hi 1:=by rw[rangeSize_one];split<;>omega
  show IsRangeIter _ _ (lo+((0:Nat):Int)*1) ((((hi-lo).toNat:Nat):Int)-((0:Nat):Int)) 1;rw[e1,e2];exact Heap.get?_push_size _ rfl
 ·have e:b=(s.heap.push {cls:=.type "range", data:=.fields #[.int lo t,.int hi u,.int 1 v]}).objs.size:=by simpa using hb
  subst e;exact I1.fpOk (w0g _) (I1.hok.fresh (w0g _))
def iRng1(ta:TA):TI:=fun σ H R=>ta σ H fun vs H1=>∃j:Int,vs=[.int j]/\-(2^62)<=j/\j<2^62/\R (Itr 0 j.toNat) H1
theorem x40{a:Expr}{ta:TA}(hg:Gl X "range")(hm:X.mg "range"=none)(ha:PA X [a] ta)(hs:starEach [a] X.env=[(false,eval a X.env)]:=by rfl):PI X tg (.Call (.Name "range" p) [a] [] pos) (iRng1 ta):=by
 intro pins s σ H R I h;refine Call_ (q4y I hg hm boot_range (PyProof.Rows.callWith_type1 (thn (ha pos pins s σ H _ I h) fun us s1 ⟨vs,H1,I1,r1,q1⟩=>?_) hs rfl))
 obtain⟨j,e,q1,q2,q⟩:=q1;subst e;cases r1 with
 |cons r rr=>
  cases rr;obtain⟨t,rfl⟩:=r;exact call_range_1 (x7m I1 (by omega) (by omega) q1 q2 (by simpa using q))
def tFor(wi:TI)(g:TG)(tb:TS):TS:=fun D σ H=>wi σ H fun J H1=>∃W:Nat->Nat->St->Hp->Prop,(∃m,W 0 m σ H1)/\∀i m σ H,W i m σ H ->
 (J.stop i H/\D.nx σ H)\/(J.go i H/\∃N:St->Hp->Prop,(∀σ' H',N σ' H'->∃m',m'<m/\W (i+1) m' σ' H')/\∀x H',J.yld i H x H'->g x σ H' fun σ2 H2=>tb {D with nx:=N,ct:=N,bk:=D.nx} σ2 H2)
def pinsAt(fp:List Addr)(h:Heap):List (Addr×Obj):=fp.filterMap fun b=>(h.get? b).map fun o=>(b,o)
theorem q2l{o:Obj}(hb:b∈fp)(e:h.get? b=some o):(b,o)∈pinsAt fp h:=w2t.mpr ⟨b,hb,by rw[e];rfl⟩
theorem x41{p:Addr×Obj}(hp:p∈pinsAt fp h):p.1∈fp/\h.get? p.1=some p.2:=by
 obtain⟨b,hb,e⟩:=w2t.mp hp;cases q:h.get? b with
 |none=>rw[q]at e;cases e
 |some o=>
  rw[q]at e;have e':(b,o)=p:=Option.some.inj e;subst e';exact⟨hb,q⟩
theorem Inv.pinned(I:Inv X pins σ H s)(hf:∀b∈fp,FpOk X pins H b)(ho:∀b∈fp,∃o,s.heap.get? b=some o/\∀v,o.data≠.cell v):Inv X (pins++pinsAt fp s.heap) σ H s:=
 I.pins_of fun p hp=>(w1a.mp hp).elim (fun z=>I.pin p (w0i _ z)) fun z=>by
  obtain⟨hb,e⟩:=x41 z;obtain⟨f0,f1,f2,_⟩:=hf p.1 hb;obtain⟨o,e',d⟩:=ho p.1 hb;rw[e]at e';cases e';exact⟨e,f0,f1,f2,d⟩
theorem Inv.unpinned{pl:List (Addr×Obj)}(I:Inv X (pins++pl) σ H s):Inv X pins σ H s:=I.pins_of fun p hp=>I.pin p (w0i _ (w2m _ hp))
theorem x0q{iter:Expr}{body:List Stmt}{wi:TI}{g:TG}(hp:PassesOwn (model X.prog X.w) X.A X.env X.xe)(hc:X.calm=true)(hi:PI X tg iter wi)(hg:PG X tg g)(hb:PSs X body tb)
  (hs:∀x,foldedSetIterable iter X.env x=pure x:=by intro _;rfl):PS X (.For tg iter body [] pos) (tFor wi g tb):=by
 intro pins s σ H D I h;refine wpAny_For (thn (hi pins s σ H _ I h) fun v s1 h1=>thn h1 fun itv s2 h2=>?_) hs
 obtain⟨it,fp,tn,J,H2,e,I2,T,st2,f2,W,⟨m0,w0⟩,turn⟩:=h2;subst e;have stat:∀{H':Hp},(∀b∈fp,H' b=none)->∀b∈fp,FpOk X pins H' b:=fun hn b hb=>⟨hn b hb,(f2 b hb).2⟩
 refine codeAny_forLoop_any (fun n s'=>∃i σ' H',Inv X pins σ' H' s'/\tn i s'.heap/\(∀b∈fp,H' b=none)/\W i n σ' H') ?_ m0 ⟨0,σ,H2,I2,st2,fun b hb=>(f2 b hb).1,w0⟩
 rintro n s3 ⟨i,σ3,H3,I3,st3,fr3,w3⟩;rcases turn i n σ3 H3 w3 with⟨stop,qn⟩|⟨go,N,hN,step⟩
 ·refine wpAny_passesOwn hp (thn (T.done X rfl rfl rfl hc i pins s3 σ3 H3 X.xe I3 (stat fr3) st3 stop) fun r s4 ⟨hr,I4⟩=>?_)
  subst hr;exact wpAny_execs_nil ⟨σ3,H3,I4,qn⟩
 ·refine wpAny_passesOwn hp (thn (T.item X rfl rfl rfl hc i pins s3 σ3 H3 X.xe I3 (stat fr3) st3 go) fun r s4 ⟨u,hr,h4⟩=>?_)
  subst hr;refine wpAny_passesOwn hp (thn h4 fun _ s5 ⟨x,H5,I5,r5,y5,st5,fr5⟩=>?_)
  have I5':=I5.pinned (stat fr5) (T.obj _ _ st5);refine wpAny_passesOwn hp (thn (hg _ s5 σ3 H5 x u _ I5' r5 (step x H5 y5)) fun _ s6 ⟨σ6,H6,I6,q6⟩=>?_)
  refine wpAny_passesOwn hp (thn (hb _ s6 σ6 H6 _ I6 q6) fun f s7 q7=>?_)
  have again:∀{σ7:St}{H7:Hp},Inv X (pins++pinsAt fp s5.heap) σ7 H7 s7->N σ7 H7->∃m,m<n/\∃i σ' H',Inv X pins σ' H' s7/\tn i s7.heap/\(∀b∈fp,H' b=none)/\W i m σ' H':=fun {σ7 H7} I7 n7=>by
   obtain⟨m',hm,w7⟩:=hN σ7 H7 n7;refine⟨m',hm,i+1,σ7,H7,I7.unpinned,T.keep _ _ _ st5 fun b hb o e=>(I7.pin (b,o) (w0i _ (w0i _ (q2l hb e)))).1,fun b hb=>?_,w7⟩
   obtain⟨o,e,d⟩:=T.obj _ _ st5 b hb;exact(I7.pin (b,o) (w0i _ (w0i _ (q2l hb e)))).2.1
  cases f with
  |next=>obtain⟨σ7,H7,I7,n7⟩:=q7;exact again I7 n7
  |cont=>obtain⟨σ7,H7,I7,n7⟩:=q7;exact again I7 n7
  |brk=>obtain⟨σ7,H7,I7,q7⟩:=q7;exact⟨σ7,H7,I7.unpinned,q7⟩
  |ret v=>obtain⟨x7,σ7,H7,I7,r7,q7⟩:=q7;exact⟨x7,σ7,H7,I7.unpinned,r7,q7⟩
theorem x7n{g:TG}{D:Ends}(Pv:Nat->St->Hp->Prop)(h0:Pv 0 σ H)(hl:∀i σ H,i<=xs.length->Pv i σ H->SqL K H a xs)
  (hs:∀i x σ H,xs[i]?=some x->Pv i σ H->g x σ H fun σ2 H2=>tb {D with nx:=Pv (i+1),ct:=Pv (i+1),bk:=D.nx} σ2 H2)(hd:∀σ H,Pv xs.length σ H->D.nx σ H):
  ∃W:Nat->Nat->St->Hp->Prop,(∃m,W 0 m σ H)/\∀i m σ H,W i m σ H ->
   ((Itl K a).stop i H/\D.nx σ H)\/((Itl K a).go i H/\∃N:St->Hp->Prop,(∀σ' H',N σ' H'->∃m',m'<m/\W (i+1) m' σ' H')/\∀x H',(Itl K a).yld i H x H'->g x σ H' fun σ2 H2=>tb {D with nx:=N,ct:=N,bk:=D.nx} σ2 H2):=by
 refine⟨fun i m σ H=>m=xs.length-i/\i<=xs.length/\Pv i σ H,⟨xs.length,by simp,w1b _,h0⟩,?_⟩
 rintro i m σ H ⟨rfl,hi,p⟩;have q:=hl i σ H hi p
 by_cases hlt:i<xs.length
 ·refine .inr ⟨⟨xs,xs[i],q,by simp[hlt]⟩,Pv (i+1),fun σ' H' p'=>⟨xs.length-(i+1),by omega,rfl,hlt,p'⟩,fun x H' y=>?_⟩
  obtain⟨e,y⟩:=y;subst e;exact hs i x σ _ (y xs q) p
 ·have e:i=xs.length:=by omega
  subst e;exact .inl ⟨⟨xs,q,w0g _⟩,hd σ H p⟩
theorem y06{g:TG}{D:Ends}(Pv:Nat->St->Hp->Prop)(h0:Pv 0 σ H)(hl:∀i σ H,i<=xs.length->Pv i σ H->SqT K H a xs)
  (hs:∀i x σ H,xs[i]?=some x->Pv i σ H->g x σ H fun σ2 H2=>tb {D with nx:=Pv (i+1),ct:=Pv (i+1),bk:=D.nx} σ2 H2)(hd:∀σ H,Pv xs.length σ H->D.nx σ H):
  ∃W:Nat->Nat->St->Hp->Prop,(∃m,W 0 m σ H)/\∀i m σ H,W i m σ H ->
   ((Itt K a).stop i H/\D.nx σ H)\/((Itt K a).go i H/\∃N:St->Hp->Prop,(∀σ' H',N σ' H'->∃m',m'<m/\W (i+1) m' σ' H')/\∀x H',(Itt K a).yld i H x H'->g x σ H' fun σ2 H2=>tb {D with nx:=N,ct:=N,bk:=D.nx} σ2 H2):=by
 refine⟨fun i m σ H=>m=xs.length-i/\i<=xs.length/\Pv i σ H,⟨xs.length,by simp,w1b _,h0⟩,?_⟩
 rintro i m σ H ⟨rfl,hi,p⟩;have q:=hl i σ H hi p
 by_cases hlt:i<xs.length
 ·refine .inr ⟨⟨xs,xs[i],q,by simp[hlt]⟩,Pv (i+1),fun σ' H' p'=>⟨xs.length-(i+1),by omega,rfl,hlt,p'⟩,fun x H' y=>?_⟩
  obtain⟨e,y⟩:=y;subst e;exact hs i x σ _ (y xs q) p
 ·have e:i=xs.length:=by omega
  subst e;exact .inl ⟨⟨xs,q,w0g _⟩,hd σ H p⟩
theorem x42{lo:Int}{n:Nat}{g:TG}{D:Ends}(Pv:Nat->St->Hp->Prop)(h0:Pv 0 σ H)
  (hs:∀i σ H,i<n->Pv i σ H->g (.int (lo+i)) σ H fun σ2 H2=>tb {D with nx:=Pv (i+1),ct:=Pv (i+1),bk:=D.nx} σ2 H2)(hd:∀σ H,Pv n σ H->D.nx σ H):
  ∃W:Nat->Nat->St->Hp->Prop,(∃m,W 0 m σ H)/\∀i m σ H,W i m σ H ->
   ((Itr lo n).stop i H/\D.nx σ H)\/((Itr lo n).go i H/\∃N:St->Hp->Prop,(∀σ' H',N σ' H'->∃m',m'<m/\W (i+1) m' σ' H')/\∀x H',(Itr lo n).yld i H x H'->g x σ H' fun σ2 H2=>tb {D with nx:=N,ct:=N,bk:=D.nx} σ2 H2):=by
 refine⟨fun i m σ H=>m=n-i/\i<=n/\Pv i σ H,⟨n,by simp,w1b _,h0⟩,?_⟩
 rintro i m σ H ⟨rfl,hi,p⟩
 by_cases hlt:i<n
 ·refine .inr ⟨hlt,Pv (i+1),fun σ' H' p'=>⟨n-(i+1),by omega,rfl,hlt,p'⟩,fun x H' y=>?_⟩
  obtain⟨e,y⟩:=y;subst e y;exact hs i σ _ hlt p
 ·have e:i=n:=by omega
  subst e;exact .inl ⟨w0g _,hd σ H p⟩
abbrev R2:=V->V->Hp->VK->Prop
variable{r:R2}
def OpR(X:Cx)(f:Value->Value->Sem Value)(r:R2):Prop:=
 ∀(pins:List (Addr×Obj))(s:Shared)(σ:St)(H:Hp)(x y:V)(v u:Value)(Q:VK),Inv X pins σ H s->RelV x v->RelV y u->r x y H Q ->
  wpAny (model X.prog X.w) X.A (f v u) (EP X pins σ Q) X.xe s
def UnR(X:Cx)(f:Value->Sem Value)(r:V->Hp->VK->Prop):Prop:=
 ∀(pins:List (Addr×Obj))(s:Shared)(σ:St)(H:Hp)(x:V)(v:Value)(Q:VK),Inv X pins σ H s->RelV x v->r x H Q ->
  wpAny (model X.prog X.w) X.A (f v) (EP X pins σ Q) X.xe s
def CallR(X:Cx)(f:Value)(r:List V->Hp->VK->Prop):Prop:=
 ∀(pins:List (Addr×Obj))(s:Shared)(σ:St)(H:Hp)(xs:List V)(us:List Value)(Q:VK),Inv X pins σ H s->Vals xs us->r xs H Q ->
  wpAny (model X.prog X.w) X.A (call f us) (EP X pins σ Q) X.xe s
def TruR(X:Cx)(r:V->Hp->(Bool->Hp->Prop)->Prop):Prop:=
 ∀(pins:List (Addr×Obj))(s:Shared)(σ:St)(H:Hp)(x:V)(v:Value)(Q:Bool->Hp->Prop),Inv X pins σ H s->RelV x v->r x H Q ->
  wpAny (model X.prog X.w) X.A (truthy v) (TP X pins σ Q) X.xe s
def tOp(r:R2)(ta tb:TE):TE:=fun σ H Q=>ta σ H fun x H1=>tb σ H1 fun y H2=>r x y H2 Q
def tUn(r:V->Hp->VK->Prop)(ta:TE):TE:=fun σ H Q=>ta σ H fun x H1=>r x H1 Q
def rI(C:Int->Int->Prop)(g:Int->Int->V):R2:=fun x y H Q=>∃i j,x=.int i/\y=.int j/\C i j/\Q (g i j) H
def rI0(g:Int->Int->V):R2:=fun x y H Q=>∃i j,x=.int i/\y=.int j/\Q (g i j) H
def rU(g:Int->V):V->Hp->VK->Prop:=fun x H Q=>∃i,x=.int i/\Q (g i) H
section
variable{a b c:Expr}{tb tc:TE}
theorem binT(ha:PE X a ta)(hb:PE X b tb){R:V->V->Hp->Prop}(I:Inv X pins σ H s)
  (h:ta σ H fun x H1=>tb σ H1 fun y H2=>R x y H2){Q:Value->Shared->Prop}
  (hf:∀v u s2 x y H2,Inv X pins σ H2 s2->RelV x v->RelV y u->R x y H2->wpAny (model X.prog X.w) X.A (f v u) Q X.xe s2):
  wpAny (model X.prog X.w) X.A (eval a X.env) (fun v s₁=>wpAny (model X.prog X.w) X.A (eval b X.env) (fun u s₂=>wpAny (model X.prog X.w) X.A (f v u) Q X.xe s₂) X.xe s₁) X.xe s:=by
 refine thn (ha pins s σ H _ I h) fun v s1 ⟨x,H1,I1,r1,q1⟩=>?_
 refine thn (hb pins s1 σ H1 _ I1 q1) fun u s2 ⟨y,H2,I2,r2,q2⟩=>?_
 exact hf v u s2 x y H2 I2 r1 r2 q2
theorem y0l{op:Operator}(ho:OpR X (binaryOp op) r)(ha:PE X a ta)(hb:PE X b tb):PE X (.BinOp a op b pos) (tOp r ta tb):=by
 intro pins s σ H Q I h;exact wpAny_BinOp (binT ha hb I h fun v u s2 x y H2 I2 rx ry q=>ho pins s2 σ H2 x y v u Q I2 rx ry q)
theorem y9b{op:UnaryOp}{r:V->Hp->VK->Prop}(ho:UnR X (unaryOp op) r)(ha:PE X a ta):PE X (.UnaryOp op a pos) (tUn r ta):=by
 intro pins s σ H Q I h;exact UnaryOp_ (thn (ha pins s σ H _ I h) fun v s1 ⟨x,H1,I1,r1,q1⟩=>ho pins s1 σ H1 x v Q I1 r1 q1)
theorem opI{C:Int->Int->Prop}{g:Int->Int->Int}
  (rule:∀(i j:Int)(t u:Tok)(s:Shared)(Q:Value->Shared->Prop)(E:Value->Shared->Prop),C i j->Q (.int (g i j) s.toks) {s with toks:=s.toks+1}->wpAny (model X.prog X.w) X.A (f (.int i t) (.int j u)) Q E s):
  OpR X f (rI C fun i j=>.int (g i j)):=by
 intro pins s σ H x y v u Q I rx ry h;obtain⟨i,j,rfl,rfl,hc,q⟩:=h;obtain⟨t,rfl⟩:=rx;obtain⟨t',rfl⟩:=ry;exact rule i j t t' s _ _ hc ⟨.int (g i j),H,I.tok _,⟨_,rfl⟩,q⟩
theorem opI0{g:Int->Int->Int}
  (rule:∀(i j:Int)(t u:Tok)(s:Shared)(Q:Value->Shared->Prop)(E:Value->Shared->Prop),Q (.int (g i j) s.toks) {s with toks:=s.toks+1}->wpAny (model X.prog X.w) X.A (f (.int i t) (.int j u)) Q E s):
  OpR X f (rI0 fun i j=>.int (g i j)):=by
 intro pins s σ H x y v u Q I rx ry h;obtain⟨i,j,rfl,rfl,q⟩:=h;obtain⟨t,rfl⟩:=rx;obtain⟨t',rfl⟩:=ry;exact rule i j t t' s _ _ ⟨.int (g i j),H,I.tok _,⟨_,rfl⟩,q⟩
theorem opB0{g:Int->Int->Bool}
  (rule:∀(i j:Int)(t u:Tok)(s:Shared)(Q:Value->Shared->Prop)(E:Value->Shared->Prop),Q (.bool (g i j)) s->wpAny (model X.prog X.w) X.A (f (.int i t) (.int j u)) Q E s):
  OpR X f (rI0 fun i j=>.bl (g i j)):=by
 intro pins s σ H x y v u Q I rx ry h;obtain⟨i,j,rfl,rfl,q⟩:=h;obtain⟨t,rfl⟩:=rx;obtain⟨t',rfl⟩:=ry;exact rule i j t t' s _ _ ⟨.bl (g i j),H,I,rfl,q⟩
def CDiv(i j:Int):Prop:=0<j/\j<1073741824
def CPow(i j:Int):Prop:=0<=j/\j<=1000000/\i.natAbs<2^64
def CMul(i j:Int):Prop:=(-(2^64)<i/\i<2^64)\/(-(2^64)<j/\j<2^64)
theorem CMul.ok{i j:Int}(h:CMul i j):IntMulOk i j:=by
 rcases h with⟨h1,h2⟩|⟨h1,h2⟩
 ·exact .of_left (intBits_le_64 h1 h2)
 ·exact .of_right (intBits_le_64 h1 h2)
theorem op_add:OpR X (binaryOp .Add) (rI0 fun i j=>.int (i+j)):=opI0 fun _ _ _ _ _ _ _ q=>add_int q
theorem y5g:OpR X (binaryOp .Sub) (rI0 fun i j=>.int (i-j)):=opI0 fun _ _ _ _ _ _ _ q=>sub_int q
theorem y5h:OpR X (binaryOp .Mult) (rI CMul fun i j=>.int (i*j)):=opI fun _ _ _ _ _ _ _ hc q=>mul_int q hc.ok
theorem y07:OpR X (binaryOp .FloorDiv) (rI CDiv fun i j=>.int (i / j)):=opI fun i j _ _ _ _ _ hc q=>by
 have h1:(0:Int)<j:=hc.1;have h2:j<1073741824:=hc.2;exact floordiv_int (by omega) (by rw[Int.fdiv_eq_ediv_of_nonneg i (by omega)];exact q) (.inl (PyProof.noPylong_small (by omega)))
theorem y5i:OpR X (binaryOp .Mod) (rI (fun _ j=>0<j) fun i j=>.int (i%j)):=opI fun i j _ _ _ _ _ hc q=>by
 have h1:(0:Int)<j:=hc;exact mod_int' (by omega) (by rw[Int.fmod_eq_emod_of_nonneg i (by omega)];exact q)
theorem y5j:OpR X (binaryOp .Pow) (rI CPow fun i j=>.int (i^j.toNat)):=opI fun _ _ _ _ _ _ _ hc q=>pow_int_small hc.1 hc.2.1 hc.2.2 q
theorem unI{f:Value->Sem Value}{g:Int->Int}
  (rule:∀(i:Int)(t:Tok)(s:Shared)(Q:Value->Shared->Prop)(E:Value->Shared->Prop),Q (.int (g i) s.toks) {s with toks:=s.toks+1}->wpAny (model X.prog X.w) X.A (f (.int i t)) Q E s):
  UnR X f (rU fun i=>.int (g i)):=by
 intro pins s σ H x v Q I rx h;obtain⟨i,rfl,q⟩:=h;obtain⟨t,rfl⟩:=rx;exact rule i t s _ _ ⟨.int (g i),H,I.tok _,⟨_,rfl⟩,q⟩
theorem y5k:UnR X (unaryOp .USub) (rU fun i=>.int (-i)):=unI fun _ _ _ _ _ q=>neg_int q
end
section
variable{a b c:Expr}{tb tc:TE}
theorem y5l{Q:VK}{k k':Bool}(I:Inv X pins σ H s)(q:Q (.bl k) H)(e:k=k'):EP X pins σ Q (.bool k') s:=by
 subst e;exact⟨.bl k,H,I,rfl,q⟩
theorem x3s:OpR X (compareOp .Lt) (rI0 fun i j=>.bl (decide (i<j))):=opB0 fun _ _ _ _ _ _ _ q=>lt_int q
theorem y0m:OpR X (compareOp .LtE) (rI0 fun i j=>.bl (decide (i<=j))):=opB0 fun _ _ _ _ _ _ _ q=>le_int q
theorem OpR.or{r':R2}(h:OpR X f r)(h':OpR X f r'):OpR X f (fun x y H Q=>r x y H Q\/r' x y H Q):=by
 intro pins s σ H x y v u Q I rx ry q;rcases q with q|q
 ·exact h pins s σ H x y v u Q I rx ry q
 ·exact h' pins s σ H x y v u Q I rx ry q
theorem nomark(b:Expr)(h:op≠.In:=by decide)(h2:op≠.NotIn:=by decide):behindInMarks op b=false:=by
 have e1:(op==CmpOp.In)=false:=by cases op<;>first|rfl|exact absurd rfl h
 have e2:(op==CmpOp.NotIn)=false:=by cases op<;>first|rfl|exact absurd rfl h2
 cases b<;>simp[behindInMarks,e1,e2]
theorem y08(ho:OpR X (compareOp op) r)(ha:PE X a ta)(hb:PE X b tb)(hm:behindInMarks op b=false):PE X (.Compare a [op] [b] pos) (tOp r ta tb):=by
 intro pins s σ H Q I h;exact wpAny_Compare1 (binT ha hb I h fun v u s2 x y H2 I2 rx ry q=>ho pins s2 σ H2 x y v u Q I2 rx ry q) hm
def tTest(t:TE):TT:=fun σ H Q=>t σ H fun x H'=>∃k,x=.bl k/\Q k H'
theorem y09(ho:OpR X (compareOp op) r)(ha:PE X a ta)(hb:PE X b tb)(hm:behindInMarks op b=false):PT X (.Compare a [op] [b] pos) (tTest (tOp r ta tb)):=by
 intro pins s σ H Q I h
 refine wpAny_isTrue_Compare1 (thn (ha pins s σ H _ I h) fun v s1 ⟨x,H1,I1,r1,q1⟩=>thn (hb pins s1 σ H1 _ I1 q1) fun u s2 ⟨y,H2,I2,r2,q2⟩=>
  thn (ho pins s2 σ H2 x y v u _ I2 r1 r2 q2) fun c s3 ⟨z,H3,I3,r3,k,e,q3⟩=>?_) hm
 subst e;cases r3;exact wpAny_truthy_bool ⟨H3,I3,q3⟩
def tChain(r r':R2)(ta tb tc:TE):TE:=fun σ H Q=>ta σ H fun x H1=>tb σ H1 fun y H2=>r x y H2 fun z H3=>∃k,z=.bl k /\
 (if k=true then tc σ H3 fun w' H4=>r' y w' H4 Q else Q (.bl false) H3)
theorem x7o{op':CmpOp}{r':R2}(ho:OpR X (compareOp op) r)(ho':OpR X (compareOp op') r')(ha:PE X a ta)(hb:PE X b tb)(hc:PE X c tc)
  (hm:lastMarks [op,op'] [b,c]=false:=by with_unfolding_all rfl):PT X (.Compare a [op,op'] [b,c] pos) (tTest (tChain r r' ta tb tc)):=by
 intro pins s σ H Q I h
 refine isTrue_chain (thn (ha pins s σ H _ I h) fun v s1 ⟨x,H1,I1,r1,q1⟩=>test_link (thn (hb pins s1 σ H1 _ I1 q1) fun u s2 ⟨y,H2,I2,r2,q2⟩=>
  thn (ho pins s2 σ H2 x y v u _ I2 r1 r2 q2) fun d s3 ⟨z,H3,I3,r3,k,e,q3⟩=>?_)) hm
 subst e;cases r3;refine wpAny_truthy_bool ?_;cases k with
 |false=>
  obtain⟨k',e',q'⟩:=q3;cases e';exact ite_ff ⟨H3,I3,q'⟩
 |true=>
  refine ite_tt (test_last (thn (hc pins s3 σ H3 _ I3 q3) fun w' s4 ⟨z',H4,I4,r4,q4⟩=>thn (ho' pins s4 σ H4 y z' u w' _ I4 r2 r4 q4) fun d' s5 ⟨z2,H5,I5,r5,k2,e2,q5⟩=>?_))
  subst e2;cases r5;exact wpAny_truthy_bool ⟨H5,I5,q5⟩
def TruV(K:Fg)(x:V)(H:Hp)(k:Bool):Prop:=
 match x with
 |.non=>k=false
 |.bl b=>k=b
 |.int i=>k=(i != 0)
 |.str y=>y.length<=sizeLine/\k=((y.length:Int) != 0)
 |.byt y=>y.size<=sizeLine/\k=((y.size:Int) != 0)
 |.ref p=>(∃xs,SqL K H p xs/\k=!xs.isEmpty)\/(∃xs,SqT K H p xs/\k=!xs.isEmpty)\/∃kvs,H p=some (.dK kvs)/\k=!kvs.isEmpty
 |_=>False
theorem x3t{κ:Type}{kvs:List (κ×V)}{vs:List (κ×Value)}(r:KV kvs vs):(!vs.isEmpty)=!kvs.isEmpty:=by
 cases r<;>rfl
theorem q73{its:List Value}(r:Vals xs its):(!its.toArray.isEmpty)=!xs.isEmpty:=by
 cases r<;>simp
theorem line63:(sizeLine:Nat)<2^63:=by rw[sizeLine_eq];decide
theorem y5m:TruR X (fun x H Q=>∃k,TruV X.K x H k/\Q k H):=by
 intro pins s σ H x v Q I rx h;obtain⟨k,e,q⟩:=h;have hl:=line63;have hs:sizeLine=16777216:=sizeLine_eq;cases x with
 |non=>
  cases rx;have e':k=false:=e;subst e';exact truthy_none ⟨H,I,q⟩
 |bl b=>
  cases rx;have e':k=b:=e;subst e';exact wpAny_truthy_bool ⟨H,I,q⟩
 |int i=>
  obtain⟨t,rfl⟩:=rx;have e':k=(i != 0):=e;subst e';exact PySem.P.truthy_int ⟨H,I,q⟩
 |str y=>
  obtain⟨t,rfl⟩:=rx;obtain⟨hy,e'⟩:y.length<=sizeLine/\k=((y.length:Int) != 0):=e;subst e';exact PySem.P.truthy_str (by omega) ⟨H,I.tok _,q⟩
 |byt y=>
  obtain⟨t,rfl⟩:=rx;obtain⟨hy,e'⟩:y.size<=sizeLine/\k=((y.size:Int) != 0):=e;subst e';exact PySem.W.truthy_bytes (by omega) ⟨H,I.tok _,q⟩
 |ref p=>
  cases rx;have e':(∃xs,SqL X.K H p xs/\k=!xs.isEmpty)\/(∃xs,SqT X.K H p xs/\k=!xs.isEmpty)\/∃kvs,H p=some (.dK kvs)/\k=!kvs.isEmpty:=e;rcases e' with⟨xs,hx,e'⟩|⟨xs,hx,e'⟩|⟨kvs,hx,e'⟩
  ·subst e';obtain⟨its,r,pl,hz⟩:=I.list hx;have hlen:=r.length;exact wpAny_truthy_list pl.isList (by simp only[w0c];omega) ⟨H,I.tok _,by rw[q73 r];exact q⟩
  ·subst e';obtain⟨its,r,pl,hz⟩:=I.tuple hx;have hlen:=r.length;exact truthy_tuple pl (by simp only[w0c];omega) ⟨H,I.tok _,by rw[q73 r];exact q⟩
  ·subst e';obtain⟨hz,hS,vs,r,m⟩:kvs.length<=sizeLine/\(p==sysModules)=false/\∃vs,KV kvs vs/\s.heap.DictOf (mixKind X.prog X.w) p vs:=I.hok p _ hx;have hlen:kvs.length=vs.length:=Paired.length r;exact wpAny_truthy_dict hS m (by omega) ⟨H,I.tok _,by rw[x3t r];exact q⟩
 |_=>exact(show False from e).elim
theorem x7p(ha:PE X a ta)(he:∀whole,isTrue a X.env whole=(do let v <- whole;standAt a.pos;holding [v] (truthy v))):
  PT X a (fun σ H Q=>ta σ H fun x H'=>∃k,TruV X.K x H' k/\Q k H'):=by
 intro pins s σ H Q I h;exact isTrue_plain (thn (ha pins s σ H _ I h) fun v s1 ⟨x,H1,I1,r1,q1⟩=>y5m pins s1 σ H1 x v Q I1 r1 q1) (he _)
theorem op_add_str:OpR X (binaryOp .Add) (fun x y H Q=>∃i j,x=.str i/\y=.str j/\i.length+j.length<=sizeLine/\Q (.str (i++j)) H):=by
 intro pins s σ H x y v u Q I rx ry h;obtain⟨i,j,rfl,rfl,hz,q⟩:=h;obtain⟨t,rfl⟩:=rx;obtain⟨t',rfl⟩:=ry;exact add_str (fun t' tk=>⟨.str (i++j),H,I.tok _,⟨_,rfl⟩,q⟩) hz
theorem vals1{x:V}(r:Vals [x] us):∃u,us=[u]/\RelV x u:=by
 cases r with
 |cons r1 r2=>cases r2;exact⟨_,rfl,r1⟩
theorem vals2{x y:V}(r:Vals [x,y] us):∃u w',us=[u,w']/\RelV x u/\RelV y w':=by
 cases r with
 |cons r1 r2=>
  cases r2 with
  |cons r3 r4=>cases r4;exact⟨_,_,rfl,r1,r3⟩
theorem x43(hc:X.calm=true):CallR X (.builtin "min") (fun xs H Q=>∃i j,xs=[.int i,.int j]/\Q (.int (if j<i then j else i)) H):=by
 intro pins s σ H xs us Q I r h;obtain⟨i,j,rfl,q⟩:=h;obtain⟨u,w',rfl,⟨t,rfl⟩,⟨t',rfl⟩⟩:=vals2 r;refine min_two_ints (I.ok.hd hc) fun h' tk k=>⟨_,H,I.kept k,?_,q⟩
 by_cases hj:j<i
 ·rw[if_pos hj,if_pos hj];exact⟨_,rfl⟩
 ·rw[if_neg hj,if_neg hj];exact⟨_,rfl⟩
theorem x44:CallR X (.type "int") (fun xs H Q=>(∃i,xs=[.int i]/\Q (.int i) H)\/∃k,xs=[.bl k]/\Q (.int (if k then 1 else 0)) H):=by
 intro pins s σ H xs us Q I r h;rcases h with⟨i,rfl,q⟩|⟨k,rfl,q⟩
 ·obtain⟨u,rfl,t,rfl⟩:=vals1 r;exact call_int_int ⟨.int i,H,I,⟨_,rfl⟩,q⟩
 ·obtain⟨u,rfl,r1⟩:=vals1 r;cases r1;exact call_int_bool ⟨.int (if k then 1 else 0),H,I.tok _,⟨_,rfl⟩,q⟩
def LenV(K:Fg)(x:V)(H:Hp)(n:Nat):Prop:=
 match x with
 |.str y=>y.length<=sizeLine/\n=y.length
 |.byt y=>y.size<=sizeLine/\n=y.size
 |.ref p=>(∃xs,SqL K H p xs/\n=xs.length)\/∃xs,SqT K H p xs/\n=xs.length
 |_=>False
theorem x0r:CallR X (.builtin "len") (fun xs H Q=>∃x n,xs=[x]/\LenV X.K x H n/\Q (.int n) H):=by
 intro pins s σ H xs us Q I r h;obtain⟨x,n,rfl,e,q⟩:=h;obtain⟨u,rfl,rx⟩:=vals1 r;have hl:=line63;have hs:sizeLine=16777216:=sizeLine_eq;cases x with
 |str y=>
  obtain⟨t,rfl⟩:=rx;obtain⟨hy,e'⟩:y.length<=sizeLine/\n=y.length:=e;subst e';exact len_str (by omega) ⟨.int _,H,I.tok _,⟨_,rfl⟩,q⟩
 |byt y=>
  obtain⟨t,rfl⟩:=rx;obtain⟨hy,e'⟩:y.size<=sizeLine/\n=y.size:=e;subst e';exact PySem.W.len_bytes (by omega) ⟨.int _,H,I.tok _,⟨_,rfl⟩,q⟩
 |ref p=>
  cases rx;have e':(∃xs,SqL X.K H p xs/\n=xs.length)\/∃xs,SqT X.K H p xs/\n=xs.length:=e;rcases e' with⟨xs,hx,e'⟩|⟨xs,hx,e'⟩
  ·subst e';obtain⟨its,r',pl,hz⟩:=I.list hx;have hlen:=r'.length;exact Calls.call_len_list pl.isList (by simp only[w0c];omega) ⟨.int xs.length,H,I.tok _,⟨_,by simp only[w0c];rw[hlen]⟩,q⟩
  ·subst e';obtain⟨its,r',pl,hz⟩:=I.tuple hx;have hlen:=r'.length;exact len_tuple pl (by simp only[w0c];omega) ⟨.int xs.length,H,I.tok _,⟨_,by simp only[w0c];rw[hlen]⟩,q⟩
 |_=>exact(show False from e).elim
end
structure ObjM(h:Heap)(x dx C:Addr)(mA:Str->Option Value):Prop where
 obj:h.get? x=some (PySem.W.instObj C dx)
 ns:h.Ns1 dx mA
 ne:dx≠x
def putF(f:Str)(v:V):List (Str×V)->List (Str×V)
 |[]=>[(f,v)]
 |(g,x)::r=>if g=f then(g,v)::r else(g,x)::putF f v r
structure Cls(K:Fg)(C:Addr):Prop where
 pg:PySem.W.plainGet K C Str.empty=true
 hd:PySem.W.hasDictIn K C=true
 po:PySem.W.plainOver K C=true
 sa:findIn K (.ref C) "__setattr__"=some (some (.builtin "object.__setattr__"))
structure Con(K:Fg)(C:Addr)(f:Str)(v:V)(u:Value):Prop where
 at_:findIn K (.ref C) f=some (some u)
 rel:RelV v u
 get:specialIn K u "__get__"=some none
 cp:PySem.W.copiedNames.contains f=false
structure Meth(K:Fg)(C:Addr)(m:Str)(f:Addr):Prop where
 at_:findIn K (.ref C) m=some (some (.ref f))
 fn:PySem.W.isFn K (.ref f)=true
 kp:keepIn K (.ref f)=true
section
variable{Q:Value->Shared->Prop}{c:Value}{b:Bool}
inductive TyOf(K:Fg)(H:Hp):V->Value->Prop where
 |non:TyOf K H .non (.type "NoneType")
 |bl (x:Bool):TyOf K H (.bl x) (.type "bool")
 |int (i:Int):TyOf K H (.int i) (.type "int")
 |str (x:Str):TyOf K H (.str x) (.type "str")
 |flt (x:UInt64):TyOf K H (.flt x) (.type "float")
 |lst {a:Addr} {xs:List V} (e:H a=some (.lst xs)):TyOf K H (.ref a) (.type "list")
 |frz {a:Addr} {o:Obj} {xs:List V} (e:H a=some (.frz o (.lst xs))):TyOf K H (.ref a) (.type "list")
 |tup {a:Addr} {xs:List V} (e:H a=some (.tup xs)):TyOf K H (.ref a) (.type "tuple")
 |dK {a:Addr} {kvs:List (Key×V)} (e:H a=some (.dK kvs)):TyOf K H (.ref a) (.type "dict")
 |dT {a:Addr} {sh:Sh} {kvs:List (Kx×V)} {kas:List Addr} (e:H a=some (.dT sh kvs kas)):TyOf K H (.ref a) (.type "dict")
 |ins {a C dx:Addr} {fs:List (Str×V)} (e:H a=some (.ins C dx fs)) (cl:Cls K C) (ha:findIn K (.ref C) "__class__"=some (some (.builtin "object.__class__")))
   (hn:specialIn K (.builtin "object.__class__") "__get__"=some (some (.builtin "getset_descriptor.__get__"))) (htk:takesIn K (.builtin "object.__class__")=some true)
   (hm:PySem.W.mroIn K C (.type "object")=some true):TyOf K H (.ref a) (.ref C)
end
structure Room(k:Nat)(A:Around):Prop where
 hd:A.handled=none
 dp:A.depth+3*k+5<recursionLimit
 un:A.units+16*k+200<cLine
 gd:A.guards=some []
theorem Room.deeper(r:Room (k+1) A)(env:Env):Room k (A.deeper env):=
 ⟨r.hd,by have:=r.dp;show A.depth+1+3*k+5<_;omega,by have:=r.un;show A.units+3+16*k+200<_;omega,r.gd⟩
theorem Room.in1(r:Room (k+1) A):Room k A.in1:=
 ⟨r.hd,by have:=r.dp;show A.depth+3*k+5<_;omega,by have:=r.un;show A.units+1+16*k+200<_;omega,r.gd⟩
theorem Room.depth(r:Room k A):A.depth<recursionLimit:=by have:=r.dp;omega
def tNil:TA:=fun _ H Q=>Q [] H
def tCons(ta:TE)(tr:TA):TA:=fun σ H Q=>ta σ H fun x H1=>tr σ H1 fun xs H2=>Q (x::xs) H2
section
variable{t:TA}
theorem q2r:PA X [] tNil:=fun _ _ _ _ H Q I h=>Calls.spliced_nil ⟨[],H,I,.nil,h⟩
theorem q09(ha:PE X e te)(hr:PA X es t)(hs:starEach (e::es) X.env=(false,eval e X.env)::starEach es X.env:=by rfl):PA X (e::es) (tCons te t):=by
 intro pos pins s σ H Q I h;rw[hs];show wpAny _ _ (spliced ((false,eval e X.env)::backTo pos (starEach es X.env))) _ _ s;refine Calls.spliced_cons (thn (ha pins s σ H _ I h) fun u s1 ⟨x,H1,I1,r1,q1⟩=>?_)
 exact thn (hr pos pins s1 σ H1 _ I1 q1) fun us s2 ⟨xs,H2,I2,r2,q2⟩=>⟨x::xs,H2,I2,.cons r1 r2,q2⟩
def tTup(t:TA):TE:=fun σ H Q=>t σ H fun xs H1=>xs.length<=sizeLine/\∀p,H1 p=none->Q (.ref p) (upd H1 p (.tup xs))
def tLst(t:TA):TE:=fun σ H Q=>t σ H fun xs H1=>xs.length<=sizeLine/\∀p,H1 p=none->Q (.ref p) (upd H1 p (.lst xs))
theorem x0s{x1}(h:PA X es t):PE X (.Tuple es x1 pos) (tTup t):=by
 intro pins s σ H Q I hq;refine wpAny_Tuple_spliced (thn (h pos pins s σ H _ I hq) fun us s1 ⟨xs,H1,I1,r,z,q⟩=>⟨by rw[<- r.length];exact z,?_⟩)
 have hf:H1 s1.heap.objs.size=none:=I1.hok.fresh (w0g _);refine⟨.ref s1.heap.objs.size,upd H1 s1.heap.objs.size (.tup xs),I1.laid (t':=s1.toks) (fun b u e=>Heap.get?_push_of_some _ e) (w0g _) ?_,rfl,q _ hf⟩
 exact⟨z,us,r,⟨_,Heap.get?_push_size _ rfl,rfl,_,rfl⟩,⟨_,Heap.get?_push_size _ rfl,rfl⟩⟩
theorem x0t(h:PA X es t):PE X (.List es pos) (tLst t):=by
 intro pins s σ H Q I hq;refine wpAny_List_spliced (thn (h pos pins s σ H _ I hq) fun us s1 ⟨xs,H1,I1,r,z,q⟩=>⟨by rw[<- r.length];exact z,?_⟩)
 have hf:H1 s1.heap.objs.size=none:=I1.hok.fresh (w0g _);refine⟨.ref s1.heap.objs.size,upd H1 s1.heap.objs.size (.lst xs),I1.laid (t':=s1.toks) (fun b u e=>Heap.get?_push_of_some _ e) (w0g _) ?_,rfl,q _ hf⟩
 exact⟨z,us,0,r,Heap.get?_push_size _ rfl⟩
end
abbrev Sp:=List V->Hp->VK->XK->Prop
variable{sp:Sp}
abbrev CXT:=List Env->Hp->Shared->XK->Value->Shared->Prop
variable{CX:CXT}
structure Env0(P:Program)(w:World)(K:Fg)(mg:Str->Option Value)(base:Heap)(A:Around)(outer:List Env)(s:Shared)(H:Hp):Prop where
 frames:A.frames=some outer
 mod:Mod K mg base
 bs:∀b o,base.get? b=some o->s.heap.get? b=some o/\H b=none
 bsz:base.objs.size<=s.heap.objs.size
 funs:s.heap.FunFrames base outer
 frf:∀b∈frs outer,H b=none
 hok:HOk P w H s.heap
 bare:AllBare s.gens
 tab:TabOk K H
def CE(outer:List Env)(P:Program)(w:World)(H:Hp)(s:Shared)(Q:VK)(u:Value)(s':Shared):Prop:=
 ∃v H',s'.os=s.os/\AllBare s'.gens/\Un (frs outer) [] H H' s.heap s'.heap/\HOk P w H' s'.heap/\RelV v u/\Q v H'
def CR(CX:CXT)(outer:List Env)(P:Program)(w:World)(H:Hp)(s:Shared)(Q:VK)(E:XK)(r:Result)(s':Shared):Prop:=
 match r with
 |.ok (.ret u)=>CE outer P w H s Q u s'
 |.ok _=>False
 |.error e=>CX outer H s E e s'
structure FnOk(P:Program)(w:World)(K:Fg)(mg:Str->Option Value)(base:Heap)(CX:CXT)(k:Nat)(f:Addr)(fd:FuncData)(ps:List Str)(sp:Sp):Prop where
 len:∀vs H Q E,sp vs H Q E->vs.length=ps.length
 run:∀(A:Around)(outer:List Env)(s:Shared)(H:Hp)(args:Args)(us:List Value)(vs:List V)(Q:VK)(E:XK),Room k A->Env0 P w K mg base A outer s H->BindsTo s fd args (ps.zip us)->Vals vs us->sp vs H Q E ->
  codeAny (model P w) A (.call (.ref f) args) (CR CX outer P w H s Q E) s
theorem FnOk.imp{base:Heap}{f:Addr}{sp':Sp}(F:FnOk P w K mg base CX k f fd ps sp)
  (h:∀vs H Q E,sp' vs H Q E->sp vs H Q E):FnOk P w K mg base CX k f fd ps sp':=
 ⟨fun vs H Q E q=>F.len vs H Q E (h _ _ _ _ q),fun A outer s H args us vs Q E hr he hb hv hs=>F.run A outer s H args us vs Q E hr he hb hv (h _ _ _ _ hs)⟩
section
variable{s':Shared}
theorem Inv.env0(I:Inv X pins σ H s):Env0 X.prog X.w X.K X.mg X.base X.A X.stack s H:=
 ⟨I.ok.frames,I.ok.mod,I.bs,w1c I.ok.bsz I.sz,I.stack,I.stkFree,I.hok,I.bare,I.ok.tab.un I.base⟩
theorem Inv.after{Q:VK}(I:Inv X pins σ H s)(h:CE X.stack X.prog X.w H s Q u s'):EP X pins σ Q u s':=by
 obtain⟨v,H',os,bare,un,hok,r,q⟩:=h;obtain⟨hh,g,d,t,os'⟩:=s';obtain rfl:os'=s.os:=os;exact⟨v,H',I.call (h':=hh) (g':=g) (d':=d) (t':=t) (ch:=[]) un hok bare (fun b z=>absurd z (by simp)),r,q⟩
end
def Binds(K:Fg)(fd:FuncData)(ps:List Str)(ds:List Value):Prop:=
 ∀(s:Shared)(us:List Value),K.In s.heap->(us++ds).length=ps.length->BindsTo s fd ⟨us,[]⟩ (ps.zip (us++ds))
theorem Binds.all(h:∀us:List Value,us.length=ps.length->bindArgs fd ⟨us,[]⟩=pure (ps.zip us)):Binds K fd ps []:=fun s us _ hl=>by
 rw[w1j]at hl |-
 exact .of_eq (h us hl)
section
variable{f C:Addr}{dvs:List V}{ds:List Value}{E:XK}{m:Str}{apos:Pos}{o:Expr}{t:TA}
structure Mk(K:Fg)(C f:Addr):Prop where
 makes:PySem.W.makesIn K C=true
 init:findIn K (.ref C) "__init__"=some (some (.ref f))
 fn:PySem.W.isFn K (.ref f)=true
 kp:keepIn K (.ref C)=true
end
section
variable{f C:Addr}{ks:List Str}{E:XK}{m:Str}{apos kpos:Pos}{o:Expr}{kws:List Keyword}{t tk:TA}{nm:Option Str}
structure KBinds(K:Fg)(fd:FuncData)(ps ks:List Str)(g:List Value->List Value->List Value)(gV:List V->List V->List V):Prop where
 to:∀(s:Shared)(us ws:List Value),K.In s.heap->(g us ws).length=ps.length->BindsTo s fd ⟨us,ks.zip ws⟩ (ps.zip (g us ws))
 rel:∀{vs:List V}{us:List Value}{zs:List V}{ws:List Value},Vals vs us->Vals zs ws->Vals (gV vs zs) (g us ws)
variable{g:List Value->List Value->List Value}{gV:List V->List V->List V}
end
structure FnScope(N P:List Str)(sc:Scope):Prop where
 kind:sc.kind=.function
 co:sc.isCoroutine=false
 gen:sc.isGenerator=false
 nd:N.Nodup
 pre:N.take P.length=P
 par:∀x∈P,sc.names.lookup x=some .local\/sc.names.lookup x=some .cell
 nofree:∀y∈sc.names,y.2≠.free
theorem q9h{kindOf:Str->Option NameKind}:∀{binds:List (Str×Value)}{m:Str->Option Value},(∀v,(x,v)∉binds)->bindL kindOf binds m x=m x
 |[],_,_=>rfl
 |(n,v)::r,m,h=>by
  unfold bindL;rw[q9h fun w hw=>h w (w0k _ hw)]
  split
  ·have:x≠n:=by rintro rfl;exact h v w1d
   simp[this]
  ·rfl
theorem q9i{kindOf:Str->Option NameKind}:∀{binds:List (Str×Value)}{m:Str->Option Value},(∀v,(x,v)∉binds)->bindC kindOf binds m x=m x
 |[],_,_=>rfl
 |(n,v)::r,m,h=>by
  unfold bindC;rw[q9i fun w hw=>h w (w0k _ hw)]
  split
  ·rfl
  ·have:x≠n:=by rintro rfl;exact h v w1d
   simp[this]
theorem q9j{kindOf:Str->Option NameKind}{x:Str}{v:Value}:∀{P:List Str}{vs:List Value}{i:Nat}{m:Str->Option Value},P.Nodup->P[i]?=some x->vs[i]?=some v->kindOf x=some .local ->
  bindL kindOf (P.zip vs) m x=some v
 |[],_,_,_,_,h,_,_=>by simp at h
 |_::_,[],_,_,_,_,h,_=>by simp at h
 |p::P,w::vs,0,m,nd,h1,h2,hk=>by
  simp at h1 h2;subst h1;subst h2;show bindL kindOf ((p,w)::P.zip vs) m p=_;unfold bindL;rw[q9h fun v hv=>(w1g.mp nd).1 (w2u hv).1,if_pos hk]
  simp
 |p::P,w::vs,i+1,m,nd,h1,h2,hk=>by
  show bindL kindOf ((p,w)::P.zip vs) m x=_;unfold bindL;exact q9j (i:=i) (w1g.mp nd).2 (by simpa using h1) (by simpa using h2) hk
theorem q9k{kindOf:Str->Option NameKind}{x:Str}{v:Value}:∀{P:List Str}{vs:List Value}{i:Nat}{m:Str->Option Value},P.Nodup->P[i]?=some x->vs[i]?=some v->kindOf x≠some .local ->
  bindC kindOf (P.zip vs) m x=some v
 |[],_,_,_,_,h,_,_=>by simp at h
 |_::_,[],_,_,_,_,h,_=>by simp at h
 |p::P,w::vs,0,m,nd,h1,h2,hk=>by
  simp at h1 h2;subst h1;subst h2;show bindC kindOf ((p,w)::P.zip vs) m p=_;unfold bindC;rw[q9i fun v hv=>(w1g.mp nd).1 (w2u hv).1,if_neg hk]
  simp
 |p::P,w::vs,i+1,m,nd,h1,h2,hk=>by
  show bindC kindOf ((p,w)::P.zip vs) m x=_;unfold bindC;exact q9k (i:=i) (w1g.mp nd).2 (by simpa using h1) (by simpa using h2) hk
def start(N:List Str)(vs:List V):St:=vs.map some++List.replicate (N.length-vs.length) none
def cxOf(CX:CXT)(P:Program)(w:World)(K:Fg)(mg:Str->Option Value)(base:Heap)(N:List Str)(qual:Str)(scope:Scope)(f:Addr)(cd:Value)(A:Around)(outer:List Env)(s:Shared)(H:Hp)(E:XK):Cx where
 prog:=P
 w:=w
 K:=K
 mg:=mg
 base:=base
 A:=A.deeper (envOfC qual scope s.heap.objs.size f cd)
 N:=N
 s₀:=s
 H₀:=H
 env:=envOfC qual scope s.heap.objs.size f cd
 outer:=outer
 stack:=envOfC qual scope s.heap.objs.size f cd::outer
 ex:=[]
 calm:=true
 fn:=fun _=>true
 pn:=[]
 xe:=fun e s'=>wpAny (model P w) (A.deeper (envOfC qual scope s.heap.objs.size f cd)) (leaving (envOfC qual scope s.heap.objs.size f cd) e) (fun _ s''=>CX outer H s E e s'') (fun e' s''=>CX outer H s E e' s'') s'
theorem x0u{sc:Scope}{n:Nat}(h:sc.names.lookup x=some .cell):∃c,(cellsFrom n sc.names []).lookup x=some c:=by
 have q:=PySem.W.cellsFrom_some sc.names n [] (.inl h);exact w2e.mp q
theorem x45{base:Heap}{qual:Str}{scope:Scope}{f:Addr}{cd:Value}{outer:List Env}{s1:Shared}{E:XK}{vs:List V}
  (S:FnScope N ps scope)(hd:A.handled=none)(e0:Env0 P w K mg base A outer s H)(hl:vs.length=ps.length)(r:Vals vs us)
  (x:InCallC s s.heap.objs.size (bindL (envOfC qual scope s.heap.objs.size f cd).kindOf (ps.zip us) fun _=>none) (cellsFrom (s.heap.objs.size+1) scope.names []) (bindC (envOfC qual scope s.heap.objs.size f cd).kindOf (ps.zip us) fun _=>none) s1):
  Inv (cxOf CX P w K mg base N qual scope f cd A outer s H E) [] (start N vs) H s1:=by
 have hpl:ps.length<=N.length:=by have:=congrArg List.length S.pre;rw[w2b]at this;omega
 obtain⟨h1,tk,rfl,hk⟩:=x.done;have noA:∀b:Addr,b∉(cxOf CX P w K mg base N qual scope f cd A outer s H E).ex:=fun b z=>absurd (show b∈([]:List Addr)from z) (by simp)
 refine⟨⟨e0.mod,S.kind,rfl,rfl,w0g _,fun y z c h1 h2=>?_,fun y hy=>?_,fun y c _ h=>?_,fun _=>hd,Around.frames_deeper e0.frames,.inr ⟨rfl,rfl⟩,fun b z=>absurd z (noA b),e0.bs,e0.bsz,fun b _ _=>noA b,fun b z=>absurd z (noA b),e0.funs,e0.frf,e0.tab⟩,
  rfl,e0.bare,Un.kept hk,⟨_,x.toInCall.ns,fun i y v h1 h2 h3=>?_⟩,fun y c h=>⟨_,x.cell y c h⟩,e0.hok.fresh (w0g _),fun y c h=>?_,fun p hp=>absurd (show p∈([]:List (Addr×Obj))from hp) (by simp),e0.hok.kept hk,?_⟩
 ·exact name_of_addr x.apart (PySem.mem_of_lookup h1) (PySem.mem_of_lookup h2)
 ·have hy:scope.names.lookup y=some .cell\/scope.names.lookup y=some .free:=hy;rcases hy with hy|hy
  ·exact x0u hy
  ·exact absurd rfl (S.nofree _ (PySem.mem_of_lookup hy))
 ·exact w3v (x.above y c (PySem.mem_of_lookup h))
 ·have hi:i<vs.length:=by
   unfold start at h2
   by_cases hi:i<vs.length
   ·exact hi
   ·rw[w1s (by simpa using hi)]at h2;rw[w2v]at h2;split at h2<;>cases h2
  have ha:vs[i]?=some v:=by
   unfold start at h2;rw[w1m (by simpa using hi),w0j]at h2;cases e:vs[i]? with
   |none=>rw[e]at h2;cases h2
   |some a=>rw[e]at h2;cases h2;rfl
  obtain⟨u,hu,rv⟩:=r.get ha
  have hp:ps[i]?=some y:=by
   rw[<- S.pre,List.getElem?_take_of_lt (by omega)];exact h1
  have ndP:ps.Nodup:=by rw[<- S.pre];exact S.nd.sublist (List.take_sublist _ _)
  refine⟨u,rv,?_⟩;rcases S.par y (w0n hp)with k|k
  ·exact .inl ⟨k,q9j ndP hp hu k⟩
  ·obtain⟨c,e⟩:=x0u (n:=s.heap.objs.size+1) k;refine .inr ⟨.inl k,c,e,?_⟩;have q:=x.cell y c e;rw[q9k ndP hp hu (by show scope.names.lookup y≠_;rw[k];decide)]at q;exact q
 ·exact e0.hok.fresh (w3v (x.above y c (PySem.mem_of_lookup h)))
 ·unfold start;show _=N.length;rw[w0l,w0a,w1k];omega
theorem y0n{base:Heap}{f:Addr}{name qual:Str}{params:Arguments}{body:List Stmt}{scope:Scope}{dV kV doc pm cdv ct oc:Value}{an od:Option Addr}
  {osl:Array (Option Value)}(lk:K.lookup f=some ⟨oc,od,.func (PySem.W.fnOf name qual params body scope dV kV doc pm an cdv ct),osl⟩)(hcd:PySem.W.codeIn K cdv qual=true)(S:FnScope N ps scope)
  (len:∀vs H Q E,sp vs H Q E->vs.length=ps.length)
  (hbody:∀(A:Around)(outer:List Env)(s:Shared)(H:Hp)(vs:List V)(Q:VK)(E:XK),Room k (A.deeper (envOfC qual scope s.heap.objs.size f cdv))->sp vs H Q E ->
   ∃t,PSs (cxOf CX P w K mg base N qual scope f cdv A outer s H E) body t/\t {nx:=fun _ H'=>Q .non H',rt:=Q} (start N vs) H):
  FnOk P w K mg base CX (k+1) f (PySem.W.fnOf name qual params body scope dV kV doc pm an cdv ct) ps sp:=by
 refine⟨len,fun A outer s H args us vs Q E hr e0 hb r hsp=>?_⟩
 have hl:=len _ _ _ _ hsp;have KX:K.In s.heap:=e0.mod.kin.keeps fun b o e=>(e0.bs b o e).1
 have lim:s.heap.NoLimit:=e0.mod.nolimit.keeps fun b o e=>(e0.bs b o e).1
 have hkind:∀y∈ps.zip us,scope.names.lookup y.1=some .local\/(scope.names.lookup y.1=some .cell/\((cellsFrom (s.heap.objs.size+1) scope.names []).lookup y.1).isSome=true):=fun⟨n,v⟩ hy=>by
  rcases S.par n (w2u hy).1 with q|q
  ·exact .inl q
  ·exact .inr ⟨q,PySem.W.cellsFrom_some _ _ _ (.inl q)⟩
 refine codeAny_call_function hr.depth (KX _ _ lk) rfl S.co S.gen rfl (PySem.W.codeRec_of KX hcd) (hb _ _ _ _ ?_)
 refine wpAny_newFunctionEnv_cells S.kind hkind fun env he s1 x=>?_
 subst he;refine⟨lim.keeps x.toInCall.keep,codeAny_func ?_⟩
 obtain⟨t,ht,hq⟩:=hbody A outer s H vs Q E (hr.deeper _) hsp;have I:Inv (cxOf CX P w K mg base N qual scope f cdv A outer s H E) [] (start N vs) H s1:=x45 S hr.hd e0 hl r x;refine wpAny_mono (ht [] s1 (start N vs) H _ I hq) (fun fl s' hs=>?_) fun e s' hs=>hs
 have fin:∀{σ':St}{H':Hp}{v:V}{u:Value},Inv (cxOf CX P w K mg base N qual scope f cdv A outer s H E) [] σ' H' s'->RelV v u->Q v H'->CE outer P w H s Q u s':=
  fun {σ' H' v u} J rv q=>⟨v,H',J.os,J.bare,J.base,J.hok,rv,q⟩
 cases fl with
 |ret u=>
  obtain⟨v,σ',H',J,rv,q⟩:=hs;exact fin J rv q
 |next=>
  obtain⟨σ',H',J,q⟩:=hs;exact fin (v:=V.non) (u:=Value.none) J rfl q
 |brk=>
  obtain⟨_,_,_,q⟩:=hs;exact False.elim q
 |cont=>
  obtain⟨_,_,_,q⟩:=hs;exact False.elim q
section
variable{t:TA}{id T:String}{r:List V->Hp->VK->Prop}
def tCB(r:List V->Hp->VK->Prop)(t:TA):TE:=fun σ H Q=>t σ H fun vs H1=>r vs H1 Q
theorem q7k(hc:CallR X (.builtin id) r)(hg:Gl X x)(hm:X.mg x=none)(hv:bootBuiltins x=some (.builtin id))(ha:PA X (e::es) t)(hn:x≠"__name__":=by decide)(hdb:(x==("__debug__":Str))=false:=by decide)
  (he:starEach (e::es) X.env=(false,eval e X.env)::starEach es X.env:=by rfl)(hpl:(backTo pos (starEach es X.env)).any (·.1)=false:=by rfl):PE X (.Call (.Name x p) (e::es) [] pos) (tCB r t):=by
 intro pins s σ H Q I h;refine wpAny_Call_Name_kw (q4y I hg hm hv ?_ hn hdb);exact PyProof.Rows.callWith_builtin1 (thn (ha pos pins s σ H _ I h) fun us s1 ⟨vs,H1,I1,r1,q1⟩=>hc pins s1 σ H1 vs us Q I1 r1 q1) he hpl
theorem q5d(hc:CallR X (.type T) r)(hg:Gl X x)(hm:X.mg x=none)(hv:bootBuiltins x=some (.type T))(ha:PA X (e::es) t)(hn:x≠"__name__":=by decide)(hdb:(x==("__debug__":Str))=false:=by decide)
  (he:starEach (e::es) X.env=(false,eval e X.env)::starEach es X.env:=by rfl)(hpl:(backTo pos (starEach es X.env)).any (·.1)=false:=by rfl):PE X (.Call (.Name x p) (e::es) [] pos) (tCB r t):=by
 intro pins s σ H Q I h;refine wpAny_Call_Name_kw (q4y I hg hm hv ?_ hn hdb);exact PyProof.Rows.callWith_type1 (thn (ha pos pins s σ H _ I h) fun us s1 ⟨vs,H1,I1,r1,q1⟩=>hc pins s1 σ H1 vs us Q I1 r1 q1) he hpl
end
end L2
namespace HT
open PySem PyProof.Rows
section
variable{prog:Program}{w:World}{A:Around}{E:Value->Shared->Prop}{s:Shared}
theorem cat_tup{t b:Addr}{vs ws:List Value}{Q:Value->Shared->Prop}(ht:IsTup s.heap t vs.toArray)(hb:IsTup s.heap b ws.toArray)(hv:vs≠[])
  (h1:ws=[]->Q (.ref t) s)(h2:ws≠[]->Q (.ref s.heap.objs.size) {s with heap:=s.heap.push {cls:=.type "tuple", data:=.seq (vs++ws).toArray}})
  (hsz:vs.length+ws.length<=sizeLine):wpAny (model prog w) A (binaryOp .Add (.ref t) (.ref b)) Q E s:=by
 obtain⟨⟨cls,dd,data,sl⟩,ho,hc,n,hd⟩:=id ht;obtain⟨⟨cls2,dd2,data2,sl2⟩,ho2,hc2,n2,hd2⟩:=id hb;simp only at hc hd hc2 hd2;subst hc hd hc2 hd2;have e:vs.toArray++ws.toArray=(vs++ws).toArray:=by simp
 by_cases hw:ws=[]
 ·exact concat_meets ⟨_,ho,rfl⟩ ⟨_,ho2,rfl⟩ noFill_tuple_add seq_tuple_add PySem.F.slot_tuple_add PySem.F.entry_tuple_add (PySem.F.args_tuple_add_2 _ _)
   (tuple_addW1 t b vs.toArray ws.toArray n n2 dd dd2 sl sl2 (by simpa using hv) (by simp[hw])) ⟨ho,ho2,h1 hw⟩
 ·refine concat_meets ⟨_,ho,rfl⟩ ⟨_,ho2,rfl⟩ noFill_tuple_add seq_tuple_add PySem.F.slot_tuple_add PySem.F.entry_tuple_add (PySem.F.args_tuple_add_2 _ _)
   (tuple_addW2 t b vs.toArray ws.toArray n n2 dd dd2 sl sl2 (by simpa using hv) (by simpa using hw) (by rw[w0c,w0c];exact hsz)) ⟨ho,ho2,?_⟩
  rw[e];exact h2 hw
def sIx(n d:Nat):Option Int->Nat
 |none=>d
 |some v=>if v<0 then(v+(n:Int)).toNat else min v.toNat n
theorem sIx_none(n d:Nat):sIx n d none=d:=rfl
theorem sIx_nat(n d k:Nat):sIx n d (some (k:Int))=min k n:=by
 show(if(k:Int)<0 then((k:Int)+(n:Int)).toNat else min (k:Int).toNat n)=min k n;rw[if_neg (by omega),w1y]
theorem y5n(n d:Nat)(hd:d<=n)(o:Option Int):sIx n d o<=n:=by
 cases o with
 |none=>exact hd
 |some v=>
  show(if v<0 then(v+(n:Int)).toNat else min v.toNat n)<=n
  by_cases hv:v<0
  ·rw[if_pos hv];omega
  ·rw[if_neg hv];exact w3r _ _
theorem x2n(v:Int)(n d:Nat):(if v<0 then max (v+(n:Int)) 0 else min v (n:Int))=((sIx n d (some v):Nat):Int):=by
 show(if v<0 then max (v+(n:Int)) 0 else min v (n:Int))=(((if v<0 then(v+(n:Int)).toNat else min v.toNat n):Nat):Int)
 by_cases hv:v<0
 ·simp only[if_pos hv];omega
 ·simp only[if_neg hv];omega
theorem x3u(lo hi:Option Int)(n:Nat):Builtin.Slice.sliceAdjust lo hi 1 (n:Int)=(((sIx n 0 lo:Nat):Int),((sIx n n hi:Nat):Int)):=by
 have h1:¬((1:Int)<0):=by omega
 unfold Builtin.Slice.sliceAdjust;simp only[h1,if_false];refine Prod.ext ?_ ?_
 ·cases lo with
  |none=>rfl
  |some v=>exact x2n v n 0
 ·cases hi with
  |none=>rfl
  |some v=>exact x2n v n n
theorem x3v(i j:Nat):Builtin.Slice.slicePlaces (i:Int) (j:Int) 1=j-i:=by
 unfold Builtin.Slice.slicePlaces;have h1:(1:Int)>0:=by omega
 simp only[h1,if_true,Int.ediv_one];split<;>omega
theorem q74{v:Value}{o:Option Int}{Q:Option Int->Shared->Prop}(p:IsPart v o)(h:Q o s):wpAny (model prog w) A (Builtin.Slice.slicePartIndex v) Q E s:=by
 cases p with
 |none=>exact slicePart_none h
 |int i t=>exact slicePart_int h
theorem q4z{sl:Addr}{vl vu:Value}{lo hi:Option Int}{n:Nat}{Q:Int×Int×Nat->Shared->Prop}(hs:s.heap.IsSliceOf sl vl vu .none)(pl:IsPart vl lo)(pu:IsPart vu hi)
  (h:Q (((sIx n 0 lo:Nat):Int),1,sIx n n hi-sIx n 0 lo) s):wpAny (model prog w) A (Builtin.Slice.sliceApplied (.ref sl) (pure (n:Int))) Q E s:=by
 obtain⟨os,hos,hcs,hds⟩:=id hs;unfold Builtin.Slice.sliceApplied Builtin.Slice.sliceFields;refine wpAny_bind (wpAny_bind (wpAny_field hos hds (x:=vl) rfl (wpAny_bind (wpAny_field hos hds (x:=vu) rfl (wpAny_bind (wpAny_field hos hds (x:=.none) rfl (wpAny_pure ?_)))))));refine wpAny_bind (slicePart_none ?_);show wpAny _ _ (if((1:Int)==0)=true then _ else _) _ _ s;rw[if_neg (by decide)];refine wpAny_bind (q74 pl (wpAny_bind (q74 pu (wpAny_bind (wpAny_pure ?_)))));show wpAny _ _ (match Builtin.Slice.sliceAdjust lo hi 1 (n:Int)with|(lo,hi)=>pure (lo,(1:Int),Builtin.Slice.slicePlaces lo hi 1)) _ _ s;rw[x3u lo hi n];show wpAny _ _ (pure (((sIx n 0 lo:Nat):Int),(1:Int),Builtin.Slice.slicePlaces ((sIx n 0 lo:Nat):Int) ((sIx n n hi:Nat):Int) 1)) _ _ s;rw[x3v];exact wpAny_pure h
theorem x7q(xs:Array Value)(i k:Nat):((List.range k).filterMap fun(m:Nat)=>xs[((i:Int)+(m:Int)*1).toNat]?).toArray=((xs.toList.drop i).take k).toArray:=by
 have e:(fun(m:Nat)=>xs[((i:Int)+(m:Int)*1).toNat]?)=fun m=>xs[i+m]?:=by
  funext m
  have:((i:Int)+(m:Int)*1).toNat=i+m:=by omega
  rw[this]
 rw[e];have:=pick_run xs i k;rw[List.filterMap_map]at this;have e2:((fun x=>xs[x]?) ∘ fun x=>i+x)=fun m=>xs[i+m]?:=rfl
 rw[e2]at this;rw[this]
theorem getItem_tuple_cut{t sl:Addr}{items:Array Value}{vl vu:Value}{lo hi:Option Int}{Q:Value->Shared->Prop}(ht:IsTup s.heap t items)(hs:s.heap.IsSliceOf sl vl vu .none)(pl:IsPart vl lo)(pu:IsPart vu hi)
  (hw:¬(sIx items.size 0 lo=0/\sIx items.size items.size hi=items.size))
  (h:Q (.ref s.heap.objs.size) {s with heap:=s.heap.push {cls:=.type "tuple", data:=.seq ((items.toList.drop (sIx items.size 0 lo)).take (sIx items.size items.size hi-sIx items.size 0 lo)).toArray}})
  (hsz:items.size<=sizeLine):wpAny (model prog w) A (getItem (.ref t) (.ref sl)) Q E s:=by
 have htake:sizeOk (.seq ((items.toList.drop (sIx items.size 0 lo)).take (sIx items.size items.size hi-sIx items.size 0 lo)).toArray):=by
  show((items.toList.drop (sIx items.size 0 lo)).take (sIx items.size items.size hi-sIx items.size 0 lo)).toArray.size<=sizeLine;rw[w0c,w2b,w3s,w2r];exact w1c (w3r _ _) (w1c (Nat.sub_le _ _) hsz)
 have hj:sIx items.size items.size hi<=items.size:=y5n _ _ (w0g _) hi;obtain⟨os,hos,hcs,hds⟩:=id hs;have hTs:s.TypeIs (.ref sl) "slice":=⟨os,hos,hcs⟩;unfold getItem;try with_reducible refine wpAny_holding ?_
 first|refine wpAny_bind (wpAny_pure ?_)|skip
 refine wpAny_bind (wpAny_sequenceKey ht.typeIs (by decide) ?_)
 refine wpAny_bind (wpAny_callSpecial?_slot (name:=Str.ofString "__getitem__") ht.typeIs PyProof.Rows.slot_tuple_getitem
  (wpAny_call_entry PyProof.Rows.slot_tuple_getitem ht.typeIs entry_tuple_getitem ?_ (args_tuple_getitem _ _)))
 show wpAny _ _ (Builtin.Tuple.tupleItemsOf (.ref t) >>= _) _ _ s;refine wpAny_bind (tupleItemsOf_ ht ?_);refine wpAny_bind (wpAny_typeOf hTs ?_);rw[if_pos (by decide)];refine wpAny_bind (q4z hs pl pu ?_)
 have hno:¬((((sIx items.size 0 lo:Nat):Int)==0&&(1:Int)==1&&(sIx items.size items.size hi-sIx items.size 0 lo)==items.size)=true):=by
  intro q;rw[w0s,w0s]at q;have q1:((sIx items.size 0 lo:Nat):Int)=0:=eq_of_beq q.1.1;have q2:sIx items.size items.size hi-sIx items.size 0 lo=items.size:=eq_of_beq q.2;exact hw ⟨by omega,by omega⟩
 show wpAny _ _ (if(((sIx items.size 0 lo:Nat):Int)==0&&(1:Int)==1&&(sIx items.size items.size hi-sIx items.size 0 lo)==items.size)=true then _ else _) _ _ s;rw[if_neg hno,x7q]
 first
  |exact wpAny_bind (m:=Builtin.Tuple.tupleExact _) (wpAny_newObj_type (wpAny_pure ⟨_,rfl,wpAny_pure h⟩) htake)
  |exact wpAny_bind (m:=Builtin.Tuple.tupleExact _) (wpAny_newObj_type (wpAny_bind (wpAny_pure (wpAny_pure ⟨_,rfl,wpAny_pure h⟩))) htake)
  |exact wpAny_bind (wpAny_bind (m:=Builtin.Tuple.tupleExact _) (wpAny_newObj_type (wpAny_pure (wpAny_pure ⟨_,rfl,wpAny_pure h⟩)) htake))
  |exact wpAny_bind (wpAny_bind (m:=Builtin.Tuple.tupleExact _) (wpAny_newObj_type (wpAny_pure ⟨_,rfl,wpAny_pure h⟩) htake))
end
end HT
namespace L2
open PySem PySem.Spec PyProof.Rows
variable{X:Cx}{H:Hp}{pins:List (Addr×Obj)}{xs:List V}{its us:List Value}{n:Nat}{s:Shared}{σ:St}{α:Type}
abbrev TO:=St->Hp->(Option Int->Hp->Prop)->Prop
def PO(X:Cx)(e:Option Expr)(t:TO):Prop:=
 ∀(pins:List (Addr×Obj))(s:Shared)(σ:St)(H:Hp)(Q:Option Int->Hp->Prop),Inv X pins σ H s->t σ H Q ->
  wpAny (model X.prog X.w) X.A (evalPart e X.env) (fun u s'=>∃o H',Inv X pins σ H' s'/\IsPart u o/\Q o H') X.xe s
def tNoPart:TO:=fun _ H Q=>Q none H
def tPart(t:TE):TO:=fun σ H Q=>t σ H fun x H1=>∃i,x=.int i/\Q (some i) H1
theorem x3w{ns:List Int}:∀{us:List Value},Vals (ns.map V.int) us->IntsAre us ns:=by
 induction ns with
 |nil=>intro us r;rw[w3c]at r;cases r;exact .nil
 |cons n ns ih=>
  intro us r;rw[w0v]at r;cases r with
  |cons r1 r2=>
   obtain⟨t,e⟩:=r1;subst e;exact .cons n t (ih r2)
section
variable{e:Expr}{te:TE}{lo hi:Option Expr}{tl th:TO}{pos p2:Pos}
theorem y1a:PO X none tNoPart:=by
 intro pins s σ H Q I h;rw[evalPart_none];exact wpAny_pure ⟨none,H,I,.none,h⟩
theorem y1b(h:PE X e te):PO X (some e) (tPart te):=by
 intro pins s σ H Q I hw;rw[evalPart_some];refine thn (h pins s σ H _ I hw) fun u s1 ⟨x,H1,I1,r1,q1⟩=>?_
 obtain⟨i,rfl,q⟩:=q1;obtain⟨t,rfl⟩:=r1;exact⟨some i,H1,I1,.int i t,q⟩
def SlR(X:Cx)(r:V->Option Int->Option Int->Hp->VK->Prop):Prop:=
 ∀(pins:List (Addr×Obj))(s:Shared)(σ:St)(H:Hp)(x:V)(v vl vu:Value)(lo hi:Option Int)(sl:Addr)(Q:VK),Inv X pins σ H s->RelV x v->s.heap.IsSliceOf sl vl vu .none->IsPart vl lo->IsPart vu hi->r x lo hi H Q ->
  ∃T id,typeLookup (.type T) "__getitem__"=pure (some (.builtin id))/\s.TypeIs v T/\wpAny (model X.prog X.w) X.A (getItem v (.ref sl)) (EP X pins σ Q) X.xe s
theorem SlR.or{r r':V->Option Int->Option Int->Hp->VK->Prop}(h:SlR X r)(h':SlR X r'):SlR X (fun x lo hi H Q=>r x lo hi H Q\/r' x lo hi H Q):=by
 intro pins s σ H x v vl vu lo hi sl Q I rx hs pl pu q;rcases q with q|q
 ·exact h pins s σ H x v vl vu lo hi sl Q I rx hs pl pu q
 ·exact h' pins s σ H x v vl vu lo hi sl Q I rx hs pl pu q
def tSl(r:V->Option Int->Option Int->Hp->VK->Prop)(te:TE)(tl th:TO):TE:=fun σ H Q=>te σ H fun x H1=>tl σ H1 fun l H2=>th σ H2 fun u H3=>r x l u H3 Q
theorem x7r{r:V->Option Int->Option Int->Hp->VK->Prop}(hr:SlR X r)(he:PE X e te)(hl:PO X lo tl)(hu:PO X hi th):PE X (.Subscript e (.Slice lo hi none p2) pos) (tSl r te tl th):=by
 intro pins s σ H Q I h;refine Subscript_ (thn (he pins s σ H _ I h) fun v s1 ⟨x,H1,I1,r1,q1⟩=>?_)
 refine wpAny_Slice (thn (hl pins s1 σ H1 _ I1 q1) fun vl s2 ⟨l,H2,I2,pl,q2⟩=>thn (hu pins s2 σ H2 _ I2 q2) fun vu s3 ⟨u,H3,I3,pu,q3⟩=>?_)
 rw[evalPart_none];refine wpAny_pure ?_;have I4:Inv X pins σ H3 {s3 with heap:=s3.heap.push {cls:=.type "slice", data:=.fields #[vl,vu,.none]}}:=I3.kept (t':=s3.toks) fun b ob q=>Heap.get?_push_of_some _ q
 obtain⟨T,id,hT,ht,hg⟩:=hr pins {s3 with heap:=s3.heap.push {cls:=.type "slice", data:=.fields #[vl,vu,.none]}} σ H3 x v vl vu l u s3.heap.objs.size Q I4 r1 (Heap.IsSliceOf.new ..) pl pu q3;show wpAny (model X.prog X.w) X.A (subscriptTail e (.Slice lo hi none p2) v (.ref s3.heap.objs.size)) (EP X pins σ Q) X.xe {s3 with heap:=s3.heap.push {cls:=.type "slice", data:=.fields #[vl,vu,.none]}};exact tail_any (ops:=[.ref s3.heap.objs.size,v]) ht hT hg (by with_unfolding_all rfl)
def cutV(xs:List V)(lo hi:Option Int):List V:=(xs.drop (HT.sIx xs.length 0 lo)).take (HT.sIx xs.length xs.length hi-HT.sIx xs.length 0 lo)
theorem q7b(xs:List V)(lo hi:Option Int):(cutV xs lo hi).length<=xs.length:=by
 unfold cutV;rw[w2b,w3s];exact w1c (w3r _ _) (Nat.sub_le _ _)
def rSlT(K:Fg):V->Option Int->Option Int->Hp->VK->Prop:=fun x lo hi H Q=>∃a xs,x=.ref a/\SqT K H a xs /\
 ¬(HT.sIx xs.length 0 lo=0/\HT.sIx xs.length xs.length hi=xs.length)/\∀p,H p=none->Q (.ref p) (upd H p (.tup (cutV xs lo hi)))
theorem y5o:SlR X (rSlT X.K):=by
 intro pins s σ H x v vl vu lo hi sl Q I rx hs pl pu h;obtain⟨a,xs,rfl,hx,hw,q⟩:=h;cases rx;obtain⟨its,r,ht,hz⟩:=I.tuple hx;have hlen:its.toArray.size=xs.length:=by rw[w0c];exact r.length.symm
 refine⟨"tuple", _,PyProof.Rows.slot_tuple_getitem.lookup,ht.typeIs,?_⟩;refine HT.getItem_tuple_cut ht hs pl pu (by rw[hlen];exact hw) ?_ (by rw[hlen];exact hz);rw[hlen];refine⟨.ref s.heap.objs.size,_,I.laid (t':=s.toks) (o:=.tup (cutV xs lo hi)) (fun b ob q=>Heap.get?_push_of_some _ q) (w0g _) ?_,rfl,q _ (I.hok.fresh (w0g _))⟩
 exact⟨w1c (q7b xs lo hi) hz,_,(r.drop (HT.sIx xs.length 0 lo)).take (HT.sIx xs.length xs.length hi-HT.sIx xs.length 0 lo),IsTup.new _ _,_,Heap.get?_push_size _ rfl,rfl⟩
def rCatT(K:Fg):R2:=fun x y H Q=>∃a b xs ys,x=.ref a/\y=.ref b/\SqT K H a xs/\SqT K H b ys/\xs≠[]/\xs.length+ys.length<=sizeLine /\
 (ys=[]->Q (.ref a) H)/\(ys≠[]->∀p,H p=none->Q (.ref p) (upd H p (.tup (xs++ys))))
theorem Vals.nil_iff(r:Vals xs us):us=[]↔xs=[]:=by
 cases r with
 |nil=>simp
 |cons _ _=>simp
theorem op_catT:OpR X (binaryOp .Add) (rCatT X.K):=by
 intro pins s σ H x y v u Q I rx ry h;obtain⟨a,b,xs,ys,rfl,rfl,ha,hb,hx,hz,q1,q2⟩:=h;cases rx;cases ry;obtain⟨its,r1,p1,_⟩:=I.tuple ha;obtain⟨its2,r2,p2,_⟩:=I.tuple hb;refine HT.cat_tup p1 p2 (fun z=>hx (r1.nil_iff.mp z)) (fun z=>⟨.ref a,H,I,rfl,q1 (r2.nil_iff.mp z)⟩) (fun z=>?_) (by rw[<- r1.length,<- r2.length];exact hz)
 refine⟨.ref s.heap.objs.size,_,I.laid (t':=s.toks) (o:=.tup (xs++ys)) (fun b ob q=>Heap.get?_push_of_some _ q) (w0g _) ?_,rfl,q2 (fun w=>z (r2.nil_iff.mpr w)) _ (I.hok.fresh (w0g _))⟩
 exact⟨by rw[w0l];exact hz,_,r1.append r2,IsTup.new _ _,_,Heap.get?_push_size _ rfl,rfl⟩
end
def ixN(n:Nat)(i:Int):Option Nat:=if 0<=i then(if i<n then some i.toNat else none)else if -(n:Int)<=i then some (i+n).toNat else none
def atI(xs:List α)(i:Int):Option α:=(ixN xs.length i).bind fun j=>xs[j]?
theorem x2o{i:Int}{j:Nat}(h:ixN n i=some j):seqIndex? i n=some j/\j<n/\-(n:Int)<=i/\i<n:=by
 unfold ixN at h
 by_cases h0:0<=i
 ·rw[if_pos h0]at h
  by_cases h1:i<n
  ·rw[if_pos h1]at h;have e:i.toNat=j:=Option.some.inj h;exact⟨by rw[seqIndex_of h0 h1,e],by omega,by omega,h1⟩
  ·rw[if_neg h1]at h;cases h
 ·rw[if_neg h0]at h
  by_cases h1:-(n:Int)<=i
  ·rw[if_pos h1]at h;have e:(i+n).toNat=j:=Option.some.inj h;exact⟨by rw[seqIndex_neg (by omega) h1,e],by omega,h1,by omega⟩
  ·rw[if_neg h1]at h;cases h
theorem q82{xs:List α}{i:Int}{v:α}(h:atI xs i=some v):∃j,seqIndex? i xs.length=some j/\xs[j]?=some v/\j<xs.length/\-(xs.length:Int)<=i/\i<xs.length:=by
 unfold atI at h;cases e:ixN xs.length i with
 |none=>rw[e]at h;cases h
 |some j=>
  rw[e]at h;obtain⟨h1,h2,h3,h4⟩:=x2o e;exact⟨j,h1,h,h2,h3,h4⟩
theorem q19{xs:List α}{j:Nat}{v:α}(h:xs[j]?=some v):atI xs (j:Int)=some v:=by
 have hj:j<xs.length:=(w0b.mp h).1
 have e:ixN xs.length (j:Int)=some j:=by
  unfold ixN;rw[if_pos (by omega),if_pos (by omega)];simp
 unfold atI;rw[e];exact h
def PlainIx(b:Expr):Prop:=∀o i,subscripted b false o i=operate [o,i] (getItem o i)
def IxR(X:Cx)(r:R2):Prop:=
 ∀(value slice:Expr)(pins:List (Addr×Obj))(s:Shared)(σ:St)(H:Hp)(x y:V)(v u:Value)(Q:VK),Inv X pins σ H s->RelV x v->RelV y u->r x y H Q ->
  subscripted slice false v u=operate [v,u] (getItem v u)->wpAny (model X.prog X.w) X.A (subscriptTail value slice v u) (EP X pins σ Q) X.xe s
def MtR(X:Cx)(id:String)(r:V->List V->Hp->VK->Prop):Prop:=
 ∀(pins:List (Addr×Obj))(s:Shared)(σ:St)(H:Hp)(x:V)(xs:List V)(v:Value)(us:List Value)(Q:VK),Inv X pins σ H s->RelV x v->Vals xs us->r x xs H Q ->
  wpAny (model X.prog X.w) X.A (call (.builtin id) (v::us)) (EP X pins σ Q) X.xe s
section
variable{a b:Expr}{ta tb:TE}{pos:Pos}
theorem IxR.or{r r':R2}(h:IxR X r)(h':IxR X r'):IxR X (fun x y H Q=>r x y H Q\/r' x y H Q):=by
 intro value slice pins s σ H x y v u Q I rx ry q hs;rcases q with q|q
 ·exact h value slice pins s σ H x y v u Q I rx ry q hs
 ·exact h' value slice pins s σ H x y v u Q I rx ry q hs
theorem q5z{r:R2}(hr:IxR X r)(ha:PE X a ta)(hb:PE X b tb)(hs:PlainIx b):PE X (.Subscript a b pos) (tOp r ta tb):=by
 intro pins s σ H Q I h;exact Subscript_ (binT ha hb I h fun v u s2 x y H2 I2 rx ry q=>hr a b pins s2 σ H2 x y v u Q I2 rx ry q (hs _ _))
def rIxL(K:Fg):R2:=fun x y H Q=>∃p xs i v,x=.ref p/\y=.int i/\SqL K H p xs/\atI xs i=some v/\Q v H
def rIxT(K:Fg):R2:=fun x y H Q=>∃p xs i v,x=.ref p/\y=.int i/\SqT K H p xs/\atI xs i=some v/\Q v H
def rIxS:R2:=fun x y H Q=>∃z i c,x=.str z/\y=.int i/\z.length<=sizeLine/\atI z.cps.toList i=some c/\Q (.str ⟨#[c]⟩) H
theorem ix_list:IxR X (rIxL X.K):=by
 intro value slice pins s σ H x y v u Q I rx ry h hs;obtain⟨p,xs,i,z,rfl,rfl,hq,he,q⟩:=h;cases rx;obtain⟨t,rfl⟩:=ry;obtain⟨its,r,pl,hz⟩:=I.list hq;obtain⟨j,h1,h2,h3,h4,h5⟩:=q82 he;obtain⟨w,ew,rw'⟩:=r.get h2;have hl:=r.length;have hn:=line63;have fin:EP X pins σ Q w s:=⟨z,H,I,rw',q⟩
 by_cases h0:0<=i
 ·have hj:i.toNat=j:=by
   rw[seqIndex_of h0 h5]at h1;exact Option.some.inj h1
  exact item_listR pl.isList h0 (by omega) (by rw[hj];simpa using ew) fin hs
 ·have hj:(i+(its.toArray.size:Int)).toNat=j:=by
   rw[seqIndex_neg (by omega) h4]at h1;rw[w0c,<- hl];exact Option.some.inj h1
  exact subscriptTail_builtinR (x:=w) pl.isList.typeIs slot_list_getitem.lookup
   (wpAny_getItem_list_neg (Q:=fun r s'=>r=w/\EP X pins σ Q r s') pl.isList (by omega) (by rw[w0c]<;>omega) (by omega) (by rw[hj];simpa using ew) ⟨rfl,fin⟩) hs
theorem ix_tup:IxR X (rIxT X.K):=by
 intro value slice pins s σ H x y v u Q I rx ry h hs;obtain⟨p,xs,i,z,rfl,rfl,hq,he,q⟩:=h;cases rx;obtain⟨t,rfl⟩:=ry;obtain⟨its,r,pl,hz⟩:=I.tuple hq;obtain⟨j,h1,h2,h3,h4,h5⟩:=q82 he;obtain⟨w,ew,rw'⟩:=r.get h2;have hl:=r.length;have hn:=line63;have fin:EP X pins σ Q w s:=⟨z,H,I,rw',q⟩
 exact subscriptTail_builtinR (x:=w) pl.typeIs slot_tuple_getitem.lookup
  (getItem_tuple (j:=j) (Q:=fun r s'=>r=w/\EP X pins σ Q r s') pl (by omega) (by omega) (by rw[w0c,<- hl];exact h1) (by simpa using ew) ⟨rfl,fin⟩) hs
theorem y5p:IxR X rIxS:=by
 intro value slice pins s σ H x y v u Q I rx ry h hs;obtain⟨z,i,c,rfl,rfl,hz,he,q⟩:=h;obtain⟨t,rfl⟩:=rx;obtain⟨t',rfl⟩:=ry;obtain⟨j,h1,h2,h3,h4,h5⟩:=q82 he;have hl:z.cps.toList.length=z.length:=by simp[Str.length]
 rw[hl]at h1 h4 h5;have hn:=line63
 exact tail_any (typeIs_str s z t) slot_str_getitem.lookup (getItem_str (c:=c) (by
  have e1:decide (i < -(2^63:Int))=false:=decide_eq_false (by omega);have e2:decide (i>=2^63)=false:=decide_eq_false (by omega);rw[e1,e2,Bool.or_false]) (by rw[h1];simpa using h2) ⟨.str ⟨#[c]⟩,H,I.tok _,⟨_,rfl⟩,q⟩) hs
def rIx(K:Fg):R2:=fun x y H Q=>rIxL K x y H Q\/rIxT K x y H Q\/rIxS x y H Q
theorem x46:IxR X (rIx X.K):=ix_list.or (ix_tup.or y5p)
theorem x3x(its:List Value)(n j:Nat)(u:Value):Obj.mapSeq (·.setIfInBounds j u) {cls:=.type "list", data:=.seq its.toArray n}={cls:=.type "list", data:=.seq (its.set j u).toArray n}:=by
 simp[Obj.mapSeq]
theorem Inv.lst{p:Addr}(I:Inv X pins σ H s)(h:H p=some (.lst xs)):
  ∃(its:List Value)(n:Nat),Vals xs its/\s.heap.get? p=some {cls:=.type "list", data:=.seq its.toArray n}/\xs.length<=sizeLine:=by
 obtain⟨z,its,n,r,e⟩:=I.hok p _ h;exact⟨its,n,r,e,z⟩
theorem Inv.lstUpd{p:Addr}{ys:List V}{its':List Value}{n':Nat}{f:Obj->Obj}(I:Inv X pins σ H s)(h:H p=some (.lst xs))
  (ho:s.heap.get? p=some {cls:=.type "list", data:=.seq its.toArray n})(hf:f {cls:=.type "list", data:=.seq its.toArray n}={cls:=.type "list", data:=.seq its'.toArray n'})(r:Vals ys its')(hz:ys.length<=sizeLine)(t:Nat):
  Inv X pins σ (upd H p (.lst ys)) {s with heap:=s.heap.update p f,toks:=t}:=by
 have e:(s.heap.update p f).get? p=some {cls:=.type "list", data:=.seq its'.toArray n'}:=by
  rw[Heap.get?_update_self f ho (by rw[hf]<;>rfl),hf]
 refine I.write (x:=p) (e:=p) (by rw[h];trivial) (.inl rfl) (fun b u hb q=>(Heap.get?_update_other _ _ (Ne.symm hb)).trans q) ⟨_,e⟩ ?_
 exact⟨hz,its',n',r,e⟩
def rSetL:V->V->V->Hp->(Hp->Prop)->Prop:=fun o i v H Q=>∃p xs k j,o=.ref p/\i=.int k/\H p=some (.lst xs)/\ixN xs.length k=some j/\Q (upd H p (.lst (xs.set j v)))
theorem x0v:PSet X rSetL:=by
 intro pins s σ H o i v ov iv u Q I ro ri rv h;obtain⟨p,xs,k,j,rfl,rfl,hp,hj,q⟩:=h;cases ro;obtain⟨t,rfl⟩:=ri;obtain⟨its,n,r,ho,hz⟩:=I.lst hp;obtain⟨h1,h2,h3,h4⟩:=x2o hj;have hl:=r.length;have hn:=line63
 have I':Inv X pins σ (upd H p (.lst (xs.set j v))) {s with heap:=s.heap.update p (Obj.mapSeq (·.setIfInBounds j u))}:=
  I.lstUpd hp ho (x3x its n j u) (r.set rv j) (by rw[w2w];exact hz) s.toks
 by_cases h0:0<=k
 ·have hk:k.toNat=j:=by
   rw[seqIndex_of h0 h4]at h1;exact Option.some.inj h1
  exact PySem.W.ki_setAt ho h0 (by omega) (by rw[w0c,<- hl];exact h4) (by rw[hk];exact⟨_,I',q⟩)
 ·have hk:(k+(its.toArray.size:Int)).toNat=j:=by
   rw[seqIndex_neg (by omega) h3]at h1;rw[w0c,<- hl];exact Option.some.inj h1
  exact PySem.W.ki_setBack ho (by omega) (by rw[w0c,<- hl];exact h3) (by omega) (by rw[hk];exact⟨_,I',q⟩)
theorem x0w(lo hi:Option Int)(n:Nat):(sliceBounds lo hi none n).1=((HT.sIx n 0 lo:Nat):Int)/\(sliceBounds lo hi none n).2.1=((HT.sIx n n hi:Nat):Int)/\(sliceBounds lo hi none n).2.2=1:=by
 refine⟨?_,?_,rfl⟩
 ·cases lo with
  |none=>simp[sliceBounds,HT.sIx]
  |some i=>
   simp only[sliceBounds,HT.sIx,Option.getD_none,show(1:Int)>0 by decide,if_true]
   by_cases h:i<0
   ·simp only[h,if_true]<;>omega
   ·simp only[h,if_false]<;>omega
 ·cases hi with
  |none=>simp[sliceBounds,HT.sIx]
  |some i=>
   simp only[sliceBounds,HT.sIx,Option.getD_none,show(1:Int)>0 by decide,if_true]
   by_cases h:i<0
   ·simp only[h,if_true]<;>omega
   ·simp only[h,if_false]<;>omega
theorem q95(its:List Value)(lo hi:Option Int):slicePick its.toArray lo hi none=((its.drop (HT.sIx its.length 0 lo)).take (HT.sIx its.length its.length hi-HT.sIx its.length 0 lo)).toArray:=by
 obtain⟨h1,h2,h3⟩:=x0w lo hi its.toArray.size;unfold slicePick;rw[h1,h2,h3];simp only[sliceRange_one,pick_run,w0c]<;>rfl
def rSlL(K:Fg):V->Option Int->Option Int->Hp->VK->Prop:=fun x lo hi H Q=>∃a xs,x=.ref a/\SqL K H a xs/\∀p,H p=none->Q (.ref p) (upd H p (.lst (cutV xs lo hi)))
theorem sl_list:SlR X (rSlL X.K):=by
 intro pins s σ H x v vl vu lo hi sl Q I rx hs pl pu h;obtain⟨a,xs,rfl,hx,q⟩:=h;cases rx;obtain⟨its,r,ht,hz⟩:=I.list hx;have hlen:=r.length;refine⟨"list", _,slot_list_getitem.lookup,ht.isList.typeIs,?_⟩;refine wpAny_getItem_list_slice ht.isList hs pl pu .none (by simp) ?_ (by rw[w0c]<;>omega);rw[q95,<- hlen];refine⟨.ref s.heap.objs.size,_,I.laid (t':=s.toks) (o:=.lst (cutV xs lo hi)) (fun b ob q=>Heap.get?_push_of_some _ q) (w0g _) ?_,rfl,q _ (I.hok.fresh (w0g _))⟩
 exact⟨w1c (q7b xs lo hi) hz,_,0,(r.drop (HT.sIx xs.length 0 lo)).take (HT.sIx xs.length xs.length hi-HT.sIx xs.length 0 lo),Heap.get?_push_size _ rfl⟩
theorem q6b:CallR X (.type "list") (fun xs H Q=>∃p ys,xs=[.ref p]/\(SqL X.K H p ys\/SqT X.K H p ys)/\∀l,H l=none->Q (.ref l) (upd H l (.lst ys))):=by
 intro pins s σ H xs us Q I r h;obtain⟨p,ys,rfl,hq,q⟩:=h;obtain⟨u,rfl,rx⟩:=vals1 r;cases rx
 have fin:∀(its:List Value),Vals ys its->ys.length<=sizeLine->∀(h':Heap)(c':Nat),(∀b o',s.heap.get? b=some o'->h'.get? b=some o') ->
   h'.get? s.heap.objs.size=some {cls:=.type "list", dict:=none,data:=.seq its.toArray c',slots:=#[]}->EP X pins σ Q (.ref s.heap.objs.size) {s with heap:=h'}:=fun its r' hz h' c' kp e=>
  ⟨.ref s.heap.objs.size,_,I.laid (t':=s.toks) kp (w0g _) (show ObjOk X.prog X.w _ h' _ (.lst ys)from⟨hz,its,c',r',e⟩),rfl,q _ (I.hok.fresh (w0g _))⟩
 rcases hq with hq|hq
 ·obtain⟨its,r',pl,hz⟩:=I.list hq;have hlen:=r'.length;obtain⟨o,ho,hc,n,hd⟩:=pl.isList;exact call_list_seq p (.inl rfl) ho hc hd (fun h' c' kp e=>fin its r' hz h' c' kp e) (by simp only[w0c]<;>omega)
 ·obtain⟨its,r',pl,hz⟩:=I.tuple hq;have hlen:=r'.length;obtain⟨o,ho,hc,n,hd⟩:=pl;exact call_list_seq p (.inr rfl) ho hc hd (fun h' c' kp e=>fin its r' hz h' c' kp e) (by simp only[w0c]<;>omega)
theorem q96:CallR X (.type "tuple") (fun xs H Q=>∃p ys,xs=[.ref p]/\((SqL X.K H p ys/\∀l,H l=none->Q (.ref l) (upd H l (.tup ys)))\/(SqT X.K H p ys/\Q (.ref p) H))):=by
 intro pins s σ H xs us Q I r h;obtain⟨p,ys,rfl,h⟩:=h;obtain⟨u,rfl,rx⟩:=vals1 r;cases rx;rcases h with⟨hq,q⟩|⟨hq,q⟩
 ·obtain⟨its,r',pl,hz⟩:=I.list hq;have hlen:=r'.length;refine call_tuple_list pl.isList (fun h' kp=>?_) (by simp only[w0c]<;>omega)
  have I1:Inv X pins σ H {s with heap:=h'}:=I.kept (t':=s.toks) kp
  have I2:Inv X pins σ (upd H h'.objs.size (.tup ys)) {s with heap:=h'.push {cls:=.type "tuple", data:=.seq its.toArray}}:=
   I1.laid (t':=s.toks) (fun b o e=>Heap.get?_push_of_some _ e) (w0g _) (show ObjOk X.prog X.w _ _ _ (.tup ys)from⟨hz,its,r',IsTup.new _ _,_,Heap.get?_push_size _ rfl,rfl⟩)
  exact⟨.ref h'.objs.size,_,I2,rfl,q _ (I1.hok.fresh (w0g _))⟩
 ·obtain⟨its,r',pl,hz⟩:=I.tuple hq;exact call_tuple_same pl ⟨.ref p,H,I,rfl,q⟩
def tyV(K:Fg)(T:String)(x:V)(H:Hp):Prop:=match x with
 |.str _=>T="str"
 |.int _=>T="int"
 |.ref p=>(T="list" /\ ∃xs,SqL K H p xs)\/(T="tuple" /\ ∃o,K.lookup p=some o/\o.cls=.type "tuple" /\ o.dict=none) \/
   (T="dict" /\ ((∃kvs,H p=some (.dK kvs))\/∃sh kvs kas,H p=some (.dT sh kvs kas)))\/(T="set" /\ ∃S n,H p=some (.set S n))
 |_=>False
theorem x47{T:String}{x:V}{v:Value}(I:Inv X pins σ H s)(r:RelV x v)(ty:tyV X.K T x H):
  s.TypeIs v T/\∀a,v=.ref a->∃ob,s.heap.get? a=some ob/\ob.dict=none:=by
 cases x with
 |str z=>
  obtain⟨t,rfl⟩:=r;cases(show T="str" from ty);exact⟨typeIs_str s z t,fun _ e=>nomatch e⟩
 |int i=>
  obtain⟨t,rfl⟩:=r;cases(show T="int" from ty);exact⟨typeIs_int s i t,fun _ e=>nomatch e⟩
 |ref p=>
  cases r;rcases ty with⟨rfl,xs,hq⟩|⟨rfl,o,hk,hc,hd⟩|⟨rfl,hk⟩|⟨rfl,S,n,hk⟩
  ·obtain⟨its,_,pl,_⟩:=I.list hq;refine⟨pl.isList.typeIs,fun a e=>?_⟩
   cases e;obtain⟨o,n,e,c,hd,_⟩:=pl;exact⟨o,e,hd⟩
  ·refine⟨⟨o,I.kIn p o hk,hc⟩,fun a e=>?_⟩
   cases e;exact⟨o,I.kIn _ o hk,hd⟩
  ·have z:∃o,s.heap.get? p=some o/\o.ExactDict:=by
    rcases hk with⟨kvs,hk⟩|⟨sh,kvs,kas,hk⟩
    ·obtain⟨_,_,_,_,o,_,_,e,ex,_⟩:=I.hok p _ hk;exact⟨o,e,ex⟩
    ·obtain⟨_,_,_,_,_,o,_,_,e,ex,_⟩:=I.hok p _ hk;exact⟨o,e,ex⟩
   obtain⟨o,e,ex⟩:=z;refine⟨⟨o,e,ex.1⟩,fun a e2=>?_⟩
   cases e2;exact⟨o,e,ex.2.1⟩
  ·obtain⟨o,_,_,_,e,ex,_⟩:=I.hok p _ hk;refine⟨⟨o,e,ex.1⟩,fun a e2=>?_⟩
   cases e2;exact⟨o,e,ex.2.1⟩
 |_=>exact False.elim ty
def tBM0(K:Fg)(T:String)(r:V->List V->Hp->VK->Prop)(to:TE):TE:=fun σ H Q=>to σ H fun x H1=>tyV K T x H1/\r x [] H1 Q
def tBM(K:Fg)(T:String)(r:V->List V->Hp->VK->Prop)(to:TE)(t:TA):TE:=fun σ H Q=>to σ H fun x H1=>tyV K T x H1/\t σ H1 fun xs H2=>r x xs H2 Q
variable{o e:Expr}{es:List Expr}{to:TE}{t:TA}{name:Str}{apos cpos:Pos}{T id:String}{r:V->List V->Hp->VK->Prop}
theorem x48(pa:PlainAttrs T)(slot:Slot T name id)(hty:typeOf (.builtin id)=pure (.type "method_descriptor"))(hm:MtR X id r)(ho:PE X o to)
  (hbase:attributeBase o name X.env (eval o X.env)=eval o X.env:=by rfl)(hline:(apos.endLine==cpos.line)=true:=by rfl):PE X (.Call (.Attribute o name apos) [] [] cpos) (tBM0 X.K T r to):=by
 intro pins s σ H Q I h;refine wpAny_Call_method0_late hbase hline (thn (ho pins s σ H _ I h) fun v s1 ⟨x,H1,I1,r1,ty,q1⟩=>?_)
 obtain⟨h1,h2⟩:=x47 I1 r1 ty;exact⟨T,id,pa,slot,hty,h1,h2,Calls.callWith_builtin rfl (PySem.evalArgs_none (hm pins s1 σ H1 x [] v [] Q I1 r1 .nil q1))⟩
theorem y0o(pa:PlainAttrs T)(slot:Slot T name id)(hty:typeOf (.builtin id)=pure (.type "method_descriptor"))(hm:MtR X id r)(ho:PE X o to)(ha:PA X (e::es) t)
  (hbase:attributeBase o name X.env (eval o X.env)=eval o X.env:=by rfl)
  (hfew:((backTo cpos (starEach (e::es) X.env)).all (fun x=>!x.1)&&(backToKw cpos (keywordEach [] X.env)).all (fun x=>x.1.isSome)
   && decide ((e::es).length+([]:List Keyword).length+(if([]:List Keyword).isEmpty then 0 else 1)<30))=true:=by rfl)
  (hline:(apos.endLine==cpos.line)=true:=by rfl)(hs:starEach (e::es) X.env=(false,eval e X.env)::starEach es X.env:=by rfl)(hplain:(backTo cpos (starEach es X.env)).any (·.1)=false:=by rfl):
  PE X (.Call (.Attribute o name apos) (e::es) [] cpos) (tBM X.K T r to t):=by
 intro pins s σ H Q I h;refine wpAny_Call_method_late hbase hfew hline rfl (thn (ho pins s σ H _ I h) fun v s1 ⟨x,H1,I1,r1,ty,q1⟩=>?_)
 obtain⟨h1,h2⟩:=x47 I1 r1 ty;refine⟨T,id,pa,slot,hty,h1,h2,?_⟩;have hA:=ha cpos pins s1 σ H1 _ I1 q1;rw[hs]at hA |-
 refine Calls.callWith_builtin (by show(false||(backTo cpos (starEach es X.env)).any (·.1))=false;rw[hplain]<;>rfl) (Calls.evalArgs_plain ?_);exact thn hA fun us s2 ⟨vs,H2,I2,r2,q2⟩=>hm pins s2 σ H2 x vs v us Q I2 r1 r2 q2
/- xs.append(e),list.index on a module's tuple .. are MtR facts of 06m -/
end
def MtM(X:Cx)(id:String)(r:V->List V->Hp->VK->Prop):Prop:=
 ∀(pins:List (Addr×Obj))(s:Shared)(σ:St)(H:Hp)(x:V)(xs:List V)(v:Value)(us:List Value)(Q:VK),Inv X pins σ H s->RelV x v->Vals xs us->r x xs H Q ->
  wpAny (model X.prog X.w) X.A (call (.builtin id) (v::us)) (EP X pins σ Q) X.xe s
theorem Vals.one{x:V}(h:Vals [x] us):∃u,us=[u]/\RelV x u:=vals1 h
theorem Vals.zero:∀{us:List Value},Vals [] us->us=[]
 |_,.nil=>rfl
theorem Vals.reverse(h:Vals xs us):Vals xs.reverse us.reverse:=by
 induction h with
 |nil=>exact .nil
 |cons r t ih=>rw[w2f,w2f];exact Vals.append ih (.cons r .nil)
theorem Vals.rep(h:Vals xs us):∀k:Nat,Vals (List.replicate k xs).flatten (List.replicate k us).flatten
 |0=>.nil
 |k+1=>by
  rw[w1e,w1e,w1n,w1n];exact Vals.append h (Vals.rep h k)
theorem q6c(its:List Value):∀(k:Nat)(acc:List Value),
  List.foldl (fun x1 x2=>x1++x2) acc.toArray (List.replicate k its.toArray)=(acc++(List.replicate k its).flatten).toArray
 |0,acc=>by simp
 |k+1,acc=>by
  have e:acc.toArray++its.toArray=(acc++its).toArray:=by simp
  have e2:(acc++its)++(List.replicate k its).flatten=acc++(List.replicate (k+1) its).flatten:=by
   rw[w1e,w1n,w2g]
  rw[<- e2,<- q6c its k (acc++its),<- e,w1e,List.foldl_cons]
section
variable{l b:Addr}{ys zs:List V}
theorem Inv.lset{its':List Value}{f:Array Value->Array Value}{t':Nat}(I:Inv X pins σ H s)(hH:H l=some (.lst xs))
  (e:s.heap.get? l=some {cls:=.type "list", data:=.seq its.toArray n})(hf:f its.toArray=its'.toArray)(hv:Vals ys its')(hz:ys.length<=sizeLine):
  Inv X pins σ (upd H l (.lst ys)) {s with heap:=s.heap.update l (Obj.mapSeq f),toks:=t'}:=by
 have q:=PySem.IsL.update e f;rw[hf]at q;refine I.write (x:=l) (e:=l) (by rw[hH];exact trivial) (.inl rfl) (fun b' u hb hu=>(Heap.get?_update_other s.heap (Obj.mapSeq f) (Ne.symm hb)).trans hu) ⟨_,q⟩ ?_
 exact⟨hz,its',_,hv,q⟩
theorem Inv.lnew{t':Nat}(I:Inv X pins σ H s)(hv:Vals ys its)(hz:ys.length<=sizeLine):
  Inv X pins σ (upd H s.heap.objs.size (.lst ys)) {s with heap:=s.heap.push {cls:=.type "list", data:=.seq its.toArray},toks:=t'}:=
 I.laid (fun _ _ q=>Heap.get?_push_of_some _ q) (w0g _) ⟨hz,its,0,hv,Heap.get?_push_size _ rfl⟩
theorem Inv.fresh(I:Inv X pins σ H s):H s.heap.objs.size=none:=I.hok.fresh (w0g _)
theorem Inv.lstM(I:Inv X pins σ H s)(hH:H l=some (.lst xs)):xs.length<=sizeLine/\∃(its:List Value)(n:Nat),Vals xs its/\xs.length=its.length/\s.heap.get? l=some {cls:=.type "list", data:=.seq its.toArray n}:=by
 obtain⟨z,its,n,r,e⟩:=I.hok l _ hH;exact⟨z,its,n,r,r.length,e⟩
theorem notLongL(h:n<=sizeLine):Builtin.List.listTooLong n=false:=by
 unfold Builtin.List.listTooLong;exact decide_eq_false (by omega)
end
def rAppend:V->List V->Hp->VK->Prop:=fun x vs H Q=>∃l xs y,x=.ref l/\vs=[y]/\H l=some (.lst xs)/\xs.length<sizeLine/\Q .non (upd H l (.lst (xs++[y])))
theorem q6d:MtM X "list.append" rAppend:=by
 intro pins s σ H x vs v us Q I rx rv h;obtain⟨l,xs,y,rfl,rfl,hH,hz,q⟩:=h;cases rx;obtain⟨u,rfl,ru⟩:=rv.one;obtain⟨z,its,n,r,hl,e⟩:=I.lstM hH;refine call_meets F.slot_list_append ⟨_,e,rfl⟩ F.entry_list_append (F.args_list_append_2 _ _) (PySem.list_append l its.toArray n u (by rw[w0c];omega)) ⟨e,?_⟩;refine⟨.non,_,I.lset (its':=its++[u]) hH e (by simp) (r.append (.cons ru .nil)) ?_,rfl,q⟩;rw[w0l,w3w];omega
def rReverse:V->List V->Hp->VK->Prop:=fun x vs H Q=>∃l xs,x=.ref l/\vs=[]/\H l=some (.lst xs)/\Q .non (upd H l (.lst xs.reverse))
theorem x3y:MtM X "list.reverse" rReverse:=by
 intro pins s σ H x vs v us Q I rx rv h;obtain⟨l,xs,rfl,rfl,hH,q⟩:=h;cases rx;have hus:=rv.zero;subst hus;obtain⟨z,its,n,r,hl,e⟩:=I.lstM hH;refine call_meets F.slot_list_reverse ⟨_,e,rfl⟩ F.entry_list_reverse (F.args_list_reverse_1 _) (AutoSeq1.list_reverse_list_0 l its.toArray n (by rw[w0c];omega)) ⟨e,?_⟩;refine⟨.non,_,I.lset (its':=its.reverse) hH e (by simp) r.reverse ?_,rfl,q⟩;rw[w2s];omega
def rClear:V->List V->Hp->VK->Prop:=fun x vs H Q=>∃l xs,x=.ref l/\vs=[]/\H l=some (.lst xs)/\Q .non (upd H l (.lst []))
theorem x7s:MtM X "list.clear" rClear:=by
 intro pins s σ H x vs v us Q I rx rv h;obtain⟨l,xs,rfl,rfl,hH,q⟩:=h;cases rx;have hus:=rv.zero;subst hus;obtain⟨z,its,n,r,hl,e⟩:=I.lstM hH;refine call_meets F.slot_list_clear ⟨_,e,rfl⟩ F.entry_list_clear (F.args_list_clear_1 _) (AutoSeq1.list_clear_list_0 l its.toArray n (by rw[w0c];omega)) ⟨e,?_⟩;exact⟨.non,_,I.lset (its':=[]) (ys:=[]) hH e rfl .nil (w1b _),rfl,q⟩
theorem len_rep(xs:List α)(k:Nat):(List.replicate k xs).flatten.length=k*xs.length:=by
 induction k with
 |zero=>simp
 |succ k ih=>rw[w1e,w1n,w0l,ih,Nat.succ_mul,Nat.add_comm]
end L2
namespace Att
open PySem PySem.W PySem.Calls PyProof.Rows
theorem q75{P:Params}{h:Heap}:∀(ns:List Int)(vs:List Value),WellAll P h vs (ns.map WData.int)->IntsAre vs ns:=by
 intro ns
 induction ns with
 |nil=>
  intro vs w;rw[w3c]at w;cases w;exact .nil
 |cons n ns ih=>
  intro vs w;rw[w0v]at w;cases w with
  |cons a b=>
   cases a;exact .cons _ _ (ih _ b)
theorem x49{l:OpenLaw}{n:Nat}(hn:l.most=some n){P:Params}{h:Heap}{args:List WData}{vals:List Value}
  (hpre:l.row.toRowW.claim.pre args=true)(hwl:WellAll P h vals args):
  ∃a vs ns,vals=[Value.ref a]/\args=[WData.list (ns.map WData.int)]/\h.get? a=some {cls:=.type "list", data:=.seq vs.toArray}/\IntsAre vs ns/\ns.length<=n:=by
 have hsh:WShape.hasAll [] args [.list .int]=true:=(pre_splitW hpre).1;have hc:l.pre.holds [] {args:=args}=true:=(pre_splitW hpre).2;obtain⟨d,r,rfl,h1,h2⟩:=hasAllW_cons hsh;obtain rfl:=hasAllW_nil h2;obtain⟨xs,rfl,h3⟩:=hasW_list h1;obtain⟨ns,rfl⟩:=items_int h3
 have hlen:ns.length<=n:=by
  unfold OpenLaw.pre at hc
  have h4:(WTm.not (.lt (.lit (.int (n:Int))) (.len (.arg 0)))).holds [] {args:=[.list (ns.map .int)]}=true:=by
   have h4:=(holds_andW hc).1;rw[hn]at h4;exact h4
  have h5:=condW_of h4 (w_not (w_lt w_lit (w_len_list (w_arg rfl))));rw[w0a]at h5;refine Nat.le_of_not_lt fun q=>?_
  have q':(n:Int)<((ns.length:Nat):Int):=by omega
  first
   |(rw[decide_eq_true q']at h5;exact absurd h5 (by decide))
   |(simp at h5;omega)
 cases hwl with
 |cons w1 w2=>
  cases w2;cases w1 with
  |list ho hall=>exact⟨_,_,ns,rfl,rfl,ho,q75 ns _ hall,hlen⟩
theorem x5a(l:OpenLaw)(args:List WData):l.row.toRowW.claim.post args (.bool true) args=true:=
 postW_of (r:=l.row.toRowW) (X:=(true==true))
  (show WShape.has [] (.bool true) .bool=true by first|rfl|decide|simp[WShape.has,WShape.arms,WShape.armsAll])
  (show(WTm.eq .res (.lit (.bool true))).value [] {args:=args,res:=some (.bool true),after:=args}=some (.bool (true==true))from w_eq_bool (w_res rfl) w_lit) rfl
theorem attach_call{l:OpenLaw}{n:Nat}{q:Program}{loose:List Str}{XP:(Str->Option Value)->Heap->Prop}{YP:World->Heap->Prop}{d:DefRec}
  (hn:l.most=some n)(hdf:d.params.defaults=[])
  (call:∀(w:World)(s₀ s₁:Shared)(mg mb:Str->Option Value)(fa:Addr)(o:Obj)(pm cd doc:Value)(a:Addr)(vs:List Value)(ns:List Int),
   Ground q loose [] XP w s₀ mg mb s₁.heap->YP w s₁.heap ->
   s₁.heap.get? fa=some o->o.data=.func (docDef d.name d.params d.body d.scope pm cd doc)->s₁.heap.CodeRec cd d.name->mg d.name=some (.ref fa) ->
   s₁.heap.get? a=some {cls:=.type "list", data:=.seq vs.toArray}->IntsAre vs ns->ns.length<=n->s₁.gens=#[] ->
   codeAny (model l.prog w) callerA (.call (.ref fa) ⟨[.ref a],[]⟩) (fun r s'=>r=.ok (.ret (.bool true))/\OldK s₁.heap s'.heap/\s'.os=s₁.os/\AllBare s'.gens) s₁):
  WalkO q loose XP YP l.row.toRowW d [] (fun f vs=>PySem.call f vs):=by
 intro w s₀ s₁ mg mb G Y fa o pm cd doc dV kV ho hd hcd hD hmg hg args vals as hpre hlay hrd hwl hlo;obtain rfl:dV=.none:=Dflts.none hD hdf;obtain rfl:kV=.none:=Dflts.noKw hD;obtain⟨a,vs,ns,rfl,rfl,hobj,hints,hlen⟩:=x49 hn hpre hwl;refine enter_call (codeAny_mono (call w s₀ s₁ mg mb fa o pm cd doc a vs ns G Y ho (fd_plain hd) hcd hmg hobj hints hlen hg) fun r s' hq=>?_)
 obtain⟨rfl,h2,h3,h4⟩:=hq;exact⟨.inl ⟨.bool true,.bool true,[],rfl,fun _=>rfl,.bool true,x5a l _,fun _=>⟨List.Pairwise.nil,fun _ hm=>(nomatch hm)⟩⟩,h2,h3,h4⟩
section
variable{prog:Program}{w:World}{A:Around}{E:Value->Shared->Prop}{s:Shared}{K:Frag}
def ledger(h:Heap)(L d:Addr):List (Addr×Obj):=(List.range h.objs.size).filterMap fun a=>if a=L\/a=d then none else(h.get? a).map fun o=>(a,o)
end
end Att
namespace L2
open PySem PySem.Spec PyProof.Rows
theorem q6e:∀{vs:List Value}{ns:List Int},IntsAre vs ns->Vals (ns.map V.int) vs
 |_,_,.nil=>.nil
 |_,_,.cons n t h=>.cons ⟨t,rfl⟩ (q6e h)
def Only(H:Hp):Prop:=∀b,H b=none\/∃o xs,H b=some (.frz o (.lst xs))
theorem x7t{P:Program}{w:World}{K:Fg}{mg mb:Str->Option Value}{CX:CXT}{k:Nat}{fa a:Addr}{fd:FuncData}{x:Str}{sp:Sp}{s₁:Shared}{vs:List Value}{ns:List Int}
  (KX:K.In s₁.heap)(hns:s₁.heap.Ns mainGlobals mg)(hb:s₁.heap.Ns builtinsNs mb)(hbb:∀x:Str,x≠"__name__"->mb x=bootBuiltins x)(hlim:s₁.heap.NoLimit)(hg:s₁.gens=#[])
  (ha:s₁.heap.get? a=some {cls:=.type "list", data:=.seq vs.toArray})(hi:IntsAre vs ns)(hl:ns.length<=sizeLine)(hr:Room k callerA)
  (F:∀base:Heap,K.In base->base.Ns mainGlobals mg->FnOk P w K mg base CX k fa fd [x] sp)(hbind:∀(s:Shared)(u:Value),BindsTo s fd ⟨[u],[]⟩ [(x,u)])
  (hsp:∀H:Hp,Only H->SqL K H a (ns.map V.int)->sp [.ref a] H (fun v _=>v=.bl true) fun _ _ _=>False)
  (hCX:∀H e s',CX [] H s₁ (fun _ _ _=>False) e s'->False)(hNM:noMark K=true):
  codeAny (model P w) callerA (.call (.ref fa) ⟨[.ref a],[]⟩) (fun r s'=>r=.ok (.ret (.bool true))/\OldK s₁.heap s'.heap/\s'.os=s₁.os/\AllBare s'.gens) s₁:=by
 have rv:=q6e hi;have lenV:=hi.length
 have core:∀H:Hp,Only H->SqL K H a (ns.map V.int)->HOk P w H s₁.heap->(∀b,H b≠none->b=a)->(H a≠none->K.lookup a=none) ->
   codeAny (model P w) callerA (.call (.ref fa) ⟨[.ref a],[]⟩) (fun r s'=>r=.ok (.ret (.bool true))/\OldK s₁.heap s'.heap/\s'.os=s₁.os/\AllBare s'.gens) s₁:=by
  intro H hO hS hok hA hK;have base_of:∀{b:Addr}{o:Obj},s₁.heap.get? b=some o->H b=none->(hidT s₁.heap H).get? b=some o:=fun e n=>x0k e n
  have noA:∀{b:Addr}{o:Obj}{es:Array DictEntry}{ep:Nat},s₁.heap.get? b=some o->o.data=.dict es ep->H b=none:=fun {b o es ep} e d=>by
   cases q:H b with
   |none=>rfl
   |some u=>
    have e':b=a:=hA b (by rw[q];simp);subst e';rw[ha]at e;cases e;have d':Data.seq vs.toArray _=Data.dict es ep:=d;cases d'
  have nsK:∀{b:Addr}{m:Str->Option Value},s₁.heap.Ns b m->(hidT s₁.heap H).Ns b m:=fun {b m} ⟨o,es,ep,e,d,r⟩=>⟨o,es,ep,base_of e (noA e d),d,r⟩
  have hKb:K.In (hidT s₁.heap H):=fun b o e=>base_of (KX b o e) (by
   cases q:H b with
   |none=>rfl
   |some u=>
    have e':b=a:=hA b (by rw[q];simp);subst e';rw[hK (by rw[q];simp)]at e;cases e)
  have hM:Mod K mg (hidT s₁.heap H):=⟨hKb,nsK hns,⟨mb,nsK hb,hbb⟩,let ⟨mc,h1,h2⟩:=hlim;⟨mc,nsK h1,h2⟩⟩;have e0:Env0 P w K mg (hidT s₁.heap H) callerA [] s₁ H:=⟨rfl,hM,fun b o e=>x2l e,Nat.le_of_eq (q9g _ _),trivial,fun b hb=>absurd (show b∈([]:List Addr)from hb) (by simp),hok,.of_eq hg,.vac hNM⟩
  refine codeAny_mono ((F _ hKb (nsK hns)).run callerA [] s₁ H ⟨[.ref a],[]⟩ [.ref a] [.ref a] _ _ hr e0 (hbind s₁ (.ref a)) (.cons rfl .nil) (hsp H hO hS)) fun r s' h=>?_
  cases r with
  |error e=>exact(hCX H e s' h).elim
  |ok fl=>
   cases fl with
   |next=>exact False.elim h
   |brk=>exact False.elim h
   |cont=>exact False.elim h
   |ret u=>
    obtain⟨v,H',os,bare,un,hok',r',q⟩:=h;have q':v=.bl true:=q;subst q';obtain rfl:u=Value.bool true:=r';refine⟨rfl,OldK.of_keep fun b o e=>?_,os,bare⟩
    cases q:H b with
    |none=>exact un.keep b o e q (by intro z;exact absurd (show b∈([]:List Addr)from z) (by simp)) (by simp)
    |some u=>
     rcases hO b with z|⟨ob,xs,z⟩
     ·rw[q]at z;cases z
     ·have z2:=un.frzs b ob _ z;obtain⟨e1,_⟩:=hok b _ z;obtain⟨e2,_⟩:=hok' b _ z2;rw[e]at e1;cases e1;exact e2
 cases hk:K.lookup a with
 |some o=>
  have e:=KX a o hk;rw[ha]at e;cases e;refine core (fun _=>none) (fun _=>.inl rfl) (.inr ⟨_,vs.toArray,_,hk,rfl,rfl,rfl,by rw[w0c,lenV];exact hl,by simpa using rv⟩) (fun b u z=>by have z':(none:Option HO)=some u:=z;cases z') (fun b z=>absurd rfl z) fun z=>absurd rfl z
 |none=>
  refine core (fun b=>if b=a then some (.frz {cls:=.type "list", data:=.seq vs.toArray} (.lst (ns.map V.int)))else none) (fun b=>?_) (.inl (.inr ⟨{cls:=.type "list", data:=.seq vs.toArray},if_pos rfl⟩)) (fun b u z=>?_) (fun b z=>?_) fun _=>hk
  ·by_cases hb:b=a
   ·exact .inr ⟨_,_,if_pos hb⟩
   ·exact .inl (if_neg hb)
  ·by_cases hb:b=a
   ·have z':=(if_pos hb).symm.trans z;cases z';subst hb;exact⟨ha,by rw[w0a];exact hl,vs,_,rv,ha⟩
   ·have z':=(if_neg hb).symm.trans z;cases z'
  ·by_cases hb:b=a
   ·exact hb
   ·exact absurd (if_neg hb) z
noncomputable abbrev KOf{K:Fg}{h:Heap}(_:K.In h):Fg:=K
theorem y1c{l:PySem.W.OpenLaw}{n k:Nat}{q:Program}{loose:List Str}{XP:(Str->Option Value)->Heap->Prop}{YP:World->Heap->Prop}{d:DefRec}{K:Params->Fg}{CX:World->CXT}{sp:World->Sp}{x:Str}
  (hn:l.most=some n)(hn2:n<=sizeLine)(hdf:d.params.defaults=[])(hr:Room k callerA)
  (hY:∀(w:World)(h:Heap),YP w h->(K w.params).In h)
  (F:∀(w:World)(mg:Str->Option Value)(fa:Addr)(h:Heap),(K w.params).In h->h.Ns mainGlobals mg->mg d.name=some (.ref fa) ->
   ∃fd:FuncData,(∀(s:Shared)(u:Value),BindsTo s fd ⟨[u],[]⟩ [(x,u)]) /\
    ∀base:Heap,(K w.params).In base->base.Ns mainGlobals mg->FnOk l.prog w (K w.params) mg base (CX w) k fa fd [x] (sp w))
  (hsp:∀(w:World)(H:Hp)(a:Addr)(ns:List Int),ns.length<=n->Only H->SqL (K w.params) H a (ns.map V.int)->sp w [.ref a] H (fun v _=>v=.bl true) fun _ _ _=>False)
  (hCX:∀(w:World)(H:Hp)(s:Shared)(e:Value)(s':Shared),CX w [] H s (fun _ _ _=>False) e s'->False)(hNM:∀w:World,noMark (K w.params)=true):
  PySem.W.WalkO q loose XP YP l.row.toRowW d [] (fun f vs=>PySem.call f vs):=by
 refine Att.attach_call hn hdf fun w s₀ s₁ mg mb fa o pm cd doc a vs ns G Y ho hd hcd hmg hobj hints hlen hg=>?_
 have KX:=hY w _ Y;obtain⟨fd,hb,hF⟩:=F w mg fa _ KX G.T.g hmg;exact x7t KX G.T.g G.T.b G.T.builtins G.T.nolimit hg hobj hints (w1c hlen hn2) hr hF hb (fun H hO hS=>hsp w H a ns hlen hO hS) (fun H e s'=>hCX w H s₁ e s') (hNM w)
end L2
/- THE LAST THEOREM (shape; LID, My.* are yours):
   My.Adr: a structure of the addresses that your layer names (classes, functions); My.Txt K t: a structure (Prop) of the equations over K;
   My.txt_mk : {K} {implicit addresses ..} (e1 : nsIn K mainGlobals "law" = some (some (.ref f))) (e2 : K.lookup f = some ⟨oc, od, .func (fnOf "law" "law" params body scope dV kV doc pm an cdv ct), sl⟩) (e3 : codeIn K cdv "law" = true) .. : ∃ t, My.Txt K t
set_option maxRecDepth 100000 in
set_option maxHeartbeats 0 in
theorem PySem.Challenge.cw_LID_holds : PySem.Challenge.rw_LID.Holds := by
 w_on; o_law; k_head; (case hw => w_witness2)
 k_fill
 refine L2.y1c (l := PySem.Challenge.rw_LID) (n := 63) (k := 40) (x := "script") (CX := fun w => ..) (sp := fun _ => My.sp_law) rfl (by decide) rfl ⟨rfl, by decide, by decide⟩ (fun w h Y => PySem.W.kIn_of Y) ?F ?S ?C
 case F =>
  intro w mg fa h KX G hmg
  have T : ∃ t, My.Txt (L2.KOf KX) t := by
   dsimp only [L2.KOf]                          -- K must stand as «<heap const> w.params» for k_is;refine' My.txt_mk ?e1 ?e2 ?e3 ..
   (case e1 => PySem.W.k_is)                    -- in the order: a name -> its address -> its object -> its parts
   (case e2 => PySem.W.k_is)
   ..
  obtain ⟨t, T⟩ := T;have e0 := hmg.symm.trans (mg_of KX G T.law);cases e0                                       -- fa is the law's own address;exact ⟨_, fun s u => .of_eq rfl, fun base kb nb => My.law_fn T kb nb⟩     -- if «.of_eq rfl» comes too early: refine' ⟨_, ?b, fun base kb nb => My.law_fn T kb nb⟩; exact fun s u => .of_eq rfl
 case S => exact fun w H a ns hl hO hS => ..
 case C => exact ..
(the tactic k_is has no namespace: write k_is) -/
namespace L2
open PySem PySem.Spec PyProof.Rows
variable{f:Addr}{X:Cx}{env:Env}{e:Expr}{fd:FuncData}{H H':Hp}{pins:List (Addr×Obj)}{es ifs:List Expr}{js:List Nat}{N ps:List Str}{k:Nat}{pos:Pos}{P:Program}{K:Fg}{s:Shared}{sp:Sp}{σ:St}{qual x:Str}{mg:Str->Option Value}{te:TE}{v:V}{w:World}
def defArgs(s:Stmt):Arguments:=match s with
 |.FunctionDef _ a _ _ _ _ _ _ _ _=>a
 |_=>{posonlyargs:=[],args:=[],vararg:=none,kwonlyargs:=[],kw_defaults:=[],kwarg:=none,defaults:=[]}
def defBody(s:Stmt):List Stmt:=match s with
 |.FunctionDef _ _ b _ _ _ _ _ _ _=>b
 |_=>[]
def defScope(s:Stmt):Scope:=match s with
 |.FunctionDef _ _ _ _ _ _ sc _ _ _=>sc
 |_=>{kind:=.function,names:=[],isGenerator:=false,isCoroutine:=false}
noncomputable abbrev CX0:CXT:=fun _ _ _ _ _ _=>False
noncomputable abbrev E0:XK:=fun _ _ _=>False
structure Fun(K:Fg)(x qual:Str)(st:Stmt)(f:Addr)(fd:FuncData):Prop where
 ex:∃(oc:Value)(od:Option Addr)(kV doc pm:Value)(an:Option Addr)(cdv ct:Value)(osl:Array (Option Value)),
  fd=PySem.W.fnOf x qual (defArgs st) (defBody st) (defScope st) .none kV doc pm an cdv ct/\K.lookup f=some ⟨oc,od,.func fd,osl⟩/\PySem.W.codeIn K cdv qual=true
 kp:keepIn K (.ref f)=true
section
variable{base:Heap}
theorem Fun.binds{st:Stmt}{ps:List Str}(F:Fun K x qual st f fd)
  (h:∀(kV doc pm:Value)(an:Option Addr)(cdv ct:Value)(us:List Value),us.length=ps.length->bindArgs (PySem.W.fnOf x qual (defArgs st) (defBody st) (defScope st) .none kV doc pm an cdv ct) ⟨us,[]⟩=pure (ps.zip us)):Binds K fd ps []:=by
 obtain⟨oc,od,kV,doc,pm,an,cdv,ct,osl,rfl,lk,hcd⟩:=F.ex;exact .all (h kV doc pm an cdv ct)
theorem q0q{st:Stmt}{oc:Value}{od an:Option Addr}{osl:Array (Option Value)}{kV doc pm cdv ct:Value}(l:K.lookup f=some ⟨oc,od,.func (PySem.W.fnOf x qual (defArgs st) (defBody st) (defScope st) .none kV doc pm an cdv ct),osl⟩)
  (c:PySem.W.codeIn K cdv qual=true)(k:keepIn K (.ref f)=true):Fun K x qual st f (PySem.W.fnOf x qual (defArgs st) (defBody st) (defScope st) .none kV doc pm an cdv ct):=⟨⟨oc,od,kV,doc,pm,an,cdv,ct,osl,rfl,l,c⟩,k⟩
end
theorem pv(i:Nat)(hN:X.N[i]?=some x:=by rfl)(hv:Vis X.env.scope x:=by walk_at "1")(hd:(x==("__debug__":Str))=false:=by decide)
  (hcd:(x==("__classdict__":Str))=false:=by decide):PE X (.Name x pos) (tVar i):=y46 hN hv hd hcd
def Same(H H':Hp):Prop:=∀b o,H b=some o->H' b=some o
theorem Same.refl(H:Hp):Same H H:=fun _ _ h=>h
theorem Same.trans{H1 H2:Hp}(a:Same H H1)(b:Same H1 H2):Same H H2:=fun c o h=>b c o (a c o h)
theorem Same.free(e:Same H H'){l:Addr}(h:H' l=Option.none):H l=Option.none:=by
 cases q:H l with
 |none=>rfl
 |some o=>
  rw[e l o q]at h;cases h
theorem Same.seq{a:Addr}{xs:List V}(e:Same H H')(h:SqL K H a xs):SqL K H' a xs:=by
 rcases h with(h|⟨o,h⟩)|h
 ·exact .inl (.inl (e _ _ h))
 ·exact .inl (.inr ⟨o,e _ _ h⟩)
 ·exact .inr h
set_option maxHeartbeats 4000000
theorem ObjOk.get{h:Heap}{a:Addr}{o:HO}(x:ObjOk P w H h a o):∃ob,h.get? a=some ob:=by
 cases o with
 |lst xs=>obtain⟨_,_,_,_,e⟩:=x;exact⟨_,e⟩
 |tup xs=>obtain⟨_,_,_,p,_⟩:=x;obtain⟨o,e,_⟩:=p;exact⟨o,e⟩
 |dK kvs=>obtain⟨_,_,_,_,o,_,_,e,_⟩:=x;exact⟨_,e⟩
 |dT sh kvs kas=>obtain⟨_,_,_,_,_,o,_,_,e,_⟩:=x;exact⟨_,e⟩
 |set S n=>obtain⟨o,_,_,_,e,_⟩:=x;exact⟨_,e⟩
 |ins C dx fs=>obtain⟨_,_,_,e,_⟩:=x;exact⟨_,e⟩
 |own y=>obtain⟨_,e⟩:=x;exact⟨_,e⟩
 |xd fs=>obtain⟨_,⟨_,_,_,e,_⟩,_⟩:=x;exact⟨_,e⟩
 |rng lo hi=>obtain⟨_,_,_,e⟩:=x;exact⟨_,e⟩
 |frz ob u=>obtain⟨e,_⟩:=x;exact⟨_,e⟩
 |tbl ps=>rcases x with⟨_,_,_,_,e,_⟩|⟨_,_,_,_,_,_,_,_,_,_,_,_,e⟩<;>exact⟨_,e⟩
 |met f y=>exact⟨_,(show h.get? a=some _ from x)⟩
 |ext φ=>obtain⟨_,⟨_,e⟩,_⟩:=x;exact⟨_,e⟩
structure Fly(outer:List Env)(H H':Hp)(h h':Heap)(e:Addr)(cls:Value)(B:Heap):Prop where
 fl:∃a0,Heap.FlyingW B outer e cls a0 h'
 old:∀b o,h.get? b=some o->H b=none->b∉frs outer->B.get? b=some o
 trk:∀b u o,H' b=some u->h'.get? b=some o->B.get? b=some o
 all:∀b o,h.get? b=some o->b∈frs outer\/∃o',B.get? b=some o'
 new:h.get? e=none
def CX1(P:Program)(w:World):CXT:=fun outer H s E ev s'=>∃(e:Addr)(cls:Value)(H':Hp)(B:Heap),
 ev=.ref e/\s'.os=s.os/\AllBare s'.gens/\Un (frs outer) [] H H' s.heap s'.heap/\HOk P w H' s'.heap/\Fly outer H H' s.heap s'.heap e cls B/\E cls none H'
def PassX(CX:CXT)(X:Cx)(EE:L2.St->XK):Prop:=∀(pins:List (Addr×Obj))(σ:St)(H:Hp)(s:Shared)(e:Value)(s':Shared),Inv X pins σ H s->CX X.stack H s (EE σ) e s'->X.xe e s'
section
variable{CX:CXT}{base:Heap}{scope:Scope}{cd:Value}{A:Around}{outer:List Env}{s₀:Shared}{H₀:Hp}{E:XK}
theorem y1d{s':Shared}{e:Addr}{cls:Value}{B h'':Heap}{a0:Value}
  (I:Inv (cxOf CX P w K mg base N qual scope f cd A outer s₀ H₀ E) pins σ H s)(J:Inv (cxOf CX P w K mg base N qual scope f cd A outer s₀ H₀ E) pins σ H' s')
  (old:∀b o,s.heap.get? b=some o->H b=none->b∉frs (envOfC qual scope s₀.heap.objs.size f cd::outer)->B.get? b=some o)
  (trk:∀b u o,H' b=some u->s'.heap.get? b=some o->B.get? b=some o)
  (all:∀b o,s.heap.get? b=some o->b∈frs (envOfC qual scope s₀.heap.objs.size f cd::outer)\/∃o',B.get? b=some o')
  (new:s.heap.get? e=none)
  (fl:Heap.FlyingW B outer e cls a0 h'')(up:s'.heap.UpToSlots h'')(hE:E cls none H'):
  CX1 P w outer H₀ s₀ E (.ref e) {s' with heap:=h''}:=by
 have neL:∀b o,s₀.heap.get? b=some o->b∉frs outer->b∉frs (envOfC qual scope s₀.heap.objs.size f cd::outer):=fun b o q nb hb=>by
  rcases w0p.mp (show b∈s₀.heap.objs.size::frs outer from hb)with z|z
  ·exact absurd (Heap.lt_size q) (by rw[z];exact w2k _)
  ·exact nb z
 have ex0:∀b:Addr,b∉([]:List Addr):=fun b z=>nomatch z
 have slot:∀b o,s₀.heap.get? b=some o->b∈frs outer->∃sl,h''.get? b=some {o with slots:=sl}:=fun b o q hb=>by
  obtain⟨sl,e1⟩:=J.base.slot b o q (J.ok.frf b hb) hb (ex0 b);obtain⟨_,o2,e2,nd⟩:=J.funs.mem hb
  rw[e1]at e2;cases e2;obtain⟨sl',e3⟩:=up b _ e1 nd;exact⟨sl',e3⟩
 refine⟨e,cls,H',B,rfl,J.os,J.bare,⟨fun b o q n hb hx=>?_,fun b o q n hb hx=>slot b o q hb,fun b o q n hx=>J.base.free b o q n hx,fun b o q hx=>?_,J.base.tups,J.base.frzs,J.base.tbls⟩,fun a o q=>?_,⟨⟨a0,fl⟩,fun b o q n hb=>?_,fun b u o q z=>?_,fun b o q=>?_,?_⟩,hE⟩
 ·exact fl.1 b o (old b o (I.base.keep b o q n hb hx) (I.base.free b o q n hx) (neL b o q hb))
 ·by_cases hb:b∈frs outer
  ·obtain⟨sl,z⟩:=slot b o q hb;exact⟨_,z⟩
  ·obtain⟨o1,e1⟩:=I.base.there b o q hx;rcases all b o1 e1 with z|⟨o',z⟩
   ·exact absurd z (neL b o q hb)
   ·exact⟨o',fl.1 b o' z⟩
 ·refine(J.hok a o q).stay (fun b u hb z=>?_) (fun _ z=>z) fun _ _ _ z=>z
  rcases hb with rfl|hb
  ·exact fl.1 _ _ (trk b o u q z)
  ·exact fl.1 _ _ (trk b _ u hb z)
 ·exact old b o (I.base.keep b o q n hb (ex0 b)) (I.base.free b o q n (ex0 b)) (neL b o q hb)
 ·obtain⟨o1,e1⟩:=(J.hok b u q).get;have e2:=trk b u o1 q e1;have e3:=fl.1 b o1 e2;rw[e3]at z;cases z;exact e2
 ·obtain⟨o1,e1⟩:=I.base.there b o q (ex0 b);rcases all b o1 e1 with z|z
  ·by_cases hb:b∈frs outer
   ·exact .inl hb
   ·exact absurd z (neL b o q hb)
  ·exact .inr z
 ·cases q:s₀.heap.get? e with
  |none=>rfl
  |some o=>
   obtain⟨o1,e1⟩:=I.base.there e o q (ex0 e);rw[new]at e1;cases e1
theorem pass1:PassX (CX1 P w) (cxOf (CX1 P w) P w K mg base N qual scope f cd A outer s₀ H₀ E) (fun _=>E):=by
 intro pins σ H s ev s' I hx;obtain⟨e,cls,H',B,rfl,hos,hg,un,hok,fly,hE⟩:=hx;have J:=I.call' (ch:=[]) hos un hok hg (fun b hb=>nomatch hb)
 obtain⟨a0,fl⟩:=fly.fl;refine wpAny_leaves_onW (base:=B) I.ok.frames rfl fl fun h'' fl2 up=>?_
 exact y1d I J fly.old fly.trk fly.all fly.new fl2 up hE
end
theorem passE:PassX (CX1 P w) X (fun _=>E0):=fun _ _ _ _ _ _ _ h=>by
 obtain⟨_,_,_,_,_,_,_,_,_,_,z⟩:=h;exact False.elim z
def tCallX(sp:Sp)(dvs:List V)(EE:L2.St->XK)(t:TA):TE:=fun σ H Q=>t σ H fun vs H1=>sp (vs++dvs) H1 Q (EE σ)
section
variable{CX:CXT}{C:Addr}{dvs:List V}{ds:List Value}{EE:L2.St->XK}{m:Str}{p apos:Pos}{o:Expr}{ta:TE}{t:TA}
theorem y1e{Q:VK}{us:List Value}{vs:List V}(F:FnOk X.prog X.w X.K X.mg X.base CX k f fd ps sp)(hr:Room k X.A)(hb:Binds X.K fd ps ds)(hd:Vals dvs ds)(hx:PassX CX X EE)
  (I:Inv X pins σ H s)(r:Vals vs us)(h:sp (vs++dvs) H Q (EE σ)):wpAny (model X.prog X.w) X.A (call (.ref f) us) (EP X pins σ Q) X.xe s:=by
 have r2:Vals (vs++dvs) (us++ds):=r.append hd;have hl:(us++ds).length=ps.length:=by rw[<- r2.length];exact F.len _ _ _ _ h
 refine wpAny_call (codeAny_mono (F.run X.A X.stack s H ⟨us,[]⟩ (us++ds) (vs++dvs) Q (EE σ) hr I.env0 (hb s us I.kIn hl) r2 h) fun r s' hq=>?_)
 cases r with
 |error e=>exact hx pins σ H s e s' I hq
 |ok fl=>
  cases fl with
  |ret u=>exact I.after hq
  |next=>exact False.elim hq
  |brk=>exact False.elim hq
  |cont=>exact False.elim hq
theorem x7u(F:FnOk X.prog X.w X.K X.mg X.base CX k f fd ps sp)(hr:Room k X.A)(hg:Gl X x)(hm:X.mg x=some (.ref f))(hk:keepIn X.K (.ref f)=true)(hb:Binds X.K fd ps ds)(hd:Vals dvs ds)(hx:PassX CX X EE)
  (ha:PA X (e::es) t)(hdb:(x==("__debug__":Str))=false:=by decide)(he:starEach (e::es) X.env=(false,eval e X.env)::starEach es X.env:=by rfl)(hpl:(backTo pos (starEach es X.env)).any (·.1)=false:=by rfl):
  PE X (.Call (.Name x p) (e::es) [] pos) (tCallX sp dvs EE t):=by
 intro pins s σ H Q I h;refine wpAny_Call_Name_kw (y01 I hg hm ?_ hdb);refine PySem.W.callWith_K (h₀:=X.base) I.ok.mod.kin hk (thn (ha pos pins s σ H _ I h) fun us s1 ⟨vs,H1,I1,r,q⟩=>⟨I1.kIn,?_⟩) he hpl
 exact y1e F hr hb hd hx I1 r q
end
section
variable{base:Heap}
theorem Fun.okX{st:Stmt}(F:Fun K x qual st f fd)(S:FnScope N ps (defScope st))(len:∀vs H Q E,sp vs H Q E->vs.length=ps.length)
  (hbody:∀(cdv:Value)(A:Around)(outer:List Env)(s:Shared)(H:Hp)(vs:List V)(Q:VK)(E:XK),Room k (A.deeper (envOfC qual (defScope st) s.heap.objs.size f cdv))->sp vs H Q E ->
   ∃t,PSs (cxOf (CX1 P w) P w K mg base N qual (defScope st) f cdv A outer s H E) (defBody st) t/\t {nx:=fun _ H'=>Q .non H',rt:=Q} (start N vs) H):FnOk P w K mg base (CX1 P w) (k+1) f fd ps sp:=by
 obtain⟨oc,od,kV,doc,pm,an,cdv,ct,osl,rfl,lk,hcd⟩:=F.ex;exact y0n lk hcd S len fun A outer s H vs Q E hr hsp=>hbody cdv A outer s H vs Q E hr hsp
end
def excO(e:Addr)(cls:Value):HO:=.ext fun h=>∃o vs,h.get? e=some o/\o.cls=cls/\o.data=.fields vs
noncomputable abbrev Cx.hn(X:Cx)(e:Addr):Cx:={X with A:=X.A.mark (some (.ref e)),calm:=false,xe:=fun _ _=>False}
structure RoomH(k:Nat)(A:Around):Prop where
 dp:A.depth+3*k+5<recursionLimit
 un:A.units+16*k+200<cLine
 gd:A.guards=some []
structure FnOkH(P:Program)(w:World)(K:Fg)(mg:Str->Option Value)(base:Heap)(k:Nat)(f:Addr)(fd:FuncData)(ps:List Str)(sp:Sp):Prop where
 len:∀vs H Q E,sp vs H Q E->vs.length=ps.length
 run:∀(A:Around)(outer:List Env)(s:Shared)(H:Hp)(args:Args)(us:List Value)(vs:List V)(Q:VK),RoomH k A->Env0 P w K mg base A outer s H->BindsTo s fd args (ps.zip us)->Vals vs us->sp vs H Q E0 ->
  codeAny (model P w) A (.call (.ref f) args) (CR CX0 outer P w H s Q E0) s
noncomputable abbrev Cx.cp(X:Cx)(Nc:List Str)(scope:Scope)(cl:List (Str×Addr))(C:Addr)(s₀:Shared)(H₀:Hp)(ex:List Addr):Cx:=
 {X with N:=Nc,s₀:=s₀,H₀:=H₀,env:=compEnvC scope cl C X.env,outer:=X.stack,ex:=ex,fn:=fun _=>false,pn:=[],xe:=fun _ _=>False}
theorem q40:∀(names:List (Str×NameKind))(acc:List (Str×Addr)),(∀x∈names,x.2=.free->∃c,env.cells.lookup x.1=some c) ->
  ∃cl,(forIn names acc fun(x:Str×NameKind) (r:List (Str×Addr))=>(if(x.2==NameKind.free)=true then(cellOf env x.1 >>= fun a=>pure (ForInStep.yield ((x.1,a)::r)))else pure (ForInStep.yield r):Sem (ForInStep (List (Str×Addr)))))=pure cl /\
   (∀x c,cl.lookup x=some c->acc.lookup x=some c\/env.cells.lookup x=some c)/\(∀x,((x,NameKind.free)∈names\/(acc.lookup x).isSome=true)->(cl.lookup x).isSome=true)
 |[],acc,_=>⟨acc,rfl,fun x c h=>.inl h,fun x h=>h.elim (fun z=>nomatch z) id⟩
 |(n,k)::r,acc,h=>by
  by_cases hk:k=.free
  ·subst hk;obtain⟨c,hc⟩:=h (n,.free) w1d rfl;obtain⟨cl,e1,e2,e3⟩:=q40 r ((n,c)::acc) fun x hx=>h x (w0k _ hx)
   refine⟨cl,?_,fun x d hd=>?_,fun x hx=>?_⟩
   ·rw[w2d];have:cellOf env n=pure c:=by unfold cellOf;rw[hc]
    simp only[beq_self_eq_true,if_true,this,pure_bind];exact e1
   ·rcases e2 x d hd with z|z
    ·rw[w0y]at z
     by_cases hx:(x==n)=true
     ·rw[hx]at z;have:x=n:=by simpa using hx
      subst this;cases z;exact .inr hc
     ·rw[w1h.mpr hx]at z;exact .inl z
    ·exact .inr z
   ·refine e3 x ?_;rcases hx with z|z
    ·rcases w0p.mp z with y|y
     ·cases y;exact .inr (by rw[w0y];simp)
     ·exact .inl y
    ·refine .inr ?_;rw[w0y]
     by_cases hx:(x==n)=true
     ·rw[hx];rfl
     ·rw[w1h.mpr hx];exact z
  ·obtain⟨cl,e1,e2,e3⟩:=q40 r acc fun x hx=>h x (w0k _ hx)
   refine⟨cl,?_,e2,fun x hx=>e3 x ?_⟩
   ·rw[w2d];have:(k==NameKind.free)=false:=by simpa using hk
    simp only[this,w1u,if_false,pure_bind];exact e1
   ·rcases hx with z|z
    ·rcases w0p.mp z with y|y
     ·cases y;exact absurd rfl hk
     ·exact .inl y
    ·exact .inr z
theorem q4r{scope:Scope}(h:∀x∈scope.names,x.2=.free->∃c,env.cells.lookup x.1=some c):
  ∃cl,closureFor scope env=pure cl/\(∀x c,cl.lookup x=some c->env.cells.lookup x=some c)/\∀x,(x,NameKind.free)∈scope.names->∃c,cl.lookup x=some c:=by
 obtain⟨cl,e1,e2,e3⟩:=q40 scope.names [] h;refine⟨cl,?_,fun x c hc=>(e2 x c hc).resolve_left (fun z=>nomatch z),fun x hx=>w2e.mp (e3 x (.inl hx))⟩
 unfold closureFor
 first
  |exact e1
  |(rw[e1];rfl)
  |(simp only[e1];rfl)
theorem q6f{env : Env} : ∀ {names : List (Str × NameKind)} {x : Str}, (∀ y ∈ names, y.2 ≠ .cell) ->
    ((names.map fun (n, k) => if (k == NameKind.free && env.scope.kind == .function && env.kindOf n == some .cell) then (n, NameKind.cell) else (n, k)).lookup x = some .cell \/
     (names.map fun (n, k) => if (k == NameKind.free && env.scope.kind == .function && env.kindOf n == some .cell) then (n, NameKind.cell) else (n, k)).lookup x = some .free) -> (x, NameKind.free) ∈ names
  | [], x, _, h => by rcases h with h | h <;> cases h
  | (n, k) :: r, x, hc, h => by
    have ih := @q6f env r x fun y hy => hc y (w0k _ hy)
    rw [w0v] at h;dsimp only at h
    by_cases hx : (x == n) = true
    . have e : x = n := by simpa using hx
      subst e
      by_cases hk : k = .free
      . subst hk; exact w1d
      . exfalso
        have hb : (k == NameKind.free) = false := by simpa using hk
        simp only [hb, w1t, w1u, if_false, w0y, hx] at h;rcases h with h | h
        . exact hc (x, k) w1d (Option.some.inj h)
        . exact hk (Option.some.inj h)
    . refine w0k _ (ih ?_)
      have hb : (x == n) = false := w1h.mpr hx
      by_cases hq : (k == NameKind.free && env.scope.kind == .function && env.kindOf n == some .cell) = true
      . rw [if_pos hq] at h
        simpa only [w0y, hb] using h
      . rw [if_neg hq] at h
        simpa only [w0y, hb] using h
theorem q9l{prog:Program}{A:Around}{R:Result->Shared->Prop}{elt target iter:Expr}{scope:Scope}{it acc:Value}(I:Nat->Shared->Prop)
  (turn:∀n s,I n s->wpAny (model prog w) A (pyNext it) (fun r s1=>match r with
   |none=>R (.ok .next) s1
   |some v=>wpAny (model prog w) A (letOwnedTupleGo target it v) (fun _ s2=>wpAny (model prog w) A (assign target env v) (fun _ s3=>
     wpAny (model prog w) A (forIn ifs true fun c r=>if r=true then do let ok <- isTrue c env (eval c env);pure (ForInStep.yield ok)else pure (ForInStep.yield r)) (fun ok s4=>
      if ok=true then wpAny (model prog w) A (eval elt env) (fun x s5=>wpAny (model prog w) A (call (.builtin "list.append") [acc,x]) (fun _ s6=>∃m,m<n/\I m s6) (fun _ _=>False) s5) (fun _ _=>False) s4
      else ∃m,m<n/\I m s4) (fun _ _=>False) s3) (fun _ _=>False) s2) (fun _ _=>False) s1) (fun _ _=>False) s)
  (n:Nat)(h:I n s):codeAny (model prog w) A (.compLoop (.ListComp elt [⟨target,iter,ifs,0⟩] scope pos) 0 it acc env) R s:=by
 refine codeAny_loop rfl I (fun n s hI=>?_) n h
 show wpAny _ A ((compTurn (.ListComp elt [⟨target,iter,ifs,0⟩] scope pos) 0 it acc env).onRaise (fun x=>do noteFrame x env;theTreesLotGoes x)) _ _ s
 refine wpAny_noted ?_;rw[compTurn_list];refine wpAny_bind (wpAny_standAt (wpAny_bind (wpAny_mono (turn n s hI) (fun r s1 h1=>?_) fun _ _ z=>z.elim)))
 cases r with
 |none=>exact wpAny_pure h1
 |some v=>
  refine wpAny_bind (wpAny_mono h1 (fun _ s2 h2=>?_) fun _ _ z=>z.elim)
  refine wpAny_bind (wpAny_mono h2 (fun _ s3 h3=>?_) fun _ _ z=>z.elim)
  refine wpAny_bind (wpAny_mono h3 (fun ok s4 h4=>?_) fun _ _ z=>z.elim)
  cases ok with
  |false=>exact wpAny_pure ⟨rfl,h4⟩
  |true=>exact wpAny_bind (wpAny_bind (wpAny_mono h4 (fun x s5 h5=>wpAny_bind (wpAny_mono h5 (fun _ s6 h6=>wpAny_pure (wpAny_pure ⟨rfl,h6⟩)) fun _ _ z=>z.elim)) fun _ _ z=>z.elim))
def pj(js:List Nat)(σ:St):St:=js.map fun j=>(σ[j]?).getD none
theorem y5q{i:Nat}(h:(pj js σ)[i]?=some (some v)):∃j,js[i]?=some j/\σ[j]?=some (some v):=by
 unfold pj at h;rw[w0j]at h;cases e:js[i]? with
 |none=>rw[e]at h;cases h
 |some j=>
  rw[e]at h;have h:(σ[j]?).getD none=some v:=Option.some.inj h;refine⟨j,rfl,?_⟩;cases e2:σ[j]? with
  |none=>rw[e2]at h;cases h
  |some z=>rw[e2]at h;rw[show z=some v from h]
def PTs(X:Cx)(ifs:List Expr)(t:TT):Prop:=
 ∀(pins:List (Addr×Obj))(s:Shared)(σ:St)(H:Hp)(Q:Bool->Hp->Prop),Inv X pins σ H s->t σ H Q ->
  wpAny (model X.prog X.w) X.A (forIn ifs true fun c r=>if r=true then do let ok <- isTrue c X.env (eval c X.env);pure (ForInStep.yield ok)else pure (ForInStep.yield r)) (TP X pins σ Q) X.xe s
def tYes:TT:=fun _ H Q=>Q true H
theorem y1f:PTs X [] tYes:=fun pins s σ H Q I h=>wpAny_tests_nil ⟨H,I,h⟩
def Kp(σ σ':St):Prop:=∀(i:Nat) v,σ[i]?=some (some v)->σ'[i]?=some (some v)
theorem Kp.one:Kp (List.replicate 1 none++σ) (some v::σ):=fun i u h=>by
 cases i with
 |zero=>cases h
 |succ i=>exact h
theorem Kp.two{u:V}:Kp (List.replicate 2 none++σ) (some v::some u::σ):=fun i w h=>by
 match i,h with
 |0,h=>cases h
 |1,h=>cases h
 |i+2,h=>exact h
def tComp(wi:TI)(nl:Nat)(js:List Nat)(g:TG)(tc:TT)(te:TE):TE:=fun σ H Q=>wi σ H fun J H1=>∀D,H1 D=none->∃W:Nat->Nat->Hp->Prop,(∃m,W 0 m (upd H1 D (.lst [])))/\∀i m H2,W i m H2 ->
 (J.stop i H2/\Q (.ref D) H2)\/(J.go i H2/\∀x H3,J.yld i H2 x H3->g x (List.replicate nl none++pj js σ) H3 fun σ4 H4=>Kp (List.replicate nl none++pj js σ) σ4/\tc σ4 H4 fun b H5=>
  if b=true then te σ4 H5 fun y H6=>∃ys,H6 D=some (.lst ys)/\ys.length<sizeLine/\∃m',m'<m/\W (i+1) m' (upd H6 D (.lst (ys++[y])))else ∃m',m'<m/\W (i+1) m' H5)
section
variable{elt target iter:Expr}{scope:Scope}{wi:TI}{g:TG}{tc:TT}
theorem x0x{Nl Nf:List Str}{fp:List Addr}{cl:List (Str×Addr)}{h1:Heap}{tk:Nat}{mC:Str->Option Value}
  (I:Inv X pins σ H s)(hfp:∀b∈fp,FpOk X pins H b)(hob:∀b∈fp,∃o,s.heap.get? b=some o/\∀v,o.data≠.cell v)
  (hk:scope.kind=.function)(hcell:∀y∈scope.names,y.2≠.cell)(hcl:∀x c,cl.lookup x=some c->X.env.cells.lookup x=some c)(hcf:∀x,(x,NameKind.free)∈scope.names->∃c,cl.lookup x=some c)
  (hj:∀(i j:Nat) y,Nf[i]?=some y->js[i]?=some j->X.N[j]?=some y)(hlen:js.length=Nf.length)
  (hNf:∀y∈Nf,(y,NameKind.free)∈scope.names/\Vis X.env.scope y/\X.env.kindOf y≠some .local)
  (hvis:∀y∈Nf,(relabel scope X.env).names.lookup y=some .cell\/(relabel scope X.env).names.lookup y=some .free)
  (hn:h1.Ns (s.heap.objs.size+1) mC)(hs:Heap.SameBut (s.heap.objs.size+1) ((s.heap.push {cls:=.type "list", dict:=none,data:=.seq ([]:List Value).toArray}).push {cls:=.type "dict", data:=.dict #[]}) h1):
  Inv (X.cp (Nl++Nf) scope cl (s.heap.objs.size+1) {s with heap:=s.heap.push {cls:=.type "list", dict:=none,data:=.seq ([]:List Value).toArray}} (upd H s.heap.objs.size (.lst [])) fp) [] (List.replicate Nl.length none++pj js σ) (upd H s.heap.objs.size (.lst [])) {s with heap:=h1,toks:=tk}:=by
 have fD:H s.heap.objs.size=none:=I.hok.fresh (w0g _);have up1:∀b u,s.heap.get? b=some u->(s.heap.push {cls:=.type "list", dict:=none,data:=.seq ([]:List Value).toArray}).get? b=some u:=fun b u q=>Heap.get?_push_of_some _ q
 have szp:(s.heap.push {cls:=.type "list", dict:=none,data:=.seq ([]:List Value).toArray}).objs.size=s.heap.objs.size+1:=Heap.size_push ..
 have up2:∀b u,(s.heap.push {cls:=.type "list", dict:=none,data:=.seq ([]:List Value).toArray}).get? b=some u->h1.get? b=some u:=fun b u q=>by
  have hlt:=Heap.lt_size q;rw[szp]at hlt;exact(hs.2 b (w0u hlt)).trans (Heap.get?_push_of_some _ q)
 have up:∀b u,s.heap.get? b=some u->h1.get? b=some u:=fun b u q=>up2 b u (up1 b u q)
 have ltOf:∀b o,s.heap.get? b=some o->b≠s.heap.objs.size:=fun b o q=>w0u (Heap.lt_size q)
 have fr0:∀b o,s.heap.get? b=some o->H b=none->upd H s.heap.objs.size (.lst []) b=none:=fun b o q n=>by rw[q0c (ltOf b o q)];exact n
 have hasC:∀x,((relabel scope X.env).names.lookup x=some .cell\/(relabel scope X.env).names.lookup x=some .free)->∃c,cl.lookup x=some c:=fun x hx=>hcf x (q6f hcell hx)
 have hokD:HOk X.prog X.w (upd H s.heap.objs.size (.lst [])) (s.heap.push {cls:=.type "list", dict:=none,data:=.seq ([]:List Value).toArray}):=
  I.hok.laid up1 (w0g _) ⟨w1b _,[],_,.nil,Heap.get?_push_size _ rfl⟩
 have cellK:∀x c,cl.lookup x=some c->∃v,s.heap.IsCell c v:=fun x c e=>I.cell x c (hcl x c e)
 have cellUp:∀c v,s.heap.IsCell c v->h1.IsCell c v:=fun c v ⟨o,q,r⟩=>⟨o,up _ _ q,r⟩
 refine⟨⟨I.ok.mod,hk,I.ok.glob,I.ok.blt,(by show(s.heap.push _).objs.size<=_;rw[szp];exact w0g _),fun x y c e1 e2=>I.ok.inj x y c (hcl x c e1) (hcl y c e2),fun x hx=>hasC x hx,(fun x c z=>nomatch z),I.ok.hd,I.ok.frames,.inl rfl,fun b hb=>⟨?_,fun x c e=>?_⟩,fun b o q=>?_,?_,fun b o q hb=>?_,fun b hb hb2=>?_,?_,fun b hb=>?_,(I.ok.tab.un I.base).laid fD⟩,
  rfl,I.bare,Un.kept up2,⟨mC,hn,fun i y v e1 e2 e3=>?_⟩,fun x c e=>?_,?_,fun x c e=>?_,fun p hp=>(by cases hp),hokD.kept up2,?_⟩
 ·obtain⟨o,q,_⟩:=hob b hb;exact w0u (w2z (Heap.lt_size q))
 ·exact(hfp b hb).2.2.2.2.1 x c (hcl x c e)
 ·obtain⟨q1,q2⟩:=I.bs b o q;exact⟨up1 _ _ q1,fr0 b o q1 q2⟩
 ·show X.base.objs.size<=(s.heap.push _).objs.size;rw[szp];exact Nat.le_succ_of_le (w1c I.ok.bsz I.sz)
 ·rcases(hfp b hb).2.2.2.1 with z|z
  ·exact I.ok.noex b o q z
  ·obtain⟨q1,_⟩:=I.ok.bs b o q;exact absurd (Heap.lt_size q1) (w3o.mpr z)
 ·rcases w0p.mp (I.stkSub b hb2)with z|z
  ·exact(hfp b hb).2.1 z
  ·exact(hfp b hb).2.2.1 z
 ·exact I.stack.of_keeps fun b o q _=>⟨o,up1 _ _ q,rfl⟩
 ·obtain⟨_,o,q,_⟩:=I.stack.mem hb;exact fr0 b o q (I.stkFree b hb)
 ·-- the names
  have e2':(List.replicate Nl.length none++pj js σ)[i]?=some (some v):=e2;have e1':(Nl++Nf)[i]?=some y:=e1
  by_cases hi:i<Nl.length
  ·rw[w1m (by simpa using hi),w2v]at e2';split at e2'<;>cases e2'
  ·have hi':Nl.length<=i:=w3o.mp hi;rw[w1s (by simpa using hi')]at e2';rw[w1s hi']at e1';rw[w1k]at e2';obtain⟨j,ej,eσ⟩:=y5q e2';have hNy:=hj _ _ _ e1' ej;obtain⟨hfr,hv,hnl⟩:=hNf y (w0n e1');obtain⟨m,hm,hl⟩:=I.loc;obtain⟨u,r,l⟩:=hl j y v hNy eσ hv;refine⟨u,r,?_⟩;rcases l with⟨k,_⟩|⟨k,c,ec,z⟩
   ·exact absurd k hnl
   ·obtain⟨c',ec'⟩:=hcf y hfr;have:=hcl y c' ec';rw[ec]at this;cases this;exact .inr ⟨hvis y (w0n e1'),c,ec',cellUp _ _ z⟩
 ·obtain⟨v,z⟩:=cellK x c e;exact⟨v,cellUp _ _ z⟩
 ·show upd H s.heap.objs.size (.lst []) (s.heap.objs.size+1)=none;rw[q0c (Nat.succ_ne_self _)];exact I.hok.fresh (w4p _)
 ·obtain⟨v,o,q,_⟩:=cellK x c e;exact fr0 c o q (I.freeC x c (hcl x c e))
 ·show(List.replicate Nl.length none++pj js σ).length=(Nl++Nf).length;rw[w0l,w0l,w1k];unfold pj;rw[w0a,hlen]
theorem x5b{σ':St}{s':Shared}{Nc:List Str}{fp:List Addr}{cl:List (Str×Addr)}{h':Heap}
  (I:Inv X pins σ H s)(hfp:∀b∈fp,FpOk X pins H b)
  (J:Inv (X.cp Nc scope cl (s.heap.objs.size+1) {s with heap:=s.heap.push {cls:=.type "list", dict:=none,data:=.seq ([]:List Value).toArray}} (upd H s.heap.objs.size (.lst [])) fp) [] σ' H' s')
  (hs:Heap.SameBut (s.heap.objs.size+1) s'.heap h'):Inv X pins σ H' {s' with heap:=h'}:=by
 have fD:H s.heap.objs.size=none:=I.hok.fresh (w0g _);have up1:∀b u,s.heap.get? b=some u->(s.heap.push {cls:=.type "list", dict:=none,data:=.seq ([]:List Value).toArray}).get? b=some u:=fun b u q=>Heap.get?_push_of_some _ q
 have neC:∀b o,s.heap.get? b=some o->b≠s.heap.objs.size+1:=fun b o q=>w0u (w2z (Heap.lt_size q))
 have fr0:∀b o,s.heap.get? b=some o->H b=none->upd H s.heap.objs.size (.lst []) b=none:=fun b o q n=>by rw[q0c (w0u (Heap.lt_size q))];exact n
 have old:∀b u,H b=some u->upd H s.heap.objs.size (.lst []) b=some u:=fun b u q=>by rw[q0c (q0n q fD)];exact q
 have B:Un (frs X.stack) fp (upd H s.heap.objs.size (.lst [])) H' (s.heap.push {cls:=.type "list", dict:=none,data:=.seq ([]:List Value).toArray}) s'.heap:=J.base;have hC:H' (s.heap.objs.size+1)=none:=J.free;refine I.call' (s':={s' with heap:=h'}) (ch:=fp) (J.os.trans rfl) ⟨fun b o q n hb hx=>?_,fun b o q n hb hx=>?_,fun b o q n hx=>B.free b o (up1 _ _ q) (fr0 b o q n) hx,fun b o q hx=>?_,fun b xs q=>B.tups b xs (old _ _ q),fun b o u q=>B.frzs b o u (old _ _ q),fun b ps q=>B.tbls b ps (old _ _ q)⟩ (fun a o q=>?_) J.bare fun b hb=>?_
 ·exact(hs.2 b (neC b o q)).trans (B.keep b o (up1 _ _ q) (fr0 b o q n) hb hx)
 ·obtain⟨sl,z⟩:=B.slot b o (up1 _ _ q) (fr0 b o q n) hb hx;exact⟨sl,(hs.2 b (neC b o q)).trans z⟩
 ·obtain⟨o',z⟩:=B.there b o (up1 _ _ q) hx;exact⟨o',(hs.2 b (neC b o q)).trans z⟩
 ·refine(J.hok a o q).stay (fun c v hc z=>(hs.2 c ?_).trans z) (fun _ z=>z) fun _ _ _ z=>z
  rintro rfl;rcases hc with rfl|hc
  ·rw[hC]at q;cases q
  ·rw[hC]at hc;cases hc
 ·obtain⟨_,f1,f2,f3,f4,f5⟩:=hfp b hb;exact⟨f3,f1,f4,f5⟩
theorem y1g{Nl Nf:List Str}(hc:X.calm=true)(hi:PI X target iter wi)
  (hk:scope.kind=.function)(hcell:∀y∈scope.names,y.2≠.cell)(hnames:∀x∈scope.names,x.2=.local->scope.names.lookup x.1=some .local)
  (hfree:∀x∈scope.names,x.2=.free->X.env.kindOf x.1=some .cell\/X.env.kindOf x.1=some .free)
  (hj:∀(i j:Nat) y,Nf[i]?=some y->js[i]?=some j->X.N[j]?=some y)(hlen:js.length=Nf.length)
  (hNf:∀y∈Nf,(y,NameKind.free)∈scope.names/\Vis X.env.scope y/\X.env.kindOf y≠some .local)
  (hvis:∀y∈Nf,(relabel scope X.env).names.lookup y=some .cell\/(relabel scope X.env).names.lookup y=some .free)
  (hg:∀cl C s₀ H₀ ex,PG (X.cp (Nl++Nf) scope cl C s₀ H₀ ex) target g)(ht:∀cl C s₀ H₀ ex,PTs (X.cp (Nl++Nf) scope cl C s₀ H₀ ex) ifs tc)(he:∀cl C s₀ H₀ ex,PE (X.cp (Nl++Nf) scope cl C s₀ H₀ ex) elt te)
  (hs:∀x,foldedSetIterable iter X.env x=pure x:=by intro _;rfl):
  PE X (.ListComp elt [⟨target,iter,ifs,0⟩] scope pos) (tComp wi Nl.length js g tc te):=by
 intro pins s σ H Q I h;obtain⟨cl,hclos,hcl,hcf⟩:=q4r (scope:=scope) (env:=X.env) fun x hx hf=>I.ok.has x.1 (hfree x hx hf)
 rw[eval_ListComp];refine wpAny_comprehension_free (use:=none) rfl hs hclos hk hnames (thn (hi pins s σ H _ I h) fun v s1 h1=>thn h1 fun itv s2 h2=>?_)
 obtain⟨it,fp,tn,J,H2,e,I2,T,st2,f2,rd⟩:=h2;subst e;refine wpAny_newObj_type (wpAny_newFunctionEnv hcell (by intro y hy;simp at hy) (fun h₁ hns₁ hsb₁=>?_) hk)
 dsimp only at hns₁ hsb₁ |-
 have szp:(s2.heap.push {cls:=.type "list", dict:=none,data:=.seq ([]:List Value).toArray}).objs.size=s2.heap.objs.size+1:=Heap.size_push ..;rw[szp]at hns₁ hsb₁ |-
 have fD:H2 s2.heap.objs.size=none:=I2.hok.fresh (w0g _);obtain⟨W,⟨m0,w0⟩,turn⟩:=rd s2.heap.objs.size fD;have obj2:=T.obj 0 s2.heap st2;have IS:=x0x (Nl:=Nl) (Nf:=Nf) (js:=js) (cl:=cl) (tk:=s2.toks+([]:List (Str×Value)).length) I2 f2 obj2 hk hcell hcl hcf hj hlen hNf hvis hns₁ hsb₁
 have upS:∀b u,s2.heap.get? b=some u->h₁.get? b=some u:=fun b u q=>by
  have hlt:=Heap.lt_size q;exact(hsb₁.2 b (w0u (w2z hlt))).trans (Heap.get?_push_of_some _ (Heap.get?_push_of_some _ q))
 have stS:tn 0 h₁:=T.keep 0 s2.heap h₁ st2 fun b hb o q=>upS b o q
 have noD:∀b∈fp,upd H2 s2.heap.objs.size (.lst []) b=none:=fun b hb=>by
  obtain⟨o,q,_⟩:=obj2 b hb;rw[q0c (w0u (Heap.lt_size q))];exact(f2 b hb).1
 have stat:∀{H':Hp},(∀b∈fp,H' b=none)->∀b∈fp,FpOk (X.cp (Nl++Nf) scope cl (s2.heap.objs.size+1) {s2 with heap:=s2.heap.push {cls:=.type "list", dict:=none,data:=.seq ([]:List Value).toArray}} (upd H2 s2.heap.objs.size (.lst [])) fp) [] H' b:=fun hn b hb=>by
  refine⟨hn b hb,(IS.ok.exf b hb).1,IS.ok.exfs b hb,.inl hb,(IS.ok.exf b hb).2,fun p hp=>(by cases hp)⟩
 have loop:∀s4:Shared,s4={s2 with heap:=h₁,toks:=s2.toks+([]:List (Str×Value)).length} ->
   codeAny (model X.prog X.w) X.A (.compLoop (.ListComp elt [⟨target,iter,ifs,0⟩] scope pos) 0 (.ref it) (.ref s2.heap.objs.size) (compEnvC scope cl (s2.heap.objs.size+1) X.env))
    (compPost (model X.prog X.w) X.A X.xe none (EP X pins σ Q) (.ref s2.heap.objs.size) (s2.heap.objs.size+1)) s4:=by
  rintro s4 rfl;refine q9l (fun n s'=>∃i H',Inv (X.cp (Nl++Nf) scope cl (s2.heap.objs.size+1) {s2 with heap:=s2.heap.push {cls:=.type "list", dict:=none,data:=.seq ([]:List Value).toArray}} (upd H2 s2.heap.objs.size (.lst [])) fp) [] (List.replicate Nl.length none++pj js σ) H' s'/\tn i s'.heap/\(∀b∈fp,H' b=none)/\W i n H') ?_ m0 ⟨0,_,IS,stS,noD,w0⟩
  rintro n s3 ⟨i,H3,I3,st3,fr3,w3⟩;rcases turn i n H3 w3 with⟨stop,qn⟩|⟨go,step⟩
  ·refine thn (T.done (X.cp (Nl++Nf) scope cl (s2.heap.objs.size+1) {s2 with heap:=s2.heap.push {cls:=.type "list", dict:=none,data:=.seq ([]:List Value).toArray}} (upd H2 s2.heap.objs.size (.lst [])) fp) rfl rfl rfl hc i [] s3 _ H3 _ I3 (stat fr3) st3 stop) fun r s5 ⟨hr,I5⟩=>?_
   subst hr;obtain⟨m5,hn5,_⟩:=I5.loc;refine⟨m5,hn5,fun h' hs'=>⟨.ref s2.heap.objs.size,H3,x5b I2 f2 I5 hs',rfl,qn⟩⟩
  ·refine thn (T.item (X.cp (Nl++Nf) scope cl (s2.heap.objs.size+1) {s2 with heap:=s2.heap.push {cls:=.type "list", dict:=none,data:=.seq ([]:List Value).toArray}} (upd H2 s2.heap.objs.size (.lst [])) fp) rfl rfl rfl hc i [] s3 _ H3 _ I3 (stat fr3) st3 go) fun r s5 ⟨u,hr,h5⟩=>?_
   subst hr;refine thn h5 fun _ s6 ⟨x,H6,I6,r6,y6,st6,fr6⟩=>?_
   have I6':=I6.pinned (stat fr6) (T.obj _ _ st6);refine thn (hg _ _ _ _ _ _ s6 _ H6 x u _ I6' r6 (step x H6 y6)) fun _ s7 ⟨σ7,H7,I7,kp,q7⟩=>?_
   refine thn (ht _ _ _ _ _ _ s7 σ7 H7 _ I7 q7) fun ok s8 ⟨H8,I8,q8⟩=>?_
   have again:∀{σ9:St}{H9:Hp}{s9:Shared},Inv (X.cp (Nl++Nf) scope cl (s2.heap.objs.size+1) {s2 with heap:=s2.heap.push {cls:=.type "list", dict:=none,data:=.seq ([]:List Value).toArray}} (upd H2 s2.heap.objs.size (.lst [])) fp) ([]++pinsAt fp s6.heap) σ9 H9 s9 ->
     Kp (List.replicate Nl.length none++pj js σ) σ9->(∃m',m'<n/\W (i+1) m' H9)->∃m,m<n/\∃i H',Inv (X.cp (Nl++Nf) scope cl (s2.heap.objs.size+1) {s2 with heap:=s2.heap.push {cls:=.type "list", dict:=none,data:=.seq ([]:List Value).toArray}} (upd H2 s2.heap.objs.size (.lst [])) fp) [] (List.replicate Nl.length none++pj js σ) H' s9/\tn i s9.heap/\(∀b∈fp,H' b=none)/\W i m H':=fun {σ9 H9 s9} I9 hw ⟨m',hm,w9⟩=>by
    refine⟨m',hm,i+1,H9,I9.unpinned.weak (by rw[I9.len,<- IS.len]) hw,T.keep _ _ _ st6 fun b hb o q=>(I9.pin (b,o) (w0i _ (w0i _ (q2l hb q)))).1,fun b hb=>?_,w9⟩
    obtain⟨o,q,d⟩:=T.obj _ _ st6 b hb;exact(I9.pin (b,o) (w0i _ (w0i _ (q2l hb q)))).2.1
   cases ok with
   |false=>exact again I8 kp (by simpa using q8)
   |true=>
    have q8':=by simpa only[if_true]using q8
    refine thn (he _ _ _ _ _ _ s8 σ7 H8 _ I8 q8') fun y s9 ⟨yv,H9,I9,r9,ys,hD,hz,q9⟩=>?_
    refine thn (q6d _ s9 σ7 H9 (.ref s2.heap.objs.size) [yv] (.ref s2.heap.objs.size) [y] (fun v H'=>v=.non/\H'=upd H9 s2.heap.objs.size (.lst (ys++[yv]))) I9 rfl (.cons r9 .nil) ⟨_,ys,yv,rfl,rfl,hD,hz,rfl,rfl⟩) fun _ s10 ⟨_,H10,I10,_,_,e10⟩=>?_
    subst e10;exact again I10 kp q9
 exact codeAny_compStart_list (loop _ rfl) (T.self X.A 0 _ _ _ stS (loop _ rfl))
end
theorem q41{env:Env}:∀{names:List (Str×NameKind)}{x:Str},names.lookup x=some .free ->
  (names.map fun(n,k)=>if(k==NameKind.free&&env.scope.kind==.function&&env.kindOf n==some .cell)then(n,NameKind.cell)else(n,k)).lookup x=some .cell \/
  (names.map fun(n,k)=>if(k==NameKind.free&&env.scope.kind==.function&&env.kindOf n==some .cell)then(n,NameKind.cell)else(n,k)).lookup x=some .free
 |[],x,h=>by cases h
 |(n,k)::r,x,h=>by
  have ih:=@q41 env r x;rw[w0v];dsimp only
  by_cases hx:(x==n)=true
  ·simp only[w0y,hx]at h;cases h
   by_cases hq:(NameKind.free==NameKind.free&&env.scope.kind==.function&&env.kindOf n==some .cell)=true
   ·rw[if_pos hq];left;simp[w0y,hx]
   ·rw[if_neg hq];right;simp[w0y,hx]
  ·have hb:(x==n)=false:=w1h.mpr hx;simp only[w0y,hb]at h;have z:=ih h
   by_cases hq:(k==NameKind.free&&env.scope.kind==.function&&env.kindOf n==some .cell)=true
   ·rw[if_pos hq];simpa only[w0y,hb]using z
   ·rw[if_neg hq];simpa only[w0y,hb]using z
def compOk(sc scope:Scope)(N Nf:List Str)(js:List Nat):Bool:=
 scope.kind==.function&&scope.names.all (fun y=>y.2 != .cell)&&scope.names.all (fun y=>y.2 != .local||scope.names.lookup y.1==some .local) &&
 scope.names.all (fun y=>y.2 != .free||sc.names.lookup y.1==some .cell||sc.names.lookup y.1==some .free)&&js.length==Nf.length &&
 (List.range js.length).all (fun i=>match js[i]?,Nf[i]? with|some j,some y=>N[j]?==some y|_,_=>true) &&
 Nf.all (fun y=>scope.names.lookup y==some .free&&(sc.names.lookup y==some .cell||sc.names.lookup y==some .free))
theorem q7l{elt target iter:Expr}{scope sc:Scope}{wi:TI}{g:TG}{tc:TT}{Nl Nf:List Str}(hc:X.calm=true)(hi:PI X target iter wi)
  (ok:compOk sc scope N Nf js=true)
  (hg:∀cl C s₀ H₀ ex,PG (X.cp (Nl++Nf) scope cl C s₀ H₀ ex) target g)(ht:∀cl C s₀ H₀ ex,PTs (X.cp (Nl++Nf) scope cl C s₀ H₀ ex) ifs tc)(he:∀cl C s₀ H₀ ex,PE (X.cp (Nl++Nf) scope cl C s₀ H₀ ex) elt te)
  (hsc:X.env.scope=sc:=by rfl)(hN:X.N=N:=by rfl)(hs:∀x,foldedSetIterable iter X.env x=pure x:=by intro _;rfl):
  PE X (.ListComp elt [⟨target,iter,ifs,0⟩] scope pos) (tComp wi Nl.length js g tc te):=by
 unfold compOk at ok;simp only[w0s,w0o,beq_iff_eq,bne_iff_ne,w3x,w1x]at ok;obtain⟨⟨⟨⟨⟨⟨k1,k2⟩,k3⟩,k4⟩,k5⟩,k6⟩,k7⟩:=ok;have kind:∀x,X.env.kindOf x=sc.names.lookup x:=fun x=>by rw[<- hsc];rfl
 refine y1g hc hi k1 k2 (fun x hx hl=>(k3 x hx).resolve_left fun z=>z hl) (fun x hx hf=>?_) (fun i j y e1 e2=>?_) k5 (fun y hy=>?_) (fun y hy=>?_) hg ht he hs
 ·rw[kind];rcases k4 x hx with(z|z)|z
  ·exact absurd hf z
  ·exact .inl z
  ·exact .inr z
 ·have hlt:i<js.length:=(w0b.mp e2).1;have z:=k6 i hlt;rw[e1,e2]at z;rw[hN]
  simpa using z
 ·obtain⟨z1,z2⟩:=k7 y hy;refine⟨PySem.mem_of_lookup z1,?_,?_⟩
  ·rw[hsc];rcases z2 with z|z
   ·exact .inr (.inl z)
   ·exact .inr (.inr z)
  ·rw[kind];rcases z2 with z|z<;>(rw[z];decide)
 ·exact q41 (k7 y hy).1
abbrev TF:=Str->St->Hp->(Str->Hp->Prop)->Prop
def PF(X:Cx)(es:List Expr)(t:TF):Prop:=∀(acc:Str)(pins:List (Addr×Obj))(s:Shared)(σ:St)(H:Hp)(Q:Str->Hp->Prop),Inv X pins σ H s->t acc σ H Q ->
 Joins (model X.prog X.w) X.A X.xe (evalEach es X.env) acc (fun out s'=>out.length<=sizeLine/\∃H',Inv X pins σ H' s'/\Q out H') s
theorem x7v(hc:X.calm=true):CallR X (.builtin "all") (fun xs H Q=>∃p ys,xs=[.ref p]/\SqL X.K H p ys/\(∀y∈ys,∃b,y=.bl b)/\Q (.bl (ys.all fun y=>decide (y=.bl true))) H):=by
 intro pins s σ H xs us Q I r h;obtain⟨p,ys,rfl,hq,hb,q⟩:=h;obtain⟨u,rfl,rx⟩:=vals1 r;cases rx;obtain⟨its,r',pl,hz⟩:=I.list hq;have hl:=pl.isList;have hlt:p<s.heap.objs.size:=by obtain⟨_,e,_⟩:=hl;exact Heap.lt_size e
 have hh:X.A.in1.handled=none:=I.ok.hd hc;refine call_all_walk (wpAny_pyIter_list hl ⟨s.heap.objs.size,[s.heap.objs.size,p],[s.heap.objs.size],_,_,_,fun i=>decide (ys[i]?=some (.bl true)),rfl,Walks.list hh s.heap.objs.size p (w0u hlt) its.toArray,⟨⟨_,Heap.get?_push_size _ rfl,rfl,rfl⟩,hl.push _⟩,?_,fun h' tk kp=>?_⟩)
 ·intro i v s1 Q1 E1 hv hQ;have hv':its[i]?=some v:=by simpa using hv
  have hi:i<ys.length:=by rw[r'.length];exact(w0b.mp hv').1
  obtain⟨u,hu,ru⟩:=r'.get (w0d hi);rw[hv']at hu;cases hu;obtain⟨b,eb⟩:=hb ys[i] (w2o hi);rw[eb]at ru;cases ru;refine wpAny_truthy_bool ?_
  have e:decide (ys[i]?=some (V.bl true))=b:=by
   rw[w0d hi,eb];cases b<;>simp
  rw[<- e];exact hQ
 ·have e:(List.range its.toArray.size).all (fun i=>decide (ys[i]?=some (V.bl true)))=ys.all fun y=>decide (y=.bl true):=by
   rw[w2h,w0o,w0o];constructor
   ·intro hA y hy;obtain⟨i,hi,rfl⟩:=List.getElem_of_mem hy;have z:=hA i (by rw[w1x,w0c,<- r'.length];exact hi);rw[w0d hi]at z
    simpa using z
   ·intro hA i hi;rw[w1x,w0c,<- r'.length]at hi;have z:=hA ys[i] (w2o hi);rw[w0d hi]
    simpa using z
  refine⟨.bl _,H,I.kept (t':=tk) fun b o hbo=>kp b o (fun z=>?_) (Heap.get?_push_of_some _ hbo),rfl,e ▸ q⟩
  rw[w0q]at z;exact absurd (Heap.lt_size hbo) (by rw[z];exact w2k _)
namespace RevT
open AutoSeq1 (wpAny_loadPart')
end RevT
open PySem PySem.Spec PyProof.Rows
variable{c f:Addr}{A:Around}{X:Cx}{e:Expr}{h:Heap}{H H':Hp}{EE:L2.St->XK}{es:List Expr}{ps:List Str}{k:Nat}{P:Program}{K:Fg}{s:Shared}{x:Str}{w:World}
structure ExcCls(K:Fg)(D:Addr):Prop where
 ga:findIn K (.ref D) "__getattribute__"=some (some (.builtin "BaseException.__getattribute__"))
 gt:findIn K (.ref D) "__getattr__"=some none
 cl:findIn K (.ref D) "__class__"=some (some (.builtin "object.__class__"))
 gs:specialIn K (.builtin "object.__class__") "__get__"=some (some (.builtin "getset_descriptor.__get__"))
 tk:takesIn K (.builtin "object.__class__")=some true
 mo:PySem.W.mroIn K D (.type "object")=some true
 mb:PySem.W.mroIn K D (.type "BaseException")=some true
 cd:(PySem.W.clsIn K D).isSome=true
def excClsIn(K:Fg)(D:Addr):Bool:=
 findIn K (.ref D) "__getattribute__"==some (some (.builtin "BaseException.__getattribute__"))&&findIn K (.ref D) "__getattr__"==some none &&
 findIn K (.ref D) "__class__"==some (some (.builtin "object.__class__"))&&specialIn K (.builtin "object.__class__") "__get__"==some (some (.builtin "getset_descriptor.__get__")) &&
 takesIn K (.builtin "object.__class__")==some true&&PySem.W.mroIn K D (.type "object")==some true&&PySem.W.mroIn K D (.type "BaseException")==some true&&(PySem.W.clsIn K D).isSome
theorem ExcCls.of{D:Addr}(h:excClsIn K D=true):ExcCls K D:=by
 unfold excClsIn at h;simp only[w0s,beq_iff_eq]at h;obtain⟨⟨⟨⟨⟨⟨⟨h1,h2⟩,h3⟩,h4⟩,h5⟩,h6⟩,h7⟩,h8⟩:=h;exact⟨h1,h2,h3,h4,h5,h6,h7,h8⟩
def ExcAt(e D:Addr)(h:Heap):Prop:=∃o vs,h.get? e=some o/\o.cls=.ref D/\o.data=.fields vs
section
variable{prog:Program}{E:Value->Shared->Prop}{e D:Addr}
open PySem.W Builtin Builtin.ObjectAttr Builtin.Getset_descriptor
theorem q76{M:Model}(p:ExcAt e D h):Looks M h (typeOf (.ref e)) (.ref D):=by
 obtain⟨o,vs,h1,h2,h3⟩:=p;exact h2 ▸ (Looks.ld h1).andThen .now
theorem x7w{M:Model}(X:K.In h)(C:ExcCls K D):Looks M h (find (.ref e) (.ref D) "__class__") (.bind (.builtin "getset_descriptor.__get__") (.builtin "object.__class__")):=by
 have L1:=looks_findIn (M:=M) X C.cl;have L2:Looks M h (getOf (some (.builtin "object.__class__"))) (some (.builtin "getset_descriptor.__get__")):=looks_specialIn X C.gs;have L3:=looks_takesIn (M:=M) X C.tk;refine L1.andThen (L2.andThen ?_);exact(show Looks M h (dataDescriptor? (some (.builtin "object.__class__")) (some (.builtin "getset_descriptor.__get__"))) (some (.builtin "getset_descriptor.__get__", .builtin "object.__class__"))from L3.andThen .now).andThen (Looks.tag .now)
theorem y1h{tp:Value}{R:Result->Shared->Prop}(X:K.In s.heap)(p:ExcAt e D s.heap)(hm:mroIn K D (.type "object")=some true)
  (h:R (.ok (.ret (.ref D))) s):codeAny (model prog w) A (.call (.builtin "getset_descriptor.__get__") ⟨[.builtin "object.__class__", .ref e,tp],[]⟩) R s:=by
 obtain⟨hh,g,dr,t,os⟩:=s;have L0:=q76 (M:=model prog w) p;have L1:=looks_mroIn (M:=model prog w) X hm;refine codeAny_call_builtin KF.slot_gs.plain KF.entry_gs (KF.slot_gs.check _ _ _ _ _ _ _ _ KF.type_class (KF.args_gs _ _ _) ?_);unfold Builtin.«getset_descriptor.__get__» descrGet;rw[dga_obj];refine wpAny_bind (wpAny_pure ?_);unfold descrGetter descrCheckInstance descrNameAndClass isInstance;simp only[KF.owner_class]
 repeat lk
 refine⟨Code.quiet_builtin _ (by decide +kernel),codeAny_builtin KF.entry_class ?_⟩;unfold Builtin.«object.__class__» shownTypeOf
 repeat lk
 exact h
theorem x5c{M:Model}{nameV:Value}{Q:Unit->Shared->Prop}{g:Array GenState}{d:Drawn}{t:Nat}{os:OsState}(X:K.In h)(p:ExcAt e D h)(hm:mroIn K D (.type "BaseException")=some true)(hq:Q () ⟨h,g,d,t,os⟩):
  wpAny M A (checkBuiltinCall "BaseException.__getattribute__" ⟨[.ref e,nameV],[]⟩) Q E ⟨h,g,d,t,os⟩:=by
 have hk:builtinKind "BaseException.__getattribute__"=some .slot:=by decide +kernel
 have hsplit:splitId "BaseException.__getattribute__"=some ("BaseException", "__getattribute__"):=by decide +kernel
 have L0:=q76 (M:=M) p;have L1:=looks_mroIn (M:=M) X hm;have LI:Looks M h (isInstance (.ref e) (.type "BaseException")) true:=L0.andThen L1;have ha:=PySem.F.args_bexc_ga (.ref e) nameV;simp only[checkBuiltinCall,hk,hsplit];refine wpAny_bind (LI.at ?_);rw[if_neg (by decide)];unfold argsOk at ha;split
 ·rename_i sig hs;rw[hs]at ha;exact wpAny_of_eq ha hq
 ·exact wpAny_pure hq
theorem x5d{Q:Option Value->Shared->Prop}(X:K.In s.heap)(p:ExcAt e D s.heap)(C:ExcCls K D)(h:Q (some (.ref D)) {s with toks:=s.toks+1}):wpAny (model prog w) A (getAttr? (.ref e) "__class__") Q E s:=by
 obtain⟨hh,g,d,t,os⟩:=s;have L0:=q76 (M:=model prog w) p;have L1:=looks_findIn (M:=model prog w) X C.ga;have L2:=looks_findIn (M:=model prog w) X C.gt;have L3:=x7w (M:=model prog w) (e:=e) X C;unfold getAttr? getAttrBy? getAttrBy;refine wpAny_bind (wpAny_mkText (wpAny_bind (wpAny_attempt (wpAny_holding (wpAny_bind (L0.at (wpAny_bind (L1.at ?_))))))));have hx2:(Value.builtin "BaseException.__getattribute__"==Value.builtin "object.__getattribute__")=false:=by decide +kernel
 have hx1:(onTheHeap (Value.ref D)&&Value.builtin "BaseException.__getattribute__"==Value.builtin "object.__getattribute__")=false:=by rw[hx2];rfl
 dsimp only;rw[if_neg (by rw[hx1];decide)];unfold getAttrByItsOwn hookBefore;rw[if_pos (by rfl)];refine wpAny_bind (L2.at ?_);refine wpAny_bind (wpAny_attempt (wpAny_holding ?_));unfold callGetattribute;rw[if_neg (by decide)];unfold boundAndCalled;have f3:=PySem.F.excAttr_ValueError.ga.bind (.ref e);refine wpAny_bind (wpAny_of_eq f3 ?_);refine wpAny_call (codeAny_call_builtin PySem.F.excAttr_ValueError.ga.plain F.entry_bexc_ga (x5c (K:=K) (D:=D) X p C.mb ?_));unfold Builtin.«object.__getattribute__»;refine wpAny_bind (wpAny_of_eq (a:=(Value.ref e,[Value.str (Str.ofString "__class__") t])) (by rfl) ?_);dsimp only;refine wpAny_bind (wpAny_of_eq (a:=Str.ofString "__class__") (by rfl) ?_);refine wpAny_bind (L0.at (wpAny_bind (L3.at ?_)));dsimp only;unfold bindTo;refine wpAny_bind (wpAny_holding (wpAny_call (y1h (K:=K) (D:=D) X p C.mo ?_)));dsimp only;refine wpAny_pure ?_;dsimp only;refine wpAny_of_eq (a:=Value.ref D) (by rfl) ?_;exact wpAny_pure h
theorem x7x(C:ExcCls K D):KitX K (.ref e) (.ref D) (ExcAt e D) where
 ty:=fun _ _ _ p=>q76 p
 it:=fun M h X p=>by
  have hcD:=C.cd;unfold clsIn at hcD;split at hcD
  ·rename_i c' d' cd' sl' ho;intro A' Q' E' s' k q;unfold isType loadHead;exact wpAny_bind (wpAny_loadPart (k _ _ (X _ _ ho)) (wpAny_pure q))
  ·cases hcD
 ne:=fun h tp dd its n sl X htp=>by
  refine w1h.mpr fun q=>?_
  have e1:D=tp:=Value.ref.inj (beq_iff_eq.mp q);subst e1;have hcD:=C.cd;unfold clsIn at hcD;split at hcD
  ·rename_i c' d' cd' sl' ho;have z:=(X _ _ ho).symm.trans htp;cases z
  ·cases hcD
 ca:=fun X p k=>x5d X p C k
end
def ClsV:V->Value->Prop
 |.ty n,c=>c=.type n
 |.ref a,c=>c=.ref a
 |_,_=>False
structure Cal(P:Program)(w:World)(K:Fg)(mg:Str->Option Value)(base:Heap)(k:Nat)(x:Str)(ps:List Str)(sp:Sp):Prop where
 ex:∃f fd,FnOk P w K mg base (CX1 P w) k f fd ps sp/\mg x=some (.ref f)/\keepIn K (.ref f)=true/\Binds K fd ps []
structure CalH(P:Program)(w:World)(K:Fg)(mg:Str->Option Value)(base:Heap)(k:Nat)(x:Str)(ps:List Str)(sp:Sp):Prop where
 ex:∃f fd,FnOkH P w K mg base k f fd ps sp/\mg x=some (.ref f)/\keepIn K (.ref f)=true/\Binds K fd ps []
structure At(K:Fg)(mg:Str->Option Value)(x:Str)(st:Stmt)(ps:List Str):Prop where
 ex:∃f fd,Fun K x x st f fd/\mg x=some (.ref f)/\Binds K fd ps []
section
variable{mg:Str->Option Value}{base:Heap}
theorem At.cal{st:Stmt}{N:List Str}{sp:Sp}(F:At K mg x st ps)(S:FnScope N ps (defScope st))(len:∀vs H Q E,sp vs H Q E->vs.length=ps.length)
  (hbody:∀(f:Addr)(cdv:Value)(A:Around)(outer:List Env)(s:Shared)(H:Hp)(vs:List V)(Q:VK)(E:XK),Room k (A.deeper (envOfC x (defScope st) s.heap.objs.size f cdv))->sp vs H Q E ->
   ∃t,PSs (cxOf (CX1 P w) P w K mg base N x (defScope st) f cdv A outer s H E) (defBody st) t/\t {nx:=fun _ H'=>Q .non H',rt:=Q} (start N vs) H):Cal P w K mg base (k+1) x ps sp:=by
 obtain⟨f,fd,F,m,b⟩:=F.ex;exact⟨f,fd,F.okX S len (hbody f),m,F.kp,b⟩
end
section
variable{sp:Sp}{p pos:Pos}{t:TA}
theorem q77(C:Cal X.prog X.w X.K X.mg X.base k x ps sp)(hr:Room k X.A)(hx:PassX (CX1 X.prog X.w) X EE)(ha:PA X (e::es) t)(hg:Gl X x:=by rfl)
  (hdb:(x==("__debug__":Str))=false:=by decide)(he:starEach (e::es) X.env=(false,eval e X.env)::starEach es X.env:=by rfl)(hpl:(backTo pos (starEach es X.env)).any (·.1)=false:=by rfl):
  PE X (.Call (.Name x p) (e::es) [] pos) (tCallX sp [] EE t):=by
 obtain⟨f,fd,F,m,kp,b⟩:=C.ex;exact x7u F hr hg m kp b .nil hx ha hdb he hpl
end
section
variable{te:TE}{t:TA}{pos pos' p:Pos}
theorem q5e(i:Nat)(hN:X.N.Nodup)(he:PE X e te)(hi:X.N[i]?=some x:=by rfl)(hx:Loc X.env.scope x:=by walk_at "3")(hs:swapsWith e (some (.Name x pos')) pos.line X.env=pure false:=by rfl)(hf:X.fn x=true\/X.env.scope.names.lookup x=some .local:=by walk_at "2"):
  PS X (.Assign [.Name x pos'] e pos) (tAsg te (gName i)):=y5f hN hi hx he hs hf
theorem q1y(i:Nat)(hN:X.N.Nodup)(hi:X.N[i]?=some x:=by rfl)(hx:Loc X.env.scope x:=by walk_at "3")(hf:X.fn x=true\/X.env.scope.names.lookup x=some .local:=by walk_at "2"):PG X (.Name x pos) (gName i):=y05 hN hi hx hf
theorem y5r{o:Expr}{to:TE}{apos:Pos}(ho:PE X o to)(ha:PA X (e::es) t)(hbase:attributeBase o "append" X.env (eval o X.env)=eval o X.env:=by rfl)
  (hfew:((backTo pos (starEach (e::es) X.env)).all (fun x=>!x.1)&&(backToKw pos (keywordEach [] X.env)).all (fun x=>x.1.isSome)&&decide ((e::es).length+([]:List Keyword).length+(if([]:List Keyword).isEmpty then 0 else 1)<30))=true:=by rfl)
  (hline:(apos.endLine==pos.line)=true:=by rfl)(hs:starEach (e::es) X.env=(false,eval e X.env)::starEach es X.env:=by rfl)(hplain:(backTo pos (starEach es X.env)).any (·.1)=false:=by rfl):
  PE X (.Call (.Attribute o "append" apos) (e::es) [] pos) (tBM X.K "list" rAppend to t):=y0o PySem.F.plainAttrs_list PySem.F.slot_list_append PySem.F.type_list_append q6d ho ha hbase hfew hline hs hplain
end
theorem q20{p:Addr}(h:H p=none)(o:HO):Same H (upd H p o):=fun b u q=>by rw[q0c (q0n q h)];exact q
theorem Same.tup{a:Addr}{xs:List V}(e:Same H H')(h:SqT K H a xs):SqT K H' a xs:=by
 rcases h with(h|⟨o,h⟩)|h
 ·exact .inl (.inl (e _ _ h))
 ·exact .inl (.inr ⟨o,e _ _ h⟩)
 ·exact .inr h
noncomputable abbrev rawO(o:Obj):HO:=.frz o (.own 0)
noncomputable abbrev fnO(o:Obj)(q:Str)(c:Addr):HO:=.frz o (.tbl #[.bool false,.str q 0,.ref c])
noncomputable abbrev celO(o:Obj):HO:=.frz o (.ext fun _=>True)
noncomputable abbrev Cs:=List (Addr×Obj)
variable{cs:Cs}
def rmC(H:Hp)(cs:Cs):Hp:=fun b=>match cs.lookup b with
 |some _=>none
 |none=>H b
def addC(H:Hp)(cs:Cs):Hp:=fun b=>match cs.lookup b with
 |some o=>some (celO o)
 |none=>H b
section
variable{b:Addr}{o:Obj}{u:HO}
theorem q42(h:cs.lookup b=some o):rmC H cs b=none:=by unfold rmC;rw[h]
theorem q1m(h:cs.lookup b=none):rmC H cs b=H b:=by unfold rmC;rw[h]
theorem q24(h:cs.lookup b=some o):addC H cs b=some (celO o):=by unfold addC;rw[h]
theorem q0v(h:cs.lookup b=none):addC H cs b=H b:=by unfold addC;rw[h]
theorem q43(h:H b=none):rmC H cs b=none:=by unfold rmC;split<;>first|rfl|exact h
def CelsIn(H:Hp)(cs:Cs):Prop:=∀b o,cs.lookup b=some o->H b=some (celO o)
theorem CelsIn.out(c:CelsIn H cs)(h:H b=none):cs.lookup b=none:=by
 cases q:cs.lookup b with
 |none=>rfl
 |some o=>rw[c b o q]at h;cases h
theorem CelsIn.out'(c:CelsIn H cs)(h:H b=some u)(n:∀o,u≠celO o):cs.lookup b=none:=by
 cases q:cs.lookup b with
 |none=>rfl
 |some o=>rw[c b o q]at h;cases h;exact absurd rfl (n o)
theorem CelsIn.rm_some(c:CelsIn H cs)(h:H b=some u)(n:∀o,u≠celO o):rmC H cs b=some u:=by rw[q1m (c.out' h n)];exact h
theorem y0p(h:rmC H cs b=some u):H b=some u/\cs.lookup b=none:=by
 unfold rmC at h;split at h
 ·cases h
 ·rename_i q;exact⟨h,q⟩
theorem q7c(t:TupLike u):∀o,u≠celO o:=fun o z=>by subst z;exact t
end
section
variable{h':Heap}{fs ex:List Addr}
theorem HOk.rm(x:HOk P w H h)(c:CelsIn H cs):HOk P w (rmC H cs) h:=fun a u e=>by
 obtain⟨e1,_⟩:=y0p e;exact(x a u e1).stay (fun b v _ q=>q) (fun b q=>c.rm_some q fun o z=>nomatch z) fun b v t q=>c.rm_some q (q7c t)
theorem HOk.add(x:HOk P w H h)(hc:∀b o,cs.lookup b=some o->H b=none/\h.get? b=some o):HOk P w (addC H cs) h:=fun a u e=>by
 cases q:cs.lookup a with
 |some o=>
  rw[q24 q]at e;cases e;exact⟨(hc a o q).2,trivial,⟨o,(hc a o q).2⟩,fun _ _ _ _=>trivial⟩
 |none=>
  rw[q0v q]at e
  have out:∀b v,H b=some v->addC H cs b=some v:=fun b v z=>by
   cases q2:cs.lookup b with
   |some o=>rw[(hc b o q2).1]at z;cases z
   |none=>rw[q0v q2];exact z
  exact(x a u e).stay (fun b v _ q=>q) (fun b q=>out b _ q) fun b v t q=>out b v q
theorem y1i{o:Obj}{q:Str}(x:HOk P w H h)(e:H f=some (fnO o q c)):h.get? f=some o/\h.CodeRec (.ref c) q:=by
 obtain⟨h1,h2⟩:=(show h.get? f=some o/\ObjOk P w H h f (.tbl #[.bool false,.str q 0,.ref c])from x f _ e);refine⟨h1,?_⟩;rcases h2 with⟨_,_,p0,_⟩|⟨q',c',oc,ob,vs,t,_,p1,p2,h3,h4,h5,_⟩
 ·cases p0
 ·cases p1;cases p2;exact⟨c,oc,vs,t,rfl,(show h.get? c=some oc/\_ from x c _ h3).1,h4,h5⟩
theorem Un.cells(u:Un fs ex (rmC H cs) H' h h')(c:CelsIn H cs):Un fs ex H (addC H' cs) h h' where
 keep:=fun b o q n hb hx=>u.keep b o q (q43 n) hb hx
 slot:=fun b o q n hb hx=>u.slot b o q (q43 n) hb hx
 free:=fun b o q n hx=>by rw[q0v (c.out n)];exact u.free b o q (q43 n) hx
 there:=u.there
 tups:=fun b xs q=>by
  have z:=c.out' q fun o z=>nomatch z
  rw[q0v z];exact u.tups b xs (by rw[q1m z];exact q)
 frzs:=fun b o v q=>by
  cases z:cs.lookup b with
  |some o'=>
   rw[q24 z];rw[c b o' z]at q;exact q
  |none=>rw[q0v z];exact u.frzs b o v (by rw[q1m z];exact q)
 tbls:=fun b ps q=>by
  have z:=c.out' q fun o z=>nomatch z
  rw[q0v z];exact u.tbls b ps (by rw[q1m z];exact q)
theorem Un.nocells(u:Un fs ex (addC H cs) H' h h')(hok:HOk P w H' h')(hc:∀b o,cs.lookup b=some o->H b=none/\h.get? b=some o):Un fs ex H (rmC H' cs) h h':=by
 have inn:∀b o,cs.lookup b=some o->H' b=some (celO o)/\h'.get? b=some o:=fun b o z=>by
  have q:=u.frzs b o _ (q24 z);exact⟨q,(show h'.get? b=some o/\_ from hok b _ q).1⟩
 refine⟨fun b o q n hb hx=>?_,fun b o q n hb hx=>?_,fun b o q n hx=>?_,u.there,fun b xs q=>?_,fun b o v q=>?_,fun b ps q=>?_⟩
 ·cases z:cs.lookup b with
  |some o'=>
   have:=(hc b o' z).2;rw[q]at this;cases this;exact(inn b _ z).2
  |none=>exact u.keep b o q (by rw[q0v z];exact n) hb hx
 ·cases z:cs.lookup b with
  |some o'=>
   have:=(hc b o' z).2;rw[q]at this;cases this;exact⟨o.slots,(inn b _ z).2⟩
  |none=>exact u.slot b o q (by rw[q0v z];exact n) hb hx
 ·cases z:cs.lookup b with
  |some o'=>exact q42 z
  |none=>rw[q1m z];exact u.free b o q (by rw[q0v z];exact n) hx
 ·have z:cs.lookup b=none:=by
   cases z:cs.lookup b with
   |some o'=>rw[(hc b o' z).1]at q;cases q
   |none=>rfl
  rw[q1m z];exact u.tups b xs (by rw[q0v z];exact q)
 ·have z:cs.lookup b=none:=by
   cases z:cs.lookup b with
   |some o'=>rw[(hc b o' z).1]at q;cases q
   |none=>rfl
  rw[q1m z];exact u.frzs b o v (by rw[q0v z];exact q)
 ·have z:cs.lookup b=none:=by
   cases z:cs.lookup b with
   |some o'=>rw[(hc b o' z).1]at q;cases q
   |none=>rfl
  rw[q1m z];exact u.tbls b ps (by rw[q0v z];exact q)
end
noncomputable abbrev lamEnv(qual:Str)(scope:Scope)(f:Addr)(cd:Value)(cl:List (Str×Addr))(s:Shared):Env:=PySem.W.envX qual scope s.heap.objs.size f cd cl
def cxLam(P:Program)(w:World)(K:Fg)(mg:Str->Option Value)(base:Heap)(N:List Str)(qual:Str)(scope:Scope)(f:Addr)(cd:Value)(cl:List (Str×Addr))(A:Around)(outer:List Env)(s:Shared)(H:Hp):Cx where
 prog:=P
 w:=w
 K:=K
 mg:=mg
 base:=base
 A:=A.deeper (lamEnv qual scope f cd cl s)
 N:=N
 s₀:=s
 H₀:=H
 env:=lamEnv qual scope f cd cl s
 outer:=outer
 stack:=lamEnv qual scope f cd cl s::outer
 ex:=[]
 calm:=true
 fn:=fun _=>false
 pn:=[]
 xe:=fun _ _=>False
structure LamScope(ps Nf:List Str)(sc:Scope):Prop where
 kind:sc.kind=.function
 co:sc.isCoroutine=false
 gen:sc.isGenerator=false
 nd:ps.Nodup
 nocell:∀y∈sc.names,y.2≠.cell
 par:∀x∈ps,sc.names.lookup x=some .local
 fr:∀y∈Nf,sc.names.lookup y=some .free
structure LamCells(cl:List (Str×Addr))(Nf:List Str)(sc:Scope)(zs:List V)(h:Heap)(cs:Cs):Prop where
 inj:∀x y c,cl.lookup x=some c->cl.lookup y=some c->x=y
 has:∀x,(x,NameKind.free)∈sc.names->∃c,cl.lookup x=some c
 all:∀x c,cl.lookup x=some c->∃o,cs.lookup c=some o
 cel:∀c o,cs.lookup c=some o->h.get? c=some o/\∃v,o.data=.cell v
 val:∀(i:Nat) y z,Nf[i]?=some y->zs[i]?=some z->∃c o u,cl.lookup y=some c/\cs.lookup c=some o/\o.data=.cell (some u)/\RelV z u
section
variable{mg:Str->Option Value}{base:Heap}{Nf:List Str}{qual:Str}{scope:Scope}{cd:Value}{cl:List (Str×Addr)}{outer:List Env}{us:List Value}{vs zs:List V}
theorem x7y{v:Value}:∀{ps:List Str}{us:List Value}{i:Nat},ps.Nodup->ps[i]?=some x->us[i]?=some v->(ps.zip us).reverse.lookup x=some v:=by
 intro ps us i nd h1 h2;have hm:(x,v)∈(ps.zip us).reverse:=List.mem_reverse.mpr (w0n (i:=i) (by rw[w2n];exact⟨h1,h2⟩))
 have hn:((ps.zip us).reverse.map (·.1)).Nodup:=by
  rw[w3t];show List.Pairwise (·≠·) _;rw[List.pairwise_reverse];refine List.Pairwise.imp (fun h=>Ne.symm h) (show((ps.zip us).map (·.1)).Nodup from ?_)
  exact nd.sublist (by
   clear hm h1 h2
   induction ps generalizing us with
   |nil=>simp
   |cons p ps ih=>cases us with
    |nil=>simp
    |cons u us=>simpa using ih (us:=us) (w1g.mp nd).2)
 generalize (ps.zip us).reverse=l at hm hn
 induction l with
 |nil=>cases hm
 |cons p l ih=>
  obtain⟨y,z⟩:=p;rw[w0y];rcases w0p.mp hm with e|hm2
  ·cases e;simp
  ·have hne:(x==y)=false:=by
    rw[beq_eq_false_iff_ne];rintro rfl;exact(w1g.mp hn).1 (w0z.mpr ⟨(x,v),hm2,rfl⟩)
   rw[hne];exact ih hm2 (w1g.mp hn).2
theorem y1j{h₁:Heap}{tk:Nat}(S:LamScope ps Nf scope)(C:LamCells cl Nf scope zs s.heap cs)(hd:A.handled=none)(e0:Env0 P w K mg base A outer s H)(hn:∀c o,cs.lookup c=some o->H c=none)
  (hl:vs.length=ps.length)(hz:zs.length=Nf.length)(r:Vals vs us)
  (ns:h₁.Ns s.heap.objs.size (fun x=>(ps.zip us).reverse.lookup x))(hs:Heap.SameBut s.heap.objs.size (s.heap.push {cls:=.type "frame", data:=.dict #[]}) h₁):
  Inv (cxLam P w K mg base (ps++Nf) qual scope f cd cl A outer s H) [] (vs.map some++zs.map some) H {s with heap:=h₁,toks:=tk}:=by
 have hk:∀b o,s.heap.get? b=some o->h₁.get? b=some o:=fun b o e=>hs.extBut b o (w0u (Heap.lt_size e)) (Heap.get?_push_of_some _ e)
 have noA:∀b:Addr,b∉([]:List Addr):=fun b z=>nomatch z
 have nofree:∀x c,cl.lookup x=some c->H c=none/\∃o,s.heap.get? c=some o/\∃v,o.data=.cell v:=fun x c e=>by
  obtain⟨o,q⟩:=C.all x c e;exact⟨hn c o q,o,C.cel c o q⟩
 refine⟨⟨e0.mod,S.kind,rfl,rfl,w0g _,C.inj,fun y hy=>?_,(fun x c z=>nomatch z),fun _=>hd,Around.frames_deeper e0.frames,.inr ⟨rfl,rfl⟩,fun b z=>absurd z (noA b),e0.bs,e0.bsz,fun b _ _=>noA b,fun b z=>absurd z (noA b),e0.funs,e0.frf,e0.tab⟩,
  rfl,e0.bare,Un.kept hk,⟨_,ns,fun i y v h1 h2 h3=>?_⟩,fun y c h=>?_,e0.hok.fresh (w0g _),fun y c h=>(nofree y c h).1,fun p hp=>absurd (show p∈([]:List (Addr×Obj))from hp) (by simp),e0.hok.kept hk,?_⟩
 ·have hy:scope.names.lookup y=some .cell\/scope.names.lookup y=some .free:=hy;rcases hy with hy|hy
  ·exact absurd rfl (S.nocell _ (PySem.mem_of_lookup hy))
  ·exact C.has y (PySem.mem_of_lookup hy)
 ·have h1:(ps++Nf)[i]?=some y:=h1
  by_cases hi:i<ps.length
  ·rw[w1m (by simpa [hl]using hi),w0j]at h2;rw[w1m hi]at h1
   have ha:vs[i]?=some v:=by
    cases e:vs[i]? with
    |none=>rw[e]at h2;cases h2
    |some a=>rw[e]at h2;cases h2;rfl
   obtain⟨u,hu,rv⟩:=r.get ha;exact⟨u,rv,.inl ⟨S.par y (w0n h1),x7y S.nd h1 hu⟩⟩
  ·have hi':ps.length<=i:=w3o.mp hi;rw[w1s (by simpa [hl]using hi'),w0j,w0a,hl]at h2;rw[w1s hi']at h1
   have ha:zs[i-ps.length]?=some v:=by
    cases e:zs[i-ps.length]? with
    |none=>rw[e]at h2;cases h2
    |some a=>rw[e]at h2;cases h2;rfl
   obtain⟨c,o,u,e1,e2,e3,e4⟩:=C.val _ _ _ h1 ha;exact⟨u,e4,.inr ⟨.inr (S.fr y (w0n h1)),c,e1,o,hk _ _ (C.cel c o e2).1,e3⟩⟩
 ·obtain⟨_,o,q,v,d⟩:=nofree y c h;exact⟨v,o,hk _ _ q,d⟩
 ·show _=(ps++Nf).length;simp[hl,hz]
theorem lam_run{CX:CXT}{name:Str}{params:Arguments}{body:Expr}{pm ctv:Value}{c':Addr}{t:TE}{Q:VK}{E:XK}
  (hr:Room (k+1) A)(e0:Env0 P w K mg base A outer s H)(hf:H f=some (fnO (kla_obj name qual params body scope cl pm c' ctv) qual c'))
  (S:LamScope ps Nf scope)(CI:CelsIn H cs)(C:LamCells cl Nf scope zs s.heap cs)(hbind:bindArgs (PySem.W.kla_fn name qual params body scope cl pm (.ref c') ctv) ⟨us,[]⟩=pure (ps.zip us))
  (hl:vs.length=ps.length)(hz:zs.length=Nf.length)(r:Vals vs us)
  (hb:PE (cxLam P w K mg base (ps++Nf) qual scope f (.ref c') cl A outer s (rmC H cs)) body t)(hq:t (vs.map some++zs.map some) (rmC H cs) fun v H'=>(∀b o,cs.lookup b=some o->H' b=none)->Q v (addC H' cs)):
  codeAny (model P w) A (.call (.ref f) ⟨us,[]⟩) (CR CX outer P w H s Q E) s:=by
 have lim:s.heap.NoLimit:=e0.mod.nolimit.keeps fun b o e=>(e0.bs b o e).1
 obtain⟨hfo,hcd⟩:=y1i e0.hok hf
 have e1:Env0 P w K mg base A outer s (rmC H cs):=⟨e0.frames,e0.mod,fun b o q=>⟨(e0.bs b o q).1,q43 (e0.bs b o q).2⟩,e0.bsz,e0.funs,fun b hb=>q43 (e0.frf b hb),e0.hok.rm CI,e0.bare,fun a q P m=>by
  obtain⟨ps,e,p⟩:=e0.tab a q P m;exact⟨ps,CI.rm_some e (fun o z=>nomatch z),p⟩⟩
 refine PySem.W.kla_callFunE hr.depth hfo rfl S.co S.gen rfl hcd ?_;rw[hbind];refine wpAny_pure (wpAny_newFunctionEnv S.nocell (fun y hy=>S.par y.1 (w2u hy).1) (fun h₁ hns hsb=>⟨lim.fresh _ hsb,?_⟩) S.kind)
 show codeAny _ _ (.expr body (lamEnv qual scope f (.ref c') cl s)) _ _;have I:=y1j (tk:=s.toks+(ps.zip us).length) (qual:=qual) (f:=f) (cd:=.ref c') S C hr.hd e1 (fun c o q=>q42 q) hl hz r hns hsb
 refine PySem.W.kla_codeExpr (wpAny_mono (hb [] _ _ _ _ I hq) (fun u s' hs'=>?_) fun e s' z=>False.elim z)
 obtain⟨v,H',J,rv,q⟩:=hs';have un:Un (frs outer) [] (rmC H cs) H' s.heap s'.heap:=J.base;refine⟨v,addC H' cs,J.os,J.bare,un.cells CI,J.hok.add fun b o z=>?_,rv,q fun b o z=>un.free b o (C.cel b o z).1 (q42 z) (by simp)⟩
 have nf:b∉frs outer:=fun hb=>by
  have:=e0.frf b hb;rw[CI b o z]at this;cases this
 have g:=(C.cel b o z).1;exact⟨un.free b o g (q42 z) (by simp),un.keep b o g (q42 z) nf (by simp)⟩
end
def FnV(P:Program)(w:World)(K:Fg)(mg:Str->Option Value)(base:Heap)(CX:CXT)(k:Nat)(sp:V->List V->Hp->VK->XK->Prop):Prop:=∀(x:V)(vs:List V)(H:Hp)(Q:VK)(E:XK),sp x vs H Q E ->
 ∃f oc od fd sl u,x=.ref f/\H f=some (.frz ⟨oc,od,.func fd,sl⟩ u)/\∀(A:Around)(outer:List Env)(s:Shared)(us:List Value),Room k A->Env0 P w K mg base A outer s H->Vals vs us ->
  codeAny (model P w) A (.call (.ref f) ⟨us,[]⟩) (CR CX outer P w H s Q E) s
theorem x3z{pos':Pos}{a b:Int}{c cv:Value}(l:List Value)(h:TriplesOk l)(z:codeAmong pos' (l++[rawInt a,rawInt b,c])=some cv):codeAmong pos' l=some cv\/cv=c:=by
 fun_induction TriplesOk l with
 |case1=>
  simp only[w3y,codeAmong,rawInt]at z;split at z
  ·cases z;exact .inr rfl
  ·cases z
 |case2 x t y u v rest ih=>
  simp only[List.cons_append,codeAmong]at z |-
  split at z
  ·rename_i hc;rw[if_pos hc];exact .inl z
  ·rename_i hc;rw[if_neg hc];exact ih h z
 |case3=>exact h.elim
def BMain(h:Heap)(mg:Str->Option Value):Prop:=∃bm ob,mg "__builtins__"=some (.ref bm)/\bm≠builtinsNs/\h.get? bm=some ob/\ob.cls=.type "module" /\ ob.dict=some builtinsNs/\ob.data=.plain
def LamAt(X:Cx)(params:Arguments)(body:Expr)(scope:Scope)(clos:List (Str×Addr))(f:Addr)(H H':Hp):Prop:=closureFor scope X.env=pure clos/\∃(H1:Hp)(pm ctv:Value)(c':Addr),(H1=H\/∃c oc,H c=none/\H1=upd H c (rawO oc))/\H1 f=none /\
 H'=upd H1 f (fnO (kla_obj "<lambda>" (X.env.qual++"<lambda>") params body scope clos pm c' ctv) (X.env.qual++"<lambda>") c')
def tLam(X:Cx)(params:Arguments)(body:Expr)(scope:Scope):TE:=fun _ H Q=>∀f clos H',LamAt X params body scope clos f H H'->Q (.ref f) H'
structure Maker(X:Cx):Prop where
 ex:∃c P a,X.env.code=.ref c/\codeHdIn X.K c P=true/\(a,markO P (X.env.qual++"<lambda>"))∈X.K
 bm:BMain X.base X.mg
section
variable{params:Arguments}{body:Expr}{scope:Scope}{lpos:Pos}
theorem y5s(M:Maker X)(hdef:defaultsOf params X.env=([],[]))(hfree:∀x∈scope.names,x.2=.free->X.env.kindOf x.1=some .cell\/X.env.kindOf x.1=some .free):
  PE X (.Lambda params body scope lpos) (tLam X params body scope):=by
 intro pins s σ H Q I h;obtain⟨clos,hclos,_,_⟩:=q4r (scope:=scope) (env:=X.env) fun x hx hf=>I.ok.has x.1 (hfree x hx hf)
 obtain⟨c,P,a,hcode,hch,hmk⟩:=M.ex;have hhd:=PySem.W.codeHd_of_K I.mod.kin hch;obtain⟨ps,hP,p0,p1⟩:=I.ok.tab a _ P hmk;obtain⟨more,eP⟩:=I.base.tbls P ps hP
 have q0:(ps++more)[0]?=some (.bool true):=by
  rw[w1r (by obtain⟨z,_⟩:=w2a.mp p0;exact z)];exact p0
 have q1:(ps++more)[1]?=some (.str (X.env.qual++"<lambda>") 0):=by
  rw[w1r (by obtain⟨z,_⟩:=w2a.mp p1;exact z)];exact p1
 have oP:ObjOk X.prog X.w H s.heap P (.tbl (ps++more)):=I.hok P _ eP;rcases oP with⟨q,qs,r0,r1,g1,tr,cd⟩|⟨_,_,_,_,_,_,r0,_⟩
 case inr=>rw[q0]at r0;cases r0
 rw[q1]at r1;cases r1;have nP:∀b,H b=none->b≠P:=fun b n z=>by rw[z,eP]at n;cases n
 have hgP:mainGlobals≠P:=by
  obtain⟨o,es,ep,e,_⟩:=I.mod.glob;exact nP _ (I.bs _ o e).2
 have hB:s.heap.BuiltinsAt X.mg P:=by
  obtain⟨bm,ob,b1,b2,b3,b4,b5,b6⟩:=M.bm;refine⟨bm,ob,b1,b2,fun z=>?_,nP _ (I.bs bm ob b3).2,(I.bs bm ob b3).1,b4,b5,b6⟩
  obtain⟨o,es,ep,e,d,_⟩:=I.mod.glob;rw[z,e]at b3;cases b3;rw[d]at b6;cases b6
 have hns:=I.mod.glob.keeps I.bk;refine PySem.W.kla_eval hdef ?_;cases hc:codeAmong lpos qs.toList with
 |some cv=>
  obtain⟨c',oc,vs,t,rfl,k1,k2,k3⟩:=cd lpos cv hc;refine PySem.W.kla_makeFunctionHit (mg:=X.mg) hclos I.ok.glob hns hcode (hhd.keeps I.bk) g1 tr hc hB fun ctv h' tk hk hsz=>?_
  have fr:H h'.objs.size=none:=I.hok.fresh hsz;refine⟨.ref h'.objs.size,_,I.laid (t':=tk) (fun b u e=>Heap.get?_push_of_some _ (hk b u e)) hsz ?_,rfl,h _ clos _ ⟨hclos,H,(X.mg "__name__").getD .none,ctv,c',.inl rfl,fr,rfl⟩⟩
  exact⟨Heap.get?_push_size _ rfl,.inr ⟨_,c',oc,_,vs,t,rfl,rfl,rfl,by rw[q0c (q0n k1 fr)];exact k1,k2,k3,Heap.get?_push_size _ rfl⟩⟩
 |none=>
  refine PySem.W.kla_makeFunction (mg:=X.mg) hclos I.ok.glob hns hcode (hhd.keeps I.bk) g1 tr hc hgP hB fun c' ctv h' tk hx hge hlt hrec htb=>?_
  obtain⟨c2,oc,vs,t,ec,hoc,hd,hv⟩:=hrec;cases ec;have fc:H c'=none:=I.hok.fresh hge;have hne:∀b u,H b=some u->b≠c':=fun b u z=>q0n z fc
  have kp:∀b o,H b=none->s.heap.get? b=some o->h'.get? b=some o:=fun b o n e=>hx b o (nP b n) e
  have hok1:HOk X.prog X.w (upd H c' (rawO oc)) h':=fun a u e=>by
   by_cases ha:a=c'
   ·subst ha;rw[q0d]at e;cases e;exact⟨hoc,oc,hoc⟩
   ·rw[q0c ha]at e
    by_cases haP:a=P
    ·subst haP;rw[eP]at e;cases e;refine .inl ⟨_,_,q0,q1,htb,?_,fun pos cv z=>?_⟩
     ·rw[w4c];exact TriplesOk_snoc _ _ _ _ tr
     ·rw[w4c]at z;rcases x3z _ tr z with z|z
      ·obtain⟨d,od,vd,td,k0,k1,k2,k3⟩:=cd pos cv z;exact⟨d,od,vd,td,k0,by rw[q0c (hne d _ k1)];exact k1,k2,k3⟩
      ·exact⟨c',oc,vs,t,z,q0d,hd,hv⟩
    ·refine(I.hok a u e).stay (fun b v hb q=>hx b v ?_ q) (fun b q=>by rw[q0c (hne b _ q)];exact q) fun b v _ q=>by rw[q0c (hne b _ q)];exact q
     rcases hb with rfl|hb
     ·exact haP
     ·rintro rfl;rw[eP]at hb;cases hb
  have un:Un X.fs [] H (upd H c' (rawO oc)) s.heap h':=by
   refine⟨fun b o q n _ _=>kp b o n q,fun b o q n _ _=>⟨o.slots,kp b o n q⟩,fun b o q n _=>?_,fun b o q _=>?_,fun b xs q=>by rw[q0c (hne b _ q)];exact q,fun b o u q=>by rw[q0c (hne b _ q)];exact q,fun b qs q=>⟨#[],by rw[q0c (hne b _ q),q];simp⟩⟩
   ·rw[q0c (w0u (w0t (Heap.lt_size q) hge))];exact n
   ·by_cases hb:b=P
    ·subst hb;exact⟨_,htb⟩
    ·exact⟨o,hx b o hb q⟩
  have I1:Inv X pins σ (upd H c' (rawO oc)) {s with heap:=h',toks:=tk}:=I.un un hok1;have f1:upd H c' (rawO oc) h'.objs.size=none:=I1.hok.fresh (w0g _);refine⟨.ref h'.objs.size,_,I1.laid (t':=tk) (fun b u e=>Heap.get?_push_of_some _ e) (w0g _) ?_,rfl,h _ clos _ ⟨hclos,_,(X.mg "__name__").getD .none,ctv,c',.inr ⟨c',oc,fc,rfl⟩,f1,rfl⟩⟩
  exact⟨Heap.get?_push_size _ rfl,.inr ⟨_,c',oc,_,vs,t,rfl,rfl,rfl,by rw[q0c (q0n q0d f1)];exact q0d,hd,hv,Heap.get?_push_size _ rfl⟩⟩
end
theorem q7d{α:Type}{k:Addr}{v:α}:∀{l:List (Addr×α)},(k,v)∈l->∃v',l.lookup k=some v'
 |[],h=>nomatch h
 |(a,b)::l,h=>by
  rw[w0y]
  by_cases e:(k==a)=true
  ·rw[e];exact⟨b,rfl⟩
  ·rw[w1h.mpr e];rcases w0p.mp h with z|z
   ·cases z;simp at e
   ·exact q7d z
def celsAt(clos:List (Str×Addr))(h:Heap):Cs:=(clos.map (·.1)).filterMap fun x=>(clos.lookup x).bind fun c=>(h.get? c).map fun o=>(c,o)
theorem q7e{clos:List (Str×Addr)}{o:Obj}(e:(celsAt clos h).lookup c=some o):∃x,clos.lookup x=some c/\h.get? c=some o:=by
 obtain⟨x,_,hx⟩:=w2t.mp (PySem.W.mem_of_lookupK e);obtain⟨c',e1,e2⟩:=w1f.mp hx;obtain⟨o',e3,e4⟩:=w0e.mp e2;cases e4;exact⟨x,e1,e3⟩
theorem q78{clos:List (Str×Addr)}{o:Obj}(e:clos.lookup x=some c)(g:h.get? c=some o):(celsAt clos h).lookup c=some o:=by
 have hm:(c,o)∈celsAt clos h:=w2t.mpr ⟨x,w0z.mpr ⟨(x,c),PySem.mem_of_lookup e,rfl⟩,by rw[e];show(h.get? c).map _=_;rw[g];rfl⟩;obtain⟨o',e'⟩:=q7d hm;obtain⟨_,_,g'⟩:=q7e e';rw[g]at g';cases g';exact e'
structure CellsOf(clos:List (Str×Addr))(Nf:List Str)(scope:Scope)(js:List Nat)(σ:St)(H:Hp)(cs:Cs):Prop where
 inj:∀x y c,clos.lookup x=some c->clos.lookup y=some c->x=y
 has:∀x,(x,NameKind.free)∈scope.names->∃c,clos.lookup x=some c
 all:∀x c,clos.lookup x=some c->∃o,cs.lookup c=some o
 cel:∀c o,cs.lookup c=some o->H c=none/\∃v,o.data=.cell v
 val:∀(i:Nat) y j z,Nf[i]?=some y->js[i]?=some j->σ[j]?=some (some z)->∃c o u,clos.lookup y=some c/\cs.lookup c=some o/\o.data=.cell (some u)/\RelV z u
theorem pure_inj{α:Type}{a b:α}(h:(pure a:Sem α)=pure b):a=b:=by
 first
  |exact PySem.Sem.pure_inj h
  |(injection h)
  |(cases h;rfl)
set_option maxHeartbeats 1000000
def Sh.isI:Sh->Bool
 |.int=>true
 |_=>false
end L2
namespace D
open PySem L2
variable{a:Addr}{X:Cx}{G G' G1 H H' H1:Hp}{EE:L2.St->XK}{kvs:List (Kx×V)}{kas:List Addr}{es:List Expr}{ks:List Kx}{vs xs:List V}{r:List V->Hp->VK->Prop}{i k:Nat}{b:Option Nat}{v:Option V}{p pos pos':Pos}{K:Fg}{sh:Sh}{σ:St}{st:Stmt}{x:Str}{α:Type}
noncomputable abbrev Sv:=Int ⊕ Bool
structure Lm where
 qual:Str
 params:Arguments
 body:Expr
 scope:Scope
 nf:List Str
set_option genInjectivity true in
inductive W where
 |non|bl (b:Bool)|int (i:Int)|str (x:Str)|tup (xs:List W)|lst (xs:List W)|exc (c:Value)|dw (fz:Bool) (sh:Sh) (ks:List Kx) (ws:List W)|fn (i:Nat) (l:Lm) (ws:List W)
variable{ws:List W}{w:W}{f:W->W->Option W}
inductive SK where
 |old (w:W)|new (w:W)|tn (us:List W) (wss:List (List W))|fz (w:W)|fzo (w:W)
inductive S where
 |no|fr (w:W)|own (io:Option Nat) (ws:List W)|nest (wss:List (List W))|dw (sh:Sh) (ks:List Kx) (ws:List W)|x (k:SK)
variable{e e1:List S}{E:Value->List S->Prop}
def SK.plain:SK->Option W
 |.old w=>some w
 |.new w=>some w
 |_=>none
def SK.look:SK->Option W
 |.old w=>some w
 |.new w=>some w
 |_=>none
def KeysG(G:Hp):List Kx->List Addr->Prop
 |[],[]=>True
 |k::ks,b::bs=>KRep G k (.ref b)/\KeysG G ks bs
 |[],_::_=>False
 |_::_,[]=>False
theorem KeysG.mono(e:Same G G'):∀{ks:List Kx}{bs:List Addr},KeysG G ks bs->KeysG G' ks bs
 |[],[],_=>trivial
 |k::ks,b::bs,h=>⟨KRep.keeps (fun _ _ _ z=>e _ _ z) k h.1,KeysG.mono e h.2⟩
 |[],_::_,h=>h.elim
 |_::_,[],h=>h.elim
def kxK:Kx->Key
 |.int i=>.inl i
 |_=>.inl 0
def dwO(sh:Sh)(kvs:List (Kx×V))(kas:List Addr):HO:=if sh.isI=true then .dK (kvs.map fun p=>(kxK p.1,p.2))else .dT sh kvs kas
def isDT:HO->Bool
 |.dK _=>true
 |.dT _ _ _=>true
 |_=>false
theorem q1f{u:HO}(h:isDT u=false):dwO sh kvs kas≠u:=fun z=>by
 subst z;unfold dwO at h;split at h<;>cases h
theorem q4c(h:sh.isI=false):dwO sh kvs kas=.dT sh kvs kas:=if_neg (by rw[h];exact w0r)
def KeysS(sh:Sh)(G:Hp)(ks:List Kx)(kas:List Addr):Prop:=if sh.isI=true then ∀k∈ks,∃i,k=.int i else KeysG G ks kas
theorem KeysS.mono(e:Same G G'){bs:List Addr}(h:KeysS sh G ks bs):KeysS sh G' ks bs:=by
 unfold KeysS at h |-
 split at h
 ·rename_i hi;rw[if_pos hi];exact h
 ·rename_i hi;rw[if_neg hi];exact h.mono e
theorem KeysS.g{bs:List Addr}(h:KeysS sh G ks bs)(hi:sh.isI=false):KeysG G ks bs:=by
 unfold KeysS at h
 rwa [if_neg (by rw[hi];exact w0r)]at h
theorem KeysS.of{bs:List Addr}(h:KeysG G ks bs)(hi:sh.isI=false):KeysS sh G ks bs:=by
 unfold KeysS
 rwa [if_neg (by rw[hi];exact w0r)]
def DAt(fz:Bool)(G:Hp)(a:Addr)(sh:Sh)(kvs:List (Kx×V))(kas:List Addr):Prop:=if fz=true then ∃o,G a=some (.frz o (dwO sh kvs kas))else G a=some (dwO sh kvs kas)
theorem DAt.mono{fz:Bool}(e:Same G G')(h:DAt fz G a sh kvs kas):DAt fz G' a sh kvs kas:=by
 cases fz with
 |true=>obtain⟨o,h⟩:=h;exact⟨o,e _ _ h⟩
 |false=>exact e _ _ h
structure FnCells(G:Hp)(cl:List (Str×Addr))(l:Lm)(zs:List V)(cs:Cs):Prop where
 inj:∀x y c,cl.lookup x=some c->cl.lookup y=some c->x=y
 has:∀x,(x,NameKind.free)∈l.scope.names->∃c,cl.lookup x=some c
 all:∀x c,cl.lookup x=some c->∃o,cs.lookup c=some o
 cel:∀c o,cs.lookup c=some o->G c=some (celO o)/\∃v,o.data=.cell v
 val:∀(i:Nat) y z,l.nf[i]?=some y->zs[i]?=some z->∃c o u,cl.lookup y=some c/\cs.lookup c=some o/\o.data=.cell (some u)/\RelV z u
 len:zs.length=l.nf.length
theorem FnCells.mono{cl:List (Str×Addr)}{l:Lm}{zs:List V}{cs:Cs}(e:Same G G')(h:FnCells G cl l zs cs):FnCells G' cl l zs cs:=⟨h.inj,h.has,h.all,fun c o q=>⟨e _ _ (h.cel c o q).1,(h.cel c o q).2⟩,h.val,h.len⟩
def FnAtG(G:Hp)(l:Lm)(cl:List (Str×Addr))(f:Addr):Prop:=∃pm c' ctv,G f=some (fnO (kla_obj "<lambda>" l.qual l.params l.body l.scope cl pm c' ctv) l.qual c')
inductive RefTo(v:V)(P Q:Addr->List V->Prop):Prop where
 |mk (a:Addr) (xs:List V) (h:v=.ref a) (p:P a xs) (q:Q a xs):RefTo v P Q
inductive ConsOf(xs:List V)(P:V->Prop)(Q:List V->Prop):Prop where
 |mk (x:V) (r:List V) (h:xs=x::r) (p:P x) (q:Q r):ConsOf xs P Q
mutual
def Rep(K:Fg)(G:Hp):W->V->Prop
 |.non,v=>v=.non
 |.bl b,v=>v=.bl b
 |.int i,v=>v=.int i
 |.str x,v=>v=.str x
 |.tup ws,v=>RefTo v (SqT K G) fun _ xs=>Reps K G ws xs
 |.lst ws,v=>RefTo v (SqL K G) fun _ xs=>Reps K G ws xs
 |.exc c,v=>∃e,v=.ref e/\G e=some (excO e c)
 |.dw fz sh ks ws,v=>∃a kvs kas,v=.ref a/\DAt fz G a sh kvs kas/\kvs.map (·.1)=ks/\KeysS sh G ks kas/\Reps K G ws (kvs.map (·.2))
 |.fn _ l ws,v=>∃f cl zs cs,v=.ref f/\FnAtG G l cl f/\FnCells G cl l zs cs/\Reps K G ws zs
def Reps(K:Fg)(G:Hp):List W->List V->Prop
 |[],xs=>xs=[]
 |w::ws,xs=>ConsOf xs (Rep K G w) (Reps K G ws)
end
mutual
theorem Rep.mono{K:Fg}{G G':Hp}(e:Same G G'):∀(w:W){v:V},Rep K G w v->Rep K G' w v
 |.non,v,h=>h
 |.bl b,v,h=>h
 |.int i,v,h=>h
 |.str x,v,h=>h
 |.tup ws,v,h=>by
  obtain⟨a,xs,rfl,q,r⟩:=h;exact⟨a,xs,rfl,e.tup q,Reps.mono e ws r⟩
 |.lst ws,v,h=>by
  obtain⟨a,xs,rfl,q,r⟩:=h;exact⟨a,xs,rfl,e.seq q,Reps.mono e ws r⟩
 |.exc c,v,h=>by
  obtain⟨a,rfl,q⟩:=h;exact⟨a,rfl,e _ _ q⟩
 |.dw fz sh ks ws,v,h=>by
  obtain⟨a,kvs,kas,rfl,h1,h2,h3,h4⟩:=h;exact⟨a,kvs,kas,rfl,h1.mono e,h2,h3.mono e,Reps.mono e ws h4⟩
 |.fn i l ws,v,h=>by
  obtain⟨f,cl,zs,cs,rfl,⟨pm,c',ctv,h1⟩,h2,h3⟩:=h;exact⟨f,cl,zs,cs,rfl,⟨pm,c',ctv,e _ _ h1⟩,h2.mono e,Reps.mono e ws h3⟩
theorem Reps.mono{K:Fg}{G G':Hp}(e:Same G G'):∀(ws:List W){xs:List V},Reps K G ws xs->Reps K G' ws xs
 |[],xs,h=>h
 |w::ws,xs,h=>by
  obtain⟨x,r,rfl,h1,h2⟩:=h;exact⟨x,r,rfl,Rep.mono e w h1,Reps.mono e ws h2⟩
end
theorem Reps.length:∀{ws:List W}{xs:List V},Reps K G ws xs->xs.length=ws.length
 |[],xs,h=>by cases h;rfl
 |w::ws,xs,h=>by
  obtain⟨x,r,rfl,_,h2⟩:=h;simp[Reps.length h2]
theorem Reps.get:∀{ws:List W}{xs:List V}{i:Nat}{w:W},Reps K G ws xs->ws[i]?=some w->∃x,xs[i]?=some x/\Rep K G w x
 |[],xs,i,w,h,e=>by simp at e
 |w'::ws,xs,0,w,h,e=>by
  obtain⟨x,r,rfl,h1,h2⟩:=h;simp at e;subst e;exact⟨x,rfl,h1⟩
 |w'::ws,xs,i+1,w,h,e=>by
  obtain⟨x,r,rfl,h1,h2⟩:=h;obtain⟨y,e1,e2⟩:=Reps.get (i:=i) h2 (by simpa using e);exact⟨y,by simpa using e1,e2⟩
theorem Reps.getV:∀{ws:List W}{xs:List V}{i:Nat}{x:V},Reps K G ws xs->xs[i]?=some x->∃w,ws[i]?=some w/\Rep K G w x:=fun {ws xs i x} h e=>by
 have hl:=h.length;have hi:i<xs.length:=(w0b.mp e).1;have e2:ws[i]?=some ws[i]:=w0d (by omega);obtain⟨y,e3,r⟩:=h.get e2;rw[e]at e3;cases e3;exact⟨_,e2,r⟩
theorem Reps.append:∀{ws ws':List W}{xs xs':List V},Reps K G ws xs->Reps K G ws' xs'->Reps K G (ws++ws') (xs++xs')
 |[],ws',xs,xs',h,h'=>by cases h;exact h'
 |w::ws,ws',xs,xs',h,h'=>by
  obtain⟨x,r,rfl,h1,h2⟩:=h;exact⟨x,r++xs',rfl,h1,Reps.append h2 h'⟩
theorem Reps.one{x:V}(h:Rep K G w x):Reps K G [w] [x]:=⟨x,[],rfl,h,rfl⟩
theorem Reps.take:∀(n:Nat){ws:List W}{xs:List V},Reps K G ws xs->Reps K G (ws.take n) (xs.take n)
 |0,_,_,_=>rfl
 |n+1,[],_,h=>by cases h;rfl
 |n+1,w::ws,_,h=>by
  obtain⟨x,r,rfl,h1,h2⟩:=h;exact⟨x,r.take n,rfl,h1,Reps.take n h2⟩
theorem Reps.drop:∀(n:Nat){ws:List W}{xs:List V},Reps K G ws xs->Reps K G (ws.drop n) (xs.drop n)
 |0,_,_,h=>h
 |n+1,[],_,h=>by cases h;rfl
 |n+1,w::ws,_,h=>by
  obtain⟨x,r,rfl,h1,h2⟩:=h;exact Reps.drop n h2
theorem Reps.set:∀(i:Nat){ws:List W}{xs:List V}{w:W}{x:V},Reps K G ws xs->Rep K G w x->Reps K G (ws.set i w) (xs.set i x)
 |_,[],_,_,_,h,_=>by cases h;rfl
 |0,w'::ws,_,w,x,h,q=>by
  obtain⟨y,r,rfl,h1,h2⟩:=h;exact⟨x,r,rfl,q,h2⟩
 |i+1,w'::ws,_,w,x,h,q=>by
  obtain⟨y,r,rfl,h1,h2⟩:=h;exact⟨y,r.set i x,rfl,h1,Reps.set i h2 q⟩
structure Zt where
 H:Hp
 G:Hp
 io:List Addr
variable{Z Z':Zt}
def FzAt(Z:Zt)(G H:Hp)(l:Addr)(o:Obj)(ys:List V):Prop:=H l=some (.frz o (.lst ys))/\G l=none/\Z.H l=none
def NestIn(K:Fg)(Z:Zt)(G H:Hp):List Addr->List (List W)->Prop
 |[],[]=>True
 |l::ls,ws::wss=>(∃o ys,FzAt Z G H l o ys/\Reps K G ws ys)/\NestIn K Z G H ls wss
 |[],_::_=>False
 |_::_,[]=>False
inductive NestOk(K:Fg)(Z:Zt)(G H:Hp)(wss:List (List W))(v:Option V):Prop where
 |mk (a:Addr) (ls:List Addr) (h1:v=some (.ref a)) (h2:G a=some (.lst (ls.map V.ref))) (h3:ls.Nodup) (h4:NestIn K Z G H ls wss):NestOk K Z G H wss v
theorem NestIn.move{K:Fg}(sg:Same G G')(hf:∀l o ys,H l=some (.frz o (.lst ys))->G l=none->Z.H l=none->H' l=some (.frz o (.lst ys))/\G' l=none/\Z'.H l=none):∀{ls:List Addr}{wss:List (List W)},NestIn K Z G H ls wss->NestIn K Z' G' H' ls wss
 |[],[],_=>trivial
 |l::ls,ws::wss,⟨⟨o,ys,⟨h1,h2,h3⟩,h4⟩,h⟩=>⟨⟨o,ys,hf l o ys h1 h2 h3,Reps.mono sg ws h4⟩,h.move sg hf⟩
 |[],_::_,h=>h.elim
 |_::_,[],h=>h.elim
theorem NestOk.move{K:Fg}{wss:List (List W)}(q:NestOk K Z G H wss v)(sg:Same G G')(hf:∀l o ys,H l=some (.frz o (.lst ys))->G l=none->Z.H l=none->H' l=some (.frz o (.lst ys))/\G' l=none/\Z'.H l=none):NestOk K Z' G' H' wss v:=by
 obtain⟨a,ls,h1,h2,h3,h4⟩:=q;exact⟨a,ls,h1,sg _ _ h2,h3,h4.move sg hf⟩
inductive DwOk(K:Fg)(Z:Zt)(G H:Hp)(sh:Sh)(ks:List Kx)(ws:List W)(v:Option V):Prop where
 |mk (a:Addr) (kvs:List (Kx×V)) (kas:List Addr) (h1:v=some (.ref a)) (h2:H a=some (dwO sh kvs kas)) (h3:G a=none) (h4:Z.H a=none) (h5:kvs.map (·.1)=ks) (h6:KeysS sh G ks kas) (h7:Reps K G ws (kvs.map (·.2))):DwOk K Z G H sh ks ws v
theorem DwOk.move{K:Fg}(q:DwOk K Z G H sh ks ws v)(sg:Same G G')(hf:∀a kvs kas,H a=some (dwO sh kvs kas)->G a=none->Z.H a=none->H' a=some (dwO sh kvs kas)/\G' a=none/\Z'.H a=none):DwOk K Z' G' H' sh ks ws v:=by
 obtain⟨a,kvs,kas,h1,h2,h3,h4,h5,h6,h7⟩:=q;obtain⟨k1,k2,k3⟩:=hf a kvs kas h2 h3 h4;exact⟨a,kvs,kas,h1,k1,k2,k3,h5,h6.mono sg,Reps.mono sg ws h7⟩
mutual
def RepN(K:Fg)(Z:Zt)(G:Hp):W->V->Prop
 |.non,v=>v=.non
 |.bl b,v=>v=.bl b
 |.int i,v=>v=.int i
 |.str x,v=>v=.str x
 |.tup ws,v=>RefTo v (SqT K G) fun _ xs=>RepNs K Z G ws xs
 |.lst ws,v=>RefTo v (fun a xs=>G a=some (.lst xs)) fun a xs=>Z.H a=none/\RepNs K Z G ws xs
 |.exc _,_=>False
 |.dw _ _ _ _,_=>False
 |.fn _ _ _,_=>False
def RepNs(K:Fg)(Z:Zt)(G:Hp):List W->List V->Prop
 |[],xs=>xs=[]
 |w::ws,xs=>ConsOf xs (RepN K Z G w) (RepNs K Z G ws)
end
mutual
theorem RepN.rep{K:Fg}{Z:Zt}{G:Hp}:∀(w:W){v:V},RepN K Z G w v->Rep K G w v
 |.non,_,h=>h
 |.bl _,_,h=>h
 |.int _,_,h=>h
 |.str _,_,h=>h
 |.tup ws,_,⟨a,xs,e,q,r⟩=>⟨a,xs,e,q,RepNs.reps ws r⟩
 |.lst ws,_,⟨a,xs,e,q,_,r⟩=>⟨a,xs,e,.inl (.inl q),RepNs.reps ws r⟩
 |.exc _,_,h=>h.elim
 |.dw _ _ _ _,_,h=>h.elim
 |.fn _ _ _,_,h=>h.elim
theorem RepNs.reps{K:Fg}{Z:Zt}{G:Hp}:∀(ws:List W){vs:List V},RepNs K Z G ws vs->Reps K G ws vs
 |[],_,h=>h
 |w::ws,_,⟨x,r,e,p,q⟩=>⟨x,r,e,RepN.rep w p,RepNs.reps ws q⟩
end
mutual
theorem RepN.move{K:Fg}{Z Z':Zt}{G G':Hp}(sg:Same G G')(hz:∀a xs,G a=some (.lst xs)->Z.H a=none->Z'.H a=none):∀(w:W){v:V},RepN K Z G w v->RepN K Z' G' w v
 |.non,_,h=>h
 |.bl _,_,h=>h
 |.int _,_,h=>h
 |.str _,_,h=>h
 |.tup ws,_,⟨a,xs,e,q,r⟩=>⟨a,xs,e,sg.tup q,RepNs.move sg hz ws r⟩
 |.lst ws,_,⟨a,xs,e,q,n,r⟩=>⟨a,xs,e,sg _ _ q,hz _ _ q n,RepNs.move sg hz ws r⟩
 |.exc _,_,h=>h.elim
 |.dw _ _ _ _,_,h=>h.elim
 |.fn _ _ _,_,h=>h.elim
theorem RepNs.move{K:Fg}{Z Z':Zt}{G G':Hp}(sg:Same G G')(hz:∀a xs,G a=some (.lst xs)->Z.H a=none->Z'.H a=none):∀(ws:List W){vs:List V},RepNs K Z G ws vs->RepNs K Z' G' ws vs
 |[],_,h=>h
 |w::ws,_,⟨x,r,e,p,q⟩=>⟨x,r,e,RepN.move sg hz w p,RepNs.move sg hz ws q⟩
end
inductive TnOk(K:Fg)(Z:Zt)(G H:Hp)(us:List W)(wss:List (List W))(v:Option V):Prop where
 |mk (t l:Addr) (o:Obj) (ls:List Addr) (xs:List V) (h1:v=some (.ref t)) (h2:G t=some (.tup (xs++[.ref l]))) (h3:FzAt Z G H l o (ls.map V.ref)) (h4:ls.Nodup/\l∉ls) (h5:Reps K G us xs) (h6:NestIn K Z G H ls wss):TnOk K Z G H us wss v
inductive ConsF(xs:List V)(as:List Addr)(P:V->List Addr->Prop)(Q:List V->List Addr->Prop):Prop where
 |mk (x:V) (r:List V) (b c:List Addr) (h:xs=x::r) (h':as=b++c) (p:P x b) (q:Q r c):ConsF xs as P Q
inductive LstF(as:List Addr)(a:Addr)(Q:List Addr->Prop):Prop where
 |mk (bs:List Addr) (h:as=a::bs) (q:Q bs):LstF as a Q
mutual
def RepF(K:Fg)(Z:Zt)(G H:Hp):W->V->List Addr->Prop
 |.non,v,as=>v=.non/\as=[]
 |.bl b,v,as=>v=.bl b/\as=[]
 |.int i,v,as=>v=.int i/\as=[]
 |.str x,v,as=>v=.str x/\as=[]
 |.tup ws,v,as=>RefTo v (SqT K G) fun _ xs=>RepFs K Z G H ws xs as
 |.lst ws,v,as=>RefTo v (fun a xs=>∃o,FzAt Z G H a o xs) fun a xs=>LstF as a (RepFs K Z G H ws xs)
 |.exc _,_,_=>False
 |.dw _ _ _ _,_,_=>False
 |.fn _ _ _,_,_=>False
def RepFs(K:Fg)(Z:Zt)(G H:Hp):List W->List V->List Addr->Prop
 |[],xs,as=>xs=[]/\as=[]
 |w::ws,xs,as=>ConsF xs as (RepF K Z G H w) (RepFs K Z G H ws)
end
mutual
theorem RepF.move{K:Fg}{Z Z':Zt}{G G' H H':Hp}(sg:Same G G'):∀(w:W){v:V}{as:List Addr},(∀l o ys,l∈as->FzAt Z G H l o ys->FzAt Z' G' H' l o ys)->RepF K Z G H w v as->RepF K Z' G' H' w v as
 |.non,_,_,_,h=>h
 |.bl _,_,_,_,h=>h
 |.int _,_,_,_,h=>h
 |.str _,_,_,_,h=>h
 |.tup ws,_,_,hf,⟨a,xs,e,q,r⟩=>⟨a,xs,e,sg.tup q,RepFs.move sg ws hf r⟩
 |.lst ws,_,_,hf,⟨a,xs,e,⟨o,q⟩,⟨bs,e2,r⟩⟩=>by
  subst e2;exact⟨a,xs,e,⟨o,hf _ _ _ (w1d ..) q⟩,bs,rfl,RepFs.move sg ws (fun l o ys z=>hf l o ys (w0k _ z)) r⟩
 |.exc _,_,_,_,h=>h.elim
 |.dw _ _ _ _,_,_,_,h=>h.elim
 |.fn _ _ _,_,_,_,h=>h.elim
theorem RepFs.move{K:Fg}{Z Z':Zt}{G G' H H':Hp}(sg:Same G G'):∀(ws:List W){vs:List V}{as:List Addr},(∀l o ys,l∈as->FzAt Z G H l o ys->FzAt Z' G' H' l o ys)->RepFs K Z G H ws vs as->RepFs K Z' G' H' ws vs as
 |[],_,_,_,h=>h
 |w::ws,_,_,hf,⟨x,r,b,c,e,e2,p,q⟩=>by
  subst e2;exact⟨x,r,b,c,e,rfl,RepF.move sg w (fun l o ys z=>hf l o ys (w2m _ z)) p,RepFs.move sg ws (fun l o ys z=>hf l o ys (w0i _ z)) q⟩
end
mutual
theorem RepF.rep{K:Fg}{Z:Zt}{G G' H:Hp}(sg:Same G G')(hf:∀l o ys,FzAt Z G H l o ys->G' l=some (.frz o (.lst ys))):∀(w:W){v:V}{as:List Addr},RepF K Z G H w v as->Rep K G' w v
 |.non,_,_,h=>h.1
 |.bl _,_,_,h=>h.1
 |.int _,_,_,h=>h.1
 |.str _,_,_,h=>h.1
 |.tup ws,_,_,⟨a,xs,e,q,r⟩=>⟨a,xs,e,sg.tup q,RepFs.reps sg hf ws r⟩
 |.lst ws,_,_,⟨a,xs,e,⟨o,q⟩,⟨bs,_,r⟩⟩=>⟨a,xs,e,.inl (.inr ⟨o,hf _ _ _ q⟩),RepFs.reps sg hf ws r⟩
 |.exc _,_,_,h=>h.elim
 |.dw _ _ _ _,_,_,h=>h.elim
 |.fn _ _ _,_,_,h=>h.elim
theorem RepFs.reps{K:Fg}{Z:Zt}{G G' H:Hp}(sg:Same G G')(hf:∀l o ys,FzAt Z G H l o ys->G' l=some (.frz o (.lst ys))):∀(ws:List W){vs:List V}{as:List Addr},RepFs K Z G H ws vs as->Reps K G' ws vs
 |[],_,_,h=>h.1
 |w::ws,_,_,⟨x,r,b,c,e,_,p,q⟩=>⟨x,r,e,RepF.rep sg hf w p,RepFs.reps sg hf ws q⟩
end
mutual
theorem RepF.fzs{K:Fg}{Z:Zt}{G H:Hp}:∀(w:W){v:V}{as:List Addr},RepF K Z G H w v as->∀{l:Addr},l∈as->∃o ys,FzAt Z G H l o ys
 |.non,_,_,h,_,m=>by rw[h.2]at m;cases m
 |.bl _,_,_,h,_,m=>by rw[h.2]at m;cases m
 |.int _,_,_,h,_,m=>by rw[h.2]at m;cases m
 |.str _,_,_,h,_,m=>by rw[h.2]at m;cases m
 |.tup ws,_,_,⟨a,xs,e,q,r⟩,_,m=>RepFs.fzs ws r m
 |.lst ws,_,_,⟨a,xs,e,⟨o,q⟩,⟨bs,e2,r⟩⟩,l,m=>by
  subst e2;rcases w0p.mp m with rfl|m
  ·exact⟨o,xs,q⟩
  ·exact RepFs.fzs ws r m
 |.exc _,_,_,h,_,_=>h.elim
 |.dw _ _ _ _,_,_,h,_,_=>h.elim
 |.fn _ _ _,_,_,h,_,_=>h.elim
theorem RepFs.fzs{K:Fg}{Z:Zt}{G H:Hp}:∀(ws:List W){vs:List V}{as:List Addr},RepFs K Z G H ws vs as->∀{l:Addr},l∈as->∃o ys,FzAt Z G H l o ys
 |[],_,_,h,_,m=>by rw[h.2]at m;cases m
 |w::ws,_,_,⟨x,r,b,c,e,e2,p,q⟩,l,m=>by
  subst e2;rcases w1a.mp m with m|m
  ·exact RepF.fzs w p m
  ·exact RepFs.fzs ws q m
end
inductive FzOk(K:Fg)(Z:Zt)(G H:Hp)(w:W)(v:Option V):Prop where
 |mk (u:V) (as:List Addr) (h1:v=some u) (h2:as.Nodup) (h3:RepF K Z G H w u as):FzOk K Z G H w v
inductive FzoOk(K:Fg)(Z:Zt)(G H:Hp)(w:W)(v:Option V):Prop where
 |mk (u:V) (as:List Addr) (h1:v=some u) (h2:as.Nodup) (h3:RepF K Z Z.G H w u as) (h4:RepF K Z G H w u as):FzoOk K Z G H w v
def XOk(K:Fg)(Z:Zt)(G H:Hp):SK->Option V->Prop
 |.old w,v=>∃u,v=some u/\Rep K Z.G w u/\Rep K G w u
 |.new w,v=>∃u,v=some u/\RepN K Z G w u
 |.tn us wss,v=>TnOk K Z G H us wss v
 |.fz w,v=>FzOk K Z G H w v
 |.fzo w,v=>FzoOk K Z G H w v
theorem XOk.move{K:Fg}{k:SK}(q:XOk K Z G H k v)(sg:Same G G')(hf:∀l o ys,H l=some (.frz o (.lst ys))->G l=none->Z.H l=none->H' l=some (.frz o (.lst ys))/\G' l=none/\Z.H l=none):XOk K Z G' H' k v:=by
 cases k with
 |old w=>obtain⟨u,h1,h2,h3⟩:=q;exact⟨u,h1,h2,Rep.mono sg w h3⟩
 |new w=>obtain⟨u,h1,h2⟩:=q;exact⟨u,h1,RepN.move sg (fun _ _ _ z=>z) w h2⟩
 |tn us wss=>obtain⟨t,l,o,ls,xs,h1,h2,⟨h3,h4,h5⟩,h6,h7,h8⟩:=q;exact⟨t,l,o,ls,xs,h1,sg _ _ h2,hf _ _ _ h3 h4 h5,h6,Reps.mono sg us h7,h8.move sg hf⟩
 |fz w=>obtain⟨u,as,h1,h2,h3⟩:=q;exact⟨u,as,h1,h2,RepF.move sg w (fun l o ys _ ⟨k1,k2,k3⟩=>hf l o ys k1 k2 k3) h3⟩
 |fzo w=>obtain⟨u,as,h1,h2,h3,h4⟩:=q;exact⟨u,as,h1,h2,RepF.move (.refl _) w (fun l o ys hm k=>⟨(hf l o ys k.1 (let ⟨_,_,z⟩:=RepF.fzs w h4 hm;z.2.1) k.2.2).1,k.2.1,k.2.2⟩) h3,RepF.move sg w (fun l o ys _ ⟨k1,k2,k3⟩=>hf l o ys k1 k2 k3) h4⟩
def IoOk(Z:Zt):Option Nat->Addr->Prop
 |none,a=>Z.H a=none
 |some j,a=>Z.io[j]?=some a
theorem IoOk.io(h:IoOk Z b a):a∈Z.io\/Z.H a=none:=by
 cases b with
 |none=>exact .inr h
 |some j=>exact .inl (w0n h)
inductive OwnOk(K:Fg)(Z:Zt)(G H:Hp)(b:Option Nat)(ws:List W)(v:Option V):Prop where
 |mk (a:Addr) (xs:List V) (h1:v=some (.ref a)) (h2:H a=some (.lst xs)) (h3:G a=none) (h4:IoOk Z b a) (h5:Reps K G ws xs):OwnOk K Z G H b ws v
def SlotOk(K:Fg)(Z:Zt)(G H:Hp):S->Option V->Prop
 |.no,_=>True
 |.fr w,v=>∃u,v=some u/\Rep K G w u
 |.own b ws,v=>OwnOk K Z G H b ws v
 |.nest wss,v=>NestOk K Z G H wss v
 |.dw sh ks ws,v=>DwOk K Z G H sh ks ws v
 |.x k,v=>XOk K Z G H k v
structure Rel(K:Fg)(Z:Zt)(G:Hp)(σ:St)(H:Hp)(e:List S):Prop where
 sub:Same G H
 slot:∀(i:Nat)(s:S),e[i]?=some s->SlotOk K Z G H s (σ[i]?.getD none)
 len:e.length=σ.length
 dis:∀(i j:Nat)(b b':Option Nat)(ws ws':List W)(a:Addr),e[i]?=some (.own b ws)->e[j]?=some (.own b' ws')->σ[i]?=some (some (.ref a))->σ[j]?=some (some (.ref a))->i=j
 ent:∀a o,Z.H a=some o->a∉Z.io->H a=some o
 ion:∀a∈Z.io,H a≠none
 gen:∀a,Z.H a≠none->G a=Z.G a
inductive AtG(K:Fg)(Z:Zt)(σ:St)(H:Hp)(P:Hp->List S->Prop):Prop where
 |mk (G:Hp) (e:List S) (r:Rel K Z G σ H e) (h:P G e):AtG K Z σ H P
structure Grow(G H G' H':Hp):Prop where
 hh:Same H H'
 gg:Same G G'
 sub:Same G' H'
 new:∀a,H a≠none->G' a=G a
theorem Grow.refl(s:Same G H):Grow G H G H:=⟨.refl _,.refl _,s,fun _ _=>rfl⟩
theorem Grow.trans{G2 H2:Hp}(x:Grow G H G1 H1)(y:Grow G1 H1 G2 H2):Grow G H G2 H2:=
 ⟨x.hh.trans y.hh,x.gg.trans y.gg,y.sub,fun a h=>by
  rw[y.new a,x.new a h];cases q:H a with
  |none=>exact absurd q h
  |some o=>rw[x.hh a o q];simp⟩
theorem q9m(e:Same H H')(h:H a≠none):H' a≠none:=by
 cases q:H a with
 |none=>exact absurd q h
 |some o=>rw[e a o q];simp
theorem Grow.laid(s:Same G H){D:Addr}(h:H D=none)(o:HO):Grow G H (upd G D o) (upd H D o) where
 hh:=q20 h o
 gg:=q20 (s.free h) o
 sub:=fun b u e=>by
  by_cases hb:b=D
  ·subst hb;rw[q0d]at e |-;exact e
  ·rw[q0c hb]at e |-;exact s b u e
 new:=fun a ha=>by rw[q0c (fun z=>ha (by rw[z];exact h))]
theorem Grow.hid(s:Same G H){D:Addr}(h:H D=none)(o:HO):Grow G H G (upd H D o) where
 hh:=q20 h o
 gg:=.refl _
 sub:=fun b u e=>by
  have:=s b u e;rw[q0c (q0n this h)];exact this
 new:=fun a ha=>rfl
theorem Rel.grow(r:Rel K Z G σ H e)(g:Grow G H G' H'):Rel K Z G' σ H' e where
 sub:=g.sub
 slot:=fun i s h=>by
  have q:=r.slot i s h;cases s with
  |no=>trivial
  |fr w=>
   obtain⟨u,h1,h2⟩:=q;exact⟨u,h1,Rep.mono g.gg w h2⟩
  |own b ws=>
   obtain⟨a,xs,h1,h2,h3,h4,h5⟩:=q;exact⟨a,xs,h1,g.hh _ _ h2,by rw[g.new a (by rw[h2];simp)];exact h3,h4,Reps.mono g.gg ws h5⟩
  |nest wss=>exact NestOk.move q g.gg fun l o ys h1 h2 h3=>⟨g.hh _ _ h1,by rw[g.new l (by rw[h1];simp)];exact h2,h3⟩
  |x k=>exact XOk.move q g.gg fun l o ys h1 h2 h3=>⟨g.hh _ _ h1,by rw[g.new l (by rw[h1];simp)];exact h2,h3⟩
  |dw sh ks ws=>exact DwOk.move q g.gg fun l o ys h1 h2 h3=>⟨g.hh _ _ h1,by rw[g.new l (by rw[h1];simp)];exact h2,h3⟩
 len:=r.len
 dis:=r.dis
 ent:=fun a o h n=>g.hh _ _ (r.ent a o h n)
 ion:=fun a h=>q9m g.hh (r.ion a h)
 gen:=fun a h=>by
  have:H a≠none:=by
   cases q:Z.H a with
   |none=>exact absurd q h
   |some o=>
    by_cases hi:a∈Z.io
    ·exact r.ion a hi
    ·rw[r.ent a o q hi];simp
  rw[g.new a this];exact r.gen a h
theorem Rel.own(r:Rel K Z G σ H e)(h:e[i]?=some (.own b ws)):∃a xs,σ[i]?=some (some (.ref a))/\H a=some (.lst xs)/\G a=none/\(IoOk Z b a)/\Reps K G ws xs:=by
 obtain⟨a,xs,h1,h2,h3,h4,h5⟩:=r.slot i _ h;refine⟨a,xs,?_,h2,h3,h4,h5⟩;cases q:σ[i]? with
 |none=>rw[q]at h1;cases h1
 |some z=>rw[q]at h1;rw[show z=some (V.ref a)from h1]
theorem Rel.fr(r:Rel K Z G σ H e)(h:e[i]?=some (.fr w)):∃v,σ[i]?=some (some v)/\Rep K G w v:=by
 obtain⟨v,h1,h2⟩:=r.slot i _ h;refine⟨v,?_,h2⟩;cases q:σ[i]? with
 |none=>rw[q]at h1;cases h1
 |some z=>rw[q]at h1;rw[show z=some v from h1]
theorem Rel.at(r:Rel K Z G σ H e){s:S}{v:V}(h:e[i]?=some s)(hs:SlotOk K Z G H s (σ[i]?.getD none)->σ[i]?.getD none=some v):σ[i]?=some (some v):=by
 have h1:=hs (r.slot i _ h);cases q:σ[i]? with
 |none=>rw[q]at h1;cases h1
 |some z=>rw[q]at h1;rw[show z=some v from h1]
theorem Rel.plain(r:Rel K Z G σ H e){k:SK}(h:e[i]?=some (.x k))(hk:k.plain=some w):∃v,σ[i]?=some (some v)/\Rep K G w v:=by
 have q:=r.slot i _ h;cases k with
 |old w'=>cases hk;obtain⟨v,h1,_,h2⟩:=q;exact⟨v,r.at h fun _=>h1,h2⟩
 |new w'=>cases hk;obtain⟨v,h1,h2⟩:=q;exact⟨v,r.at h fun _=>h1,RepN.rep _ h2⟩
 |_=>cases hk
theorem Rel.mut(r:Rel K Z G σ H e){ws':List W}{xs':List V}(h:e[i]?=some (.own b ws))(ha:σ[i]?=some (some (.ref a)))(q:Reps K G ws' xs'):Rel K Z G σ (upd H a (.lst xs')) (e.set i (.own b ws')):=by
 obtain⟨a',xs,h1,h2,h3,h4,h5⟩:=r.own h;rw[ha]at h1;cases h1;have hi:i<e.length:=(w0b.mp h).1;refine⟨fun c o z=>?_,fun j s z=>?_,by simpa using r.len,fun j k b1 b2 w1 w2 c z1 z2 z3 z4=>?_,fun c o z n=>?_,fun c z=>?_,r.gen⟩
 ·rw[q0c (q0n z h3)];exact r.sub c o z
 ·by_cases hj:j=i
  ·subst hj;rw[w0h hi]at z;cases z;exact⟨a,xs',by rw[ha];rfl,q0d,h3,h4,q⟩
  ·rw[w0f (fun z=>hj z.symm)]at z
   have y:=r.slot j s z;cases s with
   |no=>trivial
   |fr w=>exact y
   |own b2 w2=>
    obtain⟨c,ys,y1,y2,y3,y4,y5⟩:=y;refine⟨c,ys,y1,?_,y3,y4,y5⟩;rw[q0c];exact y2;rintro rfl;obtain⟨c',_,z1,_⟩:=r.own z;rw[z1]at y1;cases y1;exact hj (r.dis j i _ _ _ _ _ z h z1 ha)
   |nest wss=>exact NestOk.move y (.refl _) fun l o ys k1 k2 k3=>⟨by rw[q0c (q0x k1 h2 (fun z=>nomatch z))];exact k1,k2,k3⟩
   |x k=>exact XOk.move y (.refl _) fun l o ys k1 k2 k3=>⟨by rw[q0c (q0x k1 h2 (fun z=>nomatch z))];exact k1,k2,k3⟩
   |dw sh ks ws=>exact DwOk.move y (.refl _) fun l o ys k1 k2 k3=>⟨by rw[q0c (q0x k1 h2 (q1f rfl))];exact k1,k2,k3⟩
 ·have old:∀(k:Nat)(bb:Option Nat)(ww:List W),(e.set i (S.own b ws'))[k]?=some (.own bb ww)->∃b' w',e[k]?=some (.own b' w'):=fun k bb ww z=>by
   by_cases hk:k=i
   ·subst hk;exact⟨_,_,h⟩
   ·rw[w0f (fun z=>hk z.symm)]at z;exact⟨_,_,z⟩
  obtain⟨_,_,q1⟩:=old _ _ _ z1;obtain⟨_,_,q2⟩:=old _ _ _ z2;exact r.dis _ _ _ _ _ _ _ q1 q2 z3 z4
 ·by_cases hc:c=a
  ·subst hc;exfalso;rcases h4.io with h4|h4
   ·exact n h4
   ·rw[h4]at z;cases z
  ·rw[q0c hc];exact r.ent c o z n
 ·by_cases hc:c=a
  ·subst hc;rw[q0d];simp
  ·rw[q0c hc];exact r.ion c z
theorem Rel.freeze(r:Rel K Z G σ H e)(h:e[i]?=some (.own none ws)):∃v G',σ[i]?=some (some v)/\Same G G'/\Rep K G' (.lst ws) v/\Rel K Z G' σ H (e.set i (.fr (.lst ws))):=by
 obtain⟨a,xs,h1,h2,h3,h4,h5⟩:=r.own h;have h4:Z.H a=none:=h4;have sg:Same G (upd G a (.lst xs)):=q20 h3 _;have hi:i<e.length:=(w0b.mp h).1;have rp:Rep K (upd G a (.lst xs)) (.lst ws) (.ref a):=⟨a,xs,rfl,SqL.of q0d,Reps.mono sg ws h5⟩;refine⟨.ref a,upd G a (.lst xs),h1,sg,rp,⟨fun c o z=>?_,fun j s z=>?_,by simpa using r.len,fun j k b1 b2 w1 w2 c z1 z2 z3 z4=>?_,r.ent,r.ion,fun c z=>?_⟩⟩
 ·by_cases hc:c=a
  ·subst hc;rw[q0d]at z;cases z;exact h2
  ·rw[q0c hc]at z;exact r.sub c o z
 ·by_cases hj:j=i
  ·subst hj;rw[w0h hi]at z;cases z;exact⟨.ref a,by rw[h1];rfl,rp⟩
  ·rw[w0f (fun z=>hj z.symm)]at z
   have y:=r.slot j s z;cases s with
   |no=>trivial
   |fr w=>
    obtain⟨u,y1,y2⟩:=y;exact⟨u,y1,Rep.mono sg w y2⟩
   |own b2 w2=>
    obtain⟨c,ys,y1,y2,y3,y4,y5⟩:=y;refine⟨c,ys,y1,y2,?_,y4,Reps.mono sg w2 y5⟩;rw[q0c];exact y3;rintro rfl;obtain⟨c',_,z1,_⟩:=r.own z;rw[z1]at y1;cases y1;exact hj (r.dis j i _ _ _ _ _ z h z1 h1)
   |nest wss=>exact NestOk.move y sg fun l o ys k1 k2 k3=>⟨k1,by rw[q0c (q0x k1 h2 (fun z=>nomatch z))];exact k2,k3⟩
   |x k=>exact XOk.move y sg fun l o ys k1 k2 k3=>⟨k1,by rw[q0c (q0x k1 h2 (fun z=>nomatch z))];exact k2,k3⟩
   |dw sh ks ws=>exact DwOk.move y sg fun l o ys k1 k2 k3=>⟨k1,by rw[q0c (q0x k1 h2 (q1f rfl))];exact k2,k3⟩
 ·have old:∀(k:Nat)(bb:Option Nat)(ww:List W),(e.set i (S.fr (W.lst ws)))[k]?=some (.own bb ww)->e[k]?=some (.own bb ww):=fun k bb ww z=>by
   by_cases hk:k=i
   ·subst hk;rw[w0h hi]at z;cases z
   ·rw[w0f (fun z=>hk z.symm)]at z;exact z
  exact r.dis _ _ _ _ _ _ _ (old _ _ _ z1) (old _ _ _ z2) z3 z4
 ·by_cases hc:c=a
  ·subst hc;exact absurd h4 z
  ·rw[q0c hc];exact r.gen c z
def Free(σ:St)(e:List S)(a:Addr):Prop:=∀(j:Nat)(b:Option Nat)(ws:List W),e[j]?=some (.own b ws)->σ[j]?≠some (some (.ref a))
theorem Rel.set(r:Rel K Z G σ H e){i:Nat}{w:W}{v:V}(q:Rep K G w v):Rel K Z G (σ.set i (some v)) H (e.set i (.fr w)):=by
 refine⟨r.sub,fun j s z=>?_,by simpa using r.len,fun j k b1 b2 w1 w2 c z1 z2 z3 z4=>?_,r.ent,r.ion,r.gen⟩
 ·by_cases hj:j=i
  ·subst hj
   have hi:j<e.length:=by
    have:=(w0b.mp z).1;simpa using this
   rw[w0h hi]at z;cases z;rw[w0h (by rw[<- r.len];exact hi)];exact⟨v,rfl,q⟩
  ·rw[w0f (fun z=>hj z.symm)]at z |-
   exact r.slot j s z
 ·have old:∀(k:Nat)(bb:Option Nat)(ww:List W),(e.set i (S.fr w))[k]?=some (.own bb ww)->k≠i/\e[k]?=some (.own bb ww):=fun k bb ww z=>by
   by_cases hk:k=i
   ·subst hk
    have hi:k<e.length:=by
     have:=(w0b.mp z).1;simpa using this
    rw[w0h hi]at z;cases z
   ·rw[w0f (fun z=>hk z.symm)]at z;exact⟨hk,z⟩
  obtain⟨n1,q1⟩:=old _ _ _ z1;obtain⟨n2,q2⟩:=old _ _ _ z2;rw[w0f (fun z=>n1 z.symm)]at z3
  rw[w0f (fun z=>n2 z.symm)]at z4
  exact r.dis _ _ _ _ _ _ _ q1 q2 z3 z4
theorem Rel.setOwn(r:Rel K Z G σ H e)(h2:H a=some (.lst xs))(h3:G a=none)(h4:Z.H a=none)(hf:Free σ e a)(q:Reps K G ws xs):Rel K Z G (σ.set i (some (.ref a))) H (e.set i (.own none ws)):=by
 refine⟨r.sub,fun j s z=>?_,by simpa using r.len,fun j k b1 b2 w1 w2 c z1 z2 z3 z4=>?_,r.ent,r.ion,r.gen⟩
 ·by_cases hj:j=i
  ·subst hj
   have hi:j<e.length:=by
    have:=(w0b.mp z).1;simpa using this
   rw[w0h hi]at z;cases z;rw[w0h (by rw[<- r.len];exact hi)];exact⟨a,xs,rfl,h2,h3,h4,q⟩
  ·rw[w0f (fun z=>hj z.symm)]at z |-
   exact r.slot j s z
 ·have both:∀(k:Nat)(bb:Option Nat)(ww:List W),(e.set i (S.own none ws))[k]?=some (.own bb ww)->(σ.set i (some (.ref a)))[k]?=some (some (.ref c))->(k=i/\c=a)\/(k≠i/\e[k]?=some (.own bb ww)/\σ[k]?=some (some (.ref c))/\c≠a):=fun k bb ww z y=>by
   by_cases hk:k=i
   ·subst hk
    have hi:k<e.length:=by
     have:=(w0b.mp z).1;simpa using this
    rw[w0h (by rw[<- r.len];exact hi)]at y;cases y;exact .inl ⟨rfl,rfl⟩
   ·rw[w0f (fun z=>hk z.symm)]at z y
    exact .inr ⟨hk,z,y,fun e=>hf k bb ww z (by rw[y,e])⟩
  rcases both _ _ _ z1 z3 with⟨e1,c1⟩|⟨n1,q1,p1,c1⟩<;>rcases both _ _ _ z2 z4 with⟨e2,c2⟩|⟨n2,q2,p2,c2⟩
  ·rw[e1,e2]
  ·exact absurd c1 c2
  ·exact absurd c2 c1
  ·exact r.dis _ _ _ _ _ _ _ q1 q2 p1 p2
theorem Rel.forget(r:Rel K Z G σ H e){e':List S}(hl:e'.length=e.length)(h:∀(i:Nat)(s:S),e'[i]?=some s->s=.no\/e[i]?=some s):Rel K Z G σ H e':=by
 refine⟨r.sub,fun j s z=>?_,by rw[hl];exact r.len,fun j k b1 b2 w1 w2 c z1 z2 z3 z4=>?_,r.ent,r.ion,r.gen⟩
 ·rcases h j s z with rfl|q
  ·trivial
  ·exact r.slot j s q
 ·rcases h _ _ z1 with q1|q1
  ·cases q1
  ·rcases h _ _ z2 with q2|q2
   ·cases q2
   ·exact r.dis _ _ _ _ _ _ _ q1 q2 z3 z4
inductive R(α:Type) where
 |ok (a:α) (e:List S)|ex (c:Value) (e:List S)|no
noncomputable abbrev Den(α:Type):=List S->R α
variable{dA:Den (List W)}
def R.bind{β:Type}:R α->(α->List S->R β)->R β
 |.ok a e,k=>k a e
 |.ex c e,_=>.ex c e
 |.no,_=>.no
def R.holds(r:R α)(P:α->List S->Prop)(E:Value->List S->Prop):Prop:=match r with
 |.ok a e=>P a e
 |.ex c e=>E c e
 |.no=>False
theorem R.holds_bind{β:Type}{r:R α}{k:α->List S->R β}{P:β->List S->Prop}:(r.bind k).holds P E↔r.holds (fun a e=>(k a e).holds P E) E:=by
 cases r<;>rfl
theorem R.holds.imp{r:R α}{P P':α->List S->Prop}{E':Value->List S->Prop}(h:r.holds P E)(p:∀a e,P a e->P' a e)(x:∀c e,E c e->E' c e):r.holds P' E':=by
 cases r with
 |ok a e=>exact p a e h
 |ex c e=>exact x c e h
 |no=>exact h
def ofOpt(o:Option α)(e:List S):R α:=match o with
 |some a=>.ok a e
 |none=>.no
theorem ofOpt_holds{o:Option α}{P:α->List S->Prop}:(ofOpt o e).holds P E↔∃a,o=some a/\P a e:=by
 cases o with
 |none=>exact⟨fun h=>h.elim,fun⟨_,h,_⟩=>nomatch h⟩
 |some a=>exact⟨fun h=>⟨a,rfl,h⟩,fun⟨_,h,q⟩=>by cases h;exact q⟩
inductive SR where
 |nx (e:List S)|rt (s:S) (e:List S)|bk (e:List S)|ct (e:List S)|ex (c:Value) (e:List S)|no
section
variable(K:Fg)(Z:Zt)(EE:L2.St->XK)
abbrev XH(σ:St)(G:Hp):Value->List S->Prop:=fun c e'=>∀G' H',Rel K Z G' σ H' e'->Same G G'->EE σ c none H'
def liftE(d:Den W):TE:=fun σ H Q=>AtG K Z σ H fun G e=>(d e).holds (fun w e'=>∀G' v H',Rel K Z G' σ H' e'->Same G G'->Rep K G' w v->Q v H') (XH K Z EE σ G)
def liftA(d:Den (List W)):TA:=fun σ H Q=>AtG K Z σ H fun G e=>(d e).holds (fun ws e'=>∀G' vs H',Rel K Z G' σ H' e'->Same G G'->Reps K G' ws vs->Q vs H') (XH K Z EE σ G)
def liftT(d:Den Bool):TT:=fun σ H Q=>AtG K Z σ H fun G e=>(d e).holds (fun b e'=>∀G' H',Rel K Z G' σ H' e'->Same G G'->Q b H') (XH K Z EE σ G)
def liftF(d:Den (List W)):TE:=fun σ H Q=>AtG K Z σ H fun G e=>(d e).holds (fun ws e'=>∀G' a xs H',Rel K Z G' σ H' e'->Same G G'->H' a=some (.lst xs)->G' a=none->Z.H a=none->Free σ e' a->Reps K G' ws xs->Q (.ref a) H') (XH K Z EE σ G)
def PostS(D:Ends)(G:Hp):SR->Prop
 |.nx e'=>∀G' σ' H',Rel K Z G' σ' H' e'->Same G G'->D.nx σ' H'
 |.bk e'=>∀G' σ' H',Rel K Z G' σ' H' e'->Same G G'->D.bk σ' H'
 |.ct e'=>∀G' σ' H',Rel K Z G' σ' H' e'->Same G G'->D.ct σ' H'
 |.rt s e'=>∀G' σ' v H',Rel K Z G' σ' H' e'->Same G G'->SlotOk K Z G' H' s (some v)->D.rt v H'
 |.ex c e'=>∀G' σ' H',Rel K Z G' σ' H' e'->Same G G'->EE σ' c none H'
 |.no=>False
def liftS(d:List S->SR):TS:=fun D σ H=>AtG K Z σ H fun G e=>PostS K Z EE D G (d e)
end
section
variable(Z:Zt)(X:Cx)(EE:L2.St->XK)
def DE(e:Expr)(d:Den W):Prop:=PE X e (liftE X.K Z EE d)
def DF(e:Expr)(d:Den (List W)):Prop:=PE X e (liftF X.K Z EE d)
def DT(e:Expr)(d:Den Bool):Prop:=PT X e (liftT X.K Z EE d)
def DW(e:Expr)(d:Den Bool):Prop:=PW X e (liftT X.K Z EE d)
def DA(es:List Expr)(d:Den (List W)):Prop:=PA X es (liftA X.K Z EE d)
def DS(st:Stmt)(d:List S->SR):Prop:=PS X st (liftS X.K Z EE d)
def DSs(sts:List Stmt)(d:List S->SR):Prop:=PSs X sts (liftS X.K Z EE d)
end
theorem PE.mono{e:Expr}{t t':TE}(h:PE X e t)(i:∀σ H Q,t' σ H Q->t σ H Q):PE X e t':=fun pins s σ H Q I q=>h pins s σ H Q I (i σ H Q q)
theorem PT.mono{e:Expr}{t t':TT}(h:PT X e t)(i:∀σ H Q,t' σ H Q->t σ H Q):PT X e t':=fun pins s σ H Q I q=>h pins s σ H Q I (i σ H Q q)
theorem PW.mono{e:Expr}{t t':TT}(h:PW X e t)(i:∀σ H Q,t' σ H Q->t σ H Q):PW X e t':=fun wh pins s σ H Q I q=>h wh pins s σ H Q I (i σ H Q q)
theorem PA.mono{t t':TA}(h:PA X es t)(i:∀σ H Q,t' σ H Q->t σ H Q):PA X es t':=fun p pins s σ H Q I q=>h p pins s σ H Q I (i σ H Q q)
theorem PS.mono{t t':TS}(h:PS X st t)(i:∀D σ H,t' D σ H->t D σ H):PS X st t':=fun pins s σ H D I q=>h pins s σ H D I (i D σ H q)
theorem PSs.mono{st:List Stmt}{t t':TS}(h:PSs X st t)(i:∀D σ H,t' D σ H->t D σ H):PSs X st t':=fun pins s σ H D I q=>h pins s σ H D I (i D σ H q)
section
variable(K:Fg)
def Op2(r:R2)(f:W->W->Option W):Prop:=∀(G H:Hp)(x y:V)(wx wy w:W)(Q:VK),Same G H->Rep K G wx x->Rep K G wy y->f wx wy=some w->(∀G' v H',Grow G H G' H'->Rep K G' w v->Q v H')->r x y H Q
def Op1(r:V->Hp->VK->Prop)(f:W->Option W):Prop:=∀(G H:Hp)(x:V)(wx w:W)(Q:VK),Same G H->Rep K G wx x->f wx=some w->(∀G' v H',Grow G H G' H'->Rep K G' w v->Q v H')->r x H Q
def OpN(r:List V->Hp->VK->Prop)(f:List W->Option W):Prop:=∀(G H:Hp)(xs:List V)(ws:List W)(w:W)(Q:VK),Same G H->Reps K G ws xs->f ws=some w->(∀G' v H',Grow G H G' H'->Rep K G' w v->Q v H')->r xs H Q
end
def dC(w:W):Den W:=fun e=>.ok w e
def dVar(i:Nat):Den W:=fun e=>match e[i]? with
 |some (.fr w)=>.ok w e
 |some (.own none ws)=>.ok (.lst ws) (e.set i (.fr (.lst ws)))
 |some (.x k)=>match k.plain with
  |some w=>.ok w e
  |none=>.no
 |_=>.no
def dOp(f:W->W->Option W)(da db:Den W):Den W:=fun e=>(da e).bind fun x e1=>(db e1).bind fun y e2=>ofOpt (f x y) e2
def dUn(f:W->Option W)(da:Den W):Den W:=fun e=>(da e).bind fun x e1=>ofOpt (f x) e1
def dTest(da:Den W):Den Bool:=fun e=>(da e).bind fun x e1=>match x with
 |.bl k=>.ok k e1
 |_=>.no
def truW:W->Option Bool
 |.non=>some false
 |.bl b=>some b
 |.int i=>some (i != 0)
 |.str x=>if x.length<=16777216 then some ((x.length:Int) != 0)else none
 |.tup xs=>some (!xs.isEmpty)
 |.lst xs=>some (!xs.isEmpty)
 |.exc _=>none
 |.dw _ _ _ _=>none
 |.fn _ _ _=>none
def dTru(da:Den W):Den Bool:=fun e=>(da e).bind fun x e1=>ofOpt (truW x) e1
def dAnd(a b:Den Bool):Den Bool:=fun e=>(a e).bind fun x e1=>if x=true then b e1 else .ok false e1
def dOr(a b:Den Bool):Den Bool:=fun e=>(a e).bind fun x e1=>if x=true then .ok true e1 else b e1
def dNot(a:Den Bool):Den Bool:=fun e=>(a e).bind fun x e1=>.ok (!x) e1
def dAndV(a b:Den W):Den W:=fun e=>(a e).bind fun x e1=>match x with
 |.bl true=>b e1
 |.bl false=>.ok (.bl false) e1
 |_=>.no
def dNotV(a:Den W):Den W:=fun e=>(a e).bind fun x e1=>match x with
 |.bl k=>.ok (.bl (!k)) e1
 |_=>.no
def dNil:Den (List W):=fun e=>.ok [] e
def dCons(a:Den W)(r:Den (List W)):Den (List W):=fun e=>(a e).bind fun x e1=>(r e1).bind fun xs e2=>.ok (x::xs) e2
def dTup(a:Den (List W)):Den W:=fun e=>(a e).bind fun xs e1=>if xs.length<=16777216 then .ok (.tup xs) e1 else .no
def dLst(a:Den (List W)):Den (List W):=fun e=>(a e).bind fun xs e1=>if xs.length<=16777216 then .ok xs e1 else .no
def dFz(a:Den (List W)):Den W:=fun e=>(a e).bind fun xs e1=>.ok (.lst xs) e1
def dFn(f:List W->Option W)(a:Den (List W)):Den W:=fun e=>(a e).bind fun xs e1=>ofOpt (f xs) e1
section
variable{a b c e:Expr}{da db:Den W}{dc ta tb:Den Bool}
theorem XH.trans(s:Same G G1){c:Value}{e:List S}(h:XH K Z EE σ G c e):XH K Z EE σ G1 c e:=fun G' H' r q=>h G' H' r (s.trans q)
theorem q0b{i:Int}{j pos}:DE Z X EE (.Constant (.int i) j pos) (dC (.int i)):=PE.mono q4x fun σ H Q ⟨G,e,r,h⟩=>h G (.int i) H r (.refl _) rfl
theorem q2x{i:Bool}{j pos}:DE Z X EE (.Constant (.bool i) j pos) (dC (.bl i)):=PE.mono y0k fun σ H Q ⟨G,e,r,h⟩=>h G (.bl i) H r (.refl _) rfl
theorem x7z:∀σ H Q,liftE K Z EE (dVar i) σ H Q->tVar i σ H Q:=by
 rintro σ H Q ⟨G,e,r,h⟩;unfold dVar at h;split at h
 ·rename_i w hw;obtain⟨v,h1,h2⟩:=r.fr hw;exact⟨v,h1,h G v H r (.refl _) h2⟩
 ·rename_i ws hw;obtain⟨v,G',h1,h2,h3,h4⟩:=r.freeze hw;exact⟨v,h1,h G' v H h4 h2 h3⟩
 ·rename_i k hw;cases q:k.plain with
  |some w=>
   rw[q]at h;obtain⟨v,h1,h2⟩:=r.plain hw q;exact⟨v,h1,h G v H r (.refl _) h2⟩
  |none=>rw[q]at h;exact h.elim
 ·exact h.elim
theorem dv(i:Nat)(hN:X.N[i]?=some x:=by rfl)(hv:Vis X.env.scope x:=by walk_at "1")(hd:(x==("__debug__":Str))=false:=by decide)
  (hcd:(x==("__classdict__":Str))=false:=by decide):DE Z X EE (.Name x pos) (dVar i):=PE.mono (pv i hN hv hd hcd) x7z
theorem q4w{r:R2}(hf:Op2 K r f):∀σ H Q,liftE K Z EE (dOp f da db) σ H Q->tOp r (liftE K Z EE da) (liftE K Z EE db) σ H Q:=by
 rintro σ H Q ⟨G,e,rel,h⟩;simp only[dOp,R.holds_bind,ofOpt_holds]at h;refine⟨G,e,rel,h.imp (fun x e1 h G1 v1 H1 r1 s1 p1=>?_) fun _ _ h=>h⟩
 refine⟨G1,e1,r1,h.imp (fun y e2 h G2 v2 H2 r2 s2 p2=>?_) fun _ _ h=>XH.trans s1 h⟩
 obtain⟨w,hw,h⟩:=h;exact hf G2 H2 v1 v2 x y w Q r2.sub (Rep.mono s2 x p1) p2 hw fun G' v H' g p=>h G' v H' (r2.grow g) ((s1.trans s2).trans g.gg) p
theorem q5f{op:Operator}{r:R2}(ho:OpR X (binaryOp op) r)(hf:Op2 X.K r f)(ha:DE Z X EE a da)(hb:DE Z X EE b db):DE Z X EE (.BinOp a op b pos) (dOp f da db):=PE.mono (y0l ho ha hb) (q4w hf)
theorem x0y{op:CmpOp}{r:R2}(ho:OpR X (compareOp op) r)(hf:Op2 X.K r f)(ha:DE Z X EE a da)(hb:DE Z X EE b db)(hm:behindInMarks op b=false):DE Z X EE (.Compare a [op] [b] pos) (dOp f da db):=PE.mono (y08 ho ha hb hm) (q4w hf)
theorem q6g{Q:Bool->Hp->Prop}(h:liftT K Z EE (dTest da) σ H Q):liftE K Z EE da σ H (fun x H'=>∃k,x=.bl k/\Q k H'):=by
 obtain⟨G,e,rel,h⟩:=h;simp only[dTest,R.holds_bind]at h;refine⟨G,e,rel,h.imp (fun x e1 h G1 v1 H1 r1 s1 p1=>?_) fun _ _ h=>h⟩
 cases x with
 |bl k=>
  cases(show v1=V.bl k from p1);exact⟨k,rfl,h G1 H1 r1 s1⟩
 |_=>exact h.elim
theorem q79{op:CmpOp}{r:R2}(ho:OpR X (compareOp op) r)(hf:Op2 X.K r f)(ha:DE Z X EE a da)(hb:DE Z X EE b db)(hm:behindInMarks op b=false):DT Z X EE (.Compare a [op] [b] pos) (dTest (dOp f da db)):=
 PT.mono (y09 ho ha hb hm) fun σ H Q h=>q4w hf σ H _ (q6g h)
theorem y1k{r:V->Hp->VK->Prop}{f:W->Option W}(hf:Op1 K r f):∀σ H Q,liftE K Z EE (dUn f da) σ H Q->tUn r (liftE K Z EE da) σ H Q:=by
 rintro σ H Q ⟨G,e,rel,h⟩;simp only[dUn,R.holds_bind,ofOpt_holds]at h;refine⟨G,e,rel,h.imp (fun x e1 h G1 v1 H1 r1 s1 p1=>?_) fun _ _ h=>h⟩
 obtain⟨w,hw,h⟩:=h;exact hf G1 H1 v1 x w Q r1.sub p1 hw fun G' v H' g p=>h G' v H' (r1.grow g) (s1.trans g.gg) p
theorem y9c{op:UnaryOp}{r:V->Hp->VK->Prop}{f:W->Option W}(ho:UnR X (unaryOp op) r)(hf:Op1 X.K r f)(ha:DE Z X EE a da):DE Z X EE (.UnaryOp op a pos) (dUn f da):=PE.mono (y9b ho ha) (y1k hf)
theorem y5t(s:Same G H){v:V}{k:Bool}(h:Rep K G w v)(e:truW w=some k):TruV K v H k:=by
 cases w with
 |non=>cases(show v=.non from h);cases e;rfl
 |bl b=>cases(show v=.bl b from h);cases e;rfl
 |int i=>cases(show v=.int i from h);cases e;rfl
 |str x=>
  cases(show v=.str x from h);simp only[truW]at e;split at e
  ·cases e;exact⟨by rw[sizeLine_eq];assumption,rfl⟩
  ·cases e
 |tup ws=>
  obtain⟨p,xs,rfl,q,r⟩:=h;cases e;refine .inr (.inl ⟨xs,s.tup q,?_⟩);have:=r.length;cases ws<;>cases xs<;>simp_all
 |lst ws=>
  obtain⟨p,xs,rfl,q,r⟩:=h;cases e;refine .inl ⟨xs,s.seq q,?_⟩;have:=r.length;cases ws<;>cases xs<;>simp_all
 |exc _=>cases e
 |dw _ _ _ _=>cases e
 |fn _ _ _=>cases e
theorem q8a(ha:DE Z X EE a da)(he:∀whole,isTrue a X.env whole=(do let v <- whole;standAt a.pos;holding [v] (truthy v)):=by intro _;rfl):DT Z X EE a (dTru da):=by
 refine PT.mono (x7p ha he) ?_;rintro σ H Q ⟨G,e,rel,h⟩;simp only[dTru,R.holds_bind,ofOpt_holds]at h;refine⟨G,e,rel,h.imp (fun x e1 h G1 v1 H1 r1 s1 p1=>?_) fun _ _ h=>h⟩
 obtain⟨k,hk,h⟩:=h;exact⟨k,y5t r1.sub p1 hk,h G1 H1 r1 s1⟩
theorem x70:∀σ H Q,liftT K Z EE (dAnd ta tb) σ H Q->tAnd (liftT K Z EE ta) (liftT K Z EE tb) σ H Q:=by
 rintro σ H Q ⟨G,e,rel,h⟩;simp only[dAnd,R.holds_bind]at h;refine⟨G,e,rel,h.imp (fun x e1 h G1 H1 r1 s1=>?_) fun _ _ h=>h⟩
 cases x with
 |true=>exact⟨G1,e1,r1,R.holds.imp (show(tb e1).holds _ _ from h) (fun y e2 h G2 H2 r2 s2=>h G2 H2 r2 (s1.trans s2)) fun _ _ h=>XH.trans s1 h⟩
 |false=>exact(show ∀G' H',_->_->Q false H' from h) G1 H1 r1 s1
theorem y1l:∀σ H Q,liftT K Z EE (dOr ta tb) σ H Q->tOr (liftT K Z EE ta) (liftT K Z EE tb) σ H Q:=by
 rintro σ H Q ⟨G,e,rel,h⟩;simp only[dOr,R.holds_bind]at h;refine⟨G,e,rel,h.imp (fun x e1 h G1 H1 r1 s1=>?_) fun _ _ h=>h⟩
 cases x with
 |false=>exact⟨G1,e1,r1,R.holds.imp (show(tb e1).holds _ _ from h) (fun y e2 h G2 H2 r2 s2=>h G2 H2 r2 (s1.trans s2)) fun _ _ h=>XH.trans s1 h⟩
 |true=>exact(show ∀G' H',_->_->Q true H' from h) G1 H1 r1 s1
theorem x2p(ha:DT Z X EE a ta):DW Z X EE (.BoolOp .And [a] pos) ta:=y03 ha
theorem q5j(ha:DT Z X EE a ta):DW Z X EE (.BoolOp .Or [a] pos) ta:=y49 ha
theorem x0z{rest:List Expr}(ha:DT Z X EE a ta)(hb:DW Z X EE (.BoolOp .And (b::rest) pos) tb):DW Z X EE (.BoolOp .And (a::b::rest) pos) (dAnd ta tb):=PW.mono (y5a ha hb) x70
theorem q6y{rest:List Expr}(ha:DT Z X EE a ta)(hb:DW Z X EE (.BoolOp .Or (b::rest) pos) tb):DW Z X EE (.BoolOp .Or (a::b::rest) pos) (dOr ta tb):=PW.mono (y89 ha hb) y1l
theorem dt_w(h:DW Z X EE a ta):DT Z X EE a ta:=PW.pt h
theorem q5k(ha:DT Z X EE a ta):DT Z X EE (.UnaryOp .Not a pos) (dNot ta):=by
 refine PT.mono (y5b ha) ?_;rintro σ H Q ⟨G,e,rel,h⟩;simp only[dNot,R.holds_bind]at h;exact⟨G,e,rel,h.imp (fun x e1 h G1 H1 r1 s1=>h G1 H1 r1 s1) fun _ _ h=>h⟩
theorem y5u{op}(h:DE Z X EE a da):DE Z X EE (.BoolOp op [a] pos) da:=y5c h
theorem y5v{rest:List Expr}(ha:DE Z X EE a da)(hb:DE Z X EE (.BoolOp .And (b::rest) pos) db):DE Z X EE (.BoolOp .And (a::b::rest) pos) (dAndV da db):=by
 refine PE.mono (y5d ha hb) ?_;rintro σ H Q ⟨G,e,rel,h⟩;simp only[dAndV,R.holds_bind]at h;refine⟨G,e,rel,h.imp (fun x e1 h G1 v1 H1 r1 s1 p1=>?_) fun _ _ h=>h⟩
 cases x with
 |bl k=>
  cases(show v1=V.bl k from p1);cases k with
  |true=>exact⟨true,rfl,⟨G1,e1,r1,R.holds.imp (show(db e1).holds _ _ from h) (fun y e2 h G2 v2 H2 r2 s2 p2=>h G2 v2 H2 r2 (s1.trans s2) p2) fun _ _ h=>XH.trans s1 h⟩⟩
  |false=>exact⟨false,rfl,(show ∀G' v H',_->_->v=V.bl false->Q v H' from h) G1 _ H1 r1 s1 rfl⟩
 |_=>exact h.elim
theorem y5w(ha:DE Z X EE a da):DE Z X EE (.UnaryOp .Not a pos) (dNotV da):=by
 refine PE.mono (y5e ha) ?_;rintro σ H Q ⟨G,e,rel,h⟩;simp only[dNotV,R.holds_bind]at h;refine⟨G,e,rel,h.imp (fun x e1 h G1 v1 H1 r1 s1 p1=>?_) fun _ _ h=>h⟩
 cases x with
 |bl k=>
  cases(show v1=V.bl k from p1);exact⟨k,rfl,(show ∀G' v H',_->_->v=V.bl (!k)->Q v H' from h) G1 _ H1 r1 s1 rfl⟩
 |_=>exact h.elim
theorem q0e:DA Z X EE [] dNil:=PA.mono q2r fun σ H Q ⟨G,e,r,h⟩=>h G [] H r (.refl _) rfl
theorem q0a(ha:DE Z X EE e da)(hr:DA Z X EE es dA)(hs:starEach (e::es) X.env=(false,eval e X.env)::starEach es X.env:=by rfl):DA Z X EE (e::es) (dCons da dA):=by
 refine PA.mono (q09 ha hr hs) ?_;rintro σ H Q ⟨G,e,rel,h⟩;simp only[dCons,R.holds_bind]at h;refine⟨G,e,rel,h.imp (fun x e1 h G1 v1 H1 r1 s1 p1=>?_) fun _ _ h=>h⟩
 refine⟨G1,e1,r1,h.imp (fun xs e2 h G2 vs H2 r2 s2 p2=>?_) fun _ _ h=>XH.trans s1 h⟩
 exact h G2 (v1::vs) H2 r2 (s1.trans s2) ⟨v1,vs,rfl,Rep.mono s2 x p1,p2⟩
theorem q03{x1}(h:DA Z X EE es dA):DE Z X EE (.Tuple es x1 pos) (dTup dA):=by
 refine PE.mono (x0s h) ?_;rintro σ H Q ⟨G,e,rel,h⟩;simp only[dTup,R.holds_bind]at h;refine⟨G,e,rel,h.imp (fun ws e1 h G1 vs H1 r1 s1 p1=>?_) fun _ _ h=>h⟩
 split at h
 ·rename_i hl;refine⟨by rw[p1.length,sizeLine_eq];exact hl,fun p hp=>?_⟩
  have g:=Grow.laid r1.sub hp (.tup vs);exact(show ∀G' v H',_->_->Rep X.K G' (.tup ws) v->Q v H' from h) _ (.ref p) _ (r1.grow g) (s1.trans g.gg) ⟨p,vs,rfl,SqT.of q0d,Reps.mono g.gg ws p1⟩
 ·exact h.elim
theorem q35{e:List S}(r:Rel K Z G σ H e){p:Addr}(hp:H p=none):Free σ e p:=fun j b ws h q=>by
 obtain⟨a,xs,h1,h2,_⟩:=r.own h;rw[q]at h1;cases h1;rw[hp]at h2;cases h2
theorem q2h{e:List S}(r:Rel K Z G σ H e){p:Addr}(hp:H p=none):Z.H p=none:=by
 cases q:Z.H p with
 |none=>rfl
 |some o=>
  by_cases hi:p∈Z.io
  ·exact absurd hp (r.ion p hi)
  ·rw[r.ent p o q hi]at hp;cases hp
theorem q7m{e:List S}{Q:VK}{G0:Hp}(r:Rel K Z G σ H e)(s:Same G0 G)(p1:Reps K G ws vs)
  (h:∀G' a xs H',Rel K Z G' σ H' e->Same G0 G'->H' a=some (.lst xs)->G' a=none->Z.H a=none->Free σ e a->Reps K G' ws xs->Q (.ref a) H'):∀p,H p=none->Q (.ref p) (upd H p (.lst vs)):=fun p hp=>by
 have g:=Grow.hid r.sub hp (.lst vs);exact h G p vs _ (r.grow g) s q0d (r.sub.free hp) (q2h r hp) (q35 r hp) p1
theorem q1g(h:DA Z X EE es dA):DF Z X EE (.List es pos) (dLst dA):=by
 refine PE.mono (x0t h) ?_;rintro σ H Q ⟨G,e,rel,h⟩;simp only[dLst,R.holds_bind]at h;refine⟨G,e,rel,h.imp (fun ws e1 h G1 vs H1 r1 s1 p1=>?_) fun _ _ h=>h⟩
 split at h
 ·rename_i hl;exact⟨by rw[p1.length,sizeLine_eq];exact hl,q7m r1 s1 p1 h⟩
 ·exact h.elim
theorem Rel.seen{e:List S}(r:Rel K Z G σ H e){a:Addr}(h:H a=some (.lst xs))(hg:G a=none)(hz:Z.H a=none)(hf:Free σ e a):Same G (upd G a (.lst xs))/\Rel K Z (upd G a (.lst xs)) σ H e:=by
 have sg:Same G (upd G a (.lst xs)):=q20 hg _;refine⟨sg,⟨fun c o z=>?_,fun j s z=>?_,r.len,r.dis,r.ent,r.ion,fun c z=>?_⟩⟩
 ·by_cases hc:c=a
  ·subst hc;rw[q0d]at z;cases z;exact h
  ·rw[q0c hc]at z;exact r.sub c o z
 ·have y:=r.slot j s z;cases s with
  |no=>trivial
  |fr w=>
   obtain⟨u,y1,y2⟩:=y;exact⟨u,y1,Rep.mono sg w y2⟩
  |own b2 w2=>
   obtain⟨c,ys,y1,y2,y3,y4,y5⟩:=y;refine⟨c,ys,y1,y2,?_,y4,Reps.mono sg w2 y5⟩;rw[q0c];exact y3;rintro rfl;obtain⟨c',_,z1,_⟩:=r.own z;rw[z1]at y1;cases y1;exact hf j b2 w2 z z1
  |nest wss=>exact NestOk.move y sg fun l o ys k1 k2 k3=>⟨k1,by rw[q0c (q0x k1 h (fun z=>nomatch z))];exact k2,k3⟩
  |x k=>exact XOk.move y sg fun l o ys k1 k2 k3=>⟨k1,by rw[q0c (q0x k1 h (fun z=>nomatch z))];exact k2,k3⟩
  |dw sh ks ws=>exact DwOk.move y sg fun l o ys k1 k2 k3=>⟨k1,by rw[q0c (q0x k1 h (q1f rfl))];exact k2,k3⟩
 ·by_cases hc:c=a
  ·subst hc;exact absurd hz z
  ·rw[q0c hc];exact r.gen c z
theorem q1u(h:DF Z X EE e dA):DE Z X EE e (dFz dA):=by
 refine PE.mono h ?_;rintro σ H Q ⟨G,e,rel,h⟩;simp only[dFz,R.holds_bind]at h;refine⟨G,e,rel,h.imp (fun ws e1 h G1 a xs H1 r1 s1 q1 q2 q3 q4 p1=>?_) fun _ _ h=>h⟩
 obtain⟨sg,rg⟩:=r1.seen q1 q2 q3 q4;exact(show ∀G' v H',_->_->Rep X.K G' (.lst ws) v->Q v H' from h) _ (.ref a) _ rg (s1.trans sg) ⟨a,xs,rfl,SqL.of q0d,Reps.mono sg ws p1⟩
theorem x2q{f:List W->Option W}(hf:OpN K r f):∀σ H Q,liftE K Z EE (dFn f dA) σ H Q->tCB r (liftA K Z EE dA) σ H Q:=by
 rintro σ H Q ⟨G,e,rel,h⟩;simp only[dFn,R.holds_bind,ofOpt_holds]at h;refine⟨G,e,rel,h.imp (fun ws e1 h G1 vs H1 r1 s1 p1=>?_) fun _ _ h=>h⟩
 obtain⟨w,hw,h⟩:=h;exact hf G1 H1 vs ws w Q r1.sub p1 hw fun G' v H' g p=>h G' v H' (r1.grow g) (s1.trans g.gg) p
theorem q8b{id:String}{f:List W->Option W}(hc:CallR X (.builtin id) r)(hf:OpN X.K r f)(hv:bootBuiltins x=some (.builtin id))(hm:X.mg x=none)(ha:DA Z X EE (e::es) dA)(hg:Gl X x:=by rfl)(hn:x≠"__name__":=by decide)(hdb:(x==("__debug__":Str))=false:=by decide)
  (he:starEach (e::es) X.env=(false,eval e X.env)::starEach es X.env:=by rfl)(hpl:(backTo pos (starEach es X.env)).any (·.1)=false:=by rfl):DE Z X EE (.Call (.Name x p) (e::es) [] pos) (dFn f dA):=
 PE.mono (q7k hc hg hm hv ha hn hdb he hpl) (x2q hf)
theorem x5e{T:String}{f:List W->Option W}(hc:CallR X (.type T) r)(hf:OpN X.K r f)(hv:bootBuiltins x=some (.type T))(hm:X.mg x=none)(ha:DA Z X EE (e::es) dA)(hg:Gl X x:=by rfl)(hn:x≠"__name__":=by decide)(hdb:(x==("__debug__":Str))=false:=by decide)
  (he:starEach (e::es) X.env=(false,eval e X.env)::starEach es X.env:=by rfl)(hpl:(backTo pos (starEach es X.env)).any (·.1)=false:=by rfl):DE Z X EE (.Call (.Name x p) (e::es) [] pos) (dFn f dA):=
 PE.mono (q5d hc hg hm hv ha hn hdb he hpl) (x2q hf)
end
def dNx:List S->SR:=fun e=>.nx e
def dSeq(a b:List S->SR):List S->SR:=fun e=>match a e with
 |.nx e'=>b e'
 |r=>r
def R.stm(r:R α)(k:α->List S->SR):SR:=match r with
 |.ok a e=>k a e
 |.ex c e=>.ex c e
 |.no=>.no
def dDrop(d:Den W):List S->SR:=fun e=>(d e).stm fun _ e'=>.nx e'
def dRet(d:Den W):List S->SR:=fun e=>(d e).stm fun w e'=>.rt (.fr w) e'
def dRetO(i:Nat):List S->SR:=fun e=>match e[i]? with
 |some (.own none ws)=>.rt (.own none ws) e
 |some (.fr w)=>.rt (.fr w) e
 |_=>.no
def dIfS(c:Den Bool)(a b:List S->SR):List S->SR:=fun e=>(c e).stm fun x e1=>if x=true then a e1 else b e1
def dSet(i:Nat)(d:Den W):List S->SR:=fun e=>(d e).stm fun w e'=>.nx (e'.set i (.fr w))
def dSetO(i:Nat)(d:Den (List W)):List S->SR:=fun e=>(d e).stm fun ws e'=>.nx (e'.set i (.own none ws))
def forD(i:Nat)(b:List S->SR):List W->List S->SR
 |[],e=>.nx e
 |w::ws,e=>match b (e.set i (.fr w))with
  |.nx e'=>forD i b ws e'
  |.ct e'=>forD i b ws e'
  |.bk e'=>.nx e'
  |.rt s e'=>.rt s e'
  |.ex c e'=>.ex c e'
  |.no=>.no
def seqW:W->Option (List W)
 |.tup ws=>some ws
 |.lst ws=>some ws
 |_=>none
def dFor(i:Nat)(d:Den W)(b:List S->SR):List S->SR:=fun e=>(d e).stm fun w e1=>match seqW w with
 |some ws=>forD i b ws e1
 |none=>.no
def rangeW(lo hi:Int):List W:=(List.range (hi-lo).toNat).map fun k=>.int (lo+(k:Nat))
def okI(j:Int):Bool:=Nat.ble j.natAbs 4611686018427387903
theorem q8c{j:Int}(h:okI j=true):-(2^62)<=j/\j<2^62:=by
 have z:j.natAbs<=4611686018427387903:=Nat.le_of_ble_eq_true h;have e:(2:Int)^62=4611686018427387904:=by decide
 rw[e];omega
theorem q44{j:Int}(h1:-1000000000<=j)(h2:j<=1000000000):okI j=true:=Nat.ble_eq_true_of_le (by omega)
def rng1:List W->Option (List W)
 |[.int j]=>if okI j=true then some (rangeW 0 j)else none
 |_=>none
def rng2:List W->Option (List W)
 |[.int i,.int j]=>if okI i=true/\okI j=true then some (rangeW i j)else none
 |_=>none
def dForR(i:Nat)(g:List W->Option (List W))(d:Den (List W))(b:List S->SR):List S->SR:=fun e=>(d e).stm fun w e1=>match g w with
 |some ws=>forD i b ws e1
 |none=>.no
section
variable{a c e tg:Expr}{rest body:List Stmt}{d:Den W}{dc:Den Bool}{s1 s2:List S->SR}
theorem PostS.trans{D:Ends}(s:Same G G1):∀{r:SR},PostS K Z EE D G r->PostS K Z EE D G1 r
 |.nx e',h=>fun G' σ' H' r q=>h G' σ' H' r (s.trans q)
 |.bk e',h=>fun G' σ' H' r q=>h G' σ' H' r (s.trans q)
 |.ct e',h=>fun G' σ' H' r q=>h G' σ' H' r (s.trans q)
 |.rt w e',h=>fun G' σ' v H' r q=>h G' σ' v H' r (s.trans q)
 |.ex c e',h=>fun G' σ' H' r q=>h G' σ' H' r (s.trans q)
 |.no,h=>h
theorem q0u{D:Ends}{r:R α}{k:α->List S->SR}(h:PostS K Z EE D G (r.stm k)):r.holds (fun a e'=>PostS K Z EE D G (k a e')) (XH K Z EE σ G):=by
 cases r with
 |ok a e=>exact h
 |ex c e=>exact fun G' H' r q=>h G' σ H' r q
 |no=>exact h
theorem q0s:DSs Z X EE [] dNx:=PSs.mono y04 fun D σ H ⟨G,e,r,h⟩=>h G σ H r (.refl _)
theorem x71:∀D σ H,liftS K Z EE (dSeq s1 s2) D σ H->tSeq (liftS K Z EE s1) (liftS K Z EE s2) D σ H:=by
 rintro D σ H ⟨G,e,rel,h⟩;refine⟨G,e,rel,?_⟩;unfold dSeq at h;cases q:s1 e with
 |nx e'=>rw[q]at h;exact fun G' σ' H' r s=>⟨G',e',r,PostS.trans s h⟩
 |bk e'=>rw[q]at h;exact h
 |ct e'=>rw[q]at h;exact h
 |rt w e'=>rw[q]at h;exact h
 |ex c e'=>rw[q]at h;exact h
 |no=>rw[q]at h;exact h
theorem q0f(h1:DS Z X EE st s1)(h2:DSs Z X EE rest s2):DSs Z X EE (st::rest) (dSeq s1 s2):=PSs.mono (q5y h1 h2) x71
theorem q0h(h1:DS Z X EE st s1):DSs Z X EE [st] s1:=x2m h1
theorem q6z(he:DE Z X EE e d)(hs:swapsWith e none pos.line X.env=pure false:=by rfl):DS Z X EE (.Expr e pos) (dDrop d):=by
 refine PS.mono (q6x he hs) ?_;rintro D σ H ⟨G,e,rel,h⟩;exact⟨G,e,rel,(q0u h).imp (fun w e1 h G1 v1 H1 r1 s1 p1=>h G1 σ H1 r1 s1) fun _ _ h=>h⟩
theorem q02(he:DE Z X EE e d):DS Z X EE (.Return (some e) pos) (dRet d):=by
 refine PS.mono (x0n he) ?_;rintro D σ H ⟨G,e,rel,h⟩;exact⟨G,e,rel,(q0u h).imp (fun w e1 h G1 v1 H1 r1 s1 p1=>h G1 σ v1 H1 r1 s1 ⟨v1,rfl,p1⟩) fun _ _ h=>h⟩
theorem y1m(i:Nat)(hN:X.N[i]?=some x:=by rfl)(hv:Vis X.env.scope x:=by walk_at "1")(hd:(x==("__debug__":Str))=false:=by decide)
  (hcd:(x==("__classdict__":Str))=false:=by decide):DS Z X EE (.Return (some (.Name x p)) pos) (dRetO i):=by
 refine PS.mono (x0n (pv i hN hv hd hcd)) ?_;rintro D σ H ⟨G,e,rel,h⟩;unfold dRetO at h;split at h
 ·rename_i ws hw;obtain⟨a,xs,h1,h2,h3,h4,h5⟩:=rel.own hw;exact⟨.ref a,h1,h G σ _ H rel (.refl _) ⟨a,xs,rfl,h2,h3,h4,h5⟩⟩
 ·rename_i w hw;obtain⟨v,h1,h2⟩:=rel.fr hw;exact⟨v,h1,h G σ _ H rel (.refl _) ⟨v,rfl,h2⟩⟩
 ·exact h.elim
theorem x72:∀D σ H,liftS K Z EE (dIfS dc s1 s2) D σ H->tIfS (liftT K Z EE dc) (liftS K Z EE s1) (liftS K Z EE s2) D σ H:=by
 rintro D σ H ⟨G,e,rel,h⟩;refine⟨G,e,rel,(q0u h).imp (fun x e1 h G1 H1 r1 q1=>?_) fun _ _ h=>h⟩
 cases x with
 |true=>exact⟨G1,e1,r1,PostS.trans q1 h⟩
 |false=>exact⟨G1,e1,r1,PostS.trans q1 h⟩
theorem q05{p q:List Stmt}(hc:DT Z X EE c dc)(ha:DSs Z X EE p s1)(hb:DSs Z X EE q s2):DS Z X EE (.If c p q pos) (dIfS dc s1 s2):=PS.mono (y9a hc ha hb) x72
theorem q0m(i:Nat)(hN:X.N.Nodup)(he:DE Z X EE e d)(hi:X.N[i]?=some x:=by rfl)(hx:Loc X.env.scope x:=by walk_at "3")(hs:swapsWith e (some (.Name x pos')) pos.line X.env=pure false:=by rfl)(hf:X.fn x=true\/X.env.scope.names.lookup x=some .local:=by walk_at "2"):
  DS Z X EE (.Assign [.Name x pos'] e pos) (dSet i d):=by
 refine PS.mono (q5e i hN he hi hx hs hf) ?_;rintro D σ H ⟨G,e,rel,h⟩;exact⟨G,e,rel,(q0u h).imp (fun w e1 h G1 v1 H1 r1 q1 p1=>h G1 _ H1 (r1.set p1) q1) fun _ _ h=>h⟩
theorem q5l(i:Nat)(hN:X.N.Nodup)(he:DF Z X EE e dA)(hi:X.N[i]?=some x:=by rfl)(hx:Loc X.env.scope x:=by walk_at "3")(hs:swapsWith e (some (.Name x pos')) pos.line X.env=pure false:=by rfl)(hf:X.fn x=true\/X.env.scope.names.lookup x=some .local:=by walk_at "2"):
  DS Z X EE (.Assign [.Name x pos'] e pos) (dSetO i dA):=by
 refine PS.mono (q5e i hN he hi hx hs hf) ?_;rintro D σ H ⟨G,e,rel,h⟩;exact⟨G,e,rel,(q0u h).imp (fun w e1 h G1 a xs H1 r1 s1 q1 q2 q3 q4 p1=>h G1 _ H1 (r1.setOwn q1 q2 q3 q4 p1) s1) fun _ _ h=>h⟩
theorem x73{D:Ends}{x:V}{N:St->Hp->Prop}(r1:Rel K Z G1 σ H e1)(q1:Same G G1)(p:Rep K G1 w x)(h:PostS K Z EE D G (forD i s1 (w::ws) e1))
  (hN:∀G' σ' H' e',Rel K Z G' σ' H' e'->Same G G'->PostS K Z EE D G (forD i s1 ws e')->N σ' H'):gName i x σ H fun σ2 H2=>liftS K Z EE s1 {D with nx:=N,ct:=N,bk:=D.nx} σ2 H2:=by
 refine⟨G1,e1.set i (.fr w),r1.set p,?_⟩;unfold forD at h;cases q:s1 (e1.set i (.fr w))with
 |nx e'=>rw[q]at h;exact fun G' σ' H' r s=>hN G' σ' H' e' r (q1.trans s) h
 |ct e'=>rw[q]at h;exact fun G' σ' H' r s=>hN G' σ' H' e' r (q1.trans s) h
 |bk e'=>rw[q]at h;exact fun G' σ' H' r s=>h G' σ' H' r (q1.trans s)
 |rt w e'=>rw[q]at h;exact fun G' σ' v H' r s=>h G' σ' v H' r (q1.trans s)
 |ex c e'=>rw[q]at h;exact fun G' σ' H' r s=>h G' σ' H' r (q1.trans s)
 |no=>rw[q]at h;exact h
def iSeq(K:Fg)(tl:TE):TI:=fun σ H R=>tl σ H fun x H1=>∃a,x=.ref a/\(((∃xs,SqL K H1 a xs)/\R (Itl K a) H1)\/((∃xs,SqT K H1 a xs)/\R (Itt K a) H1))
theorem q45{l:Expr}{tl:TE}(hl:PE X l tl):PI X tg l (iSeq X.K tl):=by
 intro pins s σ H R I h;refine thn (hl pins s σ H _ I h) fun v s1 ⟨x,H1,I1,r1,q1⟩=>?_
 obtain⟨a,e,q⟩:=q1;subst e;cases r1;rcases q with⟨⟨xs,hq⟩,q⟩|⟨⟨xs,hq⟩,q⟩
 ·obtain⟨its,rv,p,hz⟩:=I1.list hq;refine wpAny_pyIter_list p.isList ?_;refine⟨s1.heap.objs.size,[s1.heap.objs.size],_,_,H1,rfl,I1.kept (t':=s1.toks) fun b o e=>Heap.get?_push_of_some _ e,x4z a _,⟨_,Heap.get?_push_size _ rfl,rfl,rfl⟩,fun b hb=>?_,q⟩
  have e:b=s1.heap.objs.size:=by simpa using hb
  subst e;exact I1.fpOk (w0g _) (I1.hok.fresh (w0g _))
 ·obtain⟨its,rv,p,hz⟩:=I1.tuple hq;refine wpAny_pyIter_tuple (show s1.heap.IsTuple a its.toArray from p) ?_;refine⟨s1.heap.objs.size,[s1.heap.objs.size],_,_,H1,rfl,I1.kept (t':=s1.toks) fun b o e=>Heap.get?_push_of_some _ e,x3q a _,⟨_,Heap.get?_push_size _ rfl,rfl,rfl⟩,fun b hb=>?_,q⟩
  have e:b=s1.heap.objs.size:=by simpa using hb
  subst e;exact I1.fpOk (w0g _) (I1.hok.fresh (w0g _))
theorem q6h{ws:List α}{w:α}(h:ws[k]?=some w):ws.drop k=w::ws.drop (k+1):=by
 obtain⟨hk,rfl⟩:=w0b.mp h;exact w3l hk
theorem x2r{i:Nat}{D:Ends}(r1:Rel K Z G1 σ H1 e1)(rp:Reps K G1 ws xs)(h:PostS K Z EE D G1 (forD i s1 ws e1))(SQ:Hp->Prop)(hSQ:∀G' H',Same G1 G'->Same G' H'->SQ H'):
  ∃Pv:Nat->St->Hp->Prop,Pv 0 σ H1/\(∀j σ H,j<=xs.length->Pv j σ H->SQ H)/\(∀(j:Nat) x σ H,xs[j]?=some x->Pv j σ H->gName i x σ H fun σ2 H2=>liftS K Z EE s1 {D with nx:=Pv (j+1),ct:=Pv (j+1),bk:=D.nx} σ2 H2)/\∀σ H,Pv xs.length σ H->D.nx σ H:=by
 refine⟨fun j σ' H'=>∃G' e',Rel K Z G' σ' H' e'/\Same G1 G'/\PostS K Z EE D G1 (forD i s1 (ws.drop j) e'),⟨G1,e1,r1,.refl _,h⟩,?_,?_,?_⟩
 ·rintro j σ' H' _ ⟨G',e',r',s',_⟩;exact hSQ G' H' s' r'.sub
 ·rintro j x σ' H' hx ⟨G',e',r',s',h⟩;obtain⟨w,hw,pw⟩:=rp.getV hx;rw[q6h hw]at h;exact x73 r' s' (Rep.mono s' w pw) h fun G'' σ'' H'' e'' r'' s'' h''=>⟨G'',e'',r'',s'',h''⟩
 ·rintro σ' H' ⟨G',e',r',s',h⟩;rw[rp.length,w2p]at h;exact h G' σ' H' r' s'
theorem x00(i:Nat)(hN:X.N.Nodup)(hp:PassesOwn (model X.prog X.w) X.A X.env X.xe)(hc:X.calm=true)(hl:DE Z X EE e d)(hb:DSs Z X EE body s1)
  (hi:X.N[i]?=some x:=by rfl)(hx:Loc X.env.scope x:=by walk_at "3")(hf:X.fn x=true\/X.env.scope.names.lookup x=some .local:=by walk_at "2")(hs:∀x,foldedSetIterable e X.env x=pure x:=by intro _;rfl):
  DS Z X EE (.For (.Name x pos') e body [] pos) (dFor i d s1):=by
 refine PS.mono (x0q hp hc (q45 hl) (q1y i hN hi hx hf) hb hs) ?_;rintro D σ H ⟨G,e,rel,h⟩;refine⟨G,e,rel,(q0u h).imp (fun w e1 h G1 v1 H1 r1 q1 p1=>?_) fun _ _ h=>h⟩
 have key:=fun ws xs (rp:Reps X.K G1 ws xs) (h:PostS X.K Z EE D G (forD i s1 ws e1))=>x2r (i:=i) (D:=D) r1 rp (PostS.trans q1 h)
 cases w with
 |tup ws=>
  obtain⟨a,xs,rfl,hq,rp⟩:=p1;refine⟨a,rfl,.inr ⟨⟨xs,r1.sub.tup hq⟩,?_⟩⟩;obtain⟨Pv,h0,h1,h2,h3⟩:=key ws xs rp h (fun H'=>SqT X.K H' a xs) (fun G' H' s s'=>Same.tup s' (Same.tup s hq))
  exact y06 Pv h0 h1 h2 h3
 |lst ws=>
  obtain⟨a,xs,rfl,hq,rp⟩:=p1;refine⟨a,rfl,.inl ⟨⟨xs,r1.sub.seq hq⟩,?_⟩⟩;obtain⟨Pv,h0,h1,h2,h3⟩:=key ws xs rp h (fun H'=>SqL X.K H' a xs) (fun G' H' s s'=>Same.seq s' (Same.seq s hq))
  exact x7n Pv h0 h1 h2 h3
 |_=>exact h.elim
theorem x30{lo hi:Int}:Reps K G (rangeW lo hi) ((List.range (hi-lo).toNat).map fun k=>V.int (lo+(k:Nat))):=by
 unfold rangeW;generalize List.range (hi-lo).toNat=l
 induction l with
 |nil=>rfl
 |cons k l ih=>exact⟨_,_,rfl,rfl,ih⟩
theorem y1n{i:Nat}{D:Ends}{lo hi:Int}(r1:Rel K Z G1 σ H1 e1)(h:PostS K Z EE D G1 (forD i s1 (rangeW lo hi) e1)):
  ∃W:Nat->Nat->St->Hp->Prop,(∃m,W 0 m σ H1)/\∀j m σ H,W j m σ H ->
   ((Itr lo (hi-lo).toNat).stop j H/\D.nx σ H)\/((Itr lo (hi-lo).toNat).go j H/\∃N:St->Hp->Prop,(∀σ' H',N σ' H'->∃m',m'<m/\W (j+1) m' σ' H')/\∀x H',(Itr lo (hi-lo).toNat).yld j H x H'->gName i x σ H' fun σ2 H2=>liftS K Z EE s1 {D with nx:=N,ct:=N,bk:=D.nx} σ2 H2):=by
 obtain⟨Pv,h0,h1,h2,h3⟩:=x2r (i:=i) (D:=D) r1 (x30 (lo:=lo) (hi:=hi)) h (fun _=>True) (fun _ _ _ _=>trivial)
 refine x42 Pv h0 (fun j σ' H' hj p=>h2 j _ σ' H' ?_ p) (fun σ' H' p=>h3 σ' H' (by simpa using p))
 simp[hj]
theorem q5m(i:Nat){p1 p2:Pos}(hN:X.N.Nodup)(hp:PassesOwn (model X.prog X.w) X.A X.env X.xe)(hc:X.calm=true)(hm:X.mg "range"=none)(ha:DA Z X EE [a] dA)(hb:DSs Z X EE body s1)
  (hi:X.N[i]?=some x:=by rfl)(hx:Loc X.env.scope x:=by walk_at "3")(hf:X.fn x=true\/X.env.scope.names.lookup x=some .local:=by walk_at "2")(hg:Gl X "range":=by rfl)(hs1:starEach [a] X.env=[(false,eval a X.env)]:=by rfl)(hs:∀x,foldedSetIterable (.Call (.Name "range" p1) [a] [] p2) X.env x=pure x:=by intro _;rfl):
  DS Z X EE (.For (.Name x p) (.Call (.Name "range" p1) [a] [] p2) body [] pos) (dForR i rng1 dA s1):=by
 refine PS.mono (x0q hp hc (x40 hg hm ha hs1) (q1y i hN hi hx hf) hb hs) ?_;rintro D σ H ⟨G,e,rel,h⟩;refine⟨G,e,rel,(q0u h).imp (fun ws e1 h G1 vs H1 r1 q1 p1=>?_) fun _ _ h=>h⟩
 unfold rng1 at h;split at h
 ·rename_i hh;split at hh
  ·rename_i j;split at hh
   ·rename_i hj;cases hh;obtain⟨y,r,rfl,e1,e2⟩:=p1;cases(show y=V.int j from e1);cases(show r=[]from e2);refine⟨j,rfl,(q8c hj).1,(q8c hj).2,?_⟩;have z:=y1n (i:=i) (D:=D) r1 (PostS.trans q1 h)
    rwa [Int.sub_zero]at z
   ·cases hh
  ·cases hh
 ·exact h.elim
end
open PyProof.Rows (envOfC)
inductive FR where
 |ok (s:S)|ex (c:Value)|no
def spF(K:Fg)(F:List W->FR):Sp:=fun vs H Q E=>∃G ws,Same G H/\Reps K G ws vs/\match F ws with
 |.ok s=>∀G' H' v,Grow G H G' H'->SlotOk K ⟨H,G,[]⟩ G' H' s (some v)->Q v H'
 |.ex c=>∀H',Same H H'->E c none H'
 |.no=>False
def SR.fn:SR->FR
 |.nx _=>.ok (.fr .non)
 |.rt s _=>.ok s
 |.ex c _=>.ex c
 |_=>.no
def init(n:Nat)(ws:List W):List S:=ws.map .fr++List.replicate (n-ws.length) .no
theorem q46{N:List Str}(s:Same G H)(r:Reps K G ws vs):Rel K ⟨H,G,[]⟩ G (L2.start N vs) H (init N.length ws):=by
 have hl:=r.length
 have hfr:∀(i:Nat)(s:S),(init N.length ws)[i]?=some s->(s=.no)\/∃w,s=.fr w/\ws[i]?=some w:=fun i s h=>by
  unfold init at h;rw[List.getElem?_append]at h;split at h
  ·rw[w0j]at h;obtain⟨w,h1,rfl⟩:=w0e.mp h;exact .inr ⟨w,rfl,h1⟩
  ·rw[w2v]at h;split at h
   ·cases h;exact .inl rfl
   ·cases h
 refine⟨s,fun i t h=>?_,?_,fun i j b b' w1 w2 a h1 h2 _ _=>?_,fun a o h _=>h,(fun a h=>nomatch h),fun a _=>rfl⟩
 ·rcases hfr i t h with rfl|⟨w,rfl,h1⟩
  ·trivial
  ·obtain⟨v,h2,h3⟩:=r.get h1;refine⟨v,?_,h3⟩;have hi:i<vs.length:=(w0b.mp h2).1;unfold L2.start;rw[w1m (by simpa using hi),w0j,h2];rfl
 ·unfold init L2.start;simp[hl]
 ·rcases hfr i _ h1 with z|⟨w,z,_⟩<;>cases z
theorem Rel.toGrow(r:Rel K ⟨H,G,[]⟩ G' σ H' e)(s:Same G G'):Grow G H G' H':=
 ⟨fun a o h=>r.ent a o h (by simp),s,r.sub,fun a h=>r.gen a h⟩
section
variable{P:Program}{w:World}{mg:Str->Option Value}{base:Heap}
theorem q8d{F:List W->FR}{Q:VK}{E:XK}(h:spF K F vs H Q E):∃G ws,F ws≠.no/\Reps K G ws vs:=by
 obtain⟨G,ws,_,r,h⟩:=h;refine⟨G,ws,fun z=>?_,r⟩
 rw[z]at h;exact h
theorem q60{F:List W->FR}{Q:VK}{E:XK}{r:SR}(he:r.fn=F ws)(h:match F ws with
  |.ok s=>∀G' H' v,Grow G H G' H'->SlotOk K ⟨H,G,[]⟩ G' H' s (some v)->Q v H'
  |.ex c=>∀H',Same H H'->E c none H'
  |.no=>False):PostS K ⟨H,G,[]⟩ (fun _=>E) {nx:=fun _ H'=>Q .non H',rt:=Q} G r:=by
 rw[<- he]at h;cases r with
 |nx e=>exact fun G' σ' H' r s=>h G' H' .non (r.toGrow s) ⟨.non,rfl,rfl⟩
 |rt s e=>exact fun G' σ' v H' r q p=>h G' H' v (r.toGrow q) p
 |ex c e=>exact fun G' σ' H' r s=>h H' (r.toGrow s).hh
 |bk e=>exact h.elim
 |ct e=>exact h.elim
 |no=>exact h.elim
theorem con{N ps:List Str}{F:List W->FR}(A:At K mg x st ps)(sc:FnScope N ps (defScope st))(len:∀ws,F ws≠.no->ws.length=ps.length)
  (hb:∀ws,F ws≠.no->∀(f:Addr)(cdv:Value)(A:Around)(outer:List Env)(s:Shared)(H:Hp)(E:XK)(Z:Zt),Room k (A.deeper (envOfC x (defScope st) s.heap.objs.size f cdv)) ->
   ∃d,DSs Z (cxOf (CX1 P w) P w K mg base N x (defScope st) f cdv A outer s H E) (fun _=>E) (defBody st) d/\(d (init N.length ws)).fn=F ws):Cal P w K mg base (k+1) x ps (spF K F):=by
 refine A.cal sc (fun vs H Q E h=>?_) (fun f cdv A outer s H vs Q E hr h=>?_)
 ·obtain⟨G,ws,hn,r⟩:=q8d h;rw[r.length];exact len ws hn
 ·have hn0:=h;obtain⟨G,ws,sg,rp,h⟩:=h;have hn:F ws≠.no:=fun z=>by rw[z]at h;exact h
  obtain⟨d,hd,he⟩:=hb ws hn f cdv A outer s H E ⟨H,G,[]⟩ hr;exact⟨_,hd,G,init N.length ws,q46 sg rp,q60 he h⟩
end
def dCall(F:List W->FR)(dA:Den (List W)):Den W:=fun e=>(dA e).bind fun ws e1=>match F ws with
 |.ok (.fr w)=>.ok w e1
 |.ok (.own none ws')=>.ok (.lst ws') e1
 |.ok (.x (.new w))=>.ok w e1
 |.ok (.x (.tn us wss))=>.ok (.tup (us++[.lst (wss.map .lst)])) e1
 |.ex c=>.ex c e1
 |_=>.no
section
variable{e:Expr}{ps:List Str}{F:List W->FR}
theorem x01{s:S}{v:V}(r1:Rel K Z G1 σ H1 e1)(g:Grow G1 H1 G' H')(q:SlotOk K ⟨H1,G1,[]⟩ G' H' s (some v))(hs:s=.fr w\/∃ws,s=.own none ws/\w=.lst ws):
  ∃G'',Rel K Z G'' σ H' e1/\Same G1 G''/\Rep K G'' w v:=by
 rcases hs with rfl|⟨ws,rfl,rfl⟩
 ·obtain⟨u,h1,h2⟩:=q;cases h1;exact⟨G',r1.grow g,g.gg,h2⟩
 ·obtain⟨a,xs,h1,h2,h3,h4,h5⟩:=q;cases h1;have hn:H1 a=none:=h4;obtain⟨sg,rg⟩:=(r1.grow g).seen h2 h3 (q2h r1 hn) (q35 r1 hn);exact⟨_,rg,g.gg.trans sg,⟨a,xs,rfl,SqL.of q0d,Reps.mono sg ws h5⟩⟩
theorem NestIn.mem0:∀{ls:List Addr}{wss:List (List W)},NestIn K Z G H ls wss->∀l∈ls,∃o ys,FzAt Z G H l o ys
 |[],_,_,_,hl=>nomatch hl
 |l::ls,ws::wss,⟨⟨o,ys,h1,_⟩,h⟩,c,hc=>by
  rcases w0p.mp hc with rfl|hc
  ·exact⟨o,ys,h1⟩
  ·exact h.mem0 c hc
 |_::_,[],h,_,_=>h.elim
theorem NestIn.reps0(sg:Same G G'):∀{ls:List Addr}{wss:List (List W)},(∀l∈ls,G' l=H l)->NestIn K Z G H ls wss->Reps K G' (wss.map W.lst) (ls.map V.ref)
 |[],[],_,_=>rfl
 |l::ls,ws::wss,hf,⟨⟨o,ys,h1,h4⟩,h⟩=>⟨.ref l,ls.map V.ref,rfl,⟨l,ys,rfl,.inl (.inr ⟨o,by rw[hf l (by simp)];exact h1.1⟩),Reps.mono sg ws h4⟩,h.reps0 sg fun c hc=>hf c (by simp[hc])⟩
 |[],_::_,_,h=>h.elim
 |_::_,[],_,h=>h.elim
theorem Rel.addNew(r1:Rel K Z G1 σ H1 e1)(g:Grow G1 H1 G' H')(As:List Addr) [DecidablePred (·∈As)](hA:∀c∈As,(∃o ys,H' c=some (.frz o (.lst ys)))/\G' c=none/\H1 c=none):
  Same G' (fun c=>if c∈As then H' c else G' c)/\Rel K Z (fun c=>if c∈As then H' c else G' c) σ H' e1:=by
 have sg:Same G' (fun c=>if c∈As then H' c else G' c):=fun c o z=>by
  show(if c∈As then H' c else G' c)=some o;rw[if_neg (fun m=>by rw[(hA c m).2.1]at z;cases z)];exact z
 refine⟨sg,r1.grow ⟨g.hh,g.gg.trans sg,fun c o z=>?_,fun c hc=>?_⟩⟩
 ·have z:(if c∈As then H' c else G' c)=some o:=z;split at z
  ·exact z
  ·exact g.sub c o z
 ·show(if c∈As then H' c else G' c)=G1 c;rw[if_neg (fun m=>hc (hA c m).2.2)];exact g.new c hc
theorem x74{us:List W}{wss:List (List W)}{v:V}(r1:Rel K Z G1 σ H1 e1)(g:Grow G1 H1 G' H')(q:SlotOk K ⟨H1,G1,[]⟩ G' H' (.x (.tn us wss)) (some v)):
  ∃G'',Rel K Z G'' σ H' e1/\Same G1 G''/\Rep K G'' (.tup (us++[.lst (wss.map .lst)])) v:=by
 classical
 obtain⟨t,l,o,ls,xs,h1,h2,⟨h3,h4,h5⟩,⟨h6,h7⟩,h8,h9⟩:=q;cases h1
 obtain⟨sg,r2⟩:=r1.addNew g (l::ls) fun c hc=>by
  rcases w0p.mp hc with rfl|hc
  ·exact⟨⟨o,_,h3⟩,h4,h5⟩
  ·obtain⟨o',ys,k1,k2,k3⟩:=h9.mem0 c hc;exact⟨⟨o',ys,k1⟩,k2,k3⟩
 refine⟨_,r2,g.gg.trans sg,t,_,rfl,SqT.of (sg _ _ h2),(Reps.mono sg us h8).append ⟨.ref l,[],rfl,⟨l,_,rfl,.inl (.inr ⟨o,?_⟩),h9.reps0 sg fun c hc=>if_pos (w0k _ hc)⟩,rfl⟩⟩
 show(if l∈l::ls then H' l else G' l)=_;rw[if_pos (w1d ..)];exact h3
theorem y9d{c:Value}(r1:Rel K Z G1 σ H1 e1)(s1:Same G G1)(h:XH K Z EE σ G c e1):∀H',Same H1 H'->EE σ c none H':=fun H' sh=>
 h G1 H' (r1.grow ⟨sh,.refl _,r1.sub.trans sh,fun _ _=>rfl⟩) s1
theorem q0w(C:Cal X.prog X.w X.K X.mg X.base k x ps (spF X.K F))(hr:Room k X.A)(hx:PassX (CX1 X.prog X.w) X EE)(ha:DA Z X EE (e::es) dA)(hg:Gl X x:=by rfl)
  (hdb:(x==("__debug__":Str))=false:=by decide)(he:starEach (e::es) X.env=(false,eval e X.env)::starEach es X.env:=by rfl)(hpl:(backTo pos (starEach es X.env)).any (·.1)=false:=by rfl):
  DE Z X EE (.Call (.Name x p) (e::es) [] pos) (dCall F dA):=by
 refine PE.mono (q77 C hr hx ha hg hdb he hpl) ?_;rintro σ H Q ⟨G,e,rel,h⟩;simp only[dCall,R.holds_bind]at h;refine⟨G,e,rel,h.imp (fun ws e1 h G1 vs H1 r1 s1 p1=>?_) fun _ _ h=>h⟩
 refine⟨G1,ws,r1.sub,by rw[w1j];exact p1,?_⟩;cases q:F ws with
 |ok s=>
  rw[q]at h;intro G' H' v g sl;cases s with
  |no=>exact h.elim
  |fr w=>
   obtain⟨G'',r2,s2,p2⟩:=x01 r1 g sl (.inl rfl);exact(show ∀G' v H',_->_->Rep X.K G' w v->Q v H' from h) G'' v H' r2 (s1.trans s2) p2
  |own b ws'=>
   cases b with
   |some _=>exact h.elim
   |none=>
    obtain⟨G'',r2,s2,p2⟩:=x01 r1 g sl (.inr ⟨ws',rfl,rfl⟩);exact(show ∀G' v H',_->_->Rep X.K G' (.lst ws') v->Q v H' from h) G'' v H' r2 (s1.trans s2) p2
  |nest _=>exact h.elim
  |x k=>
   cases k with
   |new w=>
    obtain⟨u,h1,h2⟩:=sl;cases h1;exact(show ∀G' v H',_->_->Rep X.K G' w v->Q v H' from h) G' _ H' (r1.grow g) (s1.trans g.gg) (RepN.rep _ h2)
   |tn us wss=>
    obtain⟨G'',r2,s2,p2⟩:=x74 r1 g sl;exact(show ∀G' v H',_->_->Rep X.K G' (.tup (us++[.lst (wss.map .lst)])) v->Q v H' from h) G'' v H' r2 (s1.trans s2) p2
   |_=>exact h.elim
  |dw _ _ _=>exact h.elim
 |ex c=>
  rw[q]at h;exact y9d r1 s1 h
 |no=>rw[q]at h;exact h.elim
end
end D
namespace L2
open PySem PySem.Spec PyProof.Rows
section
variable{X:Cx}{elt target iter:Expr}{ifs:List Expr}{scope:Scope}{pos:Pos}{wi:TI}{g:TG}{tc:TT}{te:TE}
theorem x75{Nl Nf:List Str}{js:List Nat}{y:Str}{py spos:Pos}{gy:TG}(hc:X.calm=true)(hi:PI X target iter wi)
  (hk:scope.kind=.function)(hcell:∀y∈scope.names,y.2≠.cell)(hnames:∀x∈scope.names,x.2=.local->scope.names.lookup x.1=some .local)
  (hfree:∀x∈scope.names,x.2=.free->X.env.kindOf x.1=some .cell\/X.env.kindOf x.1=some .free)
  (hj:∀(i j:Nat) y,Nf[i]?=some y->js[i]?=some j->X.N[j]?=some y)(hlen:js.length=Nf.length)
  (hNf:∀y∈Nf,(y,NameKind.free)∈scope.names/\Vis X.env.scope y/\X.env.kindOf y≠some .local)
  (hvis:∀y∈Nf,(relabel scope X.env).names.lookup y=some .cell\/(relabel scope X.env).names.lookup y=some .free)
  (hg:∀cl C s₀ H₀ ex,PG (X.cp (Nl++Nf) scope cl C s₀ H₀ ex) target g)(ht:∀cl C s₀ H₀ ex,PTs (X.cp (Nl++Nf) scope cl C s₀ H₀ ex) ifs tc)(he:∀cl C s₀ H₀ ex,PE (X.cp (Nl++Nf) scope cl C s₀ H₀ ex) elt te)
  (hgy:PG X (.Name y py) gy)(hsw:swapsWith (.ListComp elt [⟨target,iter,ifs,0⟩] scope pos) (some (.Name y py)) spos.line X.env=pure true)
  (hs:∀x,foldedSetIterable iter X.env x=pure x:=by intro _;rfl):
  PS X (.Assign [.Name y py] (.ListComp elt [⟨target,iter,ifs,0⟩] scope pos) spos) (tAsg (tComp wi Nl.length js g tc te) gy):=by
 intro pins s σ H D I h;obtain⟨cl,hclos,hcl,hcf⟩:=q4r (scope:=scope) (env:=X.env) fun x hx hf=>I.ok.has x.1 (hfree x hx hf)
 rw[exec_Assign_Name_used _ _ _ _ hsw];refine wpAny_bind (wpAny_standAt (wpAny_bind ?_));show wpAny _ _ (do let _ <- comprehension _ _ _ _ _ _ _ _) _ _ _;refine wpAny_bind (wpAny_comprehension_free (Q:=fun _ s''=>wpAny (model X.prog X.w) X.A (pure ()) (fun _ s3=>wpAny (model X.prog X.w) X.A (pure Flow.next) (SP X pins D) X.xe s3) X.xe s'') (use:=some (assign (.Name y py) X.env)) rfl hs hclos hk hnames (thn (hi pins s σ H _ I h) fun v s1 h1=>thn h1 fun itv s2 h2=>?_))
 obtain⟨it,fp,tn,J,H2,e,I2,T,st2,f2,rd⟩:=h2;subst e;refine wpAny_newObj_type (wpAny_newFunctionEnv hcell (by intro y hy;simp at hy) (fun h₁ hns₁ hsb₁=>?_) hk)
 dsimp only at hns₁ hsb₁ |-
 have szp:(s2.heap.push {cls:=.type "list", dict:=none,data:=.seq ([]:List Value).toArray}).objs.size=s2.heap.objs.size+1:=Heap.size_push ..;rw[szp]at hns₁ hsb₁ |-
 have fD:H2 s2.heap.objs.size=none:=I2.hok.fresh (w0g _);obtain⟨W,⟨m0,w0⟩,turn⟩:=rd s2.heap.objs.size fD;have obj2:=T.obj 0 s2.heap st2;have IS:=x0x (Nl:=Nl) (Nf:=Nf) (js:=js) (cl:=cl) (tk:=s2.toks+([]:List (Str×Value)).length) I2 f2 obj2 hk hcell hcl hcf hj hlen hNf hvis hns₁ hsb₁
 have upS:∀b u,s2.heap.get? b=some u->h₁.get? b=some u:=fun b u q=>by
  have hlt:=Heap.lt_size q;exact(hsb₁.2 b (w0u (w2z hlt))).trans (Heap.get?_push_of_some _ (Heap.get?_push_of_some _ q))
 have stS:tn 0 h₁:=T.keep 0 s2.heap h₁ st2 fun b hb o q=>upS b o q
 have noD:∀b∈fp,upd H2 s2.heap.objs.size (.lst []) b=none:=fun b hb=>by
  obtain⟨o,q,_⟩:=obj2 b hb;rw[q0c (w0u (Heap.lt_size q))];exact(f2 b hb).1
 have stat:∀{H':Hp},(∀b∈fp,H' b=none)->∀b∈fp,FpOk (X.cp (Nl++Nf) scope cl (s2.heap.objs.size+1) {s2 with heap:=s2.heap.push {cls:=.type "list", dict:=none,data:=.seq ([]:List Value).toArray}} (upd H2 s2.heap.objs.size (.lst [])) fp) [] H' b:=fun hn b hb=>by
  refine⟨hn b hb,(IS.ok.exf b hb).1,IS.ok.exfs b hb,.inl hb,(IS.ok.exf b hb).2,fun p hp=>(by cases hp)⟩
 have loop:∀s4:Shared,s4={s2 with heap:=h₁,toks:=s2.toks+([]:List (Str×Value)).length} ->
   codeAny (model X.prog X.w) X.A (.compLoop (.ListComp elt [⟨target,iter,ifs,0⟩] scope pos) 0 (.ref it) (.ref s2.heap.objs.size) (compEnvC scope cl (s2.heap.objs.size+1) X.env))
    (compPost (model X.prog X.w) X.A X.xe (some (assign (.Name y py) X.env)) (fun _ s''=>wpAny (model X.prog X.w) X.A (pure ()) (fun _ s3=>wpAny (model X.prog X.w) X.A (pure Flow.next) (SP X pins D) X.xe s3) X.xe s'') (.ref s2.heap.objs.size) (s2.heap.objs.size+1)) s4:=by
  rintro s4 rfl;refine q9l (fun n s'=>∃i H',Inv (X.cp (Nl++Nf) scope cl (s2.heap.objs.size+1) {s2 with heap:=s2.heap.push {cls:=.type "list", dict:=none,data:=.seq ([]:List Value).toArray}} (upd H2 s2.heap.objs.size (.lst [])) fp) [] (List.replicate Nl.length none++pj js σ) H' s'/\tn i s'.heap/\(∀b∈fp,H' b=none)/\W i n H') ?_ m0 ⟨0,_,IS,stS,noD,w0⟩
  rintro n s3 ⟨i,H3,I3,st3,fr3,w3⟩;rcases turn i n H3 w3 with⟨stop,qn⟩|⟨go,step⟩
  ·refine thn (T.done (X.cp (Nl++Nf) scope cl (s2.heap.objs.size+1) {s2 with heap:=s2.heap.push {cls:=.type "list", dict:=none,data:=.seq ([]:List Value).toArray}} (upd H2 s2.heap.objs.size (.lst [])) fp) rfl rfl rfl hc i [] s3 _ H3 _ I3 (stat fr3) st3 stop) fun r s5 ⟨hr,I5⟩=>?_
   subst hr;obtain⟨m5,hn5,_⟩:=I5.loc;obtain⟨o5,es5,ep5,ho5,hd5,hk5,hf5⟩:=id hn5;have J5:Inv X pins σ H3 s5:=x5b I2 f2 I5 (h':=s5.heap) ⟨rfl,fun _ _=>rfl⟩
   have fC:FpOk X pins H3 (s2.heap.objs.size+1):=I2.fpOk (w4p _) I5.free;have f1:∀b∈[s2.heap.objs.size+1],FpOk X pins H3 b:=fun b hb=>by rw[w0q.mp hb];exact fC
   have J6:=J5.pinned f1 (fun b hb=>by rw[w0q.mp hb];exact⟨o5,ho5,fun v z=>by rw[hd5]at z;cases z⟩)
   refine thn (hgy _ s5 σ H3 (.ref s2.heap.objs.size) _ _ J6 rfl qn) fun _ s6 ⟨σ6,H6,I6,q6⟩=>?_
   have pC:=I6.pin (s2.heap.objs.size+1,o5) (w0i _ (w0i _ (q2l (w0q.mpr rfl) ho5)));refine⟨m5,⟨o5,es5,ep5,pC.1,hd5,hk5,hf5⟩,fun h' hs'=>wpAny_pure (wpAny_pure ⟨σ6,H6,?_,q6⟩)⟩
   obtain⟨g0,g1,g2,g3,g4,g5⟩:=fC;exact I6.unpinned.turned (t':=s6.toks) (fun b o hb e=>(hs'.2 b hb).trans e) pC.2.1 g1 g3 g4 g5
  ·refine thn (T.item (X.cp (Nl++Nf) scope cl (s2.heap.objs.size+1) {s2 with heap:=s2.heap.push {cls:=.type "list", dict:=none,data:=.seq ([]:List Value).toArray}} (upd H2 s2.heap.objs.size (.lst [])) fp) rfl rfl rfl hc i [] s3 _ H3 _ I3 (stat fr3) st3 go) fun r s5 ⟨u,hr,h5⟩=>?_
   subst hr;refine thn h5 fun _ s6 ⟨x,H6,I6,r6,y6,st6,fr6⟩=>?_
   have I6':=I6.pinned (stat fr6) (T.obj _ _ st6);refine thn (hg _ _ _ _ _ _ s6 _ H6 x u _ I6' r6 (step x H6 y6)) fun _ s7 ⟨σ7,H7,I7,kp,q7⟩=>?_
   refine thn (ht _ _ _ _ _ _ s7 σ7 H7 _ I7 q7) fun ok s8 ⟨H8,I8,q8⟩=>?_
   have again:∀{σ9:St}{H9:Hp}{s9:Shared},Inv (X.cp (Nl++Nf) scope cl (s2.heap.objs.size+1) {s2 with heap:=s2.heap.push {cls:=.type "list", dict:=none,data:=.seq ([]:List Value).toArray}} (upd H2 s2.heap.objs.size (.lst [])) fp) ([]++pinsAt fp s6.heap) σ9 H9 s9 ->
     Kp (List.replicate Nl.length none++pj js σ) σ9->(∃m',m'<n/\W (i+1) m' H9)->∃m,m<n/\∃i H',Inv (X.cp (Nl++Nf) scope cl (s2.heap.objs.size+1) {s2 with heap:=s2.heap.push {cls:=.type "list", dict:=none,data:=.seq ([]:List Value).toArray}} (upd H2 s2.heap.objs.size (.lst [])) fp) [] (List.replicate Nl.length none++pj js σ) H' s9/\tn i s9.heap/\(∀b∈fp,H' b=none)/\W i m H':=fun {σ9 H9 s9} I9 hw ⟨m',hm,w9⟩=>by
    refine⟨m',hm,i+1,H9,I9.unpinned.weak (by rw[I9.len,<- IS.len]) hw,T.keep _ _ _ st6 fun b hb o q=>(I9.pin (b,o) (w0i _ (w0i _ (q2l hb q)))).1,fun b hb=>?_,w9⟩
    obtain⟨o,q,d⟩:=T.obj _ _ st6 b hb;exact(I9.pin (b,o) (w0i _ (w0i _ (q2l hb q)))).2.1
   cases ok with
   |false=>exact again I8 kp (by simpa using q8)
   |true=>
    have q8':=by simpa only[if_true]using q8
    refine thn (he _ _ _ _ _ _ s8 σ7 H8 _ I8 q8') fun y s9 ⟨yv,H9,I9,r9,ys,hD,hz,q9⟩=>?_
    refine thn (q6d _ s9 σ7 H9 (.ref s2.heap.objs.size) [yv] (.ref s2.heap.objs.size) [y] (fun v H'=>v=.non/\H'=upd H9 s2.heap.objs.size (.lst (ys++[yv]))) I9 rfl (.cons r9 .nil) ⟨_,ys,yv,rfl,rfl,hD,hz,rfl,rfl⟩) fun _ s10 ⟨_,H10,I10,_,_,e10⟩=>?_
    subst e10;exact again I10 kp q9
 exact codeAny_compStart_list (loop _ rfl) (T.self X.A 0 _ _ _ stS (loop _ rfl))
end
variable{X:Cx}
theorem q6i{y:Str}{py spos:Pos}{gy:TG}{elt target iter:Expr}{ifs:List Expr}{scope sc:Scope}{pos:Pos}{wi:TI}{g:TG}{tc:TT}{te:TE}{Nl Nf N:List Str}{js:List Nat}(hc:X.calm=true)(hi:PI X target iter wi)
  (ok:compOk sc scope N Nf js=true)
  (hg:∀cl C s₀ H₀ ex,PG (X.cp (Nl++Nf) scope cl C s₀ H₀ ex) target g)(ht:∀cl C s₀ H₀ ex,PTs (X.cp (Nl++Nf) scope cl C s₀ H₀ ex) ifs tc)(he:∀cl C s₀ H₀ ex,PE (X.cp (Nl++Nf) scope cl C s₀ H₀ ex) elt te)
  (hgy:PG X (.Name y py) gy)(hsw:swapsWith (.ListComp elt [⟨target,iter,ifs,0⟩] scope pos) (some (.Name y py)) spos.line X.env=pure true)
  (hsc:X.env.scope=sc:=by rfl)(hN:X.N=N:=by rfl)(hs:∀x,foldedSetIterable iter X.env x=pure x:=by intro _;rfl):
  PS X (.Assign [.Name y py] (.ListComp elt [⟨target,iter,ifs,0⟩] scope pos) spos) (tAsg (tComp wi Nl.length js g tc te) gy):=by
 unfold compOk at ok;simp only[w0s,w0o,beq_iff_eq,bne_iff_ne,w3x,w1x]at ok;obtain⟨⟨⟨⟨⟨⟨k1,k2⟩,k3⟩,k4⟩,k5⟩,k6⟩,k7⟩:=ok;have kind:∀x,X.env.kindOf x=sc.names.lookup x:=fun x=>by rw[<- hsc];rfl
 refine x75 hc hi k1 k2 (fun x hx hl=>(k3 x hx).resolve_left fun z=>z hl) (fun x hx hf=>?_) (fun i j y e1 e2=>?_) k5 (fun y hy=>?_) (fun y hy=>?_) hg ht he hgy hsw hs
 ·rw[kind];rcases k4 x hx with(z|z)|z
  ·exact absurd hf z
  ·exact .inl z
  ·exact .inr z
 ·have hlt:i<js.length:=(w0b.mp e2).1;have z:=k6 i hlt;rw[e1,e2]at z;rw[hN]
  simpa using z
 ·obtain⟨z1,z2⟩:=k7 y hy;refine⟨PySem.mem_of_lookup z1,?_,?_⟩
  ·rw[hsc];rcases z2 with z|z
   ·exact .inr (.inl z)
   ·exact .inr (.inr z)
  ·rw[kind];rcases z2 with z|z<;>(rw[z];decide)
 ·exact q41 (k7 y hy).1
def rCatS(K:Fg):R2:=fun x y H Q=>∃l b xs zs,x=.ref l/\y=.ref b/\SqL K H l xs/\SqL K H b zs/\xs.length+zs.length<=sizeLine/\∀p,H p=none->Q (.ref p) (upd H p (.lst (xs++zs)))
theorem x2s:OpR X (binaryOp .Add) (rCatS X.K):=by
 intro pins s σ H x y v u Q I rx ry h;obtain⟨l,b,xs,zs,rfl,rfl,h1,h2,hz,q⟩:=h;cases rx;cases ry;obtain⟨its,r1,p1,_⟩:=I.list h1;obtain⟨its2,r2,p2,_⟩:=I.list h2;obtain⟨⟨cls,dd,data,sl⟩,ho,hc,n,hd⟩:=id p1.isList;obtain⟨⟨cls2,dd2,data2,sl2⟩,ho2,hc2,n2,hd2⟩:=id p2.isList;simp only at hc hd hc2 hd2;subst hc hd hc2 hd2;have l1:=r1.length;have l2:=r2.length;refine concat_meets ⟨_,ho,rfl⟩ ⟨_,ho2,rfl⟩ noFill_list_add seq_list_add PySem.F.slot_list_add PySem.F.entry_list_add (PySem.F.args_list_add_2 _ _) (list_addW l b its.toArray its2.toArray n n2 dd dd2 sl sl2 (by simp only[w0c];omega)) ⟨ho,ho2,?_⟩;have ea:its.toArray++its2.toArray=(its++its2).toArray:=by simp
 rw[ea];exact⟨.ref _,_,I.lnew (t':=s.toks) (r1.append r2) (by rw[w0l];omega),rfl,q _ I.fresh⟩
end L2
namespace D
open PySem L2
variable{a:Addr}{A:Around}{vs ys:Array Value}{X:Cx}{dA p:Den (List W)}{c cc:Den Bool}{d da db dk:Den W}{h h':Heap}{G G' G1 H:Hp}{J:It}{EE:L2.St->XK}{pins:List (Addr×Obj)}{ps:List (W×W)}{elts es:List Expr}{js:List Nat}{e:List S}{q s1:List S->SR}{xs:List V}{us ws:List W}{f:List W->Option W}{i j k kt:Nat}{b:Option Nat}{apos cpos pn pos:Pos}{P:Program}{K:Fg}{s:Shared}{σ:St}{x y:Str}{T:String}{α:Type}{v v':V}{cv u u':Value}{w w':W}{Z:Zt}
def addW:W->W->Option W
 |.int i,.int j=>some (.int (i+j))
 |.str x,.str y=>if x.length+y.length<=16777216 then some (.str (x++y))else none
 |.tup xs,.tup ys=>if xs≠[]/\xs.length+ys.length<=16777216 then some (.tup (xs++ys))else none
 |.lst xs,.lst ys=>if xs.length+ys.length<=16777216 then some (.lst (xs++ys))else none
 |_,_=>none
def subW:W->W->Option W
 |.int i,.int j=>some (.int (i-j))
 |_,_=>none
def mulW:W->W->Option W
 |.int i,.int j=>if(-(2^64)<i/\i<2^64)\/(-(2^64)<j/\j<2^64)then some (.int (i*j))else none
 |_,_=>none
def fdivW:W->W->Option W
 |.int i,.int j=>if 0<j/\j<1073741824 then some (.int (i / j))else none
 |_,_=>none
def modW:W->W->Option W
 |.int i,.int j=>if 0<j then some (.int (i%j))else none
 |_,_=>none
def powW:W->W->Option W
 |.int i,.int j=>if 0<=j/\j<=1000000/\i.natAbs<2^64 then some (.int (i^j.toNat))else none
 |_,_=>none
def ltW:W->W->Option W
 |.int i,.int j=>some (.bl (decide (i<j)))
 |_,_=>none
def leW:W->W->Option W
 |.int i,.int j=>some (.bl (decide (i<=j)))
 |_,_=>none
def negW:W->Option W
 |.int i=>some (.int (-i))
 |_=>none
theorem x5f:Op2 K (fun x y H Q=>rI0 (fun i j=>.int (i+j)) x y H Q\/((∃i j,x=.str i/\y=.str j/\i.length+j.length<=sizeLine/\Q (.str (i++j)) H)\/(rCatT K x y H Q\/rCatS K x y H Q))) addW:=by
 intro G H x y wx wy w Q s px py hf h;unfold addW at hf;split at hf
 ·cases hf;cases px;cases py;exact .inl ⟨_,_,rfl,rfl,h G _ H (.refl s) rfl⟩
 ·split at hf
  ·rename_i hl;cases hf;cases px;cases py;exact .inr (.inl ⟨_,_,rfl,rfl,by rw[sizeLine_eq];exact hl,h G _ H (.refl s) rfl⟩)
  ·cases hf
 ·rename_i us ws;split at hf
  ·rename_i hl;cases hf;obtain⟨a,xs,rfl,ha,ra⟩:=px;obtain⟨b,ys,rfl,hb,rb⟩:=py;have l1:=ra.length;have l2:=rb.length;refine .inr (.inr (.inl ⟨a,b,xs,ys,rfl,rfl,s.tup ha,s.tup hb,fun z=>hl.1 ?_,by rw[l1,l2,sizeLine_eq];exact hl.2,fun z=>?_,fun z p hp=>?_⟩))
   ·subst z;cases us with
    |nil=>rfl
    |cons _ _=>simp at l1
   ·subst z
    have:ws=[]:=by cases ws with
     |nil=>rfl
     |cons _ _=>simp at l2
    subst this;exact h G _ H (.refl s) ⟨a,xs,rfl,ha,by simpa using ra⟩
   ·have g:=Grow.laid s hp (.tup (xs++ys));exact h _ _ _ g ⟨p,_,rfl,SqT.of q0d,Reps.append (Reps.mono g.gg _ ra) (Reps.mono g.gg _ rb)⟩
  ·cases hf
 ·split at hf
  ·rename_i hl;cases hf;obtain⟨a,xs,rfl,ha,ra⟩:=px;obtain⟨b,ys,rfl,hb,rb⟩:=py;have l1:=ra.length;have l2:=rb.length;refine .inr (.inr (.inr ⟨a,b,xs,ys,rfl,rfl,s.seq ha,s.seq hb,by rw[l1,l2,sizeLine_eq];exact hl,fun p hp=>?_⟩))
   have g:=Grow.laid s hp (.lst (xs++ys));exact h _ _ _ g ⟨p,_,rfl,SqL.of q0d,Reps.append (Reps.mono g.gg _ ra) (Reps.mono g.gg _ rb)⟩
  ·cases hf
 ·cases hf
theorem y5x:Op2 K (rI0 fun i j=>.int (i-j)) subW:=by
 intro G H x y wx wy w Q s px py hf h;unfold subW at hf;split at hf
 ·cases hf;cases px;cases py;exact⟨_,_,rfl,rfl,h G _ H (.refl s) rfl⟩
 ·cases hf
theorem y5y:Op2 K (rI CMul fun i j=>.int (i*j)) mulW:=by
 intro G H x y wx wy w Q s px py hf h;unfold mulW at hf;split at hf
 ·split at hf
  ·rename_i hc;cases hf;cases px;cases py;exact⟨_,_,rfl,rfl,hc,h G _ H (.refl s) rfl⟩
  ·cases hf
 ·cases hf
theorem y1o:Op2 K (rI CDiv fun i j=>.int (i / j)) fdivW:=by
 intro G H x y wx wy w Q s px py hf h;unfold fdivW at hf;split at hf
 ·split at hf
  ·rename_i hc;cases hf;cases px;cases py;exact⟨_,_,rfl,rfl,hc,h G _ H (.refl s) rfl⟩
  ·cases hf
 ·cases hf
theorem y5z:Op2 K (rI (fun _ j=>0<j) fun i j=>.int (i%j)) modW:=by
 intro G H x y wx wy w Q s px py hf h;unfold modW at hf;split at hf
 ·split at hf
  ·rename_i hc;cases hf;cases px;cases py;exact⟨_,_,rfl,rfl,hc,h G _ H (.refl s) rfl⟩
  ·cases hf
 ·cases hf
theorem y50:Op2 K (rI CPow fun i j=>.int (i^j.toNat)) powW:=by
 intro G H x y wx wy w Q s px py hf h;unfold powW at hf;split at hf
 ·split at hf
  ·rename_i hc;cases hf;cases px;cases py;exact⟨_,_,rfl,rfl,hc,h G _ H (.refl s) rfl⟩
  ·cases hf
 ·cases hf
theorem x31:Op2 K (rI0 fun i j=>.bl (decide (i<j))) ltW:=by
 intro G H x y wx wy w Q s px py hf h;unfold ltW at hf;split at hf
 ·cases hf;cases px;cases py;exact⟨_,_,rfl,rfl,h G _ H (.refl s) rfl⟩
 ·cases hf
theorem y0q:Op2 K (rI0 fun i j=>.bl (decide (i<=j))) leW:=by
 intro G H x y wx wy w Q s px py hf h;unfold leW at hf;split at hf
 ·cases hf;cases px;cases py;exact⟨_,_,rfl,rfl,h G _ H (.refl s) rfl⟩
 ·cases hf
theorem y51:Op1 K (rU fun i=>.int (-i)) negW:=by
 intro G H x wx w Q s px hf h;unfold negW at hf;split at hf
 ·cases hf;cases px;exact⟨_,rfl,h G _ H (.refl s) rfl⟩
 ·cases hf
mutual
def eqW:W->W->Option Bool
 |.non,.non=>some true
 |.non,.bl _=>some false|.non,.int _=>some false|.non,.str _=>some false|.non,.tup _=>some false|.non,.lst _=>some false
 |.bl a,.bl b=>some (a==b)
 |.bl a,.int b=>some ((if a then 1 else 0)==b)
 |.bl _,.non=>some false|.bl _,.str _=>some false|.bl _,.tup _=>some false|.bl _,.lst _=>some false
 |.int a,.int b=>some (a==b)
 |.int a,.bl b=>some (a==(if b then 1 else 0))
 |.int _,.non=>some false|.int _,.str _=>some false|.int _,.tup _=>some false|.int _,.lst _=>some false
 |.str a,.str b=>some (a==b)
 |.str _,.non=>some false|.str _,.bl _=>some false|.str _,.int _=>some false|.str _,.tup _=>some false|.str _,.lst _=>some false
 |.tup _,.non=>some false|.tup _,.bl _=>some false|.tup _,.int _=>some false|.tup _,.str _=>some false|.tup _,.lst _=>some false
 |.lst _,.non=>some false|.lst _,.bl _=>some false|.lst _,.int _=>some false|.lst _,.str _=>some false|.lst _,.tup _=>some false
 |.tup xs,.tup ys=>eqWs xs ys
 |.lst xs,.lst ys=>eqWs xs ys
 |.exc _,_=>none
 |_,.exc _=>none
 |.dw _ _ _ _,_=>none
 |.fn _ _ _,_=>none
 |_,.dw _ _ _ _=>none
 |_,.fn _ _ _=>none
def eqWs:List W->List W->Option Bool
 |[],[]=>some true
 |[],_::_=>some false
 |_::_,[]=>some false
 |x::xs,y::ys=>match eqW x y,eqWs xs ys with
  |some a,some b=>some (a&&b)
  |_,_=>none
end
def ixW:W->W->Option W
 |.tup ws,.int i=>atI ws i
 |.lst ws,.int i=>atI ws i
 |.str z,.int i=>if z.length<=16777216 then(atI z.cps.toList i).map fun c=>.str ⟨#[c]⟩else none
 |_,_=>none
theorem Reps.atI{i:Int}(r:Reps K G ws xs)(h:L2.atI ws i=some w):∃x,L2.atI xs i=some x/\Rep K G w x:=by
 unfold L2.atI at h |-
 rw[r.length];cases q:ixN ws.length i with
 |none=>rw[q]at h;cases h
 |some j=>
  rw[q]at h;exact r.get h
theorem y0r:Op2 K (rIx K) ixW:=by
 intro G H x y wx wy w Q s px py hf h;unfold ixW at hf;split at hf
 ·obtain⟨a,xs,rfl,ha,ra⟩:=px;cases py;obtain⟨v,hv,rv⟩:=ra.atI hf;exact .inr (.inl ⟨a,xs,_,v,rfl,rfl,s.tup ha,hv,h G v H (.refl s) rv⟩)
 ·obtain⟨a,xs,rfl,ha,ra⟩:=px;cases py;obtain⟨v,hv,rv⟩:=ra.atI hf;exact .inl ⟨a,xs,_,v,rfl,rfl,s.seq ha,hv,h G v H (.refl s) rv⟩
 ·cases px;cases py;split at hf
  ·rename_i hl;obtain⟨c,hc,rfl⟩:=w0e.mp hf;exact .inr (.inr ⟨_,_,c,rfl,rfl,by rw[sizeLine_eq];exact hl,hc,h G _ H (.refl s) rfl⟩)
  ·cases hf
 ·cases hf
def S.look:S->Option W
 |.fr w=>some w
 |.own _ ws=>some (.lst ws)
 |.no=>none
 |.nest _=>none
 |.x k=>k.look
 |.dw _ _ _=>none
def dIxV(i:Nat)(d:Den W):Den W:=fun e=>match e[i]?.bind S.look with
 |none=>.no
 |some _=>(d e).bind fun k e1=>match e1[i]?.bind S.look with
  |none=>.no
  |some w=>ofOpt (ixW w k) e1
def lenW:W->Option W
 |.str z=>if z.length<=16777216 then some (.int z.length)else none
 |.tup ws=>some (.int ws.length)
 |.lst ws=>some (.int ws.length)
 |_=>none
def len1:List W->Option W
 |[w]=>lenW w
 |_=>none
theorem x5g:OpN K (fun xs H Q=>∃x n,xs=[x]/\LenV K x H n/\Q (.int n) H) len1:=by
 intro G H xs ws w Q s pr hf h;unfold len1 at hf;split at hf
 ·obtain⟨x,r,rfl,px,pr⟩:=pr;cases(show r=[]from pr);unfold lenW at hf;split at hf
  ·split at hf
   ·rename_i hl;cases hf;cases px;exact⟨_,_,rfl,⟨by rw[sizeLine_eq];exact hl,rfl⟩,h G _ H (.refl s) rfl⟩
   ·cases hf
  ·cases hf;obtain⟨a,xs,rfl,ha,ra⟩:=px;exact⟨_,_,rfl,.inr ⟨xs,s.tup ha,rfl⟩,h G _ H (.refl s) (by rw[ra.length];rfl)⟩
  ·cases hf;obtain⟨a,xs,rfl,ha,ra⟩:=px;exact⟨_,_,rfl,.inl ⟨xs,s.seq ha,rfl⟩,h G _ H (.refl s) (by rw[ra.length];rfl)⟩
  ·cases hf
 ·cases hf
def scalW:W->Bool
 |.non=>true|.bl _=>true|.int _=>true|.str _=>true|_=>false
theorem x76(h:scalW w=true)(p:Rep K G w v):Rep K G' w v:=by
 cases w with
 |non=>exact p
 |bl b=>exact p
 |int i=>exact p
 |str x=>exact p
 |_=>cases h
def dFnV(i:Nat)(f:List W->Option W):Den W:=fun e=>match e[i]?.bind S.look with
 |none=>.no
 |some w=>match f [w]with
  |none=>.no
  |some v=>match e[i]? with
   |some (.fr _)=>.ok v e
   |_=>if scalW v=true then .ok v e else .no
section
variable{a b e:Expr}{p:Pos}
theorem q0g(ha:DE Z X EE a d)(hb:DE Z X EE b db)(hs:PlainIx b:=by intro _ _;rfl):DE Z X EE (.Subscript a b pos) (dOp ixW d db):=PE.mono (q5z x46 ha hb hs) (q4w y0r)
theorem Rel.look{e:List S}(r:Rel K Z G σ H e)(h:e[i]?.bind S.look=some w):∃v,σ[i]?=some (some v) /\
  (Rep K G w v\/∃ws a xs u,(∀z,e[i]?≠some (.fr z))/\w=.lst ws/\v=.ref a/\H a=some u/\(u=.lst xs\/∃o,u=.frz o (.lst xs))/\G a=none/\Reps K G ws xs):=by
 obtain⟨s,h1,h2⟩:=w1f.mp h;cases s with
 |no=>cases h2
 |nest _=>cases h2
 |dw _ _ _=>cases h2
 |fr w'=>
  cases h2;obtain⟨v,h3,h4⟩:=r.fr h1;exact⟨v,h3,.inl h4⟩
 |x k=>
  have q:=r.slot i _ h1;cases k with
  |old w'=>cases h2;obtain⟨v,h1',h3⟩:=r.plain h1 rfl;exact⟨v,h1',.inl h3⟩
  |new w'=>cases h2;obtain⟨v,h1',h3⟩:=r.plain h1 rfl;exact⟨v,h1',.inl h3⟩
  |_=>cases h2
 |own b ws=>
  cases h2;obtain⟨a,xs,h3,h4,h5,h6,h7⟩:=r.own h1;exact⟨.ref a,h3,.inr ⟨ws,a,xs,_,(fun z y=>by rw[h1]at y;cases y),rfl,rfl,h4,.inl rfl,h5,h7⟩⟩
theorem x5h{K:Fg}{a:Addr}{u:HO}(s:Same G H)(h:H a=some u)(hg:G a=none):Same G (upd G a u)/\Same (upd G a u) H:=
 ⟨q20 hg _,fun c o z=>by
  by_cases hc:c=a
  ·subst hc;rw[q0d]at z;cases z;exact h
  ·rw[q0c hc]at z;exact s c o z⟩
theorem q47(i:Nat)(hb:DE Z X EE b d)(hN:X.N[i]?=some x:=by rfl)(hv:Vis X.env.scope x:=by walk_at "1")(hd:(x==("__debug__":Str))=false:=by decide)
  (hcd:(x==("__classdict__":Str))=false:=by decide)(hs:PlainIx b:=by intro _ _;rfl):DE Z X EE (.Subscript (.Name x p) b pos) (dIxV i d):=by
 refine PE.mono (q5z x46 (pv i hN hv hd hcd) hb hs) ?_;rintro σ H Q ⟨G,e,rel,h⟩;unfold dIxV at h;split at h
 ·exact h.elim
 ·rename_i w0 hw0;obtain⟨v,hv,_⟩:=rel.look hw0;refine⟨v,hv,G,e,rel,(R.holds_bind.mp h).imp (fun k e1 h G1 u H1 r1 s1 p1=>?_) fun _ _ h=>h⟩
  split at h
  ·exact h.elim
  ·rename_i w hw;obtain⟨w',hf,h2⟩:=ofOpt_holds.mp h;obtain⟨v',hv',q⟩:=r1.look hw;rw[hv]at hv';cases hv';rcases q with q|⟨ws,a,xs,u,he,rfl,rfl,q1,qu,q2,q3⟩
   ·exact y0r G1 H1 v u w k w' Q r1.sub q p1 hf fun G' v H' g p=>h2 G' v H' (r1.grow g) (s1.trans g.gg) p
   ·-- an item of one's own list
    unfold ixW at hf;split at hf
    ·rename_i heq;cases heq
    ·rename_i heq;cases heq;cases p1;obtain⟨y,hy,ry⟩:=q3.atI hf;refine .inl ⟨a,xs,_,y,rfl,rfl,?_,hy,h2 G1 y H1 r1 s1 ry⟩;rcases qu with rfl|⟨o,rfl⟩
     ·exact SqL.of q1
     ·exact .inl (.inr ⟨o,q1⟩)
    ·rename_i heq;cases heq
    ·cases hf
theorem y52{r:List V->Hp->VK->Prop}(i:Nat){id:String}{fn:Str}(hc:CallR X (.builtin id) r)(hf:OpN X.K r f)(hv:bootBuiltins fn=some (.builtin id))(hm:X.mg fn=none)
  (hN:X.N[i]?=some x:=by rfl)(hvis:Vis X.env.scope x:=by walk_at "1")(hd:(x==("__debug__":Str))=false:=by decide)(hcd:(x==("__classdict__":Str))=false:=by decide)
  (hg:Gl X fn:=by rfl)(hn:fn≠"__name__":=by decide)(hdb:(fn==("__debug__":Str))=false:=by decide)(hs:starEach [.Name x p] X.env=(false,eval (.Name x p) X.env)::starEach [] X.env:=by rfl)(hpl:(backTo pos (starEach [] X.env)).any (·.1)=false:=by rfl):
  DE Z X EE (.Call (.Name fn pn) [.Name x p] [] pos) (dFnV i f):=by
 refine PE.mono (q7k hc hg hm hv (q09 (pv i hN hvis hd hcd) q2r hs) hn hdb hs hpl) ?_;rintro σ H Q ⟨G,e,rel,h⟩;unfold dFnV at h;split at h
 ·exact h.elim
 ·rename_i w hw;split at h
  ·exact h.elim
  ·rename_i y hy;obtain⟨v,hv,q⟩:=rel.look hw;refine⟨v,hv,?_⟩;rcases q with q|⟨ws,a,xs,u,he,rfl,rfl,q1,qu,q2,q3⟩
   ·refine hf G H [v] [w] y Q rel.sub (.one q) hy fun G' v H' g p=>?_
    split at h
    ·exact h G' v H' (rel.grow g) g.gg p
    ·split at h
     ·exact h G' v H' (rel.grow g) g.gg p
     ·exact h.elim
   ·split at h
    ·rename_i hz;exact absurd hz (he _)
    split at h
    ·rename_i hsc;obtain⟨s1,s2⟩:=x5h (K:=X.K) rel.sub q1 q2
     have hsq:SqL X.K (upd G a u) a xs:=by
      rcases qu with rfl|⟨o,rfl⟩
      ·exact SqL.of q0d
      ·exact .inl (.inr ⟨o,q0d⟩)
     refine hf (upd G a u) H [.ref a] [.lst ws] y Q s2 (.one ⟨a,xs,rfl,hsq,Reps.mono s1 ws q3⟩) hy fun G' v H' g p=>?_
     have g':Grow G H G H':=⟨g.hh,.refl _,rel.sub.trans g.hh,fun _ _=>rfl⟩
     exact(show ∀G' v H',_->_->Rep X.K G' y v->Q v H' from h) G v H' (rel.grow g') (.refl _) (x76 hsc p)
    ·exact h.elim
def dApp(i:Nat)(d:Den (List W)):List S->SR:=fun e=>match e[i]? with
 |some (.own _ _)=>(d e).stm fun ws e1=>match ws,e1[i]? with
  |[w],some (.own b xs)=>if xs.length<16777216 then .nx (e1.set i (.own b (xs++[w])))else .no
  |_,_=>.no
 |_=>.no
theorem q5n(i:Nat)(ha:DA Z X EE (e::es) dA)(hN:X.N[i]?=some x:=by rfl)(hv:Vis X.env.scope x:=by walk_at "1")(hd:(x==("__debug__":Str))=false:=by decide)(hcd:(x==("__classdict__":Str))=false:=by decide)
  (hbase:attributeBase (.Name x p) "append" X.env (eval (.Name x p) X.env)=eval (.Name x p) X.env:=by rfl)
  (hfew:((backTo cpos (starEach (e::es) X.env)).all (fun x=>!x.1)&&(backToKw cpos (keywordEach [] X.env)).all (fun x=>x.1.isSome)&&decide ((e::es).length+([]:List Keyword).length+(if([]:List Keyword).isEmpty then 0 else 1)<30))=true:=by rfl)
  (hline:(apos.endLine==cpos.line)=true:=by rfl)(hs:starEach (e::es) X.env=(false,eval e X.env)::starEach es X.env:=by rfl)(hplain:(backTo cpos (starEach es X.env)).any (·.1)=false:=by rfl)
  (hsw:swapsWith (.Call (.Attribute (.Name x p) "append" apos) (e::es) [] cpos) none pos.line X.env=pure false:=by rfl):
  DS Z X EE (.Expr (.Call (.Attribute (.Name x p) "append" apos) (e::es) [] cpos) pos) (dApp i dA):=by
 refine PS.mono (q6x (y5r (pv i hN hv hd hcd) ha hbase hfew hline hs hplain) hsw) ?_;rintro D σ H ⟨G,e,rel,h⟩;unfold dApp at h;split at h
 ·rename_i b0 ws0 he0;obtain⟨a,xs,h1,h2,h3,h4,h5⟩:=rel.own he0;refine⟨.ref a,h1,.inl ⟨rfl,xs,SqL.of h2⟩,G,e,rel,(q0u h).imp (fun ws e1 h G1 vs H1 r1 s1 p1=>?_) fun _ _ h=>h⟩
  split at h
  ·rename_i w b ys he1;obtain⟨a',zs,g1,g2,g3,g4,g5⟩:=r1.own he1;rw[h1]at g1;cases g1;obtain⟨y,r,rfl,py,pr⟩:=p1;cases(show r=[]from pr);split at h
   ·rename_i hl;refine⟨a,zs,y,rfl,rfl,g2,by rw[g5.length,sizeLine_eq];exact hl,?_⟩;exact h G1 σ _ (r1.mut he1 h1 (g5.append (.one py))) s1
   ·exact h.elim
  ·exact h.elim
 ·exact h.elim
end
def compD(c:Den Bool)(d:Den W)(pe:List S):List W->Option (List W)
 |[]=>some []
 |w::ws=>match c (.fr w::pe)with
  |.ok true e1=>match d e1 with
   |.ok y _=>(compD c d pe ws).map (y::·)
   |_=>none
  |.ok false _=>compD c d pe ws
  |_=>none
def frz1(e:List S)(j:Nat):List S:=match e[j]? with
 |some (.own none ws)=>e.set j (.fr (.lst ws))
 |_=>e
def frzs(js:List Nat)(e:List S):List S:=js.foldl frz1 e
def pj1(e:List S)(j:Nat):S:=match e[j]? with
 |some (.fr w)=>.fr w
 |_=>.no
def pjS(js:List Nat)(e:List S):List S:=js.map (pj1 e)
def compK(js:List Nat)(c:Den Bool)(d:Den W)(ws:List W)(e1:List S):R (List W):=
 if ws.length<=16777216 then(match compD c d (pjS js (frzs js e1)) ws with
  |some out=>.ok out (frzs js e1)
  |none=>.no)else .no
def dComp(js:List Nat)(di:Den W)(c:Den Bool)(d:Den W):Den (List W):=fun e=>(di e).bind fun w e1=>match seqW w with
 |some ws=>compK js c d ws e1
 |none=>.no
def dYes:Den Bool:=fun e=>.ok true e
section
variable{H1:Hp}{e1:List S}
theorem Rel.frzs(r:Rel K Z G σ H e):∀(js:List Nat),∃G',Same G G'/\Rel K Z G' σ H (frzs js e):=by
 intro js
 induction js generalizing G e with
 |nil=>exact⟨G,.refl _,r⟩
 |cons j js ih=>
  have one:∃G',Same G G'/\Rel K Z G' σ H (frz1 e j):=by
   unfold frz1;split
   ·rename_i ws hw;obtain⟨v,G',_,s,_,r'⟩:=r.freeze hw;exact⟨G',s,r'⟩
   ·exact⟨G,.refl _,r⟩
  obtain⟨G1,s1,r1⟩:=one;obtain⟨G2,s2,r2⟩:=ih r1;exact⟨G2,s1.trans s2,r2⟩
theorem Rel.block(r:Rel K Z G σ H e)(js:List Nat){x:V}(p:Rep K G w x):Rel K ⟨H,G,[]⟩ G (some x::pj js σ) H (.fr w::pjS js e):=by
 have hfr:∀(i:Nat)(s:S),(S.fr w::pjS js e)[i]?=some s->s=.no\/∃u,s=.fr u/\((i=0/\u=w)\/∃k j,i=k+1/\js[k]?=some j/\e[j]?=some (.fr u)):=fun i s h=>by
  cases i with
  |zero=>cases h;exact .inr ⟨w,rfl,.inl ⟨rfl,rfl⟩⟩
  |succ k=>
   rw[w0w]at h;unfold pjS at h;rw[w0j]at h;obtain⟨j,h1,h2⟩:=w0e.mp h;unfold pj1 at h2;split at h2
   ·rename_i u hu;subst h2;exact .inr ⟨u,rfl,.inr ⟨k,j,rfl,h1,hu⟩⟩
   ·subst h2;exact .inl rfl
 refine⟨r.sub,fun i s h=>?_,?_,fun i j b b' w1 w2 a h1 h2 _ _=>?_,fun a o h _=>h,(fun a h=>nomatch h),fun a _=>rfl⟩
 ·rcases hfr i s h with rfl|⟨u,rfl,⟨rfl,rfl⟩|⟨k,j,rfl,h1,h2⟩⟩
  ·trivial
  ·exact⟨x,rfl,p⟩
  ·obtain⟨v,h3,h4⟩:=r.fr h2;refine⟨v,?_,h4⟩;rw[w0w];unfold pj;rw[w0j,h1];simp[h3]
 ·simp[pjS,pj]
 ·rcases hfr i _ h1 with z|⟨u,z,_⟩<;>cases z
theorem Rel.mutFree(r:Rel K Z G σ H e){o:HO}(hg:G a=none)(hz:Z.H a=none)(hi:a∉Z.io)(hf:Free σ e a){ls:List V}(hls:H a=some (.lst ls)):Rel K Z G σ (upd H a o) e:=by
 refine⟨fun c u z=>?_,fun j s z=>?_,r.len,r.dis,fun c u z n=>?_,fun c z=>?_,r.gen⟩
 ·rw[q0c (q0n z hg)];exact r.sub c u z
 ·have y:=r.slot j s z;cases s with
  |no=>trivial
  |fr w=>exact y
  |own b2 w2=>
   obtain⟨c,ys,y1,y2,y3,y4,y5⟩:=y;refine⟨c,ys,y1,?_,y3,y4,y5⟩;rw[q0c];exact y2;rintro rfl;obtain⟨c',_,z1,_⟩:=r.own z;rw[z1]at y1;cases y1;exact hf j b2 w2 z z1
  |nest wss=>exact NestOk.move y (.refl _) fun l o ys k1 k2 k3=>⟨by rw[q0c (q0x k1 hls (fun z=>nomatch z))];exact k1,k2,k3⟩
  |x k=>exact XOk.move y (.refl _) fun l o ys k1 k2 k3=>⟨by rw[q0c (q0x k1 hls (fun z=>nomatch z))];exact k1,k2,k3⟩
  |dw sh ks ws=>exact DwOk.move y (.refl _) fun l o ys k1 k2 k3=>⟨by rw[q0c (q0x k1 hls (q1f rfl))];exact k1,k2,k3⟩
 ·rw[q0c (q0n z hz)];exact r.ent c u z n
 ·by_cases hc:c=a
  ·subst hc;exact absurd z hi
  ·rw[q0c hc];exact r.ion c z
structure Walk(J:It)(xs:List V)(SQ:Hp->Prop):Prop where
 go:∀i H,SQ H->i<xs.length->J.go i H
 yld:∀i H x H',SQ H->J.yld i H x H'->i<xs.length->H'=H/\xs[i]?=some x
 stop:∀i H,SQ H->xs.length<=i->J.stop i H
theorem q8e:Walk (Itl K a) xs (fun H=>SqL K H a xs):=
 ⟨fun i H q h=>⟨xs,xs[i],q,by simp[h]⟩,fun i H x H' q ⟨e,y⟩ h=>⟨e,y xs q⟩,fun i H q h=>⟨xs,q,h⟩⟩
theorem q8f:Walk (Itt K a) xs (fun H=>SqT K H a xs):=
 ⟨fun i H q h=>⟨xs,xs[i],q,by simp[h]⟩,fun i H x H' q ⟨e,y⟩ h=>⟨e,y xs q⟩,fun i H q h=>⟨xs,q,h⟩⟩
theorem x2t{SQ:Hp->Prop}{out:List W}{Q:VK}{G0:Hp}(W0:Walk J xs SQ)(r1:Rel K Z G1 σ H1 e1)(s1:Same G0 G1)(rp:Reps K G1 ws xs)(hSQ:∀G' H',Same G1 G'->Same G' H'->SQ H')(hl:ws.length<=16777216)
  (hz:∀p,H1 p=none->p∉Z.io)(hc:compD c d (pjS js e1) ws=some out)
  (h:∀G' a xs H',Rel K Z G' σ H' e1->Same G0 G'->H' a=some (.lst xs)->G' a=none->Z.H a=none->Free σ e1 a->Reps K G' out xs->Q (.ref a) H'):
  ∀D,H1 D=none->∃W:Nat->Nat->Hp->Prop,(∃m,W 0 m (upd H1 D (.lst [])))/\∀i m H2,W i m H2 ->
   (J.stop i H2/\Q (.ref D) H2)\/(J.go i H2/\∀x H3,J.yld i H2 x H3->gName 0 x (List.replicate 1 none++pj js σ) H3 fun σ4 H4=>Kp (List.replicate 1 none++pj js σ) σ4/\(fun σ H Q=>∃Z',liftT K Z' (fun _=>E0) c σ H Q) σ4 H4 fun b H5=>
    if b=true then(fun σ H Q=>∃Z',AtG K Z' σ H fun G e=>(d e).holds (fun w e'=>∀G' v H',Rel K Z' G' σ H' e'->Same G G'->Rep K G' w v->Q v H') (XH K Z' (fun _=>E0) σ G)) σ4 H5 fun y H6=>∃ys,H6 D=some (.lst ys)/\ys.length<sizeLine/\∃m',m'<m/\W (i+1) m' (upd H6 D (.lst (ys++[y])))else ∃m',m'<m/\W (i+1) m' H5):=by
 intro D hD;have hlen:=rp.length
 refine⟨fun i m H2=>m=ws.length-i/\i<=ws.length/\∃G2 ys done rest,Rel K Z G2 σ H2 e1/\Same G1 G2/\H2 D=some (.lst ys)/\G2 D=none/\Reps K G2 done ys/\done.length<=i/\compD c d (pjS js e1) (ws.drop i)=some rest/\done++rest=out,
  ⟨ws.length,by omega,w1b _,G1,[],[],out,r1.grow (Grow.hid r1.sub hD _),.refl _,q0d,r1.sub.free hD,rfl,w0g _,hc,rfl⟩,?_⟩
 rintro i m H2 ⟨rfl,hi,G2,ys,done,rest,r2,s2,hd2,hg2,rp2,hdl,hc2,ho⟩;have hfree:Free σ e1 D:=q35 r1 hD;have hzh:Z.H D=none:=q2h r1 hD
 by_cases hlt:i<ws.length
 ·refine .inr ⟨W0.go i H2 (hSQ G2 H2 s2 r2.sub) (by omega),fun x H3 hy=>?_⟩
  obtain⟨rfl,hx⟩:=W0.yld i H2 x H3 (hSQ G2 H2 s2 r2.sub) hy (by omega);obtain⟨w,hw,pw⟩:=rp.getV hx;rw[q6h hw]at hc2;refine⟨Kp.one,⟨H3,G2,[]⟩,G2,.fr w::pjS js e1,r2.block js (Rep.mono s2 w pw),?_⟩;unfold compD at hc2;cases qc:c (.fr w::pjS js e1)with
  |no=>rw[qc]at hc2;cases hc2
  |ex _ _=>rw[qc]at hc2;cases hc2
  |ok k e2=>
   rw[qc]at hc2;intro G3 H5 r3 s3;have g3:=r3.toGrow s3;cases k with
   |false=>
    exact⟨ws.length-(i+1),by omega,rfl,hlt,G3,ys,done,rest,r2.grow g3,s2.trans s3,g3.hh _ _ hd2,by rw[g3.new D (by rw[hd2];simp)];exact hg2,Reps.mono s3 _ rp2,by omega,hc2,ho⟩
   |true=>
    refine⟨⟨H3,G2,[]⟩,G3,e2,r3,?_⟩;dsimp only at hc2;cases qd:d e2 with
    |no=>rw[qd]at hc2;cases hc2
    |ex _ _=>rw[qd]at hc2;cases hc2
    |ok y e3=>
     rw[qd]at hc2;intro G4 v H6 r4 s4 p4;have g4:=r4.toGrow (s3.trans s4);obtain⟨rest',hr,rfl⟩:=w0e.mp hc2;have hd6:H6 D=some (.lst ys):=g4.hh _ _ hd2;have hg6:G4 D=none:=by rw[g4.new D (by rw[hd2];simp)];exact hg2
     refine⟨ys,hd6,?_,ws.length-(i+1),by omega,rfl,hlt,G4,ys++[v],done++[y],rest',(r2.grow g4).mutFree hg6 hzh (hz D hD) hfree hd6,s2.trans (s3.trans s4),q0d,hg6,(Reps.mono (s3.trans s4) _ rp2).append (.one p4),by simp;omega,hr,by rw[w2g];exact ho⟩;rw[rp2.length,sizeLine_eq];omega
 ·have:i=ws.length:=by omega
  subst this;rw[w2p]at hc2;cases hc2;rw[w1j]at ho;subst ho;exact .inl ⟨W0.stop _ H2 (hSQ G2 H2 s2 r2.sub) (by omega),h G2 D ys H2 r2 (s1.trans s2) hd2 hg2 hzh hfree rp2⟩
end
section
variable{elt iter a b:Expr}{ifs:List Expr}{scope sc:Scope}{pt:Pos}{Nf N:List Str}{di:Den W}
def DTs(Z:Zt)(X:Cx)(EE:L2.St->XK)(ifs:List Expr)(c:Den Bool):Prop:=PTs X ifs (liftT X.K Z EE c)
theorem q25:DTs Z X EE [] dYes:=fun pins s σ H Q I ⟨G,e,r,h⟩=>y1f pins s σ H Q I (h G H r (.refl _))
def cT(K:Fg)(c:Den Bool):TT:=fun σ H Q=>∃Z',liftT K Z' (fun _=>E0) c σ H Q
def cE(K:Fg)(d:Den W):TE:=fun σ H Q=>∃Z',AtG K Z' σ H fun G e=>(d e).holds (fun w e'=>∀G' v H',Rel K Z' G' σ H' e'->Same G G'->Rep K G' w v->Q v H') (XH K Z' (fun _=>E0) σ G)
theorem x5i{D:Ends}{r:R (List W)}{k:W->List S->SR}(h:PostS K Z EE D G ((r.bind fun ws e'=>.ok (.lst ws) e').stm k)):r.holds (fun ws e'=>PostS K Z EE D G (k (.lst ws) e')) (XH K Z EE σ G):=by
 cases r with
 |ok a e=>exact h
 |ex c e=>exact fun G' H' r q=>h G' σ H' r q
 |no=>exact h
theorem q61{Y:List Str}(ht:∀Z' cl C s₀ H₀ ex,DTs Z' (X.cp Y scope cl C s₀ H₀ ex) (fun _=>E0) ifs c):∀cl C s₀ H₀ ex,PTs (X.cp Y scope cl C s₀ H₀ ex) ifs (cT X.K c):=fun cl C s₀ H₀ ex pins s σ H Q I ⟨Z',h⟩=>ht Z' cl C s₀ H₀ ex pins s σ H Q I h
theorem x0g{Y:List Str}(he:∀Z' cl C s₀ H₀ ex,DE Z' (X.cp Y scope cl C s₀ H₀ ex) (fun _=>E0) elt d):∀cl C s₀ H₀ ex,PE (X.cp Y scope cl C s₀ H₀ ex) elt (cE X.K d):=fun cl C s₀ H₀ ex pins s σ H Q I ⟨Z',h⟩=>he Z' cl C s₀ H₀ ex pins s σ H Q I h
theorem ionone(r:Rel K Z G σ H e):∀p,H p=none->p∉Z.io:=fun p hp hi=>r.ion p hi hp
theorem q6j:∀σ H Q,liftF K Z EE (dComp js di c d) σ H Q->tComp (iSeq K (liftE K Z EE di)) 1 js (gName 0) (cT K c) (cE K d) σ H Q:=by
 rintro σ H Q ⟨G,e,rel,h⟩;simp only[dComp,R.holds_bind]at h;refine⟨G,e,rel,h.imp (fun w e1 h G1 v1 H1 r1 s1 p1=>?_) fun _ _ h=>h⟩
 split at h
 ·rename_i ws hw;unfold compK at h;split at h
  ·rename_i hl;split at h
   ·rename_i out ho;obtain⟨G2,s2,r2⟩:=r1.frzs js;have p2:=Rep.mono s2 w p1;have io:=ionone r2;cases w with
    |tup us=>
     cases hw;obtain⟨a,xs,rfl,hq,rp⟩:=p2;exact⟨a,rfl,.inr ⟨⟨xs,r2.sub.tup hq⟩,x2t q8f r2 (s1.trans s2) rp (fun G' H' s s'=>Same.tup s' (Same.tup s hq)) hl io ho h⟩⟩
    |lst us=>
     cases hw;obtain⟨a,xs,rfl,hq,rp⟩:=p2;exact⟨a,rfl,.inl ⟨⟨xs,r2.sub.seq hq⟩,x2t q8e r2 (s1.trans s2) rp (fun G' H' s s'=>Same.seq s' (Same.seq s hq)) hl io ho h⟩⟩
    |_=>cases hw
   ·exact h.elim
  ·exact h.elim
 ·exact h.elim
theorem q62(hc:X.calm=true)(hi:DE Z X EE iter di)(ok:compOk sc scope N Nf js=true)
  (ht:∀Z' cl C s₀ H₀ ex,DTs Z' (X.cp ([x]++Nf) scope cl C s₀ H₀ ex) (fun _=>E0) ifs c)(he:∀Z' cl C s₀ H₀ ex,DE Z' (X.cp ([x]++Nf) scope cl C s₀ H₀ ex) (fun _=>E0) elt d)
  (hg:∀cl C s₀ H₀ ex,PG (X.cp ([x]++Nf) scope cl C s₀ H₀ ex) (.Name x pt) (gName 0))
  (hsc:X.env.scope=sc:=by rfl)(hN:X.N=N:=by rfl)(hs:∀x,foldedSetIterable iter X.env x=pure x:=by intro _;rfl):
  DF Z X EE (.ListComp elt [⟨.Name x pt,iter,ifs,0⟩] scope pos) (dComp js di c d):=by
 exact PE.mono (q7l (Nl:=[x]) (tc:=cT X.K c) (te:=cE X.K d) hc (q45 hi) ok hg (q61 ht) (x0g he) hsc hN hs) q6j
theorem x32(i:Nat){py spos:Pos}(hNd:X.N.Nodup)(hc:X.calm=true)(hi:DE Z X EE iter di)(ok:compOk sc scope N Nf js=true)
  (ht:∀Z' cl C s₀ H₀ ex,DTs Z' (X.cp ([x]++Nf) scope cl C s₀ H₀ ex) (fun _=>E0) ifs c)(he:∀Z' cl C s₀ H₀ ex,DE Z' (X.cp ([x]++Nf) scope cl C s₀ H₀ ex) (fun _=>E0) elt d)
  (hg:∀cl C s₀ H₀ ex,PG (X.cp ([x]++Nf) scope cl C s₀ H₀ ex) (.Name x pt) (gName 0))
  (hsc:X.env.scope=sc:=by rfl)(hN:X.N=N:=by rfl)(hs:∀x,foldedSetIterable iter X.env x=pure x:=by intro _;rfl)(hiy:X.N[i]?=some y:=by rfl)(hxy:Loc X.env.scope y:=by walk_at "3")(hfy:X.fn y=true\/X.env.scope.names.lookup y=some .local:=by walk_at "2")(hsw:swapsWith (.ListComp elt [⟨.Name x pt,iter,ifs,0⟩] scope pos) (some (.Name y py)) spos.line X.env=pure true:=by rfl):
  DS Z X EE (.Assign [.Name y py] (.ListComp elt [⟨.Name x pt,iter,ifs,0⟩] scope pos) spos) (dSet i (dFz (dComp js di c d))):=by
 refine PS.mono (q6i (Nl:=[x]) (tc:=cT X.K c) (te:=cE X.K d) hc (q45 hi) ok hg (q61 ht) (x0g he) (q1y i hNd hiy hxy hfy) hsw hsc hN hs) ?_;rintro D σ H ⟨G,e,rel,h⟩;refine q6j σ H _ ⟨G,e,rel,?_⟩;refine(x5i h).imp (fun w e1 h G1 a xs H1 r1 s1 q1 q2 q3 q4 p1=>?_) fun _ _ h=>h
 obtain⟨sg,rg⟩:=r1.seen q1 q2 q3 q4;exact h _ _ H1 (rg.set (v:=.ref a) ⟨a,xs,rfl,SqL.of q0d,Reps.mono sg w p1⟩) (s1.trans sg)
theorem x33(i:Nat){py spos:Pos}(hNd:X.N.Nodup)(hc:X.calm=true)(hi:DE Z X EE iter di)(ok:compOk sc scope N Nf js=true)
  (ht:∀Z' cl C s₀ H₀ ex,DTs Z' (X.cp ([x]++Nf) scope cl C s₀ H₀ ex) (fun _=>E0) ifs c)(he:∀Z' cl C s₀ H₀ ex,DE Z' (X.cp ([x]++Nf) scope cl C s₀ H₀ ex) (fun _=>E0) elt d)
  (hg:∀cl C s₀ H₀ ex,PG (X.cp ([x]++Nf) scope cl C s₀ H₀ ex) (.Name x pt) (gName 0))
  (hsc:X.env.scope=sc:=by rfl)(hN:X.N=N:=by rfl)(hs:∀x,foldedSetIterable iter X.env x=pure x:=by intro _;rfl)(hiy:X.N[i]?=some y:=by rfl)(hxy:Loc X.env.scope y:=by walk_at "3")(hfy:X.fn y=true\/X.env.scope.names.lookup y=some .local:=by walk_at "2")(hsw:swapsWith (.ListComp elt [⟨.Name x pt,iter,ifs,0⟩] scope pos) (some (.Name y py)) spos.line X.env=pure true:=by rfl):
  DS Z X EE (.Assign [.Name y py] (.ListComp elt [⟨.Name x pt,iter,ifs,0⟩] scope pos) spos) (dSetO i (dComp js di c d)):=by
 refine PS.mono (q6i (Nl:=[x]) (tc:=cT X.K c) (te:=cE X.K d) hc (q45 hi) ok hg (q61 ht) (x0g he) (q1y i hNd hiy hxy hfy) hsw hsc hN hs) ?_;rintro D σ H ⟨G,e,rel,h⟩;refine q6j σ H _ ⟨G,e,rel,?_⟩;exact(q0u h).imp (fun w e1 h G1 a xs H1 r1 s1 q1 q2 q3 q4 p1=>h G1 _ H1 (r1.setOwn q1 q2 q3 q4 p1) s1) fun _ _ h=>h
end
mutual
def depW:W->Nat
 |.tup ws=>depWs ws+1
 |.lst ws=>depWs ws+1
 |_=>0
def depWs:List W->Nat
 |[]=>0
 |w::ws=>max (depW w) (depWs ws)
end
mutual
theorem q83(I:Inv X pins σ H s)(sg:Same G H):∀(w:W){w':W}{v:V}{k:Bool},Rep X.K G w v->Rep X.K G w' v->eqW w w'=some k->k=true
 |.non,w',v,k,h,h',e=>by
  cases(show v=.non from h);cases w'<;>first|(cases e;done)|(cases h';cases e;rfl)|(exfalso;obtain⟨_,_,z,_⟩:=h';first|done|cases z)|(exfalso;obtain⟨_,z,_⟩:=h';first|done|cases z)
 |.bl b,w',v,k,h,h',e=>by
  cases(show v=.bl b from h);cases w'<;>first|(cases e;done)|(cases h';cases e;exact beq_self_eq_true _)|(exfalso;obtain⟨_,_,z,_⟩:=h';first|done|cases z)|(exfalso;obtain⟨_,z,_⟩:=h';first|done|cases z)
 |.int b,w',v,k,h,h',e=>by
  cases(show v=.int b from h);cases w'<;>first|(cases e;done)|(cases h';cases e;exact beq_self_eq_true _)|(exfalso;obtain⟨_,_,z,_⟩:=h';first|done|cases z)|(exfalso;obtain⟨_,z,_⟩:=h';first|done|cases z)
 |.str b,w',v,k,h,h',e=>by
  cases(show v=.str b from h);cases w'<;>first|(cases e;done)|(cases h';cases e;exact beq_self_eq_true _)|(exfalso;obtain⟨_,_,z,_⟩:=h';first|done|cases z)|(exfalso;obtain⟨_,z,_⟩:=h';first|done|cases z)
 |.tup ws,w',v,k,h,h',e=>by
  obtain⟨a,xs,rfl,q,r⟩:=h;cases w' with
  |tup ws'=>
   obtain⟨a',xs',z,q',r'⟩:=h';cases z;have:=I.tuple_inj (sg.tup q) (sg.tup q');subst this;exact q7n I sg ws r r' (e)
  |lst ws'=>
   obtain⟨a',xs',z,q',r'⟩:=h';cases z;obtain⟨its,_,p1,_⟩:=I.tuple (sg.tup q);obtain⟨its2,_,p2,_⟩:=I.list (sg.seq q');exact absurd rfl (SeqAt.ne_of_list_tuple p2.isList (show s.heap.IsTuple a _ from p1))
  |non=>cases h'
  |bl _=>cases h'
  |int _=>cases h'
  |str _=>cases h'
  |exc _=>cases e
  |dw _ _ _ _=>cases e
  |fn _ _ _=>cases e
 |.lst ws,w',v,k,h,h',e=>by
  obtain⟨a,xs,rfl,q,r⟩:=h;cases w' with
  |lst ws'=>
   obtain⟨a',xs',z,q',r'⟩:=h';cases z;have:=I.list_inj (sg.seq q) (sg.seq q');subst this;exact q7n I sg ws r r' (e)
  |tup ws'=>
   obtain⟨a',xs',z,q',r'⟩:=h';cases z;obtain⟨its,_,p1,_⟩:=I.tuple (sg.tup q');obtain⟨its2,_,p2,_⟩:=I.list (sg.seq q);exact absurd rfl (SeqAt.ne_of_list_tuple p2.isList (show s.heap.IsTuple a _ from p1))
  |non=>cases h'
  |bl _=>cases h'
  |int _=>cases h'
  |str _=>cases h'
  |exc _=>cases e
  |dw _ _ _ _=>cases e
  |fn _ _ _=>cases e
 |.exc c,w',v,k,h,h',e=>by cases w'<;>cases e
 |.dw _ _ _ _,w',v,k,h,h',e=>by cases w'<;>cases e
 |.fn _ _ _,w',v,k,h,h',e=>by cases w'<;>cases e
theorem q7n(I:Inv X pins σ H s)(sg:Same G H):∀(ws:List W){ws':List W}{vs:List V}{k:Bool},Reps X.K G ws vs->Reps X.K G ws' vs->eqWs ws ws'=some k->k=true
 |[],ws',vs,k,h,h',e=>by
  cases h;cases ws' with
  |nil=>cases e;rfl
  |cons _ _=>obtain⟨_,_,z,_⟩:=h';cases z
 |w::ws,ws',vs,k,h,h',e=>by
  obtain⟨x,r,rfl,h1,h2⟩:=h;cases ws' with
  |nil=>cases h'
  |cons w' ws'=>
   obtain⟨x',r',z,h1',h2'⟩:=h';cases z;have e:(match eqW w w',eqWs ws ws' with|some a,some b=>some (a&&b)|_,_=>none)=some k:=e;cases q1:eqW w w' with
   |none=>rw[q1]at e;cases e
   |some b1=>
    cases q2:eqWs ws ws' with
    |none=>rw[q1,q2]at e;cases e
    |some b2=>
     rw[q1,q2]at e;rw[q83 I sg w h1 h1' q1,q7n I sg ws h2 h2' q2]at e;cases e;rfl
end
theorem q36:∀{xs ys:List W}{b:Bool},eqWs xs ys=some b->(∀(j:Nat) x y,xs[j]?=some x->ys[j]?=some y->∃k,eqW x y=some k)/\b=((List.range (min xs.length ys.length)).all (fun j=>((eqW (xs.getD j .non) (ys.getD j .non)).getD false))&&xs.length==ys.length):=by
 intro xs
 induction xs with
 |nil=>
  intro ys b h;refine⟨fun j x y hx=>by simp at hx,?_⟩
  cases ys<;>(cases h;simp)
 |cons x xs ih=>
  intro ys b h;cases ys with
  |nil=>refine⟨fun j x y hx hy=>by simp at hy,?_⟩;cases h;simp
  |cons y ys=>
   have h:(match eqW x y,eqWs xs ys with|some a,some b=>some (a&&b)|_,_=>none)=some b:=h;cases q1:eqW x y with
   |none=>rw[q1]at h;cases h
   |some b1=>
    cases q2:eqWs xs ys with
    |none=>rw[q1,q2]at h;cases h
    |some b2=>
     rw[q1,q2]at h;cases h;obtain⟨h1,h2⟩:=ih q2;refine⟨fun j x' y' hx hy=>?_,?_⟩
     ·cases j with
      |zero=>simp at hx hy;subst hx hy;exact⟨_,q1⟩
      |succ j=>exact h1 j x' y' (by simpa using hx) (by simpa using hy)
     ·rw[h2];simp only[w0x,Nat.succ_min_succ,List.range_succ_eq_map,w1o,w4l]
      have e0:(eqW ((x::xs).getD 0 .non) ((y::ys).getD 0 .non)).getD false=b1:=by
       show(eqW x y).getD false=b1;rw[q1];rfl
      rw[e0,Bool.and_assoc];congr 1;congr 1;simp
theorem q6k:∀{xs:List W}{j:Nat}{x:W},xs[j]?=some x->depW x<=depWs xs
 |[],_,_,h=>by simp at h
 |y::ys,0,x,h=>by simp at h;subst h;simp only[depWs];omega
 |y::ys,j+1,x,h=>by
  have:=q6k (xs:=ys) (j:=j) (by simpa using h);simp only[depWs];omega
theorem q63{xs:List α}{x d:α}(h:xs[j]?=some x):xs.getD j d=x:=by
 simp[List.getD,h]
theorem x02(I:Inv X pins σ H s)(sg:Same G H){b:Bool}(hu:A.units<cLine)(n1:∀ws,w=.tup ws->∀ws',w'≠.tup ws')(n2:∀ws,w=.lst ws->∀ws',w'≠.lst ws')(h:Rep X.K G w v)(h':Rep X.K G w' v')(r:RelV v u)(r':RelV v' u')(e:eqW w w'=some b):SeqAt.RcAt A s u u' b:=by
 have tl:∀{ws:List W}{v:V}{u:Value},Rep X.K G (.lst ws) v->RelV v u->∃l items,u=.ref l/\s.heap.IsList l items:=fun h r=>by
  obtain⟨a,xs,rfl,q,_⟩:=h;cases r;obtain⟨its,_,p,_⟩:=I.list (sg.seq q);exact⟨a,_,rfl,p.isList⟩
 have tt:∀{ws:List W}{v:V}{u:Value},Rep X.K G (.tup ws) v->RelV v u->∃l items,u=.ref l/\s.heap.IsTuple l items:=fun h r=>by
  obtain⟨a,xs,rfl,q,_⟩:=h;cases r;obtain⟨its,_,p,_⟩:=I.tuple (sg.tup q);exact⟨a,_,rfl,p⟩
 have tn:∀{v:V}{u:Value},Rep X.K G .non v->RelV v u->u=.none:=fun h r=>by cases h;exact r
 have tb:∀{k:Bool}{v:V}{u:Value},Rep X.K G (.bl k) v->RelV v u->u=.bool k:=fun h r=>by cases h;exact r
 have ti:∀{k:Int}{v:V}{u:Value},Rep X.K G (.int k) v->RelV v u->∃t,u=.int k t:=fun h r=>by cases h;exact r
 have ts:∀{k:Str}{v:V}{u:Value},Rep X.K G (.str k) v->RelV v u->∃t,u=.str k t:=fun h r=>by cases h;exact r
 cases w with
 |non=>
  obtain rfl:=tn h r;cases w' with
  |non=>obtain rfl:=tn h' r';cases e;exact .none_none
  |bl k=>obtain rfl:=tb h' r';cases e;exact .none_bool k
  |int k=>obtain⟨t,rfl⟩:=ti h' r';cases e;exact .none_int k t
  |str k=>obtain⟨t,rfl⟩:=ts h' r';cases e;exact .none_str k t
  |tup k=>obtain⟨l,it,rfl,p⟩:=tt h' r';cases e;exact .none_tuple p hu
  |lst k=>obtain⟨l,it,rfl,p⟩:=tl h' r';cases e;exact .none_list p hu
  |exc k=>cases e
  |dw _ _ _ _=>cases e
  |fn _ _ _=>cases e
 |bl j=>
  obtain rfl:=tb h r;cases w' with
  |non=>obtain rfl:=tn h' r';cases e;exact .bool_none j
  |bl k=>obtain rfl:=tb h' r';cases e;exact .bool_bool j k
  |int k=>obtain⟨t,rfl⟩:=ti h' r';cases e;exact .bool_int j k t
  |str k=>obtain⟨t,rfl⟩:=ts h' r';cases e;exact .bool_str j k t
  |tup k=>obtain⟨l,it,rfl,p⟩:=tt h' r';cases e;exact .bool_tuple j p hu
  |lst k=>obtain⟨l,it,rfl,p⟩:=tl h' r';cases e;exact .bool_list j p hu
  |exc k=>cases e
  |dw _ _ _ _=>cases e
  |fn _ _ _=>cases e
 |int j=>
  obtain⟨t1,rfl⟩:=ti h r;cases w' with
  |non=>obtain rfl:=tn h' r';cases e;exact .int_none j t1
  |bl k=>obtain rfl:=tb h' r';cases e;exact .int_bool j t1 k
  |int k=>obtain⟨t,rfl⟩:=ti h' r';cases e;exact .int_int j t1 k t
  |str k=>obtain⟨t,rfl⟩:=ts h' r';cases e;exact .int_str j t1 k t
  |tup k=>obtain⟨l,it,rfl,p⟩:=tt h' r';cases e;exact .int_tuple j t1 p hu
  |lst k=>obtain⟨l,it,rfl,p⟩:=tl h' r';cases e;exact .int_list j t1 p hu
  |exc k=>cases e
  |dw _ _ _ _=>cases e
  |fn _ _ _=>cases e
 |str j=>
  obtain⟨t1,rfl⟩:=ts h r;cases w' with
  |non=>obtain rfl:=tn h' r';cases e;exact .str_none j t1
  |bl k=>obtain rfl:=tb h' r';cases e;exact .str_bool j t1 k
  |int k=>obtain⟨t,rfl⟩:=ti h' r';cases e;exact .str_int j t1 k t
  |str k=>obtain⟨t,rfl⟩:=ts h' r';cases e;exact .str_str j t1 k t
  |tup k=>obtain⟨l,it,rfl,p⟩:=tt h' r';cases e;exact .str_tuple j t1 p hu
  |lst k=>obtain⟨l,it,rfl,p⟩:=tl h' r';cases e;exact .str_list j t1 p hu
  |exc k=>cases e
  |dw _ _ _ _=>cases e
  |fn _ _ _=>cases e
 |tup j=>
  obtain⟨l1,it1,rfl,p1⟩:=tt h r;cases w' with
  |non=>obtain rfl:=tn h' r';cases e;exact .tuple_none p1 hu
  |bl k=>obtain rfl:=tb h' r';cases e;exact .tuple_bool k p1 hu
  |int k=>obtain⟨t,rfl⟩:=ti h' r';cases e;exact .tuple_int k t p1 hu
  |str k=>obtain⟨t,rfl⟩:=ts h' r';cases e;exact .tuple_str k t p1 hu
  |tup k=>exact absurd rfl (n1 j rfl k)
  |lst k=>obtain⟨l,it,rfl,p⟩:=tl h' r';cases e;exact .tuple_list p1 p hu
  |exc k=>cases e
  |dw _ _ _ _=>cases e
  |fn _ _ _=>cases e
 |lst j=>
  obtain⟨l1,it1,rfl,p1⟩:=tl h r;cases w' with
  |non=>obtain rfl:=tn h' r';cases e;exact .list_none p1 hu
  |bl k=>obtain rfl:=tb h' r';cases e;exact .list_bool k p1 hu
  |int k=>obtain⟨t,rfl⟩:=ti h' r';cases e;exact .list_int k t p1 hu
  |str k=>obtain⟨t,rfl⟩:=ts h' r';cases e;exact .list_str k t p1 hu
  |lst k=>exact absurd rfl (n2 j rfl k)
  |tup k=>obtain⟨l,it,rfl,p⟩:=tt h' r';cases e;exact .list_tuple p1 p hu
  |exc k=>cases e
  |dw _ _ _ _=>cases e
  |fn _ _ _=>cases e
 |exc j=>cases w'<;>cases e
 |dw _ _ _ _=>cases w'<;>cases e
 |fn _ _ _=>cases w'<;>cases e
theorem x2u(I:Inv X pins σ H s)(sg:Same G H){b:Bool}(hd:depW w<=0)(hu:A.units<cLine)(h:Rep X.K G w v)(h':Rep X.K G w' v')(r:RelV v u)(r':RelV v' u')(e:eqW w w'=some b):SeqAt.RcAt A s u u' b:=
 x02 I sg hu (fun ws z=>by subst z;simp[depW]at hd) (fun ws z=>by subst z;simp[depW]at hd) h h' r r' e
theorem x03(h:Rep K G w v):∀x,v≠.flt x:=fun x z=>by
 subst z;cases w with
 |tup ws=>obtain⟨_,_,z,_⟩:=h;cases z
 |lst ws=>obtain⟨_,_,z,_⟩:=h;cases z
 |exc c=>obtain⟨_,z,_⟩:=h;cases z
 |dw _ _ _ _=>obtain⟨_,_,_,z,_⟩:=h;cases z
 |fn _ _ _=>obtain⟨_,_,_,_,z,_⟩:=h;cases z
 |_=>cases h
theorem x04{b:Bool}(rv:RelV v u)(hf:∀x,v≠.flt x)(h:SeqAt.RcAt A s u u' b)(hs:u=u'->b=true):SeqAt.EqAt A s u u' b:=fun prog w E Q hq=>by
 unfold eqBool;refine wpAny_holding ?_;refine wpAny_ite_split (fun hab=>?_) (fun _=>?_)
 ·have hb:=hs (eq_of_beq hab);subst hb;exact wpAny_bind (wpAny_rule (wpAny_pure hq))
 ·have z:=wpAny_bind (h prog w E (fun a s'=>wpAny (model prog w) A (truthOfDropped a) Q E s') (wpAny_truthy_bool hq))
  cases v with
  |flt x=>exact absurd rfl (hf x)
  |non=>cases rv;exact z
  |bl _=>cases rv;exact z
  |int _=>obtain⟨t,rfl⟩:=rv;exact z
  |str _=>obtain⟨t,rfl⟩:=rv;exact z
  |byt _=>obtain⟨t,rfl⟩:=rv;exact z
  |ref _=>cases rv;exact z
  |ty _=>cases rv;exact z
theorem y0s(I:Inv X pins σ H s)(sg:Same G H):∀(n:Nat){w w':W}{v v':V}{u u':Value}{b:Bool}{A:Around},depW w<=n->A.units+n<cLine->Rep X.K G w v->Rep X.K G w' v'->RelV v u->RelV v' u'->eqW w w'=some b->SeqAt.RcAt A s u u' b:=by
 intro n
 induction n with
 |zero=>
  intro w w' v v' u u' b A hd hu h h' r r' e;exact x2u I sg hd (by omega) h h' r r' e
 |succ n ih=>
  intro w w' v v' u u' b A hd hu h h' r r' e
  have items:∀{ws ws':List W}{xs xs':List V}{its its':List Value}{k:Bool},depWs ws<=n->Reps X.K G ws xs->Reps X.K G ws' xs'->Vals xs its->Vals xs' its'->eqWs ws ws'=some k ->
    ∀j (h1:j<its.toArray.size) (h2:j<its'.toArray.size),SeqAt.EqAt A.in1 s its.toArray[j] its'.toArray[j] ((eqW (ws.getD j .non) (ws'.getD j .non)).getD false):=by
   intro ws ws' xs xs' its its' k hd r1 r2 v1 v2 he j h1 h2;have l1:=r1.length;have l2:=r2.length;have m1:=v1.length;have m2:=v2.length;have i1:j<xs.length:=by rw[m1];simpa using h1
   have i2:j<xs'.length:=by rw[m2];simpa using h2
   obtain⟨u1,e1,ru1⟩:=v1.get (w0d i1);obtain⟨u2,e2,ru2⟩:=v2.get (w0d i2);obtain⟨w1,f1,p1⟩:=r1.getV (w0d i1);obtain⟨w2,f2,p2⟩:=r2.getV (w0d i2);obtain⟨b',hb'⟩:=(q36 he).1 j w1 w2 f1 f2;rw[q63 f1,q63 f2,hb']
   have g1:its.toArray[j]=u1:=by
    obtain⟨_,z⟩:=w0b.mp e1
    simpa using z
   have g2:its'.toArray[j]=u2:=by
    obtain⟨_,z⟩:=w0b.mp e2
    simpa using z
   rw[g1,g2];have hdw:depW w1<=n:=w1c (q6k f1) hd
   have hun:A.in1.units+n<cLine:=by
    have:A.in1.units=A.units+1:=rfl;omega
   refine x04 ru1 (x03 p1) (ih hdw hun p1 p2 ru1 ru2 hb') fun z=>?_
   subst z;have:=ru1.inj ru2;rw[this]at p1;exact q83 I sg w1 p1 p2 hb'
  cases w with
  |tup ws=>
   cases w' with
   |tup ws'=>
    obtain⟨a,xs,rfl,q1,r1⟩:=h;obtain⟨a',xs',rfl,q2,r2⟩:=h';cases r;cases r';obtain⟨its,v1,p1,_⟩:=I.tuple (sg.tup q1);obtain⟨its',v2,p2,_⟩:=I.tuple (sg.tup q2);have e:eqWs ws ws'=some b:=e;have z:=SeqAt.RcAt.tuples (show s.heap.IsTuple a _ from p1) (show s.heap.IsTuple a' _ from p2) (show A.units<cLine by omega) (items (by simp only[depW]at hd;omega) r1 r2 v1 v2 e);have l1:=r1.length;have l2:=r2.length;have m1:=v1.length;have m2:=v2.length;have eb:=(q36 e).2;have n1:its.length=ws.length:=by omega
    have n2:its'.length=ws'.length:=by omega
    rw[eb];simp only[w0c,n1,n2]at z;exact z
   |_=>exact x02 I sg (by omega) (by intro ws';simp) (by intro ws';simp) h h' r r' e
  |lst ws=>
   cases w' with
   |lst ws'=>
    obtain⟨a,xs,rfl,q1,r1⟩:=h;obtain⟨a',xs',rfl,q2,r2⟩:=h';cases r;cases r';obtain⟨its,v1,p1,_⟩:=I.list (sg.seq q1);obtain⟨its',v2,p2,_⟩:=I.list (sg.seq q2);have e:eqWs ws ws'=some b:=e;have l1:=r1.length;have l2:=r2.length;have m1:=v1.length;have m2:=v2.length;have eb:=(q36 e).2;have n1:its.length=ws.length:=by omega
    have n2:its'.length=ws'.length:=by omega
    by_cases hl:ws.length=ws'.length
    ·have z:=SeqAt.RcAt.lists p1.isList p2.isList (by simp only[w0c];omega) (show A.units<cLine by omega) (items (by simp only[depW]at hd;omega) r1 r2 v1 v2 e);rw[eb,hl];simp only[w0c,n1,hl,Nat.min_self,beq_self_eq_true,w4g]at z |-
     exact z
    ·have z:=SeqAt.RcAt.lists_lengths (A:=A) p1.isList p2.isList (by simp only[w0c,bne_iff_ne];omega) (show A.units<cLine by omega)
     have:b=false:=by
      rw[eb];have:(ws.length==ws'.length)=false:=by simp[hl]
      rw[this,w4b]
     rw[this];exact z
   |_=>exact x02 I sg (by omega) (by intro ws';simp) (by intro ws';simp) h h' r r' e
  |_=>exact x2u I sg (by simp[depW]) (by omega) h h' r r' e
theorem q7o(I:Inv X pins σ H s)(sg:Same G H){b:Bool}(hu:A.units<cLine)(n1:∀ws,w=.tup ws->∀ws',w'≠.tup ws')(n2:∀ws,w=.lst ws->∀ws',w'≠.lst ws')(h:Rep X.K G w v)(h':Rep X.K G w' v')(r:RelV v u)(r':RelV v' u')(e:eqW w w'=some b):SeqAt.RcNeAt A s u u' (!b):=by
 have tl:∀{ws:List W}{v:V}{u:Value},Rep X.K G (.lst ws) v->RelV v u->∃l items,u=.ref l/\s.heap.IsList l items:=fun h r=>by
  obtain⟨a,xs,rfl,q,_⟩:=h;cases r;obtain⟨its,_,p,_⟩:=I.list (sg.seq q);exact⟨a,_,rfl,p.isList⟩
 have tt:∀{ws:List W}{v:V}{u:Value},Rep X.K G (.tup ws) v->RelV v u->∃l items,u=.ref l/\s.heap.IsTuple l items:=fun h r=>by
  obtain⟨a,xs,rfl,q,_⟩:=h;cases r;obtain⟨its,_,p,_⟩:=I.tuple (sg.tup q);exact⟨a,_,rfl,p⟩
 have tn:∀{v:V}{u:Value},Rep X.K G .non v->RelV v u->u=.none:=fun h r=>by cases h;exact r
 have tb:∀{k:Bool}{v:V}{u:Value},Rep X.K G (.bl k) v->RelV v u->u=.bool k:=fun h r=>by cases h;exact r
 have ti:∀{k:Int}{v:V}{u:Value},Rep X.K G (.int k) v->RelV v u->∃t,u=.int k t:=fun h r=>by cases h;exact r
 have ts:∀{k:Str}{v:V}{u:Value},Rep X.K G (.str k) v->RelV v u->∃t,u=.str k t:=fun h r=>by cases h;exact r
 cases w with
 |non=>
  obtain rfl:=tn h r;cases w' with
  |non=>obtain rfl:=tn h' r';cases e;exact .none_none
  |bl k=>obtain rfl:=tb h' r';cases e;exact .none_bool k
  |int k=>obtain⟨t,rfl⟩:=ti h' r';cases e;exact .none_int k t
  |str k=>obtain⟨t,rfl⟩:=ts h' r';cases e;exact .none_str k t
  |tup k=>obtain⟨l,it,rfl,p⟩:=tt h' r';cases e;exact .none_tuple p hu
  |lst k=>obtain⟨l,it,rfl,p⟩:=tl h' r';cases e;exact .none_list p hu
  |exc k=>cases e
  |dw _ _ _ _=>cases e
  |fn _ _ _=>cases e
 |bl j=>
  obtain rfl:=tb h r;cases w' with
  |non=>obtain rfl:=tn h' r';cases e;exact .bool_none j
  |bl k=>obtain rfl:=tb h' r';cases e;exact .bool_bool j k
  |int k=>obtain⟨t,rfl⟩:=ti h' r';cases e;exact .bool_int j k t
  |str k=>obtain⟨t,rfl⟩:=ts h' r';cases e;exact .bool_str j k t
  |tup k=>obtain⟨l,it,rfl,p⟩:=tt h' r';cases e;exact .bool_tuple j p hu
  |lst k=>obtain⟨l,it,rfl,p⟩:=tl h' r';cases e;exact .bool_list j p hu
  |exc k=>cases e
  |dw _ _ _ _=>cases e
  |fn _ _ _=>cases e
 |int j=>
  obtain⟨t1,rfl⟩:=ti h r;cases w' with
  |non=>obtain rfl:=tn h' r';cases e;exact .int_none j t1
  |bl k=>obtain rfl:=tb h' r';cases e;exact .int_bool j t1 k
  |int k=>obtain⟨t,rfl⟩:=ti h' r';cases e;exact .int_int j t1 k t
  |str k=>obtain⟨t,rfl⟩:=ts h' r';cases e;exact .int_str j t1 k t
  |tup k=>obtain⟨l,it,rfl,p⟩:=tt h' r';cases e;exact .int_tuple j t1 p hu
  |lst k=>obtain⟨l,it,rfl,p⟩:=tl h' r';cases e;exact .int_list j t1 p hu
  |exc k=>cases e
  |dw _ _ _ _=>cases e
  |fn _ _ _=>cases e
 |str j=>
  obtain⟨t1,rfl⟩:=ts h r;cases w' with
  |non=>obtain rfl:=tn h' r';cases e;exact .str_none j t1
  |bl k=>obtain rfl:=tb h' r';cases e;exact .str_bool j t1 k
  |int k=>obtain⟨t,rfl⟩:=ti h' r';cases e;exact .str_int j t1 k t
  |str k=>obtain⟨t,rfl⟩:=ts h' r';cases e;exact .str_str j t1 k t
  |tup k=>obtain⟨l,it,rfl,p⟩:=tt h' r';cases e;exact .str_tuple j t1 p hu
  |lst k=>obtain⟨l,it,rfl,p⟩:=tl h' r';cases e;exact .str_list j t1 p hu
  |exc k=>cases e
  |dw _ _ _ _=>cases e
  |fn _ _ _=>cases e
 |tup j=>
  obtain⟨l1,it1,rfl,p1⟩:=tt h r;cases w' with
  |non=>obtain rfl:=tn h' r';cases e;exact .tuple_none p1 hu
  |bl k=>obtain rfl:=tb h' r';cases e;exact .tuple_bool k p1 hu
  |int k=>obtain⟨t,rfl⟩:=ti h' r';cases e;exact .tuple_int k t p1 hu
  |str k=>obtain⟨t,rfl⟩:=ts h' r';cases e;exact .tuple_str k t p1 hu
  |tup k=>exact absurd rfl (n1 j rfl k)
  |lst k=>obtain⟨l,it,rfl,p⟩:=tl h' r';cases e;exact .tuple_list p1 p hu
  |exc k=>cases e
  |dw _ _ _ _=>cases e
  |fn _ _ _=>cases e
 |lst j=>
  obtain⟨l1,it1,rfl,p1⟩:=tl h r;cases w' with
  |non=>obtain rfl:=tn h' r';cases e;exact .list_none p1 hu
  |bl k=>obtain rfl:=tb h' r';cases e;exact .list_bool k p1 hu
  |int k=>obtain⟨t,rfl⟩:=ti h' r';cases e;exact .list_int k t p1 hu
  |str k=>obtain⟨t,rfl⟩:=ts h' r';cases e;exact .list_str k t p1 hu
  |lst k=>exact absurd rfl (n2 j rfl k)
  |tup k=>obtain⟨l,it,rfl,p⟩:=tt h' r';cases e;exact .list_tuple p1 p hu
  |exc k=>cases e
  |dw _ _ _ _=>cases e
  |fn _ _ _=>cases e
 |exc j=>cases w'<;>cases e
 |dw _ _ _ _=>cases w'<;>cases e
 |fn _ _ _=>cases w'<;>cases e
theorem x5j(I:Inv X pins σ H s)(sg:Same G H){b:Bool}(hd:depW w<=0)(hu:A.units<cLine)(h:Rep X.K G w v)(h':Rep X.K G w' v')(r:RelV v u)(r':RelV v' u')(e:eqW w w'=some b):SeqAt.RcNeAt A s u u' (!b):=
 q7o I sg hu (fun ws z=>by subst z;simp[depW]at hd) (fun ws z=>by subst z;simp[depW]at hd) h h' r r' e
theorem x05(I:Inv X pins σ H s)(sg:Same G H){n:Nat}(hu:A.units+(n+1)<cLine){ws':List W}{xs':List V}{its its':List Value}{k:Bool}(hd:depWs ws<=n)(r1:Reps X.K G ws xs)(r2:Reps X.K G ws' xs')(v1:Vals xs its)(v2:Vals xs' its')(he:eqWs ws ws'=some k):
  ∀j (h1:j<its.toArray.size) (h2:j<its'.toArray.size),SeqAt.EqAt A.in1 s its.toArray[j] its'.toArray[j] ((eqW (ws.getD j .non) (ws'.getD j .non)).getD false):=by
 intro j h1 h2;have l1:=r1.length;have l2:=r2.length;have m1:=v1.length;have m2:=v2.length;have i1:j<xs.length:=by rw[m1];simpa using h1
 have i2:j<xs'.length:=by rw[m2];simpa using h2
 obtain⟨u1,e1,ru1⟩:=v1.get (w0d i1);obtain⟨u2,e2,ru2⟩:=v2.get (w0d i2);obtain⟨w1,f1,p1⟩:=r1.getV (w0d i1);obtain⟨w2,f2,p2⟩:=r2.getV (w0d i2);obtain⟨b',hb'⟩:=(q36 he).1 j w1 w2 f1 f2;rw[q63 f1,q63 f2,hb']
 have g1:its.toArray[j]=u1:=by
  obtain⟨_,z⟩:=w0b.mp e1
  simpa using z
 have g2:its'.toArray[j]=u2:=by
  obtain⟨_,z⟩:=w0b.mp e2
  simpa using z
 rw[g1,g2];have hdw:depW w1<=n:=w1c (q6k f1) hd
 have hun:A.in1.units+n<cLine:=by
  have:A.in1.units=A.units+1:=rfl;omega
 refine x04 ru1 (x03 p1) (y0s I sg n hdw hun p1 p2 ru1 ru2 hb') fun z=>?_
 subst z;have:=ru1.inj ru2;rw[this]at p1;exact q83 I sg w1 p1 p2 hb'
theorem y1p(I:Inv X pins σ H s)(sg:Same G H)(n:Nat){b:Bool}(hd:depW w<=n+1)(hu:A.units+(n+1)<cLine)(h:Rep X.K G w v)(h':Rep X.K G w' v')(r:RelV v u)(r':RelV v' u')(e:eqW w w'=some b):SeqAt.RcNeAt A s u u' (!b):=by
 cases w with
 |tup ws=>
  cases w' with
  |tup ws'=>
   obtain⟨a,xs,rfl,q1,r1⟩:=h;obtain⟨a',xs',rfl,q2,r2⟩:=h';cases r;cases r';obtain⟨its,v1,p1,_⟩:=I.tuple (sg.tup q1);obtain⟨its',v2,p2,_⟩:=I.tuple (sg.tup q2);have e:eqWs ws ws'=some b:=e;have z:=SeqAt.RcNeAt.tuples (show s.heap.IsTuple a _ from p1) (show s.heap.IsTuple a' _ from p2) (show A.units<cLine by omega) (x05 I sg hu (by simp only[depW]at hd;omega) r1 r2 v1 v2 e);have l1:=r1.length;have l2:=r2.length;have m1:=v1.length;have m2:=v2.length;have eb:=(q36 e).2;have n1:its.length=ws.length:=by omega
   have n2:its'.length=ws'.length:=by omega
   rw[eb];simp only[w0c,n1,n2]at z;exact z
  |_=>exact q7o I sg (by omega) (by intro ws';simp) (by intro ws';simp) h h' r r' e
 |lst ws=>
  cases w' with
  |lst ws'=>
   obtain⟨a,xs,rfl,q1,r1⟩:=h;obtain⟨a',xs',rfl,q2,r2⟩:=h';cases r;cases r';obtain⟨its,v1,p1,_⟩:=I.list (sg.seq q1);obtain⟨its',v2,p2,_⟩:=I.list (sg.seq q2);have e:eqWs ws ws'=some b:=e;have l1:=r1.length;have l2:=r2.length;have m1:=v1.length;have m2:=v2.length;have eb:=(q36 e).2;have n1:its.length=ws.length:=by omega
   have n2:its'.length=ws'.length:=by omega
   by_cases hl:ws.length=ws'.length
   ·have z:=SeqAt.RcNeAt.lists p1.isList p2.isList (by simp only[w0c];omega) (show A.units<cLine by omega) (x05 I sg hu (by simp only[depW]at hd;omega) r1 r2 v1 v2 e);rw[eb,hl];simp only[w0c,n1,hl,Nat.min_self,beq_self_eq_true,w4g]at z |-
    exact z
   ·have z:=SeqAt.RcNeAt.lists_lengths (A:=A) p1.isList p2.isList (by simp only[w0c,bne_iff_ne];omega) (show A.units<cLine by omega)
    have:b=false:=by
     rw[eb];have:(ws.length==ws'.length)=false:=by simp[hl]
     rw[this,w4b]
    rw[this];exact z
  |_=>exact q7o I sg (by omega) (by intro ws';simp) (by intro ws';simp) h h' r r' e
 |_=>exact x5j I sg (by simp[depW]) (by omega) h h' r r' e
def eq2(x y:W):Option W:=if depW x<=150 then(eqW x y).map .bl else none
def rEqD(K:Fg):R2:=fun x y H Q=>∃G wx wy b,Same G H/\depW wx<=150/\Rep K G wx x/\Rep K G wy y/\eqW wx wy=some b/\Q (.bl b) H
theorem x5k(hu:X.A.units+150<cLine):OpR X (compareOp .Eq) (rEqD X.K):=by
 intro pins s σ H x y v u Q I rx ry h;obtain⟨G,wx,wy,b,sg,hd,hx,hy,e,q⟩:=h;exact y0s I sg 150 hd hu hx hy rx ry e _ _ _ _ ⟨.bl b,H,I,rfl,q⟩
theorem y0t:Op2 K (rEqD K) eq2:=by
 intro G H x y wx wy w Q s px py hf h;unfold eq2 at hf;split at hf
 ·rename_i hd;obtain⟨b,hb,rfl⟩:=w0e.mp hf;exact⟨G,wx,wy,b,s,hd,px,py,hb,h G _ H (.refl s) rfl⟩
 ·cases hf
def ne2(x y:W):Option W:=if depW x<=150 then(eqW x y).map fun b=>.bl (!b)else none
def rNeD(K:Fg):R2:=fun x y H Q=>∃G wx wy b,Same G H/\depW wx<=150/\Rep K G wx x/\Rep K G wy y/\eqW wx wy=some b/\Q (.bl (!b)) H
theorem y53(hu:X.A.units+150<cLine):OpR X (compareOp .NotEq) (rNeD X.K):=by
 intro pins s σ H x y v u Q I rx ry h;obtain⟨G,wx,wy,b,sg,hd,hx,hy,e,q⟩:=h;exact y1p I sg 149 hd hu hx hy rx ry e _ _ _ _ ⟨.bl (!b),H,I,rfl,q⟩
theorem y9e:Op2 K (rNeD K) ne2:=by
 intro G H x y wx wy w Q s px py hf h;unfold ne2 at hf;split at hf
 ·rename_i hd;obtain⟨b,hb,rfl⟩:=w0e.mp hf;exact⟨G,wx,wy,b,s,hd,px,py,hb,h G _ H (.refl s) rfl⟩
 ·cases hf
def isW:W->W->Option W
 |.non,.non=>some (.bl true)
 |_,.non=>some (.bl false)
 |.bl a,.bl b=>some (.bl (a==b))
 |_,.bl _=>some (.bl false)
 |_,_=>none
def nisW:W->W->Option W
 |.non,.non=>some (.bl false)
 |_,.non=>some (.bl true)
 |.bl a,.bl b=>some (.bl (!(a==b)))
 |_,.bl _=>some (.bl true)
 |_,_=>none
def rNis:R2:=fun x y H Q=>(y=.non\/∃b,y=.bl b)/\Q (.bl (!decide (x=y))) H
theorem x77{x y:V}{v:Value}(rx:RelV x v)(ry:RelV y u)(h:y=.non\/∃b,y=.bl b):plainIs v u=true/\(v==u)=decide (x=y):=by
 rcases h with rfl|⟨b,rfl⟩
 ·cases ry
  cases x<;>first
   |(cases rx;exact⟨rfl,by first|rfl|(rw[w2h];simp)⟩)
   |(obtain⟨t,rfl⟩:=rx;exact⟨rfl,by rw[w2h];simp⟩)
 ·cases ry
  cases x<;>first
   |(cases rx;exact⟨rfl,by first|rfl|(rw[w2h];simp)⟩)
   |(obtain⟨t,rfl⟩:=rx;exact⟨rfl,by rw[w2h];simp⟩)
theorem y1q:OpR X (compareOp .IsNot) rNis:=by
 intro pins s σ H x y v u Q I rx ry h;obtain⟨hy,q⟩:=h;obtain⟨h1,h2⟩:=x77 rx ry hy;exact wpAny_isNot_plain h1 (y5l I q (by rw[h2]))
theorem y54{x y:V}{wx wy:W}(px:Rep K G wx x)(py:Rep K G wy y)(h:nisW wx wy=some w):(y=.non\/∃b,y=.bl b)/\w=.bl (!decide (x=y)):=by
 cases wy with
 |non=>
  cases(show y=.non from py);refine⟨.inl rfl,?_⟩;cases wx with
  |tup ws=>obtain⟨_,_,rfl,_⟩:=px;cases h;simp
  |lst ws=>obtain⟨_,_,rfl,_⟩:=px;cases h;simp
  |exc c=>obtain⟨_,rfl,_⟩:=px;cases h;simp
  |dw _ _ _ _=>obtain⟨_,_,_,rfl,_⟩:=px;cases h;simp
  |fn _ _ _=>obtain⟨_,_,_,_,rfl,_⟩:=px;cases h;simp
  |_=>cases px;cases h;simp
 |bl b=>
  cases(show y=.bl b from py);refine⟨.inr ⟨b,rfl⟩,?_⟩;cases wx with
  |tup ws=>obtain⟨_,_,rfl,_⟩:=px;cases h;simp
  |lst ws=>obtain⟨_,_,rfl,_⟩:=px;cases h;simp
  |exc c=>obtain⟨_,rfl,_⟩:=px;cases h;simp
  |dw _ _ _ _=>obtain⟨_,_,_,rfl,_⟩:=px;cases h;simp
  |fn _ _ _=>obtain⟨_,_,_,_,rfl,_⟩:=px;cases h;simp
  |bl k=>cases px;cases h;cases k<;>cases b<;>rfl
  |_=>cases px;cases h;simp
 |_=>cases wx<;>cases h
theorem y55:Op2 K rNis nisW:=by
 intro G H x y wx wy w Q s px py hf h;obtain⟨h1,rfl⟩:=y54 px py hf;exact⟨h1,h G _ H (.refl s) rfl⟩
section
variable{a b c e:Expr}{p:Pos}
theorem q48(ha:DE Z X EE a da)(hb:DE Z X EE b db):DE Z X EE (.BinOp a .Sub b pos) (dOp subW da db):=q5f y5g y5x ha hb
theorem q4j(ha:DE Z X EE a da)(hb:DE Z X EE b db):DE Z X EE (.BinOp a .Mult b pos) (dOp mulW da db):=q5f y5h y5y ha hb
theorem q0t(ha:DE Z X EE a da)(hb:DE Z X EE b db):DE Z X EE (.BinOp a .FloorDiv b pos) (dOp fdivW da db):=q5f y07 y1o ha hb
theorem q0j(ha:DE Z X EE a da)(hb:DE Z X EE b db):DE Z X EE (.BinOp a .Mod b pos) (dOp modW da db):=q5f y5i y5z ha hb
theorem y56(ha:DE Z X EE a da)(hb:DE Z X EE b db):DE Z X EE (.BinOp a .Pow b pos) (dOp powW da db):=q5f y5j y50 ha hb
theorem x5l(ha:DE Z X EE a da):DE Z X EE (.UnaryOp .USub a pos) (dUn negW da):=y9c y5k y51 ha
theorem y9f(ha:DE Z X EE a da)(hb:DE Z X EE b db):DE Z X EE (.Compare a [.Lt] [b] pos) (dOp ltW da db):=x0y x3s x31 ha hb (nomark _)
theorem y9g(ha:DE Z X EE a da)(hb:DE Z X EE b db):DE Z X EE (.Compare a [.LtE] [b] pos) (dOp leW da db):=x0y y0m y0q ha hb (nomark _)
theorem x0h(hu:X.A.units+150<cLine)(ha:DE Z X EE a da)(hb:DE Z X EE b db):DE Z X EE (.Compare a [.Eq] [b] pos) (dOp eq2 da db):=x0y (x5k hu) y0t ha hb (nomark _)
theorem x34(ha:DE Z X EE a da)(hb:DE Z X EE b db):DT Z X EE (.Compare a [.Lt] [b] pos) (dTest (dOp ltW da db)):=q79 x3s x31 ha hb (nomark _)
theorem q2g(hu:X.A.units+150<cLine)(ha:DE Z X EE a da)(hb:DE Z X EE b db):DT Z X EE (.Compare a [.Eq] [b] pos) (dTest (dOp eq2 da db)):=q79 (x5k hu) y0t ha hb (nomark _)
theorem q4s(hu:X.A.units+150<cLine)(ha:DE Z X EE a da)(hb:DE Z X EE b db):DT Z X EE (.Compare a [.NotEq] [b] pos) (dTest (dOp ne2 da db)):=q79 (y53 hu) y9e ha hb (nomark _)
theorem y57(ha:DE Z X EE a da)(hb:DE Z X EE b db):DT Z X EE (.Compare a [.IsNot] [b] pos) (dTest (dOp nisW da db)):=q79 y1q y55 ha hb (nomark _)
theorem q0l(h:Room k A):A.units+150<cLine:=by have:=h.un;omega
def cutW(xs:List W)(lo hi:Option Int):List W:=(xs.drop (HT.sIx xs.length 0 lo)).take (HT.sIx xs.length xs.length hi-HT.sIx xs.length 0 lo)
theorem Reps.cut(r:Reps K G ws xs)(lo hi:Option Int):Reps K G (cutW ws lo hi) (cutV xs lo hi):=by
 unfold cutW cutV;rw[r.length];exact(r.drop _).take _
def DO(Z:Zt)(X:Cx)(EE:L2.St->XK)(e:Option Expr)(d:Den (Option Int)):Prop:=PO X e (fun σ H Q=>∃G e,Rel X.K Z G σ H e/\(d e).holds (fun o e'=>∀G' H',Rel X.K Z G' σ H' e'->Same G G'->Q o H') (XH X.K Z EE σ G))
def dNoPart:Den (Option Int):=fun e=>.ok none e
def dPart(d:Den W):Den (Option Int):=fun e=>(d e).bind fun w e1=>match w with
 |.int i=>.ok (some i) e1
 |_=>.no
theorem PO.mono{e:Option Expr}{t t':TO}(h:PO X e t)(i:∀σ H Q,t' σ H Q->t σ H Q):PO X e t':=fun pins s σ H Q I q=>h pins s σ H Q I (i σ H Q q)
theorem q26:DO Z X EE none dNoPart:=PO.mono y1a fun σ H Q ⟨G,e,r,h⟩=>h G H r (.refl _)
theorem q2v(h:DE Z X EE e da):DO Z X EE (some e) (dPart da):=by
 refine PO.mono (y1b h) ?_;rintro σ H Q ⟨G,e,rel,h⟩;simp only[dPart,R.holds_bind]at h;refine⟨G,e,rel,h.imp (fun x e1 h G1 v1 H1 r1 s1 p1=>?_) fun _ _ h=>h⟩
 cases x with
 |int i=>cases(show v1=V.int i from p1);exact⟨i,rfl,h G1 H1 r1 s1⟩
 |_=>exact h.elim
def slW:W->Option Int->Option Int->Option W
 |.lst ws,lo,hi=>some (.lst (cutW ws lo hi))
 |.tup ws,lo,hi=>if ¬(HT.sIx ws.length 0 lo=0/\HT.sIx ws.length ws.length hi=ws.length)then some (.tup (cutW ws lo hi))else none
 |_,_,_=>none
def tyW:W->Value
 |.non=>.type "NoneType"
 |.bl _=>.type "bool"
 |.int _=>.type "int"
 |.str _=>.type "str"
 |.tup _=>.type "tuple"
 |.lst _=>.type "list"
 |.exc c=>c
 |.dw _ _ _ _=>.type "dict"
 |.fn _ _ _=>.type "dict"
def isiW(K:Fg)(cv:Value):W->Option W
 |.exc (.ref D)=>if excClsIn K D=true then(kitOne K (.ref D) cv).map .bl else none
 |.exc _=>none
 |.dw _ _ _ _=>none
 |.fn _ _ _=>none
 |w=>(kitOne K (tyW w) cv).map .bl
theorem y1r{b:Bool}{Q:VK}(I:Inv X pins σ H s)(sg:Same G H)(p:Rep X.K G w v)(r:RelV v u)(h:isiW X.K cv w=some (.bl b))(q:Q (.bl b) H):
  wpAny (model X.prog X.w) X.A (call (.builtin "isinstance") [u,cv]) (EP X pins σ Q) X.xe s:=by
 have fin:∀tk,EP X pins σ Q (.bool b) {s with toks:=tk}:=fun tk=>⟨.bl b,H,I.tok _,rfl,q⟩
 have kit:∀{t:Value},(kitOne X.K t cv).map W.bl=some (.bl b)->kitOne X.K t cv=some b:=fun z=>by
  obtain⟨y,h1,h2⟩:=w0e.mp z;cases h2;exact h1
 cases w with
 |non=>cases p;cases r;exact kia_one PySem.W.kitx_none I.kIn True.intro (kit h) (fun z=>nomatch z) fin
 |bl y=>cases p;cases r;exact kia_one PySem.W.kitx_bool I.kIn True.intro (kit h) (fun z=>nomatch z) fin
 |int y=>cases p;obtain⟨t,rfl⟩:=r;exact kia_one PySem.W.kitx_int I.kIn True.intro (kit h) (fun z=>nomatch z) fin
 |str y=>cases p;obtain⟨t,rfl⟩:=r;exact kia_one PySem.W.kitx_str I.kIn True.intro (kit h) (fun z=>nomatch z) fin
 |tup ws=>
  obtain⟨a,xs,rfl,hq,_⟩:=p;cases r;obtain⟨its,_,⟨o,h1,h2,_⟩,_⟩:=I.tuple (sg.tup hq);exact kia_one PySem.W.kitx_tuple I.kIn ⟨o,h1,h2⟩ (kit h) (fun z=>nomatch z) fin
 |lst ws=>
  obtain⟨a,xs,rfl,hq,_⟩:=p;cases r;obtain⟨its,_,⟨o,n,h1,h2,_⟩,_⟩:=I.list (sg.seq hq);exact kia_one PySem.W.kitx_list I.kIn ⟨o,h1,h2⟩ (kit h) (fun z=>nomatch z) fin
 |dw _ _ _ _=>simp[isiW]at h
 |fn _ _ _=>simp[isiW]at h
 |exc c=>
  obtain⟨e,rfl,he⟩:=p;cases r;unfold isiW at h;split at h
  ·rename_i D heq;cases heq;split at h
   ·rename_i hC;obtain⟨⟨o,vs,h1,h2,h3⟩,_⟩:=(show ObjOk X.prog X.w H s.heap e (excO e (.ref D))from I.hok e _ (sg _ _ he));exact kia_one (x7x (ExcCls.of hC)) I.kIn ⟨o,vs,h1,h2,h3⟩ (kit h) (fun z=>nomatch z) fin
   ·cases h
  all_goals first|(cases h;done)|(rename_i h1 h2 h3 h4 h5;exact absurd rfl (h2 c))|(rename_i h1 h2 h3 h4;exact absurd rfl (h2 c))|(rename_i h1 h2 h3;exact absurd rfl (h2 c))|(rename_i h1 h2;exact absurd rfl (h2 c))
def dIsi(K:Fg)(cv:Value)(d:Den W):Den W:=fun e=>(d e).bind fun w e1=>match isiW K cv w with
 |some (.bl b)=>.ok (.bl b) e1
 |_=>.no
theorem x5m{c:V}(hc:ClsV c cv):CallR X (.builtin "isinstance") (fun xs H Q=>∃x G w b,xs=[x,c]/\Same G H/\Rep X.K G w x/\isiW X.K cv w=some (.bl b)/\Q (.bl b) H):=by
 intro pins s σ H xs us Q I r h;obtain⟨x,G,w,b,rfl,sg,p,hi,q⟩:=h;obtain⟨u,u2,rfl,rx,rc⟩:=vals2 r
 have ec:u2=cv:=by
  cases c with
  |ty n=>exact(show u2=Value.type n from rc).trans (show cv=Value.type n from hc).symm
  |ref a=>exact(show u2=Value.ref a from rc).trans (show cv=Value.ref a from hc).symm
  |_=>exact hc.elim
 subst ec;exact y1r I sg p rx hi q
theorem y58{c0:V}(hc:ClsV c0 cv)(hcl:PE X c (tC c0))(hm:X.mg "isinstance"=none)(he:DE Z X EE e da)(hg:Gl X "isinstance":=by rfl)(hs:starEach [e,c] X.env=(false,eval e X.env)::starEach [c] X.env:=by rfl)(hs2:starEach [c] X.env=(false,eval c X.env)::starEach [] X.env:=by rfl)(hpl:(backTo pos (starEach [c] X.env)).any (·.1)=false:=by rfl):
  DE Z X EE (.Call (.Name "isinstance" p) [e,c] [] pos) (dIsi X.K cv da):=by
 refine PE.mono (q7k (x5m hc) hg hm PyProof.Rows.Boot.«isinstance» (q09 he (q09 hcl q2r hs2) hs) (by decide) (by decide) hs hpl) ?_;rintro σ H Q ⟨G,e,rel,h⟩;simp only[dIsi,R.holds_bind]at h;refine⟨G,e,rel,h.imp (fun w e1 h G1 v1 H1 r1 s1 p1=>?_) fun _ _ h=>h⟩
 split at h
 ·rename_i b hb;exact⟨v1,G1,w,b,rfl,r1.sub,p1,hb,h G1 _ H1 r1 s1 rfl⟩
 ·exact h.elim
theorem y1s{n:Str}(hv:bootBuiltins n=some (.type T))(hm:X.mg n=none)(hg:Gl X n:=by rfl)(hn:n≠"__name__":=by decide)(hd:(n==("__debug__":Str))=false:=by decide):PE X (.Name n pos) (tC (.ty T)):=y02 (v:=.ty T) hg hm hv rfl hn hd
def tup1:List W->Option W
 |[.lst ws]=>some (.tup ws)
 |[.tup ws]=>some (.tup ws)
 |_=>none
theorem y59:OpN K (fun xs H Q=>∃p ys,xs=[.ref p]/\((SqL K H p ys/\∀l,H l=none->Q (.ref l) (upd H l (.tup ys)))\/(SqT K H p ys/\Q (.ref p) H))) tup1:=by
 intro G H xs ws w Q s pr hf h;unfold tup1 at hf;split at hf
 ·cases hf;obtain⟨x,r,rfl,px,pr⟩:=pr;cases(show r=[]from pr);obtain⟨a,ys,rfl,ha,ra⟩:=px;refine⟨a,ys,rfl,.inl ⟨s.seq ha,fun l hl=>?_⟩⟩
  have g:=Grow.laid s hl (.tup ys);exact h _ _ _ g ⟨l,ys,rfl,SqT.of q0d,Reps.mono g.gg _ ra⟩
 ·cases hf;obtain⟨x,r,rfl,px,pr⟩:=pr;cases(show r=[]from pr);obtain⟨a,ys,rfl,ha,ra⟩:=px;exact⟨a,ys,rfl,.inr ⟨s.tup ha,h G _ H (.refl s) ⟨a,ys,rfl,ha,ra⟩⟩⟩
 ·cases hf
theorem q7p(hm:X.mg "tuple"=none)(ha:DA Z X EE [e] dA)(hg:Gl X "tuple":=by rfl)(he:starEach [e] X.env=(false,eval e X.env)::starEach [] X.env:=by rfl)(hpl:(backTo pos (starEach [] X.env)).any (·.1)=false:=by rfl):DE Z X EE (.Call (.Name "tuple" p) [e] [] pos) (dFn tup1 dA):=
 x5e q96 y59 PyProof.Rows.Boot.«tuple» hm ha hg (by decide) (by decide) he hpl
theorem q1h(hm:X.mg "len"=none)(ha:DA Z X EE [e] dA)(hg:Gl X "len":=by rfl)(he:starEach [e] X.env=(false,eval e X.env)::starEach [] X.env:=by rfl)(hpl:(backTo pos (starEach [] X.env)).any (·.1)=false:=by rfl):DE Z X EE (.Call (.Name "len" p) [e] [] pos) (dFn len1 dA):=
 q8b x0r x5g PySem.boot_len hm ha hg (by decide) (by decide) he hpl
theorem q84(i:Nat)(hm:X.mg "len"=none)(hN:X.N[i]?=some x:=by rfl)(hvis:Vis X.env.scope x:=by walk_at "1")(hd:(x==("__debug__":Str))=false:=by decide)(hcd:(x==("__classdict__":Str))=false:=by decide)
  (hg:Gl X "len":=by rfl)(hs:starEach [.Name x p] X.env=(false,eval (.Name x p) X.env)::starEach [] X.env:=by rfl)(hpl:(backTo pos (starEach [] X.env)).any (·.1)=false:=by rfl):DE Z X EE (.Call (.Name "len" pn) [.Name x p] [] pos) (dFnV i len1):=
 y52 i x0r x5g PySem.boot_len hm hN hvis hd hcd hg (by decide) (by decide) hs hpl
def lst1:List W->Option (List W)
 |[.lst ws]=>some ws
 |[.tup ws]=>some ws
 |_=>none
def dList(dA:Den (List W)):Den (List W):=fun e=>(dA e).bind fun ws e1=>ofOpt (lst1 ws) e1
theorem q5o(hm:X.mg "list"=none)(ha:DA Z X EE [e] dA)(hg:Gl X "list":=by rfl)(he:starEach [e] X.env=(false,eval e X.env)::starEach [] X.env:=by rfl)(hpl:(backTo pos (starEach [] X.env)).any (·.1)=false:=by rfl):DF Z X EE (.Call (.Name "list" p) [e] [] pos) (dList dA):=by
 refine PE.mono (q5d q6b hg hm PyProof.Rows.Boot.«list» ha (by decide) (by decide) he hpl) ?_;rintro σ H Q ⟨G,e,rel,h⟩;simp only[dList,R.holds_bind,ofOpt_holds]at h;refine⟨G,e,rel,h.imp (fun ws e1 h G1 vs H1 r1 s1 p1=>?_) fun _ _ h=>h⟩
 obtain⟨out,hf,h⟩:=h;unfold lst1 at hf;split at hf
 ·cases hf;obtain⟨y,r,rfl,py,pr⟩:=p1;cases(show r=[]from pr);obtain⟨a,ys,rfl,hq,rq⟩:=py;exact⟨a,ys,rfl,.inl (r1.sub.seq hq),q7m r1 s1 rq h⟩
 ·cases hf;obtain⟨y,r,rfl,py,pr⟩:=p1;cases(show r=[]from pr);obtain⟨a,ys,rfl,hq,rq⟩:=py;exact⟨a,ys,rfl,.inr (r1.sub.tup hq),q7m r1 s1 rq h⟩
 ·cases hf
def dNo:List S->SR:=fun _=>.no
theorem q37{st:Stmt}:DS Z X EE st dNo:=fun pins s σ H D I ⟨G,e,r,h⟩=>h.elim
end
section
variable{w:World}{mg:Str->Option Value}{base:Heap}
theorem x5n{F:List W->FR}(hF:∀ws,F ws=.no){vs:List V}{Q:VK}{E:XK}(h:spF K F vs H Q E):False:=by
 obtain⟨G,ws,hn,_⟩:=q8d h;exact hn (hF ws)
def spLaw(K:Fg):Sp:=fun vs H Q _=>∃(a:Addr)(ns:List Int),vs=[.ref a]/\SqL K H a (ns.map V.int)/\ns.length<=63/\∀H',Q (.bl true) H'
theorem q6l:∀(ns:List Int),Reps K G (ns.map W.int) (ns.map V.int)
 |[]=>rfl
 |n::ns=>⟨_,_,rfl,rfl,q6l ns⟩
theorem x78{F:List W->FR}(hF:∀ns:List Int,ns.length<=63->F [.lst (ns.map .int)]=.ok (.fr (.bl true))){vs:List V}{Q:VK}{E:XK}(h:spLaw K vs H Q E):spF K F vs H Q E:=by
 obtain⟨a,ns,rfl,hS,hl,q⟩:=h;refine⟨fun b=>if b=a then H a else none,[.lst (ns.map .int)],fun b o z=>?_,⟨.ref a,[],rfl,⟨a,ns.map V.int,rfl,?_,q6l ns⟩,rfl⟩,?_⟩
 ·by_cases hb:b=a
  ·subst hb;simpa using z
  ·simp[hb]at z
 ·rcases hS with(h|⟨o,h⟩)|h
  ·exact .inl (.inl (by simpa using h))
  ·exact .inl (.inr ⟨o,by simpa using h⟩)
  ·exact .inr h
 ·rw[hF ns hl];intro G' H' v g sl;obtain⟨u,h1,h2⟩:=sl;cases h1;cases(show v=V.bl true from h2);exact q H'
theorem y6a{w:World}{e:Value}{s':Shared}(z:CX1 P w [] H s (fun _ _ _=>False) e s'):False:=by
 obtain⟨_,_,_,_,_,_,_,_,_,_,h⟩:=z;exact h
theorem con0{st:Stmt}{ps:List Str}{F:List W->FR}(A:At K mg x st ps)(hF:∀ws,F ws=.no:=by intro _;rfl):Cal P w K mg base 0 x ps (spF K F):=by
 obtain⟨f,fd,F0,m,b⟩:=A.ex;exact⟨f,fd,⟨fun vs H Q E h=>(x5n hF h).elim,fun A outer s H args us vs Q E _ _ _ _ h=>(x5n hF h).elim⟩,m,F0.kp,b⟩
end
section
variable{e:Expr}{d:Den Str}{n:Nat}
def DFm(Z:Zt)(X:Cx)(EE:L2.St->XK)(n:Nat)(es:List Expr)(d:Den Str):Prop:=PF X es (fun acc σ H Q=>acc.length+n*1000001<=16777216/\∃G e,Rel X.K Z G σ H e/\(d e).holds (fun y e'=>∀G' H',Rel X.K Z G' σ H' e'->Same G G'->Q (acc++y) H') (XH X.K Z EE σ G))
end
section
variable{β:Type}{c:Prop} [Decidable c]{a:α}{e':List S}{k:α->List S->R β}{ks:α->List S->SR}{x y:R α}{s t:SR}{v:Value}{st:S}
theorem q5p:(R.ok a e).bind k=k a e:=rfl
theorem y1t:(R.ex v e:R α).bind k=.ex v e:=rfl
theorem y1u:(R.no:R α).bind k=.no:=rfl
theorem x79:(if c then x else y).bind k=if c then x.bind k else y.bind k:=by split<;>rfl
theorem x5o:(R.ok a e).stm ks=ks a e:=rfl
theorem y6b:(R.ex v e:R α).stm ks=.ex v e:=rfl
theorem y6c:(R.no:R α).stm ks=.no:=rfl
theorem y1v:(if c then x else y).stm ks=if c then x.stm ks else y.stm ks:=by split<;>rfl
def SR.seq:SR->(List S->SR)->SR
 |.nx e,b=>b e
 |r,_=>r
theorem q2s{p:List S->SR}:dSeq p q e=(p e).seq q:=by
 unfold dSeq SR.seq;cases p e<;>rfl
theorem q2i:(SR.nx e).seq q=q e:=rfl
theorem y6d:(SR.rt st e).seq q=.rt st e:=rfl
theorem y6e:(SR.ex v e).seq q=.ex v e:=rfl
theorem y6f:(SR.bk e).seq q=.bk e:=rfl
theorem y6g:(SR.ct e).seq q=.ct e:=rfl
theorem y6h:(SR.no).seq q=.no:=rfl
theorem y1w:(if c then s else t).seq q=if c then s.seq q else t.seq q:=by split<;>rfl
theorem y9h:(SR.nx e).fn=.ok (.fr .non):=rfl
theorem y9i:(SR.rt st e).fn=.ok st:=rfl
theorem y9j:(SR.ex v e).fn=.ex v:=rfl
theorem y9k:(SR.no).fn=.no:=rfl
theorem y6i:(if c then s else t).fn=if c then s.fn else t.fn:=by split<;>rfl
theorem q8g:ofOpt (some a) e=.ok a e:=rfl
theorem x35:ofOpt (none:Option α) e=.no:=rfl
theorem x5p{o p:Option α}:ofOpt (if c then o else p) e=if c then ofOpt o e else ofOpt p e:=by split<;>rfl
def varS(i:Nat)(e:List S):Option S->R W
 |some (.fr w)=>.ok w e
 |some (.own none ws)=>.ok (.lst ws) (e.set i (.fr (.lst ws)))
 |some (.x k)=>match k.plain with
  |some w=>.ok w e
  |none=>.no
 |_=>.no
theorem y6j:dVar i e=varS i e e[i]?:=by
 unfold dVar varS;cases e[i]? with
 |none=>rfl
 |some s=>cases s with
  |own b ws=>cases b<;>rfl
  |_=>rfl
theorem y1x:varS i e (some (.x (.old w)))=.ok w e:=rfl
theorem y1y:varS i e (some (.x (.new w)))=.ok w e:=rfl
theorem y6k:varS i e (some (.fr w))=.ok w e:=rfl
theorem y1z:varS i e (some (.own none ws))=.ok (.lst ws) (e.set i (.fr (.lst ws))):=rfl
theorem dC_s:dC w e=.ok w e:=rfl
theorem y0u{f:W->W->Option W}:dOp f da db e=(da e).bind fun x e1=>(db e1).bind fun y e2=>ofOpt (f x y) e2:=rfl
theorem y9l{f:W->Option W}:dUn f da e=(da e).bind fun x e1=>ofOpt (f x) e1:=rfl
def testW(e:List S):W->R Bool
 |.bl k=>.ok k e
 |_=>.no
theorem y16:dTest da e=(da e).bind fun x e1=>testW e1 x:=rfl
theorem y17{b:Bool}:testW e (.bl b)=.ok b e:=rfl
theorem y6l:dTru da e=(da e).bind fun x e1=>ofOpt (truW x) e1:=rfl
theorem y6m{p q:Den Bool}:dAnd p q e=(p e).bind fun x e1=>if x=true then q e1 else .ok false e1:=rfl
theorem y9m{p q:Den Bool}:dOr p q e=(p e).bind fun x e1=>if x=true then .ok true e1 else q e1:=rfl
theorem y6n{p:Den Bool}:dNot p e=(p e).bind fun x e1=>.ok (!x) e1:=rfl
def andK(q:Den W)(e:List S):W->R W
 |.bl true=>q e
 |.bl false=>.ok (.bl false) e
 |_=>.no
theorem y18{p q:Den W}:dAndV p q e=(p e).bind fun x e1=>andK q e1 x:=rfl
theorem y6o{q:Den W}{b:Bool}:andK q e (.bl b)=if b=true then q e else .ok (.bl false) e:=by cases b<;>rfl
def notK(e:List S):W->R W
 |.bl k=>.ok (.bl (!k)) e
 |_=>.no
theorem y19{p:Den W}:dNotV p e=(p e).bind fun x e1=>notK e1 x:=rfl
theorem y6p{b:Bool}:notK e (.bl b)=.ok (.bl (!b)) e:=rfl
theorem x5q:dNil e=.ok [] e:=rfl
theorem x2v{p:Den W}{q:Den (List W)}:dCons p q e=(p e).bind fun x e1=>(q e1).bind fun xs e2=>.ok (x::xs) e2:=rfl
theorem y6q:dTup p e=(p e).bind fun xs e1=>if xs.length<=16777216 then .ok (.tup xs) e1 else .no:=rfl
theorem y6r:dLst p e=(p e).bind fun xs e1=>if xs.length<=16777216 then .ok xs e1 else .no:=rfl
theorem y0v:dFz p e=(p e).bind fun xs e1=>.ok (.lst xs) e1:=rfl
theorem y9n:dFn f p e=(p e).bind fun xs e1=>ofOpt (f xs) e1:=rfl
theorem y2a:dList p e=(p e).bind fun xs e1=>ofOpt (lst1 xs) e1:=rfl
theorem y9o:dNx e=.nx e:=rfl
theorem y9p:dNo e=.no:=rfl
theorem y2b:dDrop d e=(d e).stm fun _ e'=>.nx e':=rfl
theorem y6s:dRet d e=(d e).stm fun w e'=>.rt (.fr w) e':=rfl
def retS(e:List S):Option S->SR
 |some (.own none ws)=>.rt (.own none ws) e
 |some (.fr w)=>.rt (.fr w) e
 |_=>.no
theorem y2c:dRetO i e=retS e e[i]?:=by
 unfold dRetO retS;cases e[i]? with
 |none=>rfl
 |some s=>cases s with
  |own b ws=>cases b<;>rfl
  |_=>rfl
theorem y2d:retS e (some (.own none ws))=.rt (.own none ws) e:=rfl
theorem y6t:retS e (some (.fr w))=.rt (.fr w) e:=rfl
theorem y6u{p:Den Bool}{q':List S->SR}:dIfS p q q' e=(p e).stm fun x e1=>if x=true then q e1 else q' e1:=rfl
theorem y6v:dSet i d e=(d e).stm fun w e'=>.nx (e'.set i (.fr w)):=rfl
theorem y2e{d:Den (List W)}:dSetO i d e=(d e).stm fun w e'=>.nx (e'.set i (.own none w)):=rfl
def callR(e:List S):FR->R W
 |.ok (.fr w)=>.ok w e
 |.ok (.own none ws)=>.ok (.lst ws) e
 |.ok (.x (.new w))=>.ok w e
 |.ok (.x (.tn us wss))=>.ok (.tup (us++[.lst (wss.map .lst)])) e
 |.ex c=>.ex c e
 |_=>.no
theorem y2f{wss:List (List W)}:callR e (.ok (.x (.tn us wss)))=.ok (.tup (us++[.lst (wss.map .lst)])) e:=rfl
theorem x8a:callR e (.ok (.x (.new w)))=.ok w e:=rfl
theorem y2g{F:List W->FR}{d:Den (List W)}:dCall F d e=(d e).bind fun ws e1=>callR e1 (F ws):=by
 unfold dCall;congr 1
theorem y2h:callR e (.ok (.fr w))=.ok w e:=rfl
theorem x8b:callR e (.ok (.own none ws))=.ok (.lst ws) e:=rfl
theorem y2i:callR e (.ex v)=.ex v e:=rfl
theorem y2j:callR e .no=.no:=rfl
theorem x8c{f g:FR}:callR e (if c then f else g)=if c then callR e f else callR e g:=by split<;>rfl
def callF(e:List S):FR->R (List W)
 |.ok (.own none ws)=>.ok ws e
 |.ex c=>.ex c e
 |_=>.no
theorem x5r:callF e (.ok (.own none ws))=.ok ws e:=rfl
theorem x8d:callF e (.ex v)=.ex v e:=rfl
theorem x5s{f g:FR}:callF e (if c then f else g)=if c then callF e f else callF e g:=by split<;>rfl
def forW(i:Nat)(b:List S->SR)(e:List S):Option (List W)->SR
 |some ws=>forD i b ws e
 |none=>.no
theorem y6w{b:List S->SR}:dFor i d b e=(d e).stm fun w e1=>forW i b e1 (seqW w):=by
 unfold dFor;congr 1
theorem x2w{g:List W->Option (List W)}{d:Den (List W)}{b:List S->SR}:dForR i g d b e=(d e).stm fun w e1=>forW i b e1 (g w):=by
 unfold dForR;congr 1
theorem q9n{b:List S->SR}:forW i b e (some ws)=forD i b ws e:=rfl
def SR.turn:SR->(List S->SR)->SR
 |.nx e,k=>k e
 |.ct e,k=>k e
 |.bk e,_=>.nx e
 |.rt s e,_=>.rt s e
 |.ex c e,_=>.ex c e
 |.no,_=>.no
theorem q7q{b:List S->SR}:forD i b (w::ws) e=(b (e.set i (.fr w))).turn (forD i b ws):=by
 show(match b (e.set i (.fr w))with|.nx e'=>forD i b ws e'|.ct e'=>forD i b ws e'|.bk e'=>.nx e'|.rt s e'=>.rt s e'|.ex c e'=>.ex c e'|.no=>.no)=_;cases b (e.set i (.fr w))<;>rfl
theorem q64:(SR.nx e).turn q=q e:=rfl
theorem y2k:(SR.ct e).turn q=q e:=rfl
theorem y2l:(SR.bk e).turn q=.nx e:=rfl
theorem y2m:(SR.rt st e).turn q=.rt st e:=rfl
theorem y2n:(SR.ex v e).turn q=.ex v e:=rfl
theorem y2o:(SR.no).turn q=.no:=rfl
theorem x8e:(if c then s else t).turn q=if c then s.turn q else t.turn q:=by split<;>rfl
def look1(k:W->R W):Option W->R W
 |none=>.no
 |some w=>k w
theorem y6x:dIxV i d e=look1 (fun _=>(d e).bind fun k e1=>look1 (fun w=>ofOpt (ixW w k) e1) (e1[i]?.bind S.look)) (e[i]?.bind S.look):=by
 unfold dIxV look1;cases e[i]?.bind S.look with
 |none=>rfl
 |some w=>
  dsimp only;try congr 1
theorem x5t{k:W->R W}:look1 k (some w)=k w:=rfl
theorem y9q:S.look (.fr w)=some w:=rfl
theorem y6y:S.look (.x (.old w))=some w:=rfl
theorem y6z:S.look (.x (.new w))=some w:=rfl
theorem y60:S.look (.own b ws)=some (.lst ws):=rfl
def fnV2(e:List S)(y:Option W):Option S->R W
 |some (.fr _)=>ofOpt y e
 |_=>match y with
  |none=>.no
  |some v=>if scalW v=true then .ok v e else .no
theorem y61:dFnV i f e=look1 (fun w=>fnV2 e (f [w]) e[i]?) (e[i]?.bind S.look):=by
 unfold dFnV look1;cases q:e[i]? with
 |none=>rfl
 |some s=>
  cases s with
  |no=>rfl
  |nest _=>rfl
  |x k=>
   show(match k.look with|none=>R.no|some w=>match f [w]with|none=>R.no|some v=>if scalW v=true then R.ok v e else R.no)=look1 (fun w=>fnV2 e (f [w]) (some (.x k))) k.look
   cases k.look with
   |none=>rfl
   |some w=>
    show(match f [w]with|none=>R.no|some v=>if scalW v=true then R.ok v e else R.no)=fnV2 e (f [w]) (some (.x k));generalize f [w]=y;cases y<;>rfl
  |dw _ _ _=>rfl
  |fr w=>
   show(match f [w]with|none=>R.no|some v=>R.ok v e)=fnV2 e (f [w]) (some (.fr w));generalize f [w]=y;cases y<;>rfl
  |own b ws=>
   show(match f [W.lst ws]with|none=>R.no|some v=>if scalW v=true then R.ok v e else R.no)=fnV2 e (f [W.lst ws]) (some (.own b ws));generalize f [W.lst ws]=y;cases y<;>rfl
theorem y62{y:Option W}:fnV2 e y (some (.fr w))=ofOpt y e:=rfl
theorem y9r{k:SK}{v:W}:fnV2 e (some v) (some (.x k))=if scalW v=true then .ok v e else .no:=rfl
theorem y2p{v:W}:fnV2 e (some v) (some (.own b ws))=if scalW v=true then .ok v e else .no:=rfl
def appK(i:Nat)(e:List S):List W->Option S->SR
 |[w],some (.own b xs)=>if xs.length<16777216 then .nx (e.set i (.own b (xs++[w])))else .no
 |_,_=>.no
def ownQ(k:SR):Option S->SR
 |some (.own _ _)=>k
 |_=>.no
theorem y63{d:Den (List W)}:dApp i d e=ownQ ((d e).stm fun ws e1=>appK i e1 ws e1[i]?) e[i]?:=by
 unfold dApp ownQ;cases e[i]? with
 |none=>rfl
 |some s=>cases s with
  |own b xs=>
   dsimp only;try congr 1
  |_=>rfl
theorem y9s{k:SR}:ownQ k (some (.own b ws))=k:=rfl
theorem y9t{xs:List W}:appK i e [w] (some (.own b xs))=if xs.length<16777216 then .nx (e.set i (.own b (xs++[w])))else .no:=rfl
theorem x5u:dNoPart e=.ok none e:=rfl
def partK(e:List S):W->R (Option Int)
 |.int i=>.ok (some i) e
 |_=>.no
theorem y2q:dPart d e=(d e).bind fun w e1=>partK e1 w:=rfl
theorem x8f{i:Int}:partK e (.int i)=.ok (some i) e:=rfl
def isiK(e:List S):Option W->R W
 |some (.bl b)=>.ok (.bl b) e
 |_=>.no
theorem y64:dIsi K cv d e=(d e).bind fun w e1=>isiK e1 (isiW K cv w):=by
 unfold dIsi;congr 1
theorem y65{b:Bool}:isiK e (some (.bl b))=.ok (.bl b) e:=rfl
theorem x8g{b k:Bool}(h:kitOne K (.type "bool") cv=some k):isiW K cv (.bl b)=some (.bl k):=by show(kitOne K (.type "bool") cv).map W.bl=_;rw[h];rfl
def compR(e:List S):Option (List W)->R (List W)
 |some out=>.ok out e
 |none=>.no
theorem y2r:compK js cc d ws e=if ws.length<=16777216 then compR (frzs js e) (compD cc d (pjS js (frzs js e)) ws)else .no:=by
 unfold compK compR;split
 ·cases compD cc d (pjS js (frzs js e)) ws<;>rfl
 ·rfl
def compW(js:List Nat)(cc:Den Bool)(d:Den W)(e:List S):Option (List W)->R (List W)
 |some ws=>compK js cc d ws e
 |none=>.no
theorem y2s{di:Den W}:dComp js di cc d e=(di e).bind fun w e1=>compW js cc d e1 (seqW w):=by
 unfold dComp;congr 1
theorem x36:compW js cc d e (some ws)=compK js cc d ws e:=rfl
theorem x37{out:List W}:compR e (some out)=.ok out e:=rfl
theorem y66:dYes e=.ok true e:=rfl
theorem y2t(h:e[j]?=some (.fr w)):frz1 e j=e:=by unfold frz1;rw[h]
theorem x8h:frzs [] e=e:=rfl
theorem x5v:frzs (j::js) e=frzs js (frz1 e j):=rfl
theorem y2u:pjS [] e=[]:=rfl
theorem x8i:pjS (j::js) e=pj1 e j::pjS js e:=rfl
theorem y67(h:e[j]?=some (.fr w)):pj1 e j=.fr w:=by unfold pj1;rw[h]
theorem x5w{pe:List S}:compD cc d pe (w::ws)=(match cc (.fr w::pe)with
  |.ok true e1=>(match d e1 with|.ok y _=>(compD cc d pe ws).map (y::·)|_=>none)
  |.ok false _=>compD cc d pe ws
  |_=>none):=rfl
end
section
variable{i j:Int}{b c:Bool}
theorem y68:addW (.int i) (.int j)=some (.int (i+j)):=rfl
theorem y69:addW (.str x) (.str y)=if x.length+y.length<=16777216 then some (.str (x++y))else none:=rfl
theorem y7a:addW (.lst ws) (.lst us)=if ws.length+us.length<=16777216 then some (.lst (ws++us))else none:=rfl
theorem y7b:subW (.int i) (.int j)=some (.int (i-j)):=rfl
theorem x5x:mulW (.int i) (.int j)=if(-18446744073709551616<i/\i<18446744073709551616)\/(-18446744073709551616<j/\j<18446744073709551616)then some (.int (i*j))else none:=rfl
theorem y2v:fdivW (.int i) (.int j)=if 0<j/\j<1073741824 then some (.int (i / j))else none:=rfl
theorem y7c:modW (.int i) (.int j)=if 0<j then some (.int (i%j))else none:=rfl
theorem y7d:powW (.int i) (.int j)=if 0<=j/\j<=1000000/\-18446744073709551616<i/\i<18446744073709551616 then some (.int (i^j.toNat))else none:=by
 show(if 0<=j/\j<=1000000/\i.natAbs<2^64 then _ else _)=_;have e:(2:Nat)^64=18446744073709551616:=by decide
 rw[e]
 by_cases h:0<=j/\j<=1000000/\i.natAbs<18446744073709551616
 ·rw[if_pos h,if_pos (by omega)]
 ·rw[if_neg h,if_neg (by omega)]
theorem y9u:ltW (.int i) (.int j)=some (.bl (decide (i<j))):=rfl
theorem y9v:leW (.int i) (.int j)=some (.bl (decide (i<=j))):=rfl
theorem y9w:negW (.int i)=some (.int (-i)):=rfl
theorem y9x:eq2 (.int i) (.int j)=some (.bl (decide (i=j))):=by
 show some (W.bl (i==j))=_;congr 2
theorem y9y:eq2 (.str x) (.str y)=some (.bl (decide (x=y))):=by
 show some (W.bl (x==y))=_;congr 2
theorem y9z:eq2 (.bl b) (.bl c)=some (.bl (decide (b=c))):=by
 show some (W.bl (b==c))=_;congr 2
theorem y90:ne2 (.int i) (.int j)=some (.bl (!decide (i=j))):=by
 show some (W.bl (!(i==j)))=_;congr 2
theorem y91:ne2 (.str x) (.str y)=some (.bl (!decide (x=y))):=by
 show some (W.bl (!(x==y)))=_;congr 2
theorem y92:ne2 (.bl b) (.bl c)=some (.bl (!decide (b=c))):=by
 show some (W.bl (!(b==c)))=_;congr 2
theorem y93:isW (.bl b) (.bl c)=some (.bl (decide (b=c))):=by
 show some (W.bl (b==c))=_;congr 2
theorem y94:isW .non .non=some (.bl true):=rfl
theorem y95:isW (.bl b) .non=some (.bl false):=rfl
theorem y96:isW (.int i) .non=some (.bl false):=rfl
theorem y97:isW (.str x) .non=some (.bl false):=rfl
theorem y98:isW (.tup ws) .non=some (.bl false):=rfl
theorem y99:isW (.lst ws) .non=some (.bl false):=rfl
theorem y7e:nisW (.bl b) (.bl c)=some (.bl (!decide (b=c))):=by
 show some (W.bl (!(b==c)))=_;congr 2
theorem y7f:nisW .non .non=some (.bl false):=rfl
theorem y7g:nisW (.bl b) .non=some (.bl true):=rfl
theorem y7h:nisW (.int i) .non=some (.bl true):=rfl
theorem y7i:nisW (.str x) .non=some (.bl true):=rfl
theorem y7j:nisW (.tup ws) .non=some (.bl true):=rfl
theorem y7k:nisW (.lst ws) .non=some (.bl true):=rfl
theorem ix_t:ixW (.tup ws) (.int i)=atI ws i:=rfl
theorem ix_l:ixW (.lst ws) (.int i)=atI ws i:=rfl
theorem z0a:len1 [.tup ws]=some (.int ws.length):=rfl
theorem z0b:len1 [.lst ws]=some (.int ws.length):=rfl
theorem z0c:tup1 [.lst ws]=some (.tup ws):=rfl
theorem z0d:tup1 [.tup ws]=some (.tup ws):=rfl
theorem z0e:lst1 [.lst ws]=some ws:=rfl
theorem z0f:lst1 [.tup ws]=some ws:=rfl
theorem z0g:truW (.bl b)=some b:=rfl
theorem z0h:truW (.int i)=some (i != 0):=rfl
theorem z0i:truW .non=some false:=rfl
theorem z0j:truW (.tup ws)=some (!ws.isEmpty):=rfl
theorem z0k:truW (.lst ws)=some (!ws.isEmpty):=rfl
theorem z0l:seqW (.tup ws)=some ws:=rfl
theorem z0m:seqW (.lst ws)=some ws:=rfl
theorem sc_i:scalW (.int i)=true:=rfl
theorem sc_b:scalW (.bl b)=true:=rfl
theorem sc_s:scalW (.str x)=true:=rfl
theorem sc_n:scalW .non=true:=rfl
theorem sl_l{lo hi:Option Int}:slW (.lst ws) lo hi=some (.lst (cutW ws lo hi)):=rfl
theorem at0{xs:List α}:atI xs 0=xs[0]?:=by
 cases xs with
 |nil=>rfl
 |cons a l=>exact q19 (j:=0) rfl
theorem at1{xs:List α}:atI xs 1=xs[1]?:=by
 cases xs with
 |nil=>rfl
 |cons a l=>
  cases l with
  |nil=>rfl
  |cons b l=>exact q19 (j:=1) rfl
theorem at2{xs:List α}:atI xs 2=xs[2]?:=by
 cases xs with
 |nil=>rfl
 |cons a l=>
  cases l with
  |nil=>rfl
  |cons b l=>
   cases l with
   |nil=>rfl
   |cons c l=>exact q19 (j:=2) rfl
theorem y7l{xs:List α}{k:Int}(h0:0<=k):atI xs k=xs[k.toNat]?:=by
 unfold atI ixN;rw[if_pos h0]
 by_cases h:k<xs.length
 ·rw[if_pos h];rfl
 ·rw[if_neg h];exact(w2c (by omega)).symm
theorem x06{a b:String}(h:Str.ofString a=Str.ofString b):a=b:=by
 rw[Str.ofString_eq_toList,Str.ofString_eq_toList]at h;have h1:(a.toList.map Char.toNat).toArray=(b.toList.map Char.toNat).toArray:=congrArg Str.cps h;have h2:a.toList.map Char.toNat=b.toList.map Char.toNat:=by simpa using congrArg Array.toList h1
 have h3:a.toList=b.toList:=by
  have inj:∀c d:Char,c.toNat=d.toNat->c=d:=fun c d e=>by
   apply Char.ext;exact UInt32.toNat_inj.mp e
  exact(List.map_inj_right inj).mp h2
 exact String.toList_inj.mp h3
theorem y7m{a b:String}:(Str.ofString a=Str.ofString b)=(a=b):=propext ⟨x06,fun h=>by rw[h]⟩
end
def tuprevW:W->Option W
 |.lst ws=>some (.tup ws.reverse)
 |_=>none
def boolsW:List W->Option (List Bool)
 |[]=>some []
 |.bl b::ws=>(boolsW ws).map (b::·)
 |_=>none
def all1:List W->Option W
 |[.lst ws]=>(boolsW ws).map fun bs=>.bl (bs.all id)
 |_=>none
def max2:List W->Option W
 |[.int i,.int j]=>some (.int (if j>i then j else i))
 |_=>none
def min2:List W->Option W
 |[.int i,.int j]=>some (.int (if j<i then j else i))
 |_=>none
def int1:List W->Option W
 |[.int i]=>some (.int i)
 |[.bl b]=>some (.int (if b then 1 else 0))
 |_=>none
theorem q8h:∀{ws:List W}{bs:List Bool},boolsW ws=some bs->ws=bs.map .bl
 |[],bs,h=>by cases h;rfl
 |.bl b::ws,bs,h=>by
  obtain⟨cs,h1,rfl⟩:=w0e.mp (show(boolsW ws).map (b::·)=some bs from h);rw[q8h h1];rfl
 |.non::ws,bs,h=>by cases h
 |.int _::ws,bs,h=>by cases h
 |.str _::ws,bs,h=>by cases h
 |.tup _::ws,bs,h=>by cases h
 |.lst _::ws,bs,h=>by cases h
 |.exc _::ws,bs,h=>by cases h
theorem q8i:∀{bs:List Bool}{xs:List V},Reps K G (bs.map W.bl) xs->xs=bs.map V.bl
 |[],xs,h=>h
 |b::bs,xs,h=>by
  obtain⟨x,r,rfl,h1,h2⟩:=h;rw[q8i h2,show x=V.bl b from h1];rfl
theorem y7n:OpN K (fun xs H Q=>∃p ys,xs=[.ref p]/\SqL K H p ys/\(∀y∈ys,∃b,y=.bl b)/\Q (.bl (ys.all fun y=>decide (y=.bl true))) H) all1:=by
 intro G H xs ws w Q s pr hf h;unfold all1 at hf;split at hf
 ·obtain⟨bs,hb,rfl⟩:=w0e.mp hf;have:=q8h hb;subst this;obtain⟨x,r,rfl,px,pr⟩:=pr;cases(show r=[]from pr);obtain⟨a,ys,rfl,ha,ra⟩:=px;have:=q8i ra;subst this;refine⟨a,_,rfl,s.seq ha,fun y hy=>?_,h G _ H (.refl s) ?_⟩
  ·obtain⟨b,_,rfl⟩:=w0z.mp hy;exact⟨b,rfl⟩
  ·show V.bl _=V.bl _;congr 1;rw[w4l];congr 1;funext b
   cases b<;>rfl
 ·cases hf
theorem y7o:OpN K (fun xs H Q=>∃i j,xs=[.int i,.int j]/\Q (.int (if j<i then j else i)) H) min2:=by
 intro G H xs ws w Q s pr hf h;unfold min2 at hf;split at hf
 ·cases hf;obtain⟨x,r,rfl,px,y,r2,rfl,py,pr⟩:=pr;cases(show r2=[]from pr);cases px;cases py;exact⟨_,_,rfl,h G _ H (.refl s) rfl⟩
 ·cases hf
theorem y7p:OpN K (fun xs H Q=>(∃i,xs=[.int i]/\Q (.int i) H)\/∃k,xs=[.bl k]/\Q (.int (if k then 1 else 0)) H) int1:=by
 intro G H xs ws w Q s pr hf h;unfold int1 at hf;split at hf
 ·cases hf;obtain⟨x,r,rfl,px,pr⟩:=pr;cases(show r=[]from pr);cases px;exact .inl ⟨_,rfl,h G _ H (.refl s) rfl⟩
 ·cases hf;obtain⟨x,r,rfl,px,pr⟩:=pr;cases(show r=[]from pr);cases px;exact .inr ⟨_,rfl,h G _ H (.refl s) rfl⟩
 ·cases hf
section
variable{a b c e:Expr}{p p1 p2 pos1 pos2:Pos}
theorem y7q(hc:X.calm=true)(hm:X.mg "all"=none)(ha:DA Z X EE [e] dA)(hg:Gl X "all":=by rfl)(he:starEach [e] X.env=(false,eval e X.env)::starEach [] X.env:=by rfl)(hpl:(backTo pos (starEach [] X.env)).any (·.1)=false:=by rfl):DE Z X EE (.Call (.Name "all" p) [e] [] pos) (dFn all1 dA):=
 q8b (x7v hc) y7n PyProof.Rows.Boot.«all» hm ha hg (by decide) (by decide) he hpl
theorem q85(hc:X.calm=true)(hm:X.mg "min"=none)(ha:DA Z X EE [a,b] dA)(hg:Gl X "min":=by rfl)(he:starEach [a,b] X.env=(false,eval a X.env)::starEach [b] X.env:=by rfl)(hpl:(backTo pos (starEach [b] X.env)).any (·.1)=false:=by rfl):DE Z X EE (.Call (.Name "min" p) [a,b] [] pos) (dFn min2 dA):=
 q8b (x43 hc) y7o PyProof.Rows.Boot.«min» hm ha hg (by decide) (by decide) he hpl
theorem y2w(hm:X.mg "int"=none)(ha:DA Z X EE [e] dA)(hg:Gl X "int":=by rfl)(he:starEach [e] X.env=(false,eval e X.env)::starEach [] X.env:=by rfl)(hpl:(backTo pos (starEach [] X.env)).any (·.1)=false:=by rfl):DE Z X EE (.Call (.Name "int" p) [e] [] pos) (dFn int1 dA):=
 x5e x44 y7p PyProof.Rows.Boot.«int» hm ha hg (by decide) (by decide) he hpl
end
theorem x8j:tuprevW (.lst ws)=some (.tup ws.reverse):=rfl
theorem y7r{i j:Int}:max2 [.int i,.int j]=some (.int (if j>i then j else i)):=rfl
theorem y7s{i j:Int}:min2 [.int i,.int j]=some (.int (if j<i then j else i)):=rfl
theorem z0n{i:Int}:int1 [.int i]=some (.int i):=rfl
theorem z0o{b:Bool}:int1 [.bl b]=some (.int (if b then 1 else 0)):=rfl
theorem cast0:((0:Nat):Int)=0:=rfl
theorem cast1:((1:Nat):Int)=1:=rfl
theorem x5y{b:List S->SR}(I:Nat->List S->Prop):∀(ws:List W)(k:Nat)(e:List S),I k e->(∀(j:Nat)(w:W)(e:List S),ws[j]?=some w->I (k+j) e->∃e',b (e.set i (.fr w))=.nx e'/\I (k+j+1) e')->∃e',forD i b ws e=.nx e'/\I (k+ws.length) e'
 |[],k,e,h0,_=>⟨e,rfl,h0⟩
 |w::ws,k,e,h0,h=>by
  obtain⟨e1,h1,h2⟩:=h 0 w e rfl h0
  obtain⟨e2,h3,h4⟩:=x5y I ws (k+1) e1 h2 fun j u e hu hI=>by
   have z:=h (j+1) u e (by simpa using hu) (by rw[show k+(j+1)=k+1+j by omega];exact hI);rw[show k+(j+1)+1=k+1+j+1 by omega]at z;exact z
  refine⟨e2,?_,?_⟩
  ·rw[q7q,h1,q64,h3]
  ·rw[w0x,show k+(ws.length+1)=k+1+ws.length by omega];exact h4
theorem len_range{lo hi:Int}:(rangeW lo hi).length=(hi-lo).toNat:=by simp[rangeW]
theorem x5z{lo hi:Int}(h:(rangeW lo hi)[j]?=some w):w=.int (lo+j)/\j<(hi-lo).toNat:=by
 unfold rangeW at h;rw[w0j]at h;obtain⟨k,h1,rfl⟩:=w0e.mp h;obtain⟨h2,h3⟩:=w0b.mp h1;simp at h2 h3;subst h3;exact⟨rfl,by omega⟩
theorem q3p{b:List S->SR}{lo hi:Int}(n:Nat)(hn:(hi-lo).toNat=n)(I:Nat->List S->Prop)(e:List S)(h0:I 0 e)(h:∀(j:Nat)(e:List S),j<n->I j e->∃e',b (e.set i (.fr (.int (lo+j))))=.nx e'/\I (j+1) e'):∃e',forD i b (rangeW lo hi) e=.nx e'/\I n e':=by
 obtain⟨e',h1,h2⟩:=x5y (b:=b) (i:=i) I (rangeW lo hi) 0 e h0 fun j w e hw hI=>by
  obtain⟨rfl,hj⟩:=x5z hw;rw[w4m]at hI |-
  exact h j e (by omega) hI
 rw[len_range,hn,w4m]at h2;exact⟨e',h1,h2⟩
def dPut(i:Nat)(dv dk:Den W):List S->SR:=fun e=>(dv e).stm fun w e1=>match e1[i]? with
 |some (.own _ _)=>(dk e1).stm fun k e2=>match k,e2[i]? with
  |.int k,some (.own b ws)=>match ixN ws.length k with
   |some j=>.nx (e2.set i (.own b (ws.set j w)))
   |none=>.no
  |_,_=>.no
 |_=>.no
section
variable{e k:Expr}{p tpos:Pos}
theorem x50(i:Nat)(he:DE Z X EE e d)(hk:DE Z X EE k dk)(hN:X.N[i]?=some x:=by rfl)(hv:Vis X.env.scope x:=by walk_at "1")(hd:(x==("__debug__":Str))=false:=by decide)(hcd:(x==("__classdict__":Str))=false:=by decide)
  (ha:∀v,assign (.Subscript (.Name x p) k tpos) X.env v=(do
   let ov <- holding [v] (eval (.Name x p) X.env)
   let iv <- holding [v,ov] (eval k X.env)
   standAt tpos
   holding [v,ov,iv] (setItem ov iv v)
   release [v,ov,iv] []):=by intro _;rfl)
  (hs:swapsWithSole [.Subscript (.Name x p) k tpos] e pos.line X.env=pure false:=by rfl)(hw:swappedStores [.Subscript (.Name x p) k tpos] e X.env=pure none:=by rfl)
  (h1:(assignEach [.Subscript (.Name x p) k tpos] X.env).map (·.2)=[assign (.Subscript (.Name x p) k tpos) X.env]:=by rfl):
  DS Z X EE (.Assign [.Subscript (.Name x p) k tpos] e pos) (dPut i d dk):=by
 refine PS.mono (x0p he (x4y (pv i hN hv hd hcd) hk x0v ha) hs hw h1) ?_;rintro D σ H ⟨G,e,rel,h⟩;refine⟨G,e,rel,(q0u h).imp (fun w e1 h G1 v1 H1 r1 s1 p1=>?_) fun _ _ h=>h⟩
 split at h
 ·rename_i b0 ws0 he0;obtain⟨a,xs,q1,q2,q3,q4,q5⟩:=r1.own he0;refine⟨.ref a,q1,G1,e1,r1,(q0u (σ:=σ) h).imp (fun kw e2 h G2 v2 H2 r2 s2 p2=>?_) fun _ _ h G' H' r s=>h G' H' r (s1.trans s)⟩
  ·split at h
   ·rename_i kk b ws he2;obtain⟨a',zs,g1,g2,g3,g4,g5⟩:=r2.own he2;rw[q1]at g1;cases g1;cases p2;split at h
    ·rename_i j hj;refine⟨a,zs,_,j,rfl,rfl,g2,by rw[g5.length];exact hj,?_⟩;exact h G2 σ _ (r2.mut he2 q1 (g5.set j (Rep.mono s2 w p1))) (s1.trans s2)
    ·exact h.elim
   ·exact h.elim
 ·exact h.elim
end
def OpM(K:Fg)(r:V->List V->Hp->VK->Prop)(f:W->List W->Option W):Prop:=∀(G H:Hp)(x:V)(xs:List V)(wx:W)(ws:List W)(w:W)(Q:VK),Same G H->Rep K G wx x->Reps K G ws xs->f wx ws=some w->(∀G' v H',Grow G H G' H'->Rep K G' w v->Q v H')->r x xs H Q
def kindW(T:String):W->Bool
 |.str _=>T=="str"
 |.lst _=>T=="list"
 |_=>false
def dMeth(T:String)(f:W->List W->Option W)(d:Den W)(dA:Den (List W)):Den W:=fun e=>(d e).bind fun x e1=>if kindW T x=true then(dA e1).bind fun ws e2=>ofOpt (f x ws) e2 else .no
section
variable{o e:Expr}{p:Pos}
theorem y2x{id:String}{name:Str}{r:V->List V->Hp->VK->Prop}{f:W->List W->Option W}(pa:PlainAttrs T)(slot:Slot T name id)(hty:typeOf (.builtin id)=pure (.type "method_descriptor"))(hm:MtR X id r)(hf:OpM X.K r f)(ho:DE Z X EE o d)(ha:DA Z X EE (e::es) dA)
  (hbase:attributeBase o name X.env (eval o X.env)=eval o X.env:=by rfl)
  (hfew:((backTo cpos (starEach (e::es) X.env)).all (fun x=>!x.1)&&(backToKw cpos (keywordEach [] X.env)).all (fun x=>x.1.isSome)&&decide ((e::es).length+([]:List Keyword).length+(if([]:List Keyword).isEmpty then 0 else 1)<30))=true:=by rfl)
  (hline:(apos.endLine==cpos.line)=true:=by rfl)(hs:starEach (e::es) X.env=(false,eval e X.env)::starEach es X.env:=by rfl)(hplain:(backTo cpos (starEach es X.env)).any (·.1)=false:=by rfl):
  DE Z X EE (.Call (.Attribute o name apos) (e::es) [] cpos) (dMeth T f d dA):=by
 refine PE.mono (y0o pa slot hty hm ho ha hbase hfew hline hs hplain) ?_;rintro σ H Q ⟨G,e,rel,h⟩;simp only[dMeth,R.holds_bind]at h;refine⟨G,e,rel,h.imp (fun wx e1 h G1 v1 H1 r1 s1 p1=>?_) fun _ _ h=>h⟩
 split at h
 ·rename_i hk;refine⟨?_,G1,e1,r1,(R.holds_bind.mp h).imp (fun ws e2 h G2 vs H2 r2 s2 p2=>?_) fun _ _ h=>XH.trans s1 h⟩
  ·cases wx with
   |str z=>cases p1;exact(by simpa [kindW]using hk:T="str")
   |lst ws=>
    obtain⟨a,xs,rfl,q,_⟩:=p1;exact .inl ⟨by simpa [kindW]using hk,xs,r1.sub.seq q⟩
   |_=>cases hk
  ·obtain⟨w,hw,h⟩:=ofOpt_holds.mp h;exact hf G2 H2 v1 vs wx ws w Q r2.sub (Rep.mono s2 wx p1) p2 hw fun G' v H' g p=>h G' v H' (r2.grow g) ((s1.trans s2).trans g.gg) p
 ·exact h.elim
end
def SR.turnT(r:SR)(k:List S->SR):SR:=match r with
 |.nx e'=>k e'
 |.ct e'=>k e'
 |.bk e'=>.nx e'
 |.rt s e'=>.rt s e'
 |.ex c e'=>.ex c e'
 |.no=>.no
structure TabK(P:Program)(w:World)(K:Fg)(d:Addr)(tb:List (Str×Int)):Prop where
 tab:∀h,K.In h->PyProof.Rows.StrTab P w h d (PySem.W.kdpD tb)
 obj:∃o,K.lookup d=some o/\o.cls=.type "dict" /\ o.dict=none
def putC(i:Nat)(e:List S)(b:Option Nat)(ws:List W)(w:W):Option Nat->SR
 |some j=>.nx (e.set i (.own b (ws.set j w)))
 |none=>.no
def putB(i:Nat)(e:List S)(w:W):W->Option S->SR
 |.int k,some (.own b ws)=>putC i e b ws w (ixN ws.length k)
 |_,_=>.no
def putA(i:Nat)(dk:Den W)(w:W)(e:List S):Option S->SR
 |some (.own _ _)=>(dk e).stm fun k e2=>putB i e2 w k e2[i]?
 |_=>.no
theorem y7t{dv:Den W}:dPut i dv dk e=(dv e).stm fun w e1=>putA i dk w e1 e1[i]?:=by
 unfold dPut;congr 1
theorem x8k:putA i dk w e (some (.own b ws))=(dk e).stm fun k e2=>putB i e2 w k e2[i]?:=rfl
theorem x8l{k:Int}:putB i e w (.int k) (some (.own b ws))=putC i e b ws w (ixN ws.length k):=rfl
theorem q6m:putC i e b ws w (some j)=.nx (e.set i (.own b (ws.set j w))):=rfl
def extB(i:Nat)(e:List S)(b:Option Nat)(xs:List W):Option (List W)->SR
 |some ys=>if xs.length+ys.length<=16777216 then .nx (e.set i (.own b (xs++ys)))else .no
 |none=>.no
theorem x51{xs ys:List W}:extB i e b xs (some ys)=if xs.length+ys.length<=16777216 then .nx (e.set i (.own b (xs++ys)))else .no:=rfl
theorem y2y{f:W->List W->Option W}:dMeth T f d dA e=(d e).bind fun x e1=>if kindW T x=true then(dA e1).bind fun ws e2=>ofOpt (f x ws) e2 else .no:=rfl
theorem y7u{z:Str}:kindW "str" (.str z)=true:=rfl
theorem y7v:kindW "list" (.lst ws)=true:=rfl
def forP(i j:Nat)(b:List S->SR):List (W×W)->List S->SR
 |[],e=>.nx e
 |p::ps,e=>(b ((e.set i (.fr p.1)).set j (.fr p.2))).turnT (forP i j b ps)
def dForP(i j:Nat)(d:Den (List (W×W)))(b:List S->SR):List S->SR:=fun e=>(d e).stm fun ps e1=>forP i j b ps e1
def compP(c:Den Bool)(d:Den W)(pe:List S):List (W×W)->Option (List W)
 |[]=>some []
 |p::ps=>match c (.fr p.1::.fr p.2::pe)with
  |.ok true e1=>match d e1 with
   |.ok y _=>(compP c d pe ps).map (y::·)
   |_=>none
  |.ok false _=>compP c d pe ps
  |_=>none
def compPK(js:List Nat)(c:Den Bool)(d:Den W)(ps:List (W×W))(e1:List S):R (List W):=
 if ps.length<=16777216 then(match compP c d (pjS js (frzs js e1)) ps with
  |some out=>.ok out (frzs js e1)
  |none=>.no)else .no
def dCompP(js:List Nat)(di:Den (List (W×W)))(c:Den Bool)(d:Den W):Den (List W):=fun e=>(di e).bind fun ps e1=>compPK js c d ps e1
structure Walk2(K:Fg)(G1:Hp)(J:It)(ps:List (W×W)):Prop where
 go:∀(i:Nat)(G H:Hp),Same G1 G->Same G H->i<ps.length->J.go i H
 yld:∀(i:Nat)(G H:Hp)(x:V)(H':Hp),Same G1 G->Same G H->J.yld i H x H'->∀u v,ps[i]?=some (u,v) ->
  Grow G H G H'/\∀(m n:Nat)(σ:St)(Q:St->Hp->Prop),(∀y z,Rep K G u y->Rep K G v z->Q ((σ.set m (some y)).set n (some z)) H')->gTup K 2 (gCons (gName m) (gCons (gName n) gNil)) x σ H' Q
 stop:∀(i:Nat)(G H:Hp),Same G1 G->Same G H->ps.length<=i->J.stop i H
def liftI(K:Fg)(Z:Zt)(EE:L2.St->XK)(d:Den (List (W×W))):TI:=fun σ H R=>AtG K Z σ H fun G e=>(d e).holds (fun ps e1=>∀G1 H1 J,Rel K Z G1 σ H1 e1->Same G G1->Walk2 K G1 J ps->R J H1) (XH K Z EE σ G)
def DI(Z:Zt)(X:Cx)(EE:L2.St->XK)(tg iter:Expr)(d:Den (List (W×W))):Prop:=PI X tg iter (liftI X.K Z EE d)
theorem PI.mono{tg iter:Expr}{wi wi':TI}(h:PI X tg iter wi)(m:∀σ H R,wi' σ H R->wi σ H R):PI X tg iter wi':=fun pins s σ H R I q=>h pins s σ H R I (m σ H R q)
theorem x52{D:Ends}{Pv:St->Hp->Prop}{p:W×W}{x y:V}(r:Rel K Z G' σ H e)(s:Same G1 G')(pu:Rep K G' p.1 x)(pv:Rep K G' p.2 y)
  (h:PostS K Z EE D G1 (forP i j s1 (p::ps) e))(hP:∀G'' σ'' H'' e'',Rel K Z G'' σ'' H'' e''->Same G1 G''->PostS K Z EE D G1 (forP i j s1 ps e'')->Pv σ'' H''):
  liftS K Z EE s1 {D with nx:=Pv,ct:=Pv,bk:=D.nx} ((σ.set i (some x)).set j (some y)) H:=by
 refine⟨G',_,(r.set pu).set pv,?_⟩;unfold forP at h;cases q:s1 ((e.set i (.fr p.1)).set j (.fr p.2))with
 |nx e'=>rw[q]at h;exact fun G'' σ'' H'' r'' s''=>hP G'' σ'' H'' e' r'' (s.trans s'') h
 |ct e'=>rw[q]at h;exact fun G'' σ'' H'' r'' s''=>hP G'' σ'' H'' e' r'' (s.trans s'') h
 |bk e'=>rw[q]at h;exact fun G'' σ'' H'' r'' s''=>h G'' σ'' H'' r'' (s.trans s'')
 |rt t e'=>rw[q]at h;exact fun G'' σ'' v H'' r'' s'' p=>h G'' σ'' v H'' r'' (s.trans s'') p
 |ex c e'=>rw[q]at h;exact fun G'' σ'' H'' r'' s''=>h G'' σ'' H'' r'' (s.trans s'')
 |no=>rw[q]at h;exact h
theorem q8j{p:W×W}(h:ps[k]?=some p):ps.drop k=p::ps.drop (k+1):=by
 obtain⟨h1,h2⟩:=w0b.mp h;rw[w3l h1,h2]
theorem Rel.block2(r:Rel K Z G σ H e)(js:List Nat){u:W}{y x:V}(q:Rep K G u y)(p:Rep K G w x):Rel K ⟨H,G,[]⟩ G (some y::some x::pj js σ) H (.fr u::.fr w::pjS js e):=by
 have b:=r.block js p
 have hfr:∀(i:Nat)(s:S),(S.fr w::pjS js e)[i]?=some s->s=.no\/∃u,s=.fr u:=fun i s h=>by
  cases i with
  |zero=>cases h;exact .inr ⟨w,rfl⟩
  |succ k=>
   rw[w0w]at h;unfold pjS at h;rw[w0j]at h;obtain⟨j,h1,h2⟩:=w0e.mp h;unfold pj1 at h2;split at h2
   ·subst h2;exact .inr ⟨_,rfl⟩
   ·subst h2;exact .inl rfl
 refine⟨b.sub,fun i s h=>?_,?_,fun i j b1 b2 w1 w2 a h1 h2 _ _=>?_,b.ent,b.ion,b.gen⟩
 ·cases i with
  |zero=>cases h;exact⟨y,rfl,q⟩
  |succ i=>
   rw[w0w]at h;have z:=b.slot i s h;rcases hfr i s h with rfl|⟨u',rfl⟩
   ·trivial
   ·obtain⟨v,z1,z2⟩:=b.fr h;exact⟨v,by rw[w0w,z1];rfl,z2⟩
 ·have:=b.len;simp only[w0x]at this |-
  omega
 ·cases i with
  |zero=>cases h1
  |succ i=>
   rw[w0w]at h1;rcases hfr i _ h1 with z|⟨u',z⟩<;>cases z
theorem x8m{out:List W}{Q:VK}{G0 H1:Hp}{e1:List S}(W0:Walk2 K G1 J ps)(r1:Rel K Z G1 σ H1 e1)(s1:Same G0 G1)(hl:ps.length<=16777216)
  (hz:∀p,H1 p=none->p∉Z.io)(hc:compP c d (pjS js e1) ps=some out)
  (h:∀G' a xs H',Rel K Z G' σ H' e1->Same G0 G'->H' a=some (.lst xs)->G' a=none->Z.H a=none->Free σ e1 a->Reps K G' out xs->Q (.ref a) H'):
  ∀D,H1 D=none->∃W:Nat->Nat->Hp->Prop,(∃m,W 0 m (upd H1 D (.lst [])))/\∀i m H2,W i m H2 ->
   (J.stop i H2/\Q (.ref D) H2)\/(J.go i H2/\∀x H3,J.yld i H2 x H3->gTup K 2 (gCons (gName 0) (gCons (gName 1) gNil)) x (List.replicate 2 none++pj js σ) H3 fun σ4 H4=>Kp (List.replicate 2 none++pj js σ) σ4/\cT K c σ4 H4 fun b H5=>
    if b=true then cE K d σ4 H5 fun y H6=>∃ys,H6 D=some (.lst ys)/\ys.length<sizeLine/\∃m',m'<m/\W (i+1) m' (upd H6 D (.lst (ys++[y])))else ∃m',m'<m/\W (i+1) m' H5):=by
 intro D hD
 refine⟨fun i m H2=>m=ps.length-i/\i<=ps.length/\∃G2 ys done rest,Rel K Z G2 σ H2 e1/\Same G1 G2/\H2 D=some (.lst ys)/\G2 D=none/\Reps K G2 done ys/\done.length<=i/\compP c d (pjS js e1) (ps.drop i)=some rest/\done++rest=out,
  ⟨ps.length,by omega,w1b _,G1,[],[],out,r1.grow (Grow.hid r1.sub hD _),.refl _,q0d,r1.sub.free hD,rfl,w0g _,hc,rfl⟩,?_⟩
 rintro i m H2 ⟨rfl,hi,G2,ys,done,rest,r2,s2,hd2,hg2,rp2,hdl,hc2,ho⟩;have hfree:Free σ e1 D:=q35 r1 hD;have hzh:Z.H D=none:=q2h r1 hD
 by_cases hlt:i<ps.length
 ·refine .inr ⟨W0.go i G2 H2 s2 r2.sub hlt,fun x H3 hy=>?_⟩
  have hp:ps[i]?=some ((ps[i]).1,(ps[i]).2):=by rw[w0d hlt]
  obtain⟨g3,hgo⟩:=W0.yld i G2 H2 x H3 s2 r2.sub hy _ _ hp;have r2':=r2.grow g3;have hd3:H3 D=some (.lst ys):=g3.hh _ _ hd2;rw[q8j hp]at hc2;refine hgo 0 1 _ _ fun yv zv py pz=>⟨Kp.two,⟨H3,G2,[]⟩,G2,.fr (ps[i]).1::.fr (ps[i]).2::pjS js e1,r2'.block2 js py pz,?_⟩
  unfold compP at hc2;cases qc:c (.fr (ps[i]).1::.fr (ps[i]).2::pjS js e1)with
  |no=>rw[qc]at hc2;cases hc2
  |ex _ _=>rw[qc]at hc2;cases hc2
  |ok k e2=>
   rw[qc]at hc2;intro G3 H5 r3 s3;have g3:=r3.toGrow s3;cases k with
   |false=>
    exact⟨ps.length-(i+1),by omega,rfl,hlt,G3,ys,done,rest,r2'.grow g3,s2.trans s3,g3.hh _ _ hd3,by rw[g3.new D (by rw[hd3];simp)];exact hg2,Reps.mono s3 _ rp2,by omega,hc2,ho⟩
   |true=>
    refine⟨⟨H3,G2,[]⟩,G3,e2,r3,?_⟩;dsimp only at hc2;cases qd:d e2 with
    |no=>rw[qd]at hc2;cases hc2
    |ex _ _=>rw[qd]at hc2;cases hc2
    |ok y e3=>
     rw[qd]at hc2;intro G4 v H6 r4 s4 p4;have g4:=r4.toGrow (s3.trans s4);obtain⟨rest',hr,rfl⟩:=w0e.mp hc2;have hd6:H6 D=some (.lst ys):=g4.hh _ _ hd3;have hg6:G4 D=none:=by rw[g4.new D (by rw[hd3];simp)];exact hg2
     refine⟨ys,hd6,?_,ps.length-(i+1),by omega,rfl,hlt,G4,ys++[v],done++[y],rest',(r2'.grow g4).mutFree hg6 hzh (hz D hD) hfree hd6,s2.trans (s3.trans s4),q0d,hg6,(Reps.mono (s3.trans s4) _ rp2).append (.one p4),by simp;omega,hr,by rw[w2g];exact ho⟩;rw[rp2.length,sizeLine_eq];omega
 ·have:i=ps.length:=by omega
  subst this;rw[w2p]at hc2;cases hc2;rw[w1j]at ho;subst ho;exact .inl ⟨W0.stop _ G2 H2 s2 r2.sub (by omega),h G2 D ys H2 r2 (s1.trans s2) hd2 hg2 hzh hfree rp2⟩
section
variable{elt iter e a:Expr}{body:List Stmt}{ifs:List Expr}{scope sc:Scope}{pt p1 p2 p3:Pos}{Nf N:List Str}{di:Den (List (W×W))}{d0:Den W}
theorem q5q(i j:Nat)(hN:X.N.Nodup)(hp:PassesOwn (model X.prog X.w) X.A X.env X.xe)(hc:X.calm=true)(hl:DI Z X EE (.Tuple [.Name x p1,.Name y p2] kt p3) e di)(hb:DSs Z X EE body s1)
  (hi:X.N[i]?=some x:=by rfl)(hx:Loc X.env.scope x:=by walk_at "3")(hf:X.fn x=true\/X.env.scope.names.lookup x=some .local:=by walk_at "2")
  (hj:X.N[j]?=some y:=by rfl)(hy:Loc X.env.scope y:=by walk_at "3")(hf':X.fn y=true\/X.env.scope.names.lookup y=some .local:=by walk_at "2")
  (hn:(assignEach [.Name x p1,.Name y p2] X.env).length=2:=by rfl)(hst:(assignEach [.Name x p1,.Name y p2] X.env).findIdx? (·.1)=none:=by rfl)
  (g1:(assignEach [.Name x p1,.Name y p2] X.env).map (·.2)=assign (.Name x p1) X.env::(assignEach [.Name y p2] X.env).map (·.2):=by rfl)(g2:(assignEach [.Name y p2] X.env).map (·.2)=assign (.Name y p2) X.env::(assignEach [] X.env).map (·.2):=by rfl)
  (hs:∀x,foldedSetIterable e X.env x=pure x:=by intro _;rfl):
  DS Z X EE (.For (.Tuple [.Name x p1,.Name y p2] kt p3) e body [] pos) (dForP i j di s1):=by
 refine PS.mono (x0q hp hc hl (x0o hc (q34 (q1y i hN hi hx hf) (q34 (q1y j hN hj hy hf') q81 g2) g1) hn hst) hb hs) ?_;rintro D σ H ⟨G,e,rel,h⟩;refine⟨G,e,rel,(q0u h).imp (fun ps e1 h G1 H1 J r1 q1 W0=>?_) fun _ _ h=>h⟩
 have h:=PostS.trans q1 h;refine⟨fun k m σ' H'=>m=ps.length-k/\k<=ps.length/\∃G' e',Rel X.K Z G' σ' H' e'/\Same G1 G'/\PostS X.K Z EE D G1 (forP i j s1 (ps.drop k) e'),⟨ps.length,by omega,w1b _,G1,e1,r1,.refl _,h⟩,?_⟩
 rintro k m σ' H' ⟨rfl,hk,G',e',r',s',h'⟩
 by_cases hlt:k<ps.length
 ·refine .inr ⟨W0.go k G' H' s' r'.sub hlt,fun σ'' H''=>∃G' e',Rel X.K Z G' σ'' H'' e'/\Same G1 G'/\PostS X.K Z EE D G1 (forP i j s1 (ps.drop (k+1)) e'),?_,fun v H2 hy=>?_⟩
  ·rintro σ'' H'' ⟨G'',e'',r'',s'',h''⟩;exact⟨ps.length-(k+1),by omega,rfl,hlt,G'',e'',r'',s'',h''⟩
  ·have hp:ps[k]?=some ((ps[k]).1,(ps[k]).2):=by rw[w0d hlt]
   obtain⟨g3,hgo⟩:=W0.yld k G' H' v H2 s' r'.sub hy _ _ hp;rw[q8j hp]at h';exact hgo i j σ' _ fun y z py pz=>x52 (p:=((ps[k]).1,(ps[k]).2)) (r'.grow g3) s' py pz h' fun G'' σ'' H'' e'' r'' s'' h''=>⟨G'',e'',r'',s'',h''⟩
 ·have:k=ps.length:=by omega
  subst this;rw[w2p]at h';exact .inl ⟨W0.stop _ G' H' s' r'.sub (by omega),h' G' σ' H' r' s'⟩
theorem x38:∀σ H Q,liftF K Z EE (dCompP js di c d) σ H Q->tComp (liftI K Z EE di) 2 js (gTup K 2 (gCons (gName 0) (gCons (gName 1) gNil))) (cT K c) (cE K d) σ H Q:=by
 rintro σ H Q ⟨G,e,rel,h⟩;simp only[dCompP,R.holds_bind]at h;refine⟨G,e,rel,h.imp (fun ps e1 h G1 H1 J r1 s1 W0=>?_) fun _ _ h=>h⟩
 unfold compPK at h;split at h
 ·rename_i hl;split at h
  ·rename_i out ho;obtain⟨G2,s2,r2⟩:=r1.frzs js;have W1:Walk2 K G2 J ps:=⟨fun i G H a=>W0.go i G H (s2.trans a),fun i G H x H' a=>W0.yld i G H x H' (s2.trans a),fun i G H a=>W0.stop i G H (s2.trans a)⟩
   exact x8m W1 r2 (s1.trans s2) hl (ionone r2) ho h
  ·exact h.elim
 ·exact h.elim
theorem x8n(hc:X.calm=true)(hi:DI Z X EE (.Tuple [.Name x p1,.Name y p2] kt p3) iter di)(ok:compOk sc scope N Nf js=true)
  (ht:∀Z' cl C s₀ H₀ ex,DTs Z' (X.cp ([x,y]++Nf) scope cl C s₀ H₀ ex) (fun _=>E0) ifs c)(he:∀Z' cl C s₀ H₀ ex,DE Z' (X.cp ([x,y]++Nf) scope cl C s₀ H₀ ex) (fun _=>E0) elt d)
  (hg:∀cl C s₀ H₀ ex,PG (X.cp ([x,y]++Nf) scope cl C s₀ H₀ ex) (.Tuple [.Name x p1,.Name y p2] kt p3) (gTup X.K 2 (gCons (gName 0) (gCons (gName 1) gNil))))
  (hsc:X.env.scope=sc:=by rfl)(hN:X.N=N:=by rfl)(hs:∀x,foldedSetIterable iter X.env x=pure x:=by intro _;rfl):
  DF Z X EE (.ListComp elt [⟨.Tuple [.Name x p1,.Name y p2] kt p3,iter,ifs,0⟩] scope pos) (dCompP js di c d):=by
 exact PE.mono (q7l (Nl:=[x,y]) (tc:=cT X.K c) (te:=cE X.K d) hc hi ok hg (q61 ht) (x0g he) hsc hN hs) x38
def pairsW:List W->Option (List (W×W))
 |[]=>some []
 |.tup [u,v]::ws=>(pairsW ws).map ((u,v)::·)
 |_=>none
def srcP(d:Den W):Den (List (W×W)):=fun e=>(d e).bind fun w e1=>match seqW w with
 |some ws=>ofOpt (pairsW ws) e1
 |none=>.no
theorem q9o:∀{ws:List W}{ps:List (W×W)},pairsW ws=some ps->ws.length=ps.length/\∀(i:Nat) u v,ps[i]?=some (u,v)->ws[i]?=some (.tup [u,v])
 |[],ps,h=>by cases h;exact⟨rfl,fun i u v z=>by simp at z⟩
 |w::ws,ps,h=>by
  unfold pairsW at h;split at h
  ·rename_i z;cases z
  ·rename_i u v ws' z;cases z;obtain⟨q,hq,rfl⟩:=w0e.mp h;obtain⟨h1,h2⟩:=q9o hq;refine⟨by simp[h1],fun i u' v' z=>?_⟩
   cases i with
   |zero=>simp at z;simp[z.1,z.2]
   |succ i=>simp only[w0w]at z |-;exact h2 i _ _ z
  ·cases h
theorem q6n{SQ:Hp->Prop}(W0:Walk J xs SQ)(rp:Reps K G1 ws xs)(hp:pairsW ws=some ps)(hSQ:∀G' H',Same G1 G'->Same G' H'->SQ H'):Walk2 K G1 J ps:=by
 obtain⟨hl,hg⟩:=q9o hp;have hx:=rp.length;refine⟨fun i G H a b h=>W0.go i H (hSQ G H a b) (by omega),fun i G H x H' a b hy u v h=>?_,fun i G H a b h=>W0.stop i H (hSQ G H a b) (by omega)⟩
 have hlt:i<ps.length:=(w0b.mp h).1;obtain⟨rfl,hx'⟩:=W0.yld i H x H' (hSQ G H a b) hy (by omega);refine⟨Grow.refl b,fun m n σ Q hQ=>?_⟩
 obtain⟨w,hw,pw⟩:=rp.getV hx';rw[hg i u v h]at hw;cases hw;have pw:=Rep.mono a _ pw;obtain⟨c,ys,rfl,hq,y1,q1,rfl,p1,y2,q2,rfl,p2,rfl⟩:=pw;exact⟨c,[y1,y2],rfl,b.tup hq,rfl,y1,[y2],rfl,y2,[],rfl,rfl,hQ y1 y2 p1 p2⟩
theorem x07{tg l:Expr}(hl:DE Z X EE l d0):DI Z X EE tg l (srcP d0):=by
 refine PI.mono (q45 hl) ?_;rintro σ H RR ⟨G,e,rel,h⟩;simp only[srcP,R.holds_bind]at h;refine⟨G,e,rel,h.imp (fun w e1 h G1 v1 H1 r1 s1 p1=>?_) fun _ _ h=>h⟩
 split at h
 ·rename_i ws hw;obtain⟨ps,hp,h⟩:=ofOpt_holds.mp h;cases w with
  |tup us=>
   cases hw;obtain⟨a,xs,rfl,hq,rp⟩:=p1;exact⟨a,rfl,.inr ⟨⟨xs,r1.sub.tup hq⟩,h _ _ _ r1 s1 (q6n q8f rp hp fun G' H' s s'=>Same.tup s' (Same.tup s hq))⟩⟩
  |lst us=>
   cases hw;obtain⟨a,xs,rfl,hq,rp⟩:=p1;exact⟨a,rfl,.inl ⟨⟨xs,r1.sub.seq hq⟩,h _ _ _ r1 s1 (q6n q8e rp hp fun G' H' s s'=>Same.seq s' (Same.seq s hq))⟩⟩
  |_=>cases hw
 ·exact h.elim
theorem x53{t':Nat}{fp:List Addr}{b:Addr}{o:HO}(I:Inv X pins σ H s)(k:∀b o,b∉fp->s.heap.get? b=some o->h'.get? b=some o)(hf:∀b∈fp,FpOk X pins H b)(hp:s.heap.objs.size<=b)(new:ObjOk X.prog X.w (upd H b o) h' b o):Inv X pins σ (upd H b o) {s with heap:=h',toks:=t'}:=by
 have hn:H b=none:=I.hok.fresh hp;have ne:∀c u,H c=some u->c≠b:=fun c u e=>q0n e hn
 have nfp:∀c u,H c=some u->c∉fp:=fun c u e z=>by rw[(hf c z).1]at e;cases e
 have lt:∀c o,s.heap.get? c=some o->c≠b:=fun c o e=>w0u (w0t (Heap.lt_size e) hp)
 refine I.step (g':=s.gens) (d':=s.drawn) (ch:=fp) (fun c hc=>?_) (fun c o _ _ hc e _=>k c o hc e) (fun c o _ _ hc e _=>⟨o.slots,k c o hc e⟩) (fun c o _ e n=>by rw[q0c (lt c o e)];exact n)
  (fun c o hc e=>⟨o,k c o hc e⟩) (fun c xs e=>by rw[q0c (ne c _ e)];exact e) (fun c o u e=>by rw[q0c (ne c _ e)];exact e) (fun c ps e=>⟨#[],by rw[q0c (ne c _ e),e];simp⟩) (fun m hm=>?_) (fun c u e=>?_) I.bare
 ·obtain⟨f0,f1,f2,f3,f4,f5⟩:=hf c hc;exact⟨f3,f1,f4,f5⟩
 ·obtain⟨o,es,ep,ho,r⟩:=hm;exact⟨o,es,ep,k _ o (fun z=>(hf _ z).2.1 rfl) ho,r⟩
 ·by_cases hb:c=b
  ·subst hb;rw[q0d]at e;cases e;exact new
  ·rw[q0c hb]at e;refine(I.hok c u e).stay (fun d v hd q=>k d v ?_ q) (fun d q=>by rw[q0c (ne d _ q)];exact q) fun d xs _ q=>by rw[q0c (ne d _ q)];exact q
   rcases hd with z|z
   ·rw[z];exact nfp c u e
   ·exact nfp d _ z
end
theorem y7w{p1 p2 p3:Pos}(hN:X.N.Nodup)(hc:X.calm=true)
  (hi:X.N[0]?=some x:=by rfl)(hx:Loc X.env.scope x:=by walk_at "3")(hf:X.fn x=true\/X.env.scope.names.lookup x=some .local:=by walk_at "2")
  (hj:X.N[1]?=some y:=by rfl)(hy:Loc X.env.scope y:=by walk_at "3")(hf':X.fn y=true\/X.env.scope.names.lookup y=some .local:=by walk_at "2")
  (hn:(assignEach [.Name x p1,.Name y p2] X.env).length=2:=by rfl)(hst:(assignEach [.Name x p1,.Name y p2] X.env).findIdx? (·.1)=none:=by rfl)
  (g1:(assignEach [.Name x p1,.Name y p2] X.env).map (·.2)=assign (.Name x p1) X.env::(assignEach [.Name y p2] X.env).map (·.2):=by rfl)(g2:(assignEach [.Name y p2] X.env).map (·.2)=assign (.Name y p2) X.env::(assignEach [] X.env).map (·.2):=by rfl):
  PG X (.Tuple [.Name x p1,.Name y p2] kt p3) (gTup X.K 2 (gCons (gName 0) (gCons (gName 1) gNil))):=
 x0o hc (q34 (q1y 0 hN hi hx hf) (q34 (q1y 1 hN hj hy hf') q81 g2) g1) hn hst
section
variable{di:Den (List (W×W))}{b:List S->SR}{c:Prop} [Decidable c]{s t:SR}{k:List S->SR}{v:Value}{st:S}
theorem y2z:dForP i j di b e=(di e).stm fun ps e1=>forP i j b ps e1:=rfl
theorem x8o:(SR.nx e).turnT k=k e:=rfl
theorem x8p:(SR.ct e).turnT k=k e:=rfl
theorem x8q:(SR.bk e).turnT k=.nx e:=rfl
theorem x8r:(SR.rt st e).turnT k=.rt st e:=rfl
theorem x8s:(SR.ex v e).turnT k=.ex v e:=rfl
theorem x8t:(SR.no).turnT k=.no:=rfl
theorem x54:(if c then s else t).turnT k=if c then s.turnT k else t.turnT k:=by split<;>rfl
def srcPW(e:List S):Option (List W)->R (List (W×W))
 |some ws=>ofOpt (pairsW ws) e
 |none=>.no
theorem y7x:srcP d e=(d e).bind fun w e1=>srcPW e1 (seqW w):=by
 unfold srcP;congr 1
theorem x39:srcPW e (some ws)=ofOpt (pairsW ws) e:=rfl
theorem x8u:compPK js cc d ps e=if ps.length<=16777216 then compR (frzs js e) (compP cc d (pjS js (frzs js e)) ps)else .no:=by
 unfold compPK compR;split
 ·cases compP cc d (pjS js (frzs js e)) ps<;>rfl
 ·rfl
theorem x8v:dCompP js di cc d e=(di e).bind fun ps e1=>compPK js cc d ps e1:=rfl
end
theorem x55(l:Addr)(items:Array Value)(n:Nat)(x:Int)(u:Tok)(dd:Option Addr)(sl:Array (Option Value))(hc0:¬(!Builtin.List.listFitsIndex x)=true)(hc1:¬items.size*x.toNat>(2^63-1) / 8)(hc2:¬Builtin.List.listTooLong (items.size*x.toNat)=true):
  Meets (Builtin.«list.__mul__» ⟨[.ref l,.int x u],[]⟩) (fun _ R s=>s.heap.get? l=some {cls:=.type "list", dict:=dd,data:=.seq items n,slots:=sl}/\R (.ok (.ret (Value.ref s.heap.objs.size))) {s with heap:=s.heap.push {cls:=Value.type "list", data:=Data.seq (List.foldl (fun x1 x2=>x1++x2) #[] (List.replicate (if items.isEmpty=true then 0 else x.toNat) items))},toks:=s.toks}):=
 .of_wp fun prog w A R s h=>by
  obtain⟨hp,g,d,tk,os⟩:=s;obtain⟨hl,h⟩:=h;have hsz:=PySem.AutoListH.joined_fits hc2
  wp_walk;refine wpAny_ite_false (decide_eq_false (w3o.mpr hsz)) ?_;wp_walk;exact⟨_,rfl,h⟩
theorem x56(a:Int)(t:Tok)(l:Addr)(items:Array Value)(n:Nat)(dd:Option Addr)(sl:Array (Option Value)):
  Meets (Builtin.«int.__rmul__» ⟨[.int a t,.ref l],[]⟩) (fun _ R s=>s.heap.get? l=some {cls:=.type "list", dict:=dd,data:=.seq items n,slots:=sl}/\R (.ok (.ret Value.notImplemented)) s):=
 .of_wp fun prog w A R s h=>by obtain⟨hp,g,d,tk,os⟩:=s;obtain⟨hl,h⟩:=h;wp_walk;exact⟨_,rfl,h⟩
def rRepS(K:Fg):R2:=fun x y H Q=>∃l k xs,x=.ref l/\y=.int k/\SqL K H l xs/\-(2^63)<=k/\k<2^63/\xs.length*k.toNat<=sizeLine /\
 ∀p,H p=none->Q (.ref p) (upd H p (.lst (List.replicate k.toNat xs).flatten))
theorem y20:OpR X (binaryOp .Mult) (rRepS X.K):=by
 intro pins s σ H x y v u Q I rx ry h;obtain⟨l,k,xs,rfl,rfl,hH,h1,h2,hz,q⟩:=h;cases rx;obtain⟨t,rfl⟩:=ry;obtain⟨its,r,p1,_⟩:=I.list hH;obtain⟨⟨cls,dd,data,sl⟩,ho,hc,n,hd⟩:=id p1.isList;simp only at hc hd;subst hc hd;have hl:=r.length;have hlen:its.toArray.size*k.toNat<=sizeLine:=by rw[w0c,<- hl];exact hz
 have hcap:¬its.toArray.size*k.toNat>(2^63-1) / 8:=by
  have:(sizeLine:Nat)<=(2^63-1) / 8:=by decide
  omega
 have hfit:¬(!Builtin.List.listFitsIndex k)=true:=by
  rw[fitsIndex_both h1 h2];exact w0r
 have hlong:¬Builtin.List.listTooLong (its.toArray.size*k.toNat)=true:=by
  rw[notLongL hlen];exact w0r
 have hnew:List.foldl (fun x1 x2=>x1++x2) #[] (List.replicate (if its.toArray.isEmpty=true then 0 else k.toNat) its.toArray)=(List.replicate k.toNat its).flatten.toArray:=by
  have f0:∀m:Nat,List.foldl (fun x1 x2=>x1++x2) #[] (List.replicate m its.toArray)=(List.replicate m its).flatten.toArray:=fun m=>by
   have:=q6c its m [];rw[w3y]at this;exact this
  rw[f0];cases its with
  |nil=>simp
  |cons a r'=>rw[if_neg (by simp)]
 refine wpAny_binaryOp_repeat_ref (T:="list") (U:="int") (by decide) ⟨_,ho,rfl⟩ (fun s'=>typeIs_int s' k t) noFill_list_mul F.fills_int_mul F.slot_int_rmul repeat_list F.slot_int_index.lookup
  (PySem.call_meets F.slot_int_rmul (typeIs_int s k t) F.entry_int_rmul (F.args_int_rmul_2 _ _) (x56 k t l its.toArray n dd sl)
   ⟨ho,rfl,⟨_,ho,rfl⟩,PySem.call_meets F.slot_list_mul ⟨_,ho,rfl⟩ F.entry_list_mul (F.args_list_mul_2 _ _) (x55 l its.toArray n k t dd sl hfit hcap hlong) ⟨ho,?_⟩⟩)
 rw[hnew];exact⟨.ref _,_,I.lnew (t':=s.toks) (r.rep k.toNat) (by rw[len_rep,w3i];exact hz),rfl,q _ I.fresh⟩
def repW:W->W->Option W
 |.lst ws,.int k=>if okI k=true/\ws.length*k.toNat<=16777216 then some (.lst (List.replicate k.toNat ws).flatten)else none
 |_,_=>none
theorem q7r(r:Reps K G ws xs):∀k:Nat,Reps K G (List.replicate k ws).flatten (List.replicate k xs).flatten
 |0=>rfl
 |k+1=>by
  rw[w1e,w1e,w1n,w1n];exact r.append (q7r r k)
theorem y7y:Op2 K (rRepS K) repW:=by
 intro G H x y wx wy w Q s px py hf h;unfold repW at hf;split at hf
 ·rename_i ws k;split at hf
  ·rename_i hc;cases hf;cases(show y=V.int k from py);obtain⟨l,xs,rfl,hq,rp⟩:=px;have hb:=q8c hc.1;refine⟨l,k,xs,rfl,rfl,s.seq hq,by omega,by omega,by rw[sizeLine_eq,rp.length];exact hc.2,fun p hp=>?_⟩
   have g:Grow G H (upd G p (.lst (List.replicate k.toNat xs).flatten)) (upd H p (.lst (List.replicate k.toNat xs).flatten)):=Grow.laid s hp _;exact h _ _ _ g ⟨p,_,rfl,SqL.of q0d,Reps.mono g.gg _ (q7r rp _)⟩
  ·cases hf
 ·cases hf
section
variable{a b:Expr}
theorem x08(ha:DE Z X EE a da)(hb:DE Z X EE b db):DE Z X EE (.BinOp a .Mult b pos) (dOp repW da db):=q5f y20 y7y ha hb
end
theorem x57{k:Int}:repW (.lst ws) (.int k)=if okI k=true/\ws.length*k.toNat<=16777216 then some (.lst (List.replicate k.toNat ws).flatten)else none:=rfl
def idxI(x:Int):List Int->Option Nat
 |[]=>none
 |y::ys=>if y=x then some 0 else(idxI x ys).map (·+1)
theorem x09{x:Int}:∀{ys:List Int}{j:Nat},idxI x ys=some j->ys[j]?=some x/\∀(m:Nat)(y:Int),m<j->ys[m]?=some y->y≠x
 |[],j,h=>by cases h
 |y::ys,j,h=>by
  unfold idxI at h;split at h
  ·rename_i hy;cases h;exact⟨by rw[hy];rfl,fun m y hm _=>by omega⟩
  ·rename_i hy;obtain⟨k,h1,rfl⟩:=w0e.mp h;obtain⟨h2,h3⟩:=x09 h1;refine⟨by simpa using h2,fun m z hm hz=>?_⟩
   cases m with
   |zero=>simp at hz;rw[<- hz];exact hy
   |succ m=>exact h3 m z (by omega) (by simpa using hz)
def intsW:List W->Option (List Int)
 |[]=>some []
 |.int x::r=>(intsW r).map (x::·)
 |_=>none
theorem x1a:∀{ws:List W}{ys:List Int}{xs:List V},intsW ws=some ys->Reps K G ws xs->xs=ys.map V.int
 |[],ys,xs,h,r=>by cases h;cases(show xs=[]from r);rfl
 |w::ws,ys,xs,h,r=>by
  unfold intsW at h;split at h
  ·rename_i z;cases z
  ·rename_i y r' z;cases z;obtain⟨ys',h1,rfl⟩:=w0e.mp h;obtain⟨v,vs,rfl,p1,p2⟩:=r;cases(show v=V.int y from p1);rw[x1a h1 p2];rfl
  ·cases h
def indexI:W->List W->Option W
 |.lst ws,[.int x]=>match intsW ws with
  |some ys=>match idxI x ys with
   |some j=>some (.int j)
   |none=>none
  |none=>none
 |_,_=>none
def rIndexI(K:Fg):V->List V->Hp->VK->Prop:=fun v vs H Q=>∃b ys x j,v=.ref b/\vs=[.int x]/\SqL K H b (ys.map V.int)/\idxI x ys=some j/\Q (.int (j:Nat)) H
theorem x2x:∀{ys:List Int}{its:List Value},Vals (ys.map V.int) its->∀(m:Nat)(u:Value),its[m]?=some u->∃y t,ys[m]?=some y/\u=.int y t
 |[],its,h,m,u,hu=>by cases h;simp at hu
 |y::ys,its,h,m,u,hu=>by
  cases h with
  |cons r t=>
   obtain⟨k,rfl⟩:=r;cases m with
   |zero=>simp at hu;exact⟨y,k,rfl,hu.symm⟩
   |succ m=>simpa using x2x t m u (by simpa using hu)
theorem x58:MtR X "list.index" (rIndexI X.K):=by
 intro pins s σ H x vs v us Q I rx rv h;obtain⟨b,ys,x0,j,rfl,rfl,hB,hj,q⟩:=h;cases rx;obtain⟨u,rfl,ru⟩:=rv.one;obtain⟨t,rfl⟩:=ru;obtain⟨its,r,pl,hz⟩:=I.list hB;obtain⟨⟨cls,dd,data,sl⟩,ho,hc,n,hd⟩:=pl.isList;simp only at hc hd;subst hc hd;obtain⟨h1,h2⟩:=x09 hj;have hlen:=r.length;rw[w0a]at hlen hz;have hjl:j<ys.length:=(w0b.mp h1).1;have hl63:=line63
 let e:Value->Bool:=fun u=>match u with|.int y _=>y==x0|_=>false
 have at':∀(m:Nat)(hm:m<its.toArray.size),∃y k,ys[m]?=some y/\its.toArray[m]=.int y k:=fun m hm=>by
  have hm':m<its.length:=by simpa using hm
  obtain⟨y,k,z1,z2⟩:=x2x r m its[m] (w0d hm');exact⟨y,k,z1,by simpa using z2⟩
 refine call_meets F.slot_list_index ⟨_,ho,rfl⟩ F.entry_list_index (F.args_list_index_2 _ _) (SeqAt.list_indexAt b its.toArray n dd sl (.int x0 t) e j (by simp only[w0c];omega) (by omega) ?_ ?_) ⟨ho,?_,?_⟩
 ·obtain⟨y,k,z1,z2⟩:=at' j (by simp only[w0c];omega);rw[h1]at z1;cases z1;rw[z2];simp[e]
 ·intro m hm hlt;obtain⟨y,k,z1,z2⟩:=at' m hm;rw[z2]
  simpa [e]using h2 m y hlt z1
 ·intro y hy;obtain⟨m,hm,rfl⟩:=Array.mem_iff_getElem.mp hy;obtain⟨y,k,z1,z2⟩:=at' m hm;rw[z2];exact SeqAt.EqAt.int_int y k x0 t
 ·exact⟨.int j,H,I.tok _,⟨_,rfl⟩,q⟩
theorem x59:OpM K (rIndexI K) indexI:=by
 intro G H x xs wx ws w Q s px pr hf h;unfold indexI at hf;split at hf
 ·rename_i us x0;obtain⟨y,r,rfl,py,pr⟩:=pr;cases(show r=[]from pr);cases py;split at hf
  ·rename_i ys hy;split at hf
   ·rename_i j hj;cases hf;obtain⟨a,cs,rfl,hq,rp⟩:=px;have:=x1a hy rp;subst this;exact⟨a,ys,x0,j,rfl,rfl,s.seq hq,hj,h G _ H (.refl s) rfl⟩
   ·cases hf
  ·cases hf
 ·cases hf
section
variable{o e:Expr}
theorem q9p(ho:DE Z X EE o d)(ha:DA Z X EE [e] dA)
  (hbase:attributeBase o "index" X.env (eval o X.env)=eval o X.env:=by rfl)
  (hfew:((backTo cpos (starEach [e] X.env)).all (fun x=>!x.1)&&(backToKw cpos (keywordEach [] X.env)).all (fun x=>x.1.isSome)&&decide ([e].length+([]:List Keyword).length+(if([]:List Keyword).isEmpty then 0 else 1)<30))=true:=by rfl)
  (hline:(apos.endLine==cpos.line)=true:=by rfl)(hs:starEach [e] X.env=(false,eval e X.env)::starEach [] X.env:=by rfl)(hplain:(backTo cpos (starEach [] X.env)).any (·.1)=false:=by rfl):
  DE Z X EE (.Call (.Attribute o "index" apos) [e] [] cpos) (dMeth "list" indexI d dA):=
 y2x PySem.F.plainAttrs_list PySem.F.slot_list_index PySem.F.type_list_index x58 x59 ho ha hbase hfew hline hs hplain
end
section
variable{prog:Program}{w:World}{E:Value->Shared->Prop}
theorem x1b{j b:Addr}{x:Value}{Q:Value->Shared->Prop}(gi:s.heap.IsTupleIter j b k)(gt:s.heap.IsTuple b vs)(gx:vs[k]?=some x)
  (hQ:∀h',h'.IsTupleIter j b (k+1)->Heap.SameBut j s.heap h'->Q x {s with heap:=h'}):wpAny (model prog w) A (Builtin.SmallTypes.nextOf (.ref j)) Q E s:=by
 obtain⟨o,ho,hc,hd⟩:=id gi;obtain⟨ot,hot,_,m,hdt⟩:=gt;unfold Builtin.SmallTypes.nextOf;refine wpAny_bind (wpAny_callSpecial?_slot (name:=Str.ofString "__next__") gi.typeIs F.slot_tuple_iterator_next (wpAny_call_entry F.slot_tuple_iterator_next gi.typeIs F.entry_tuple_iterator_next ?_ (F.args_tuple_iterator_next_1 _)));show wpAny _ _ (field (.ref j) 0 >>= _) _ _ s;refine wpAny_bind (wpAny_field ho hd (x:=.ref b) rfl ?_);show wpAny _ _ (if(Value.ref b==Value.none)=true then _ else _) _ _ s;rw[if_neg (show ¬((Value.ref b==Value.none)=true)from w0r)];show wpAny _ _ (field (.ref j) 1 >>= _) _ _ s;refine wpAny_bind (wpAny_field ho hd (x:=.int k 0) rfl ?_);show wpAny _ _ (seqItems? (.ref b) >>= _) _ _ s;refine wpAny_bind (wpAny_seqItems hot hdt ?_);simp only[w1y,gx];refine wpAny_bind (wpAny_setField ho hd (by simp) (wpAny_pure ⟨x,rfl,wpAny_pure (hQ _ ⟨_,Heap.get?_update_self _ ho (Obj.isFreed_of_fields (Obj.data_mapFields hd _)),(Obj.cls_mapFields ..).trans hc,by rw[Obj.data_mapFields hd];simp[rawInt]⟩ (Heap.SameBut.update ..))⟩))
theorem x19{j b:Addr}{Q:Value->Shared->Prop}(hh:A.handled=none)(gi:s.heap.IsTupleIter j b k)(gt:s.heap.IsTuple b vs)(gx:vs[k]?=none)
  (hE:∀h' e,Heap.ExtBut j s.heap h'->(∃o,h'.get? e=some o/\o.cls=.type "StopIteration")->E (.ref e) {s with heap:=h'}):wpAny (model prog w) A (Builtin.SmallTypes.nextOf (.ref j)) Q E s:=by
 obtain⟨o,ho,hc,hd⟩:=id gi;obtain⟨ot,hot,_,m,hdt⟩:=gt;unfold Builtin.SmallTypes.nextOf;refine wpAny_bind (wpAny_callSpecial?_slot (name:=Str.ofString "__next__") gi.typeIs F.slot_tuple_iterator_next (wpAny_call_entry F.slot_tuple_iterator_next gi.typeIs F.entry_tuple_iterator_next ?_ (F.args_tuple_iterator_next_1 _)));show wpAny _ _ (field (.ref j) 0 >>= _) _ _ s;refine wpAny_bind (wpAny_field ho hd (x:=.ref b) rfl ?_);show wpAny _ _ (if(Value.ref b==Value.none)=true then _ else _) _ _ s;rw[if_neg (show ¬((Value.ref b==Value.none)=true)from w0r)];show wpAny _ _ (field (.ref j) 1 >>= _) _ _ s;refine wpAny_bind (wpAny_field ho hd (x:=.int k 0) rfl ?_);show wpAny _ _ (seqItems? (.ref b) >>= _) _ _ s;refine wpAny_bind (wpAny_seqItems hot hdt ?_);simp only[w1y,gx];refine wpAny_bind (wpAny_rule (wpAny_bind (wpAny_setField ho hd (by simp) ?_)));show wpAny _ _ (newExc (.type "StopIteration") [] >>= _) _ _ _;refine wpAny_bind ?_;simp only[newExc,newTuple];refine wpAny_bind (wpAny_newObj_type ?_ (by size_fits));refine wpAny_bind (m:=firstArgMember _ _) (wpAny_of_eq (a:=Value.none) (by first|rfl|(simp only[firstArgMember];rfl)) (wpAny_newObj_type ?_ (by size_fits)));simp only[raiseNew];refine wpAny_bind (wpAny_handled ?_)
 first|rw[show A.in1.handled=none from hh]|rw[hh]
 refine wpAny_bind (wpAny_pure (wpAny_throw (hE _ _ (((Heap.SameBut.update ..).extBut.push _).push _) ⟨_,Heap.get?_push_size _ rfl,rfl⟩)))
def IsIt(t:Bool)(j b:Addr)(k:Nat)(h:Heap):Prop:=if t=true then h.IsTupleIter j b k else h.IsListIter j b k
def IsSq(t:Bool)(b:Addr)(vs:Array Value)(h:Heap):Prop:=if t=true then h.IsTuple b vs else h.IsList b vs
theorem IsIt.keep{t:Bool}{j b:Addr}(x:IsIt t j b k h)(e:∀o,h.get? j=some o->h'.get? j=some o):IsIt t j b k h':=by
 cases t with
 |true=>obtain⟨o,ho,r⟩:=(show h.IsTupleIter j b k from x);exact⟨o,e o ho,r⟩
 |false=>obtain⟨o,ho,r⟩:=(show h.IsListIter j b k from x);exact⟨o,e o ho,r⟩
theorem IsIt.obj{t:Bool}{j b:Addr}(x:IsIt t j b k h):∃o,h.get? j=some o/\∀v,o.data≠.cell v:=by
 cases t with
 |true=>obtain⟨o,ho,c,d⟩:=(show h.IsTupleIter j b k from x);exact⟨o,ho,fun v z=>by rw[d]at z;cases z⟩
 |false=>obtain⟨o,ho,c,d⟩:=(show h.IsListIter j b k from x);exact⟨o,ho,fun v z=>by rw[d]at z;cases z⟩
theorem IsSq.keep{t:Bool}{b:Addr}(x:IsSq t b vs h)(e:∀o,h.get? b=some o->h'.get? b=some o):IsSq t b vs h':=by
 cases t with
 |true=>obtain⟨o,ho,r⟩:=(show h.IsTuple b vs from x);exact⟨o,e o ho,r⟩
 |false=>obtain⟨o,ho,r⟩:=(show h.IsList b vs from x);exact⟨o,e o ho,r⟩
theorem q86{t:Bool}{j b:Addr}{x:Value}{Q:Value->Shared->Prop}(gi:IsIt t j b k s.heap)(gt:IsSq t b vs s.heap)(gx:vs[k]?=some x)
  (hQ:∀h',IsIt t j b (k+1) h'->Heap.SameBut j s.heap h'->Q x {s with heap:=h'}):wpAny (model prog w) A (Builtin.SmallTypes.nextOf (.ref j)) Q E s:=by
 cases t with
 |true=>exact x1b gi gt gx hQ
 |false=>exact wpAny_nextOf_list_item gi gt gx hQ
theorem x6a{t:Bool}{j b:Addr}{Q:Value->Shared->Prop}(hh:A.handled=none)(gi:IsIt t j b k s.heap)(gt:IsSq t b vs s.heap)(gx:vs[k]?=none)
  (hE:∀h' e,Heap.ExtBut j s.heap h'->(∃o,h'.get? e=some o/\o.cls=.type "StopIteration")->E (.ref e) {s with heap:=h'}):wpAny (model prog w) A (Builtin.SmallTypes.nextOf (.ref j)) Q E s:=by
 cases t with
 |true=>exact x19 hh gi gt gx hE
 |false=>exact wpAny_nextOf_list_end hh gi gt gx hE
structure Apart(z I O i j a b:Addr):Prop where
 Iz:I≠z
 Oz:O≠z
 iz:i≠z
 jz:j≠z
 IO:I≠O
 Ii:I≠i
 Ij:I≠j
 Oi:O≠i
 Oj:O≠j
 ij:i≠j
 az:a≠z
 aO:a≠O
 ai:a≠i
 aj:a≠j
 bz:b≠z
 bO:b≠O
 bi:b≠i
 bj:b≠j
theorem y21{z I O i j b:Addr}{t u:Bool}{xs:Array Value}{x y p q:Value}{Q:Value->Shared->Prop}(D:Apart z I O i j a b)
  (gz:IsZip s.heap z I O .none)(gI:IsPair s.heap I (.ref i) (.ref j))(gO:IsPair s.heap O p q)
  (g1:IsIt t i a k s.heap)(g2:IsIt u j b k s.heap)(l1:IsSq t a xs s.heap)(l2:IsSq u b ys s.heap)(hx:xs[k]?=some x)(hy:ys[k]?=some y)
  (hQ:∀h',IsZip h' z I O (rawInt s.heap.objs.size)->IsPair h' O x y->IsIt t i a (k+1) h'->IsIt u j b (k+1) h'->IsPair h' s.heap.objs.size x y->h'.objs.size=s.heap.objs.size+1 ->
   (∀c o,c≠z->c≠O->c≠i->c≠j->s.heap.get? c=some o->h'.get? c=some o)->Q (.ref s.heap.objs.size) {s with heap:=h'}):
  wpAny (model prog w) A (Builtin.«zip.__next__» ⟨[.ref z],[]⟩) (fun fin s'=>∃v,fin=.done (.ret v)/\Q v s') E s:=by
 show wpAny _ _ (field (.ref z) 2 >>= _) _ _ _;refine wpAny_bind (wpAny_field gz rfl (x:=.bool false) rfl ?_);show wpAny _ _ (field (.ref z) 3 >>= _) _ _ _;refine wpAny_bind (wpAny_field gz rfl (x:=.ref I) rfl (wpAny_bind (wpAny_seqItems gI rfl ?_)));show wpAny _ _ (Builtin.SmallTypes.ownedTupleIsFree (.ref z) >>= _) _ _ _;refine wpAny_bind ?_;unfold Builtin.SmallTypes.ownedTupleIsFree;refine wpAny_bind (wpAny_field gz rfl (x:=.none) rfl (wpAny_pure ?_));simp only[if_true];refine wpAny_bind (wpAny_rule (wpAny_bind (wpAny_field gz rfl (x:=.ref O) rfl (wpAny_bind (wpAny_setField_rec gz (by simp) fun ha za sa=>?_)))))
 replace za:IsZip ha z I O .ellipsis:=za
 refine wpAny_bind ?_;simp only[List.zipIdx_cons,List.zipIdx_nil,w2d,w3m];refine wpAny_bind (wpAny_bind (wpAny_onRaise ?_));show wpAny _ _ (Builtin.SmallTypes.nextOf (.ref i) >>= _) _ _ _;refine wpAny_bind (q86 (s:={s with heap:=ha}) (g1.keep fun o e=>sa.extBut _ _ D.iz e) (l1.keep fun o e=>sa.extBut _ _ D.az e) hx fun hb ib sb=>wpAny_pure ?_)
 have Ob:IsPair hb O p q:=sb.extBut _ _ D.Oi (sa.extBut _ _ D.Oz gO);refine wpAny_bind (wpAny_seqItems Ob rfl (wpAny_bind (wpAny_updateSeq_pair Ob fun hc Oc sc=>?_)))
 replace Oc:IsPair hc O x q:=Oc
 refine wpAny_bind (wpAny_letGo (wpAny_pure (wpAny_bind (wpAny_bind (wpAny_onRaise ?_)))));show wpAny _ _ (Builtin.SmallTypes.nextOf (.ref j) >>= _) _ _ _;refine wpAny_bind (q86 (s:={s with heap:=hc}) (g2.keep fun o e=>sc.extBut _ _ D.Oj.symm (sb.extBut _ _ D.ij.symm (sa.extBut _ _ D.jz e))) (l2.keep fun o e=>sc.extBut _ _ D.bO (sb.extBut _ _ D.bi (sa.extBut _ _ D.bz e))) hy fun hd jd sd=>wpAny_pure ?_)
 have Od:IsPair hd O x q:=sd.extBut _ _ D.Oj Oc;refine wpAny_bind (wpAny_seqItems Od rfl (wpAny_bind (wpAny_updateSeq_pair Od fun he Oe se=>?_)))
 replace Oe:IsPair he O x y:=Oe
 refine wpAny_bind (wpAny_letGo (wpAny_pure (wpAny_pure (wpAny_bind (wpAny_seqItems Oe rfl (wpAny_bind (wpAny_newTuple ?_)))))));have sz:he.objs.size=s.heap.objs.size:=by rw[se.1,sd.1,sc.1,sb.1,sa.1]
 have ze:IsZip he z I O .ellipsis:=se.extBut _ _ D.Oz.symm (sd.extBut _ _ D.jz.symm (sc.extBut _ _ D.Oz.symm (sb.extBut _ _ D.iz.symm za)));have ke:∀c o,c≠z->c≠O->c≠i->c≠j->s.heap.get? c=some o->he.get? c=some o:=fun c o c1 c2 c3 c4 e=>se.extBut _ _ c2 (sd.extBut _ _ c4 (sc.extBut _ _ c2 (sb.extBut _ _ c3 (sa.extBut _ _ c1 e))))
 have ie:IsIt t i a (k+1) he:=ib.keep fun o e=>se.extBut _ _ D.Oi.symm (sd.extBut _ _ D.ij (sc.extBut _ _ D.Oi.symm e))
 have je:IsIt u j b (k+1) he:=jd.keep fun o e=>se.extBut _ _ D.Oj.symm e
 have zlt:z<he.objs.size:=Heap.lt_size ze;show wpAny _ _ (Builtin.SmallTypes.ownedTupleHandOut (.ref z) (.ref he.objs.size) >>= _) _ _ _;refine wpAny_bind ?_;unfold Builtin.SmallTypes.ownedTupleHandOut;have zf:IsZip (he.push {cls:=.type "tuple", data:=.seq #[x,y]}) z I O .ellipsis:=Heap.get?_push_of_some _ ze;refine wpAny_bind (wpAny_setField_rec zf (by simp) fun hg zg sg=>?_)
 replace zg:IsZip hg z I O (rawInt he.objs.size):=zg
 refine wpAny_setField_rec zg (by simp) fun hk zk sk=>?_
 replace zk:IsZip hk z I O (rawInt he.objs.size):=zk
 have up:∀c o,c≠z->he.get? c=some o->hk.get? c=some o:=fun c o c1 e=>sk.extBut _ _ c1 (sg.extBut _ _ c1 (Heap.get?_push_of_some _ e))
 have Tk:IsPair hk he.objs.size x y:=sk.extBut _ _ (w3b zlt) (sg.extBut _ _ (w3b zlt) (Heap.get?_push_size _ rfl));have nk:hk.objs.size=he.objs.size+1:=by rw[sk.1,sg.1,Heap.size_push]
 rw[sz]at zk Tk nk;refine wpAny_pure ⟨_,rfl,?_⟩;show Q (.ref he.objs.size) _;rw[sz];exact hQ hk zk (up _ _ D.Oz Oe) (ie.keep fun o e=>up _ o D.iz e) (je.keep fun o e=>up _ o D.jz e) Tk nk fun c o c1 c2 c3 c4 e=>up c o c1 (ke c o c1 c2 c3 c4 e)
theorem y7z{z I O i j b:Addr}{t u:Bool}{xs:Array Value}{p q:Value}{Q:Fin->Shared->Prop}(hh:A.handled=none)(D:Apart z I O i j a b)
  (gz:IsZip s.heap z I O .none)(gI:IsPair s.heap I (.ref i) (.ref j))(gO:IsPair s.heap O p q)
  (g1:IsIt t i a k s.heap)(g2:IsIt u j b k s.heap)(l1:IsSq t a xs s.heap)(l2:IsSq u b ys s.heap)(hend:xs[k]?=none\/ys[k]?=none)
  (hE:∀h' e,(∀c o,c≠z->c≠O->c≠i->c≠j->s.heap.get? c=some o->h'.get? c=some o)->(∃o,h'.get? e=some o/\o.cls=.type "StopIteration")->E (.ref e) {s with heap:=h'}):
  wpAny (model prog w) A (Builtin.«zip.__next__» ⟨[.ref z],[]⟩) Q E s:=by
 show wpAny _ _ (field (.ref z) 2 >>= _) _ _ _;refine wpAny_bind (wpAny_field gz rfl (x:=.bool false) rfl ?_);show wpAny _ _ (field (.ref z) 3 >>= _) _ _ _;refine wpAny_bind (wpAny_field gz rfl (x:=.ref I) rfl (wpAny_bind (wpAny_seqItems gI rfl ?_)));show wpAny _ _ (Builtin.SmallTypes.ownedTupleIsFree (.ref z) >>= _) _ _ _;refine wpAny_bind ?_;unfold Builtin.SmallTypes.ownedTupleIsFree;refine wpAny_bind (wpAny_field gz rfl (x:=.none) rfl (wpAny_pure ?_));simp only[if_true];refine wpAny_bind (wpAny_rule (wpAny_bind (wpAny_field gz rfl (x:=.ref O) rfl (wpAny_bind (wpAny_setField_rec gz (by simp) fun ha za sa=>?_)))))
 replace za:IsZip ha z I O .ellipsis:=za
 refine wpAny_bind ?_;simp only[List.zipIdx_cons,List.zipIdx_nil,w2d,w3m];refine wpAny_bind (wpAny_bind (wpAny_onRaise ?_));show wpAny _ _ (Builtin.SmallTypes.nextOf (.ref i) >>= _) _ _ _;cases hx:xs[k]? with
 |none=>
  refine wpAny_bind (x6a (s:={s with heap:=ha}) hh (g1.keep fun o e=>sa.extBut _ _ D.iz e) (l1.keep fun o e=>sa.extBut _ _ D.az e) hx fun hb e sb ge=>?_)
  obtain⟨oe,hoe,hce⟩:=ge;have zb:IsZip hb z I O .ellipsis:=sb _ _ D.iz.symm za;have nz:e≠z:=fun x=>by subst x;rw[zb]at hoe;cases hoe;simp at hce
  refine wpAny_setField_rec zb (by simp) fun hc _ sc=>hE hc e (fun c o c1 _ c3 _ x=>sc.extBut _ _ c1 (sb _ _ c3 (sa.extBut _ _ c1 x))) ⟨oe,sc.extBut _ _ nz hoe,hce⟩
 |some x=>
  have hy:ys[k]?=none:=by rcases hend with h|h;rw[hx]at h;cases h;exact h
  refine wpAny_bind (q86 (s:={s with heap:=ha}) (g1.keep fun o e=>sa.extBut _ _ D.iz e) (l1.keep fun o e=>sa.extBut _ _ D.az e) hx fun hb ib sb=>wpAny_pure ?_)
  have Ob:IsPair hb O p q:=sb.extBut _ _ D.Oi (sa.extBut _ _ D.Oz gO);refine wpAny_bind (wpAny_seqItems Ob rfl (wpAny_bind (wpAny_updateSeq_pair Ob fun hc Oc sc=>?_)))
  refine wpAny_bind (wpAny_letGo (wpAny_pure (wpAny_bind (wpAny_bind (wpAny_onRaise ?_)))));show wpAny _ _ (Builtin.SmallTypes.nextOf (.ref j) >>= _) _ _ _;refine wpAny_bind (x6a (s:={s with heap:=hc}) hh (g2.keep fun o e=>sc.extBut _ _ D.Oj.symm (sb.extBut _ _ D.ij.symm (sa.extBut _ _ D.jz e))) (l2.keep fun o e=>sc.extBut _ _ D.bO (sb.extBut _ _ D.bi (sa.extBut _ _ D.bz e))) hy fun hd e sd ge=>?_)
  obtain⟨oe,hoe,hce⟩:=ge;have zd:IsZip hd z I O .ellipsis:=sd _ _ D.jz.symm (sc.extBut _ _ D.Oz.symm (sb.extBut _ _ D.iz.symm za));have nz:e≠z:=fun x=>by subst x;rw[zd]at hoe;cases hoe;simp at hce
  refine wpAny_setField_rec zd (by simp) fun he _ se=>hE he e (fun c o c1 c2 c3 c4 x=>se.extBut _ _ c1 (sd _ _ c4 (sc.extBut _ _ c2 (sb.extBut _ _ c3 (sa.extBut _ _ c1 x))))) ⟨oe,se.extBut _ _ nz hoe,hce⟩
theorem y22{z I O i j b:Addr}{t u:Bool}{xs:Array Value}{x y p q:Value}{Q:Option Value->Shared->Prop}(D:Apart z I O i j a b)
  (gz:IsZip s.heap z I O .none)(gI:IsPair s.heap I (.ref i) (.ref j))(gO:IsPair s.heap O p q)
  (g1:IsIt t i a k s.heap)(g2:IsIt u j b k s.heap)(l1:IsSq t a xs s.heap)(l2:IsSq u b ys s.heap)(hx:xs[k]?=some x)(hy:ys[k]?=some y)
  (hQ:∀h',IsZip h' z I O (rawInt s.heap.objs.size)->IsPair h' O x y->IsIt t i a (k+1) h'->IsIt u j b (k+1) h'->IsPair h' s.heap.objs.size x y->h'.objs.size=s.heap.objs.size+1 ->
   (∀c o,c≠z->c≠O->c≠i->c≠j->s.heap.get? c=some o->h'.get? c=some o)->Q (some (.ref s.heap.objs.size)) {s with heap:=h'}):wpAny (model prog w) A (pyNext (.ref z)) Q E s:=by
 have hT:s.TypeIs (.ref z) "zip":=⟨_,gz,rfl⟩;unfold pyNext;exact wpAny_bind (wpAny_attempt (wpAny_callSpecial?_slot (name:=Str.ofString "__next__") hT F.slot_zip_next (wpAny_call_entry F.slot_zip_next hT F.entry_zip_next (y21 D gz gI gO g1 g2 l1 l2 hx hy fun h' a1 a2 a3 a4 a5 a6 a7=>wpAny_pure (hQ h' a1 a2 a3 a4 a5 a6 a7)) (F.args_zip_next_1 _))))
theorem y23{z I O i j b:Addr}{t u:Bool}{xs:Array Value}{p q:Value}{Q:Option Value->Shared->Prop}(hh:A.handled=none)(D:Apart z I O i j a b)
  (gz:IsZip s.heap z I O .none)(gI:IsPair s.heap I (.ref i) (.ref j))(gO:IsPair s.heap O p q)
  (g1:IsIt t i a k s.heap)(g2:IsIt u j b k s.heap)(l1:IsSq t a xs s.heap)(l2:IsSq u b ys s.heap)(hend:xs[k]?=none\/ys[k]?=none)
  (hQ:∀h',(∀c o,c≠z->c≠O->c≠i->c≠j->s.heap.get? c=some o->h'.get? c=some o)->Q none {s with heap:=h'}):wpAny (model prog w) A (pyNext (.ref z)) Q E s:=by
 have hT:s.TypeIs (.ref z) "zip":=⟨_,gz,rfl⟩;unfold pyNext;refine wpAny_bind (wpAny_attempt (wpAny_callSpecial?_slot (name:=Str.ofString "__next__") hT F.slot_zip_next (wpAny_call_entry F.slot_zip_next hT F.entry_zip_next (y7z hh D gz gI gO g1 g2 l1 l2 hend fun h' e hk he=>?_) (F.args_zip_next_1 _))))
 obtain⟨o,ho,hc⟩:=he;exact wpAny_bind (wpAny_isInstance (T:="StopIteration") (b:=true) ⟨o,ho,hc⟩ isSubtype_stop (wpAny_pure (hQ _ hk)))
end
def itT(t:Bool):String:=if t=true then "tuple_iterator" else "list_iterator"
noncomputable abbrev zq1(t:Bool)(h:Heap)(a:Addr):Heap:=h.push {cls:=.type (itT t),data:=.fields #[.ref a,.int 0 0]}
noncomputable abbrev zq2(t u:Bool)(h:Heap)(a b:Addr):Heap:=(zq1 t h a).push {cls:=.type (itT u),data:=.fields #[.ref b,.int 0 0]}
noncomputable abbrev zq3(t u:Bool)(h:Heap)(a b:Addr):Heap:=(zq2 t u h a b).push {cls:=.type "tuple", data:=.seq #[.ref h.objs.size,.ref (zq1 t h a).objs.size]}
noncomputable abbrev zq4(t u:Bool)(h:Heap)(a b:Addr):Heap:=(zq3 t u h a b).push {cls:=.type "tuple", data:=.seq #[.none,.none]}
noncomputable abbrev zq5(t u:Bool)(h:Heap)(a b:Addr):Heap:=(zq4 t u h a b).push {cls:=.type "zip", data:=.fields #[.none,.bool false,.bool false,.ref (zq2 t u h a b).objs.size,.ref (zq3 t u h a b).objs.size]}
theorem y70(t u:Bool)(a b:Addr)(xs ys:Array Value):
  Meets (Builtin.«zip.__new__» ⟨[.type "zip", .ref a,.ref b],[]⟩) (fun _ R s=>IsSq t a xs s.heap/\IsSq u b ys s.heap/\R (.ok (.ret (.ref (zq4 t u s.heap a b).objs.size))) {s with heap:=zq5 t u s.heap a b}):=
 .of_wp fun prog w A R s hyp=>by
  obtain⟨hp,g,d,tk,os⟩:=s;obtain⟨g1,g2,h⟩:=hyp;have hsub:=sub_zip;have q2:IsSq u b ys (zq1 t hp a):=g2.keep fun o e=>Heap.get?_push_of_some _ e
  cases t with
  |false=>
   have p1:Heap.IsList (Shared.heap ⟨hp,g,d,tk,os⟩) a xs:=g1;cases u with
   |false=>
    have p2:Heap.IsList (Shared.heap ⟨hp.push {cls:=.type "list_iterator", data:=.fields #[.ref a,.int 0 0]},g,d,tk,os⟩) b ys:=q2
    wp_walk using wpAny_pyIter_list p1,wpAny_pyIter_list p2
    exact⟨_,rfl,h⟩
   |true=>
    have p2:Heap.IsTuple (Shared.heap ⟨hp.push {cls:=.type "list_iterator", data:=.fields #[.ref a,.int 0 0]},g,d,tk,os⟩) b ys:=q2
    wp_walk using wpAny_pyIter_list p1,wpAny_pyIter_tuple p2
    exact⟨_,rfl,h⟩
  |true=>
   have p1:Heap.IsTuple (Shared.heap ⟨hp,g,d,tk,os⟩) a xs:=g1;cases u with
   |false=>
    have p2:Heap.IsList (Shared.heap ⟨hp.push {cls:=.type "tuple_iterator", data:=.fields #[.ref a,.int 0 0]},g,d,tk,os⟩) b ys:=q2
    wp_walk using wpAny_pyIter_tuple p1,wpAny_pyIter_list p2
    exact⟨_,rfl,h⟩
   |true=>
    have p2:Heap.IsTuple (Shared.heap ⟨hp.push {cls:=.type "tuple_iterator", data:=.fields #[.ref a,.int 0 0]},g,d,tk,os⟩) b ys:=q2
    wp_walk using wpAny_pyIter_tuple p1,wpAny_pyIter_tuple p2
    exact⟨_,rfl,h⟩
section
variable{prog:Program}{w:World}{E:Value->Shared->Prop}
theorem x1c{t:Bool}{j:Addr}{o:Obj}(e:h.get? j=some o)(c:o.cls=.type (itT t))(d:o.data=.fields #[.ref a,.int 0 0]):IsIt t j a 0 h:=by
 cases t with
 |true=>exact(show h.IsTupleIter j a 0 from⟨o,e,c,d⟩)
 |false=>exact(show h.IsListIter j a 0 from⟨o,e,c,d⟩)
theorem x6b{t u:Bool}{b:Addr}{xs:Array Value}{Q:Value->Shared->Prop}(g1:IsSq t a xs s.heap)(g2:IsSq u b ys s.heap)
  (h:∀h',IsZip h' (s.heap.objs.size+4) (s.heap.objs.size+2) (s.heap.objs.size+3) .none->IsPair h' (s.heap.objs.size+2) (.ref s.heap.objs.size) (.ref (s.heap.objs.size+1)) ->
   IsPair h' (s.heap.objs.size+3) .none .none->IsIt t s.heap.objs.size a 0 h'->IsIt u (s.heap.objs.size+1) b 0 h'->(∀c o,s.heap.get? c=some o->h'.get? c=some o)->Q (.ref (s.heap.objs.size+4)) {s with heap:=h'}):
  wpAny (model prog w) A (call (.type "zip") [.ref a,.ref b]) Q E s:=by
 refine callType_new F.called_zip (by decide) (F.typeCall_zip_2 _ _) (F.newCall_zip_2 _ _) (fun obj=>F.args_object_init_3 obj _ _) F.entry_zip_new (y70 t u a b xs ys) ⟨g1,g2,?_⟩
 have n1:(zq1 t s.heap a).objs.size=s.heap.objs.size+1:=Heap.size_push ..;have n2:(zq2 t u s.heap a b).objs.size=s.heap.objs.size+2:=by rw[Heap.size_push,n1]
 have n3:(zq3 t u s.heap a b).objs.size=s.heap.objs.size+3:=by rw[Heap.size_push,n2]
 have n4:(zq4 t u s.heap a b).objs.size=s.heap.objs.size+4:=by rw[Heap.size_push,n3]
 have k5:(zq5 t u s.heap a b).get? (zq4 t u s.heap a b).objs.size=some _:=Heap.get?_push_size _ rfl;have k4:(zq5 t u s.heap a b).get? (zq3 t u s.heap a b).objs.size=some _:=Heap.get?_push_of_some _ (Heap.get?_push_size _ rfl);have k3:(zq5 t u s.heap a b).get? (zq2 t u s.heap a b).objs.size=some _:=Heap.get?_push_of_some _ (Heap.get?_push_of_some _ (Heap.get?_push_size _ rfl));have k2:(zq5 t u s.heap a b).get? (zq1 t s.heap a).objs.size=some _:=Heap.get?_push_of_some _ (Heap.get?_push_of_some _ (Heap.get?_push_of_some _ (Heap.get?_push_size _ rfl)));have k1:(zq5 t u s.heap a b).get? s.heap.objs.size=some _:=Heap.get?_push_of_some _ (Heap.get?_push_of_some _ (Heap.get?_push_of_some _ (Heap.get?_push_of_some _ (Heap.get?_push_size _ rfl))));have up:∀c o,s.heap.get? c=some o->(zq5 t u s.heap a b).get? c=some o:=fun c o e=>Heap.get?_push_of_some _ (Heap.get?_push_of_some _ (Heap.get?_push_of_some _ (Heap.get?_push_of_some _ (Heap.get?_push_of_some _ e))))
 show _/\_;rw[n2,n3,n4]at k5;rw[n1,n2]at k3;rw[n3]at k4;rw[n1]at k2;rw[n4];exact⟨⟨_,k5,rfl⟩,h _ k5 k3 k4 (x1c k1 rfl rfl) (x1c k2 rfl rfl) up⟩
end
section
variable{e1 e2:Expr}{pt:Pos}
def SqG(K:Fg)(t:Bool)(H:Hp)(a:Addr)(xs:List V):Prop:=if t=true then SqT K H a xs else SqL K H a xs
theorem q5r{t:Bool}(I:Inv X pins σ H s)(h:SqG X.K t H a xs):∃its:List Value,Vals xs its/\IsSq t a its.toArray s.heap:=by
 cases t with
 |true=>
  obtain⟨its,r,p,_⟩:=I.tuple h;exact⟨its,r,(show s.heap.IsTuple a its.toArray from p)⟩
 |false=>
  obtain⟨its,r,p,_⟩:=I.list h;exact⟨its,r,p.isList⟩
theorem x6c{t:Bool}{ys:List V}(I:Inv X pins σ H s)(h:SqG X.K t H a xs)(h':SqG X.K t H a ys):xs=ys:=by
 cases t with
 |true=>exact I.tuple_inj h h'
 |false=>exact I.list_inj h h'
theorem IsSq.obj{t:Bool}(x:IsSq t a vs h):∃o,h.get? a=some o/\o.cls=.type (if t=true then "tuple" else "list"):=by
 cases t with
 |true=>obtain⟨o,ho,c,_⟩:=(show h.IsTuple a vs from x);exact⟨o,ho,c⟩
 |false=>obtain⟨o,ho,c,_⟩:=(show h.IsList a vs from x);exact⟨o,ho,c⟩
theorem x2a{t':Nat}{fp:List Addr}(I:Inv X pins σ H s)(k:∀b o,b∉fp->s.heap.get? b=some o->h'.get? b=some o)(hf:∀b∈fp,FpOk X pins H b):Inv X pins σ H {s with heap:=h',toks:=t'}:=by
 have nfp:∀c u,H c=some u->c∉fp:=fun c u e z=>by rw[(hf c z).1]at e;cases e
 refine I.step (g':=s.gens) (d':=s.drawn) (ch:=fp) (fun c hc=>?_) (fun c o _ _ hc e _=>k c o hc e) (fun c o _ _ hc e _=>⟨o.slots,k c o hc e⟩) (fun c o _ e n=>n)
  (fun c o hc e=>⟨o,k c o hc e⟩) (fun c xs e=>e) (fun c o u e=>e) (fun c ps e=>⟨#[],by rw[e];simp⟩) (fun m hm=>?_) (fun c u e=>?_) I.bare
 ·obtain⟨f0,f1,f2,f3,f4,f5⟩:=hf c hc;exact⟨f3,f1,f4,f5⟩
 ·obtain⟨o,es,ep,ho,r⟩:=hm;exact⟨o,es,ep,k _ o (fun z=>(hf _ z).2.1 rfl) ho,r⟩
 ·refine(I.hok c u e).stay (fun d v hd q=>k d v ?_ q) (fun d q=>q) fun d xs _ q=>q
  rcases hd with z|z
  ·rw[z];exact nfp c u e
  ·exact nfp d _ z
def Itz(K:Fg)(t u:Bool)(a b:Addr):It:=
  ⟨fun i H=>∃xs ys x y,SqG K t H a xs/\SqG K u H b ys/\xs[i]?=some x/\ys[i]?=some y,
   fun i H v H'=>∃c x y,v=.ref c/\H c=none/\(∀xs,SqG K t H a xs->xs[i]?=some x)/\(∀ys,SqG K u H b ys->ys[i]?=some y)/\H'=upd H c (.tup [x,y]),
   fun i H=>∃xs ys,SqG K t H a xs/\SqG K u H b ys/\(xs.length<=i\/ys.length<=i)⟩
theorem x8w{w:World}(t u:Bool)(a b z I O i j:Addr)(D:Apart z I O i j a b):
  Turn P w K (.Tuple elts kt pt) (Itz K t u a b) [z,I,O,i,j] z (fun k h=>IsZip h z I O .none/\IsPair h I (.ref i) (.ref j)/\(∃p q,IsPair h O p q)/\IsIt t i a k h/\IsIt u j b k h) where
 mem:=by simp
 obj:=fun k h ⟨s1,s2,⟨p,q,s3⟩,s4,s5⟩ c hc=>by
  simp only[w0p,w2q,or_false]at hc;rcases hc with rfl|rfl|rfl|rfl|rfl
  ·exact⟨_,s1,fun v z=>by cases z⟩
  ·exact⟨_,s2,fun v z=>by cases z⟩
  ·exact⟨_,s3,fun v z=>by cases z⟩
  ·exact s4.obj
  ·exact s5.obj
 keep:=fun k h h' ⟨s1,s2,⟨p,q,s3⟩,s4,s5⟩ f=>⟨f z (by simp) _ s1,f I (by simp) _ s2,⟨p,q,f O (by simp) _ s3⟩,s4.keep fun o e=>f i (by simp) o e,s5.keep fun o e=>f j (by simp) o e⟩
 item:=by
  intro X hP hw hK hc k pins s σ H E Iv hf st hg;subst hP hw hK;obtain⟨s1,s2,⟨p,q,s3⟩,s4,s5⟩:=st;obtain⟨xs,ys,x,y,q1,q2,hx,hy⟩:=hg;obtain⟨is1,r1,p1⟩:=q5r Iv q1;obtain⟨is2,r2,p2⟩:=q5r Iv q2;obtain⟨ux,hux,rux⟩:=r1.get hx;obtain⟨uy,huy,ruy⟩:=r2.get hy;refine y22 D s1 s2 s3 s4 s5 p1 p2 (x:=ux) (y:=uy) (by simpa using hux) (by simpa using huy) fun h1 z1 o1 i1 j1 t1 n1 k1=>⟨_,rfl,?_⟩
  refine wpAny_letOwnedTupleGo_zip z1 fun h2 z2 b2=>?_
  have b2:Heap.SameBut z h1 h2:=b2;have zlt:z<s.heap.objs.size:=Heap.lt_size s1;have hfr:H s.heap.objs.size=none:=Iv.hok.fresh (w0g _);have t2:IsPair h2 s.heap.objs.size ux uy:=(b2.2 _ (w3b zlt)).trans t1;have I1:IsPair h1 I (.ref i) (.ref j):=k1 I _ D.Iz D.IO D.Ii D.Ij s2;refine⟨.ref s.heap.objs.size,upd H s.heap.objs.size (.tup [x,y]),?_,rfl,⟨_,x,y,rfl,hfr,fun xs' h'=>by rw[x6c Iv h' q1];exact hx,fun ys' h'=>by rw[x6c Iv h' q2];exact hy,rfl⟩,⟨z2,(b2.2 _ D.Iz).trans I1,⟨ux,uy,(b2.2 _ D.Oz).trans o1⟩,i1.keep fun o e=>(b2.2 _ D.iz).trans e,j1.keep fun o e=>(b2.2 _ D.jz).trans e⟩,fun c hc=>?_⟩
  ·show L2.Inv X pins σ _ {s with heap:=h2,toks:=s.toks};refine x53 (fp:=[z,I,O,i,j]) Iv (fun c o hc q=>?_) hf (w0g _) ⟨?_,[ux,uy],.cons rux (.cons ruy .nil),⟨_,t2,rfl,?_⟩,⟨_,t2,rfl⟩⟩
   ·simp only[w0p,w2q,or_false,not_or]at hc;exact(b2.2 c hc.1).trans (k1 c o hc.1 hc.2.2.1 hc.2.2.2.1 hc.2.2.2.2 q)
   ·rw[sizeLine_eq];simp
   ·exact⟨_,rfl⟩
  ·have:c≠s.heap.objs.size:=by
    obtain⟨o,q,_⟩:∃o,s.heap.get? c=some o/\True:=by
     simp only[w0p,w2q,or_false]at hc;rcases hc with rfl|rfl|rfl|rfl|rfl
     ·exact⟨_,s1,trivial⟩
     ·exact⟨_,s2,trivial⟩
     ·exact⟨_,s3,trivial⟩
     ·obtain⟨o,e,_⟩:=s4.obj;exact⟨o,e,trivial⟩
     ·obtain⟨o,e,_⟩:=s5.obj;exact⟨o,e,trivial⟩
    exact w0u (Heap.lt_size q)
   rw[q0c this];exact(hf c hc).1
 done:=by
  intro X hP hw hK hc k pins s σ H E Iv hf st hg;subst hP hw hK;obtain⟨s1,s2,⟨p,q,s3⟩,s4,s5⟩:=st;obtain⟨xs,ys,q1,q2,hlen⟩:=hg;obtain⟨is1,r1,p1⟩:=q5r Iv q1;obtain⟨is2,r2,p2⟩:=q5r Iv q2;have l1:=r1.length;have l2:=r2.length;refine y23 (Iv.ok.hd hc) D s1 s2 s3 s4 s5 p1 p2 (by rcases hlen with h|h;left;simp;omega;right;simp;omega) fun h' k1=>⟨rfl,?_⟩
  have hfp:∀c∈[z,I,O,i,j],FpOk X pins H c:=hf;refine x2a (fp:=[z,I,O,i,j]) (t':=s.toks) Iv (fun c o hc q=>?_) hfp
  simp only[w0p,w2q,or_false,not_or]at hc;exact k1 c o hc.1 hc.2.2.1 hc.2.2.2.1 hc.2.2.2.2 q
 self:=fun _ _ _ _ _ ⟨s1,_⟩ h=>wpAny_pyIter_zip s1 h
end
theorem x6d(n a b:Nat)(ha:a<n)(hb:b<n):Apart (n+4) (n+2) (n+3) n (n+1) a b where
 Iz:=by show ¬(n+2:Nat)=n+4;omega
 Oz:=by show ¬(n+3:Nat)=n+4;omega
 iz:=by show ¬(n:Nat)=n+4;omega
 jz:=by show ¬(n+1:Nat)=n+4;omega
 IO:=by show ¬(n+2:Nat)=n+3;omega
 Ii:=by show ¬(n+2:Nat)=n;omega
 Ij:=by show ¬(n+2:Nat)=n+1;omega
 Oi:=by show ¬(n+3:Nat)=n;omega
 Oj:=by show ¬(n+3:Nat)=n+1;omega
 ij:=by show ¬(n:Nat)=n+1;omega
 az:=by show ¬(a:Nat)=n+4;omega
 aO:=by show ¬(a:Nat)=n+3;omega
 ai:=by show ¬(a:Nat)=n;omega
 aj:=by show ¬(a:Nat)=n+1;omega
 bz:=by show ¬(b:Nat)=n+4;omega
 bO:=by show ¬(b:Nat)=n+3;omega
 bi:=by show ¬(b:Nat)=n;omega
 bj:=by show ¬(b:Nat)=n+1;omega
section
variable{a1 a2:Expr}{pt:Pos}
def iZip(K:Fg)(ta:TA):TI:=fun σ H R=>ta σ H fun vs H1=>∃t u a b,vs=[.ref a,.ref b]/\(∃xs,SqG K t H1 a xs)/\(∃ys,SqG K u H1 b ys)/\R (Itz K t u a b) H1
theorem y71{ta:TA}{p:Pos}(hg:Gl X "zip")(hm:X.mg "zip"=none)(ha:PA X [a1,a2] ta)(hs:starEach [a1,a2] X.env=[(false,eval a1 X.env),(false,eval a2 X.env)]:=by rfl)(hs2:starEach [a2] X.env=[(false,eval a2 X.env)]:=by rfl):
  PI X (.Tuple elts kt pt) (.Call (.Name "zip" p) [a1,a2] [] pos) (iZip X.K ta):=by
 intro pins s σ H R I h;refine PyProof.Rows.Call_ (q4y I hg hm PyProof.Rows.boot_zip (PyProof.Rows.callWith_type1 (thn (ha pos pins s σ H _ I h) fun us s1 ⟨vs,H1,I1,r1,q1⟩=>?_) (by rw[hs,hs2]) (by rw[hs2];rfl)))
 obtain⟨t,u,a,b,e,⟨xs,hx⟩,⟨ys,hy⟩,q⟩:=q1;subst e;cases r1 with
 |cons r rr=>
  cases rr with
  |cons r' rr=>
   cases rr;cases r;cases r';obtain⟨is1,v1,p1⟩:=q5r I1 hx;obtain⟨is2,v2,p2⟩:=q5r I1 hy;obtain⟨oa,ea,_⟩:=p1.obj;obtain⟨ob,eb,_⟩:=p2.obj;have la:=Heap.lt_size ea;have lb:=Heap.lt_size eb;refine x6b p1 p2 fun h' z1 i1 o1 k1 k2 up=>?_
   refine wpAny_pyIter_zip z1 ?_
   have D:Apart (s1.heap.objs.size+4) (s1.heap.objs.size+2) (s1.heap.objs.size+3) s1.heap.objs.size (s1.heap.objs.size+1) a b:=by
    have la':(a:Nat)<s1.heap.objs.size:=la;have lb':(b:Nat)<s1.heap.objs.size:=lb;generalize s1.heap.objs.size=n at la' lb';exact x6d n a b la' lb'
   refine⟨s1.heap.objs.size+4,[s1.heap.objs.size+4,s1.heap.objs.size+2,s1.heap.objs.size+3,s1.heap.objs.size,s1.heap.objs.size+1],_,_,H1,rfl,I1.kept (t':=s1.toks) up,x8w t u a b _ _ _ _ _ D,⟨z1,i1,⟨_,_,o1⟩,k1,k2⟩,fun c hc=>?_,q⟩
   simp only[w0p,w2q,or_false]at hc;rcases hc with rfl|rfl|rfl|rfl|rfl<;>exact I1.fpOk (by omega) (I1.hok.fresh (by omega))
def srcZ(dA:Den (List W)):Den (List (W×W)):=fun e=>(dA e).bind fun ws e1=>match ws with
 |[x,y]=>match seqW x,seqW y with
  |some us,some vs=>.ok (us.zip vs) e1
  |_,_=>.no
 |_=>.no
theorem x2y(h:seqW w=some us)(p:Rep K G w v):∃t a xs,v=.ref a/\SqG K t G a xs/\Reps K G us xs:=by
 cases w with
 |tup l=>
  cases h;obtain⟨a,xs,rfl,hq,rp⟩:=p;exact⟨true,a,xs,rfl,hq,rp⟩
 |lst l=>
  cases h;obtain⟨a,xs,rfl,hq,rp⟩:=p;exact⟨false,a,xs,rfl,hq,rp⟩
 |_=>cases h
theorem q1i{t:Bool}(s:Same G H)(h:SqG K t G a xs):SqG K t H a xs:=by
 cases t with
 |true=>exact s.tup h
 |false=>exact s.seq h
theorem x6e{t u:Bool}{b:Addr}{vs:List W}{ys:List V}(r1:Reps K G1 us xs)(r2:Reps K G1 vs ys)(h1:SqG K t G1 a xs)(h2:SqG K u G1 b ys):Walk2 K G1 (Itz K t u a b) (us.zip vs):=by
 have l1:=r1.length;have l2:=r2.length;have lz:(us.zip vs).length=min us.length vs.length:=List.length_zip ..;refine⟨fun i G H s s' h=>⟨xs,ys,xs[i]'(by omega),ys[i]'(by omega),q1i s' (q1i s h1),q1i s' (q1i s h2),by simp,by simp⟩,fun i G H x H' s s' hy p q h=>?_,fun i G H s s' h=>⟨xs,ys,q1i s' (q1i s h1),q1i s' (q1i s h2),by omega⟩⟩
 obtain⟨c,x1,y1,rfl,hn,hx1,hy1,rfl⟩:=hy;obtain⟨hu,hv⟩:=w2n.mp h;obtain⟨w1,hw1,pw1⟩:=r1.getV (hx1 xs (q1i s' (q1i s h1)));obtain⟨w2,hw2,pw2⟩:=r2.getV (hy1 ys (q1i s' (q1i s h2)));rw[hu]at hw1;rw[hv]at hw2;cases hw1;cases hw2;exact⟨Grow.hid s' hn _,fun m n σ Q hQ=>⟨c,[x1,y1],rfl,SqT.of q0d,rfl,x1,[y1],rfl,y1,[],rfl,rfl,hQ _ _ (Rep.mono s _ pw1) (Rep.mono s _ pw2)⟩⟩
theorem x1d{p:Pos}(hm:X.mg "zip"=none)(ha:DA Z X EE [a1,a2] dA)(hg:Gl X "zip":=by rfl)(hs:starEach [a1,a2] X.env=[(false,eval a1 X.env),(false,eval a2 X.env)]:=by rfl)(hs2:starEach [a2] X.env=[(false,eval a2 X.env)]:=by rfl):
  DI Z X EE (.Tuple elts kt pt) (.Call (.Name "zip" p) [a1,a2] [] pos) (srcZ dA):=by
 refine PI.mono (y71 hg hm ha hs hs2) ?_;rintro σ H RR ⟨G,e,rel,h⟩;simp only[srcZ,R.holds_bind]at h;refine⟨G,e,rel,h.imp (fun ws e1 h G1 vs H1 r1 s1 p1=>?_) fun _ _ h=>h⟩
 split at h
 ·rename_i w1 w2;split at h
  ·rename_i us ws hu hw;obtain⟨y1,r,rfl,q1,y2,r',rfl,q2,q3⟩:=p1;cases(show r'=[]from q3);obtain⟨t,a,xs,rfl,hx,rx⟩:=x2y hu q1;obtain⟨u,b,ys,rfl,hy,ry⟩:=x2y hw q2;exact⟨t,u,a,b,rfl,⟨xs,q1i r1.sub hx⟩,⟨ys,q1i r1.sub hy⟩,h _ _ _ r1 s1 (x6e rx ry hx hy)⟩
  ·exact h.elim
 ·exact h.elim
end
section
variable{vs:List W}
def srcZW(e:List S):List W->R (List (W×W))
 |[x,y]=>match seqW x,seqW y with
  |some us,some vs=>.ok (us.zip vs) e
  |_,_=>.no
 |_=>.no
theorem y72:srcZ dA e=(dA e).bind fun ws e1=>srcZW e1 ws:=by
 unfold srcZ;congr 1
theorem x8x:srcZW e [.tup us,.tup vs]=.ok (us.zip vs) e:=rfl
theorem x8y:srcZW e [.lst us,.lst vs]=.ok (us.zip vs) e:=rfl
theorem x8z:srcZW e [.tup us,.lst vs]=.ok (us.zip vs) e:=rfl
theorem x80:srcZW e [.lst us,.tup vs]=.ok (us.zip vs) e:=rfl
end
def dMut0(i:Nat)(f:List W->List W):List S->SR:=fun e=>match e[i]? with
 |some (.own b ws)=>.nx (e.set i (.own b (f ws)))
 |_=>.no
theorem Reps.rev:∀{ws:List W}{xs:List V},Reps K G ws xs->Reps K G ws.reverse xs.reverse
 |[],xs,h=>by cases(show xs=[]from h);exact rfl
 |w::ws,xs,h=>by
  obtain⟨v,vs,rfl,p,r⟩:=h;rw[w2f,w2f];exact(Reps.rev r).append (.one p)
section
variable{p:Pos}
theorem y73(i:Nat)(hN:X.N[i]?=some x:=by rfl)(hv:Vis X.env.scope x:=by walk_at "1")(hd:(x==("__debug__":Str))=false:=by decide)(hcd:(x==("__classdict__":Str))=false:=by decide)
  (hbase:attributeBase (.Name x p) "reverse" X.env (eval (.Name x p) X.env)=eval (.Name x p) X.env:=by rfl)(hline:(apos.endLine==cpos.line)=true:=by rfl)(hsw:swapsWith (.Call (.Attribute (.Name x p) "reverse" apos) [] [] cpos) none pos.line X.env=pure false:=by rfl):
  DS Z X EE (.Expr (.Call (.Attribute (.Name x p) "reverse" apos) [] [] cpos) pos) (dMut0 i List.reverse):=by
 refine PS.mono (q6x (x48 PySem.F.plainAttrs_list PySem.F.slot_list_reverse PySem.F.type_list_reverse x3y (pv i hN hv hd hcd) hbase hline) hsw) ?_;rintro D σ H ⟨G,e,rel,h⟩;unfold dMut0 at h;split at h
 ·rename_i b ws he;obtain⟨a,xs,h1,h2,h3,h4,h5⟩:=rel.own he;refine⟨.ref a,h1,.inl ⟨rfl,xs,SqL.of h2⟩,a,xs,rfl,rfl,h2,?_⟩;exact h G σ _ (rel.mut he h1 (Reps.rev h5)) (.refl _)
 ·exact h.elim
end
section
variable{o e a b c:Expr}{dc:Den W}{p1 p2 p3:Pos}
def dChain(f g:W->W->Option W)(da db dc:Den W):Den W:=fun e=>(da e).bind fun x e1=>(db e1).bind fun y e2=>(ofOpt (f x y) e2).bind fun z e3=>match z with
 |.bl true=>(dc e3).bind fun v e4=>ofOpt (g y v) e4
 |.bl false=>.ok (.bl false) e3
 |_=>.no
theorem x4a{r r':R2}{f g:W->W->Option W}(hf:Op2 K r f)(hg:Op2 K r' g):∀σ H Q,liftE K Z EE (dChain f g da db dc) σ H Q->tChain r r' (liftE K Z EE da) (liftE K Z EE db) (liftE K Z EE dc) σ H Q:=by
 rintro σ H Q ⟨G,e,rel,h⟩;simp only[dChain,R.holds_bind,ofOpt_holds]at h;refine⟨G,e,rel,h.imp (fun x e1 h G1 v1 H1 r1 s1 p1=>?_) fun _ _ h=>h⟩
 refine⟨G1,e1,r1,h.imp (fun y e2 h G2 v2 H2 r2 s2 p2=>?_) fun _ _ h=>XH.trans s1 h⟩
 obtain⟨w,hw,h⟩:=h;refine hf G2 H2 v1 v2 x y w _ r2.sub (Rep.mono s2 x p1) p2 hw fun G' v H' gr p=>?_
 split at h
 ·cases(show v=V.bl true from p);refine⟨true,rfl,?_⟩;rw[if_pos rfl];simp only[R.holds_bind,ofOpt_holds]at h;refine⟨G',e2,r2.grow gr,h.imp (fun z e3 h G3 v3 H3 r3 s3 p3=>?_) fun _ _ h=>XH.trans ((s1.trans s2).trans gr.gg) h⟩
  obtain⟨w',hw',h⟩:=h;exact hg G3 H3 v2 v3 y z w' Q r3.sub (Rep.mono (gr.gg.trans s3) y p2) p3 hw' fun G4 v4 H4 g4 p4=>h G4 v4 H4 (r3.grow g4) ((((s1.trans s2).trans gr.gg).trans s3).trans g4.gg) p4
 ·cases(show v=V.bl false from p);refine⟨false,rfl,?_⟩;rw[if_neg (by decide)];exact h G' _ H' (r2.grow gr) ((s1.trans s2).trans gr.gg) rfl
 ·exact h.elim
theorem x2z(ha:DE Z X EE a da)(hb:DE Z X EE b db)(hc:DE Z X EE c dc)(hm:lastMarks [.LtE,.Lt] [b,c]=false:=by with_unfolding_all rfl):DT Z X EE (.Compare a [.LtE,.Lt] [b,c] pos) (dTest (dChain leW ltW da db dc)):=PT.mono (x7o y0m x3s ha hb hc hm) fun σ H Q h=>x4a y0q x31 σ H _ (q6g h)
def dSet2(i j:Nat)(d:Den W):List S->SR:=fun e=>(d e).stm fun w e1=>match w with
 |.tup [u,v]=>.nx ((e1.set i (.fr u)).set j (.fr v))
 |_=>.no
theorem y24(i j:Nat)(hN:X.N.Nodup)(hc:X.calm=true)(he:DE Z X EE e d)
  (hi:X.N[i]?=some x:=by rfl)(hx:Loc X.env.scope x:=by walk_at "3")(hf:X.fn x=true\/X.env.scope.names.lookup x=some .local:=by walk_at "2")
  (hj:X.N[j]?=some y:=by rfl)(hy:Loc X.env.scope y:=by walk_at "3")(hf':X.fn y=true\/X.env.scope.names.lookup y=some .local:=by walk_at "2")
  (hn:(assignEach [.Name x p1,.Name y p2] X.env).length=2:=by rfl)(hst:(assignEach [.Name x p1,.Name y p2] X.env).findIdx? (·.1)=none:=by rfl)
  (g1:(assignEach [.Name x p1,.Name y p2] X.env).map (·.2)=assign (.Name x p1) X.env::(assignEach [.Name y p2] X.env).map (·.2):=by rfl)(g2:(assignEach [.Name y p2] X.env).map (·.2)=assign (.Name y p2) X.env::(assignEach [] X.env).map (·.2):=by rfl)
  (hs:swapsWithSole [.Tuple [.Name x p1,.Name y p2] kt p3] e pos.line X.env=pure false:=by rfl)(hw:swappedStores [.Tuple [.Name x p1,.Name y p2] kt p3] e X.env=pure none:=by rfl)
  (h1:(assignEach [.Tuple [.Name x p1,.Name y p2] kt p3] X.env).map (·.2)=[assign (.Tuple [.Name x p1,.Name y p2] kt p3) X.env]:=by rfl):
  DS Z X EE (.Assign [.Tuple [.Name x p1,.Name y p2] kt p3] e pos) (dSet2 i j d):=by
 refine PS.mono (x0p he (x0o hc (q34 (q1y i hN hi hx hf) (q34 (q1y j hN hj hy hf') q81 g2) g1) hn hst) hs hw h1) ?_;rintro D σ H ⟨G,e,rel,h⟩;refine⟨G,e,rel,(q0u h).imp (fun w e1 h G1 v1 H1 r1 q1 p1=>?_) fun _ _ h=>h⟩
 split at h
 ·rename_i u v;obtain⟨c,ys,rfl,hq,y1,z1,rfl,p1,y2,z2,rfl,p2,rfl⟩:=p1;exact⟨c,[y1,y2],rfl,r1.sub.tup hq,rfl,y1,[y2],rfl,y2,[],rfl,rfl,h G1 _ H1 ((r1.set p1).set p2) q1⟩
 ·exact h.elim
end
def mut0K(i:Nat)(f:List W->List W)(e:List S):Option S->SR
 |some (.own b ws)=>.nx (e.set i (.own b (f ws)))
 |_=>.no
theorem y25{f:List W->List W}:dMut0 i f e=mut0K i f e e[i]?:=by
 unfold dMut0 mut0K;cases e[i]? with
 |none=>rfl
 |some s=>cases s<;>rfl
theorem x81{f:List W->List W}:mut0K i f e (some (.own b ws))=.nx (e.set i (.own b (f ws))):=rfl
def chainK(g:W->W->Option W)(dc:Den W)(y:W)(e:List S):W->R W
 |.bl true=>(dc e).bind fun v e4=>ofOpt (g y v) e4
 |.bl false=>.ok (.bl false) e
 |_=>.no
theorem x82{f g:W->W->Option W}{dc:Den W}:dChain f g da db dc e=(da e).bind fun x e1=>(db e1).bind fun y e2=>(ofOpt (f x y) e2).bind fun z e3=>chainK g dc y e3 z:=by
 unfold dChain;congr 1
theorem x83{g:W->W->Option W}{dc:Den W}{y:W}{b:Bool}:chainK g dc y e (.bl b)=if b=true then(dc e).bind fun v e4=>ofOpt (g y v) e4 else .ok (.bl false) e:=by cases b<;>rfl
def set2K(i j:Nat)(e:List S):W->SR
 |.tup [u,v]=>.nx ((e.set i (.fr u)).set j (.fr v))
 |_=>.no
theorem y26:dSet2 i j d e=(d e).stm fun w e1=>set2K i j e1 w:=by
 unfold dSet2;congr 1
theorem y74{u v:W}:set2K i j e (.tup [u,v])=.nx ((e.set i (.fr u)).set j (.fr v)):=rfl
def hide1:S->S
 |.own _ ws=>.fr (.lst ws)
 |.nest wss=>.fr (.lst (wss.map W.lst))
 |.x (.old w)=>.fr w
 |.x (.new w)=>.fr w
 |.x (.tn us wss)=>.fr (.tup (us++[.lst (wss.map W.lst)]))
 |.x (.fz w)=>.fr w
 |.x (.fzo w)=>.fr w
 |.dw sh ks ws=>.fr (.dw false sh ks ws)
 |s=>s
theorem NestIn.reps(sg:Same G G')(hf:∀l o ys,FzAt Z G H l o ys->G' l=some (.frz o (.lst ys))):∀{ls:List Addr}{wss:List (List W)},NestIn K Z G H ls wss->Reps K G' (wss.map W.lst) (ls.map V.ref)
 |[],[],_=>rfl
 |l::ls,ws::wss,⟨⟨o,ys,h1,h4⟩,h⟩=>⟨.ref l,ls.map V.ref,rfl,⟨l,ys,rfl,.inl (.inr ⟨o,hf l o ys h1⟩),Reps.mono sg ws h4⟩,h.reps sg hf⟩
 |[],_::_,h=>h.elim
 |_::_,[],h=>h.elim
def hideS(e:List S):List S:=e.map hide1
def borrowR(e:List S):R W->R W
 |.ok w _=>if scalW w=true then .ok w e else .no
 |.ex c _=>.ex c e
 |.no=>.no
def dBorrow(d:Den W):Den W:=fun e=>borrowR e (d (hideS e))
def borrowT(e:List S):R Bool->R Bool
 |.ok b _=>.ok b e
 |.ex c _=>.ex c e
 |.no=>.no
def dBorrowT(d:Den Bool):Den Bool:=fun e=>borrowT e (d (hideS e))
theorem Rel.hide(r:Rel K Z G σ H e):Rel K ⟨H,H,[]⟩ H σ H (hideS e):=by
 have g:∀(i:Nat)(s:S),(hideS e)[i]?=some s->∃s0,e[i]?=some s0/\s=hide1 s0:=fun i s h=>by
  unfold hideS at h;rw[w0j]at h;obtain⟨s0,h1,h2⟩:=w0e.mp h;exact⟨s0,h1,h2.symm⟩
 refine⟨.refl _,fun i s h=>?_,by unfold hideS;rw[w0a];exact r.len,fun i j b b' ws ws' a h1 _ _ _=>?_,fun a o h _=>h,(fun a h=>nomatch h),fun a _=>rfl⟩
 ·obtain⟨s0,h0,rfl⟩:=g i s h;have q:=r.slot i s0 h0;cases s0 with
  |no=>trivial
  |fr w=>
   obtain⟨u,q1,q2⟩:=q;exact⟨u,q1,Rep.mono r.sub w q2⟩
  |own b ws=>
   obtain⟨a,xs,q1,q2,q3,q4,q5⟩:=q;exact⟨.ref a,q1,a,xs,rfl,SqL.of q2,Reps.mono r.sub ws q5⟩
  |nest wss=>
   obtain⟨a,ls,q1,q2,_,q4⟩:=q;exact⟨.ref a,q1,a,_,rfl,SqL.of (r.sub _ _ q2),q4.reps r.sub fun l o ys z=>z.1⟩
  |x k=>
   cases k with
   |old w=>obtain⟨u,q1,_,q2⟩:=q;exact⟨u,q1,Rep.mono r.sub w q2⟩
   |new w=>obtain⟨u,q1,q2⟩:=q;exact⟨u,q1,Rep.mono r.sub w (RepN.rep w q2)⟩
   |tn us wss=>
    obtain⟨t,l,o,ls,xs,q1,q2,q3,_,q5,q6⟩:=q;exact⟨.ref t,q1,t,_,rfl,SqT.of (r.sub _ _ q2),(Reps.mono r.sub us q5).append ⟨.ref l,[],rfl,⟨l,_,rfl,.inl (.inr ⟨o,q3.1⟩),q6.reps r.sub fun l o ys z=>z.1⟩,rfl⟩⟩
   |fz w=>obtain⟨u,as,q1,_,q3⟩:=q;exact⟨u,q1,RepF.rep r.sub (fun l o ys z=>z.1) w q3⟩
   |fzo w=>obtain⟨u,as,q1,_,_,q3⟩:=q;exact⟨u,q1,RepF.rep r.sub (fun l o ys z=>z.1) w q3⟩
  |dw sh ks ws=>
   obtain⟨a,kvs,kas,q1,q2,_,_,q5,q6,q7⟩:=q;exact⟨.ref a,q1,a,kvs,kas,rfl,q2,q5,q6.mono r.sub,Reps.mono r.sub ws q7⟩
 ·obtain⟨s0,_,h2⟩:=g i _ h1;cases s0 with
  |x k=>cases k<;>cases h2
  |_=>cases h2
theorem Rel.back{G2 H2:Hp}{e2:List S}(r:Rel K Z G σ H e)(r2:Rel K ⟨H,H,[]⟩ G2 σ H2 e2):Rel K Z G σ H2 e:=by
 have hh:Same H H2:=fun a o h=>r2.ent a o h (fun z=>nomatch z)
 exact r.grow ⟨hh,.refl _,fun a o h=>hh a o (r.sub a o h),fun _ _=>rfl⟩
theorem x84(h:scalW w=true)(p:Rep K G w v):Rep K G' w v:=by
 cases w with
 |non=>exact p
 |bl b=>exact p
 |int b=>exact p
 |str b=>exact p
 |_=>cases h
section
variable{e:Expr}
theorem q6o(he:∀Z',DE Z' X EE e d):DE Z X EE e (dBorrow d):=by
 intro pins s σ H Q I hq;obtain⟨G,e0,rel,h⟩:=hq;refine he ⟨H,H,[]⟩ pins s σ H Q I ⟨H,hideS e0,rel.hide,?_⟩;unfold dBorrow borrowR at h;cases q:d (hideS e0)with
 |ok w e2=>
  rw[q]at h;dsimp only at h;split at h
  ·rename_i hs;intro G2 v H2 r2 s2 p;exact h G v H2 (rel.back r2) (.refl _) (x84 hs p)
  ·exact h.elim
 |ex k e2=>
  rw[q]at h;intro G2 H2 r2 s2;exact h G H2 (rel.back r2) (.refl _)
 |no=>rw[q]at h;exact h.elim
theorem q3n(he:∀Z',DT Z' X EE e c):DT Z X EE e (dBorrowT c):=by
 intro pins s σ H Q I hq;obtain⟨G,e0,rel,h⟩:=hq;refine he ⟨H,H,[]⟩ pins s σ H Q I ⟨H,hideS e0,rel.hide,?_⟩;unfold dBorrowT borrowT at h;cases q:c (hideS e0)with
 |ok w e2=>
  rw[q]at h;intro G2 H2 r2 s2;exact h G H2 (rel.back r2) (.refl _)
 |ex k e2=>
  rw[q]at h;intro G2 H2 r2 s2;exact h G H2 (rel.back r2) (.refl _)
 |no=>rw[q]at h;exact h.elim
end
section
variable{e':List S}{v:Value}{k:Bool}{s:S}{p:Prop} [Decidable p]
theorem x6f:dBorrow d e=borrowR e (d (hideS e)):=rfl
theorem x4b{d:Den Bool}:dBorrowT d e=borrowT e (d (hideS e)):=rfl
theorem x6g:borrowR e (.ok w e')=if scalW w=true then .ok w e else .no:=rfl
theorem x6h:borrowR e (.ex v e')=.ex v e:=rfl
theorem x4c:borrowT e (.ok k e')=.ok k e:=rfl
theorem x4d:borrowT e (.ex v e')=.ex v e:=rfl
theorem x4e{x y:R W}:borrowR e (if p then x else y)=if p then borrowR e x else borrowR e y:=by split<;>rfl
theorem x2b{x y:R Bool}:borrowT e (if p then x else y)=if p then borrowT e x else borrowT e y:=by split<;>rfl
theorem x85:hideS []=[]:=rfl
theorem x6i:hideS (s::e)=hide1 s::hideS e:=rfl
theorem x86:hide1 (.own b ws)=.fr (.lst ws):=rfl
theorem y27:hide1 (.fr w)=.fr w:=rfl
theorem y28:hide1 .no=.no:=rfl
end
end D
namespace L2
open PySem PySem.Spec PyProof.Rows
structure FlyA(outer:List Env)(H H':Hp)(h h':Heap)(e:Addr)(cls:Value)(B:Heap):Prop where
 stay:B.StaysIn h'
 bare:B.get? e=none
 ff:h'.FunFrames B outer
 tr:∃a0 fl,h'.TracedAtW B e cls a0 fl
 old:∀b o,h.get? b=some o->H b=none->b∉frs outer->B.get? b=some o
 trk:∀b u o,H' b=some u->h'.get? b=some o->B.get? b=some o
 all:∀b o,h.get? b=some o->b∈frs outer\/∃o',B.get? b=some o'
 new:h.get? e=none
end L2
namespace D
open PySem L2
variable{e:List S}
def compX(c:Den Bool)(d:Den W)(pe:List S):List W->Option (Value ⊕ List W)
 |[]=>some (.inr [])
 |w::ws=>match c (.fr w::pe)with
  |.ok true e1=>match d e1 with
   |.ok y _=>(compX c d pe ws).map (Sum.map id (y::·))
   |.ex k _=>some (.inl k)
   |.no=>none
  |.ok false _=>compX c d pe ws
  |.ex k _=>some (.inl k)
  |.no=>none
def compXR(e:List S):Option (Value ⊕ List W)->R (List W)
 |some (.inr out)=>.ok out e
 |some (.inl k)=>.ex k e
 |none=>.no
def compKX(js:List Nat)(c:Den Bool)(d:Den W)(ws:List W)(e1:List S):R (List W):=
 if ws.length<=16777216 then compXR (frzs js e1) (compX c d (pjS js (frzs js e1)) ws)else .no
theorem x87{js:List Nat}{cc:Den Bool}{d:Den W}{ws:List W}:compKX js cc d ws e=if ws.length<=16777216 then compXR (frzs js e) (compX cc d (pjS js (frzs js e)) ws)else .no:=rfl
theorem x6j{out:List W}:compXR e (some (.inr out))=.ok out e:=rfl
theorem x6k{k:Value}:compXR e (some (.inl k))=.ex k e:=rfl
section
variable{X:Cx}{Z:Zt}{EE:L2.St->XK}{elt iter a b:Expr}{ifs:List Expr}{scope sc:Scope}{pos pt:Pos}{x:Str}{Nf N:List Str}{js:List Nat}{di:Den W}{dA:Den (List W)}{c:Den Bool}{d:Den W}
theorem y75{ws:List W}{P:List W->List S->Prop}{Ex:Value->List S->Prop}{e1:List S}(h:(compKX js c d ws e1).holds P Ex):ws.length<=16777216/\∃out,compX c d (pjS js (frzs js e1)) ws=some out/\Sum.elim (fun k=>Ex k (frzs js e1)) (fun o=>P o (frzs js e1)) out:=by
 unfold compKX at h;split at h
 ·rename_i hl;cases ho:compX c d (pjS js (frzs js e1)) ws with
  |none=>rw[ho]at h;exact h.elim
  |some out=>rw[ho]at h;exact⟨hl,out,rfl,by cases out<;>exact h⟩
 ·exact h.elim
end
end D
namespace L2
open PySem PySem.Spec PyProof.Rows
variable{A:Around}{prog:Program}{s:Shared}{E:Value->Shared->Prop}{w:World}
def Rise(t:SetTable):Prop:=t.place.toList.Pairwise (·<·)/\t.dummies=#[]
def valI:Value->Int
 |.int n _=>n
 |_=>0
structure SetData(prog:Program)(w:World)(es:Array (Int×Value))(t:SetTable)(S:List Int):Prop where
 el:ElemsOf (intKind prog w) es.toList
 sz:es.size<scanBound
 fit:t.fits es.size=true
 rise:Rise t
 led:t.led=!w.params.followText "set-order"
 whole:∀e∈es.toList,∃n k,e.2=Value.int n k
 perm:(es.toList.map fun e=>valI e.2).Perm S
namespace SI
theorem own:Manifest.owners.lookup (String.ofList ['r','o','t','a','r','e','t','i','_','t','e','s'].reverse)=some Manifest.sig_set_iterator:=by kernel_rfl
theorem next:Slot "set_iterator" "__next__" "set_iterator.__next__":=.of (owner:="set_iterator") (n:="__next__") (by rw[typeLookup_type,builtinLookup_eq_fast];kernel_rfl) (by decide +kernel) (by decide +kernel) (by decide +kernel) (by first|exact .inl (by decide +kernel)|exact .inr (by decide +kernel)) (by rw[isSubtype_type];kernel_rfl)
theorem iter:Slot "set_iterator" "__iter__" "set_iterator.__iter__":=.of (owner:="set_iterator") (n:="__iter__") (by rw[typeLookup_type,builtinLookup_eq_fast];kernel_rfl) (by decide +kernel) (by decide +kernel) (by decide +kernel) (by first|exact .inl (by decide +kernel)|exact .inr (by decide +kernel)) (by rw[isSubtype_type];kernel_rfl)
end SI
open PySem PySem.Spec PyProof.Rows
end L2
namespace D
open PySem L2
section
variable(l:Addr)(items:Array Value)(n:Nat)(k:Int)(u:Tok)(dd:Option Addr)(sl:Array (Option Value))
theorem x88(h1:¬(k < -(2^63)||k>=2^63)=true)(h2:¬(items.isEmpty||k==1)=true)(h3:¬(k<=0||items.isEmpty)=true)(h4:¬items.size*k>(2^63-1) / 8)(h5:¬Builtin.Tuple.tupleTooMany (items.size*k)=true)(h6:(List.foldl (fun x1 x2=>x1++x2) #[] (List.replicate k.toNat items)).size<=sizeLine):
  Meets (Builtin.«tuple.__mul__» ⟨[.ref l,.int k u],[]⟩) (fun _ R s=>s.heap.get? l=some {cls:=.type "tuple", dict:=dd,data:=.seq items n,slots:=sl}/\R (.ok (.ret (Value.ref s.heap.objs.size))) {s with heap:=s.heap.push {cls:=Value.type "tuple", data:=Data.seq (List.foldl (fun x1 x2=>x1++x2) #[] (List.replicate k.toNat items))}}):=
 .of_wp fun prog w A R s h=>by
  obtain⟨hp,g,d,tk,os⟩:=s;obtain⟨hl,h⟩:=h
  wp_walk
  refine wpAny_ite_split (fun z=>absurd z h1) fun _=>?_
  wp_walk
  refine wpAny_ite_split (fun z=>absurd z h4) fun _=>?_
  wp_walk
  exact⟨_,rfl,h⟩
theorem x89(h1:¬(k < -(2^63)||k>=2^63)=true)(h2:¬(items.isEmpty||k==1)=true)(h3:(k<=0||items.isEmpty)=true):
  Meets (Builtin.«tuple.__mul__» ⟨[.ref l,.int k u],[]⟩) (fun _ R s=>s.heap.get? l=some {cls:=.type "tuple", dict:=dd,data:=.seq items n,slots:=sl}/\R (.ok (.ret (Value.ref s.heap.objs.size))) {s with heap:=s.heap.push {cls:=Value.type "tuple", data:=Data.seq #[]}}):=
 .of_wp fun prog w A R s h=>by
  obtain⟨hp,g,d,tk,os⟩:=s;obtain⟨hl,h⟩:=h
  wp_walk
  refine wpAny_ite_split (fun z=>absurd z h1) fun _=>?_
  wp_walk
  exact⟨_,rfl,h⟩
theorem x9a(h1:¬(k < -(2^63)||k>=2^63)=true)(h2:(items.isEmpty||k==1)=true):
  Meets (Builtin.«tuple.__mul__» ⟨[.ref l,.int k u],[]⟩) (fun _ R s=>s.heap.get? l=some {cls:=.type "tuple", dict:=dd,data:=.seq items n,slots:=sl}/\R (.ok (.ret (Value.ref l))) s):=
 .of_wp fun prog w A R s h=>by
  obtain⟨hp,g,d,tk,os⟩:=s;obtain⟨hl,h⟩:=h
  wp_walk
  refine wpAny_ite_split (fun z=>absurd z h1) fun _=>?_
  wp_walk
  exact⟨_,rfl,h⟩
theorem x6l:Meets (Builtin.«int.__rmul__» ⟨[.int k u,.ref l],[]⟩) (fun _ R s=>s.heap.get? l=some {cls:=.type "tuple", dict:=dd,data:=.seq items n,slots:=sl}/\R (.ok (.ret Value.notImplemented)) s):=
 .of_wp fun prog w A R s h=>by obtain⟨hp,g,d,tk,os⟩:=s;obtain⟨hl,h⟩:=h;wp_walk;exact⟨_,rfl,h⟩
end
variable{X:Cx}{dA:Den (List W)}{a e:Expr}{EE:L2.St->XK}{p pos:Pos}{K:Fg}{Z:Zt}
theorem x4f:fillsNumberSlot (.type "tuple") "mul"=pure false:=
 fillsNumberSlot_seq (id:="tuple.__mul__") (r:=some (.builtin "tuple.__rmul__")) PySem.F.slot_tuple_mul.lookup (by decide +kernel) PySem.F.slot_tuple_rmul.lookup (by decide +kernel)
theorem x4g:seqRepeat? (.type "tuple")=pure (some (.builtin "tuple.__mul__")):=by
 unfold seqRepeat?;rw[seqSlot_of (T:="tuple") (name:="__mul__") (id:="tuple.__mul__") PySem.F.slot_tuple_mul.lookup (by decide +kernel),seqSlot_of (T:="tuple") (name:="__rmul__") (id:="tuple.__rmul__") PySem.F.slot_tuple_rmul.lookup (by decide +kernel)];rfl
def rRepT(K:Fg):R2:=fun x y H Q=>∃l k xs,x=.ref l/\y=.int k/\SqT K H l xs/\xs≠[]/\-(2^63)<=k/\k<2^63/\xs.length*k.toNat<=sizeLine /\
 (k=1->Q (.ref l) H)/\(k≠1->∀p,H p=none->Q (.ref p) (upd H p (.tup (List.replicate k.toNat xs).flatten)))
theorem q8k(its:List Value)(m:Nat):List.foldl (fun x1 x2=>x1++x2) #[] (List.replicate m its.toArray)=(List.replicate m its).flatten.toArray:=by
 have:=q6c its m [];rw[w3y]at this;exact this
theorem y29:OpR X (binaryOp .Mult) (rRepT X.K):=by
 intro pins s σ H x y v u Q I rx ry h;obtain⟨l,k,xs,rfl,rfl,hH,hne,h1,h2,hz,q1,q2⟩:=h;cases rx;obtain⟨t,rfl⟩:=ry;obtain⟨its,r,p1,_⟩:=I.tuple hH;obtain⟨⟨cls,dd,data,sl⟩,ho,hc,n,hd⟩:=id p1;simp only at hc hd;subst hc hd;have hl:=r.length;have hfit:¬(k < -(2^63)||k>=2^63)=true:=by simp;omega
 have hemp:its.toArray.isEmpty=false:=by
  cases its with
  |nil=>cases r;exact absurd rfl hne
  |cons a b=>rfl
 have top:∀{Q':Value->Shared->Prop},(wpAny (model X.prog X.w) X.A (call (.builtin "tuple.__mul__") [.ref l,.int k t]) Q' X.xe s)->wpAny (model X.prog X.w) X.A (binaryOp .Mult (.ref l) (.int k t)) Q' X.xe s:=fun {Q'} hq=>by
  refine wpAny_binaryOp_repeat_ref (T:="tuple") (U:="int") (by decide) ⟨_,ho,rfl⟩ (fun s'=>typeIs_int s' k t) x4f PySem.F.fills_int_mul PySem.F.slot_int_rmul x4g PySem.F.slot_int_index.lookup
   (PySem.call_meets PySem.F.slot_int_rmul (typeIs_int s k t) PySem.F.entry_int_rmul (PySem.F.args_int_rmul_2 _ _) (x6l l its.toArray n k t dd sl) ⟨ho,rfl,⟨_,ho,rfl⟩,hq⟩)
 by_cases hk1:k=1
 ·subst hk1;exact top (PySem.call_meets PySem.F.slot_tuple_mul ⟨_,ho,rfl⟩ PySem.F.entry_tuple_mul (PySem.F.args_tuple_mul_2 _ _) (x9a l its.toArray n 1 t dd sl hfit (by simp)) ⟨ho,.ref l,H,I,rfl,q1 rfl⟩)
 ·have h2':¬(its.toArray.isEmpty||k==1)=true:=by rw[hemp];simpa using hk1
  have fr:=I.hok.fresh (w0g s.heap.objs.size)
  by_cases hk0:k<=0
  ·refine top (PySem.call_meets PySem.F.slot_tuple_mul ⟨_,ho,rfl⟩ PySem.F.entry_tuple_mul (PySem.F.args_tuple_mul_2 _ _) (x89 l its.toArray n k t dd sl hfit h2' (by simp[hk0])) ⟨ho,?_⟩);have e:k.toNat=0:=by omega
   have z:=q2 hk1 _ fr;rw[e]at z;exact⟨.ref s.heap.objs.size,_,I.laid (t':=s.toks) (fun b o e=>Heap.get?_push_of_some _ e) (w0g _) (show ObjOk X.prog X.w _ _ _ (.tup (List.replicate 0 xs).flatten)from⟨w1b _,[],.nil,PyProof.Rows.IsTup.new _ _,_,Heap.get?_push_size _ rfl,rfl⟩),rfl,z⟩
  ·have hlen:its.length*k.toNat<=sizeLine:=by rw[<- hl];exact hz
   have hcast:((its.toArray.size:Nat):Int)*k=((its.length*k.toNat:Nat):Int):=by
    rw[w0c,w3z,Int.toNat_of_nonneg (by omega)]
   have sl8:(sizeLine:Int)<=(2^63-1) / 8:=by decide
   have hfl:(List.replicate k.toNat its).flatten.length=k.toNat*its.length:=len_rep ..;refine top (PySem.call_meets PySem.F.slot_tuple_mul ⟨_,ho,rfl⟩ PySem.F.entry_tuple_mul (PySem.F.args_tuple_mul_2 _ _) (x88 l its.toArray n k t dd sl hfit h2' (by rw[hemp];simpa using hk0) (by rw[hcast];omega) (by rw[hcast];unfold Builtin.Tuple.tupleTooMany;rw[decide_eq_true_eq];omega) (by rw[q8k,w0c,hfl,w3i];exact hlen)) ⟨ho,?_⟩);rw[q8k];exact⟨.ref s.heap.objs.size,_,I.laid (t':=s.toks) (fun b o e=>Heap.get?_push_of_some _ e) (w0g _) (show ObjOk X.prog X.w _ _ _ (.tup (List.replicate k.toNat xs).flatten)from⟨by rw[len_rep,w3i];exact hz,_,r.rep k.toNat,PyProof.Rows.IsTup.new _ _,_,Heap.get?_push_size _ rfl,rfl⟩),rfl,q2 hk1 _ fr⟩
def repT:W->W->Option W
 |.tup ws,.int k=>if okI k=true/\ws≠[]/\ws.length*k.toNat<=16777216 then some (.tup (List.replicate k.toNat ws).flatten)else none
 |_,_=>none
theorem y3a:Op2 K (rRepT K) repT:=by
 intro G H x y wx wy w Q s px py hf h;unfold repT at hf;split at hf
 ·rename_i ws k;split at hf
  ·rename_i hc;cases hf;cases(show y=V.int k from py);obtain⟨l,xs,rfl,hq,rp⟩:=px;have hb:=q8c hc.1;refine⟨l,k,xs,rfl,rfl,s.tup hq,fun z=>hc.2.1 (by subst z;exact List.length_eq_zero_iff.mp rp.length.symm),by omega,by omega,by rw[sizeLine_eq,rp.length];exact hc.2.2,fun hk=>?_,fun hk p hp=>?_⟩
   ·subst hk;have e:(List.replicate (1:Int).toNat ws).flatten=ws:=by simp
    rw[e]at h;exact h G _ H (.refl s) ⟨l,xs,rfl,hq,rp⟩
   ·have g:Grow G H (upd G p (.tup (List.replicate k.toNat xs).flatten)) (upd H p (.tup (List.replicate k.toNat xs).flatten)):=Grow.laid s hp _;exact h _ _ _ g ⟨p,_,rfl,SqT.of q0d,Reps.mono g.gg _ (q7r rp _)⟩
  ·cases hf
 ·cases hf
section
variable{b:Expr}{da db:Den W}
theorem y3b(ha:DE Z X EE a da)(hb:DE Z X EE b db):DE Z X EE (.BinOp a .Mult b pos) (dOp repT da db):=q5f y29 y3a ha hb
end
theorem y3c{b:Bool}{k:Int}(h0:0<=k)(h1:k<=100000):repT (.tup [.bl b]) (.int k)=some (.tup ((List.replicate k.toNat b).map .bl)):=by
 show(if okI k=true/\[W.bl b]≠[]/\[W.bl b].length*k.toNat<=16777216 then some (W.tup (List.replicate k.toNat [W.bl b]).flatten)else none)=_;rw[if_pos ⟨q44 (by omega) (by omega),by simp,by simp;omega⟩];congr 2
 have:∀m:Nat,(List.replicate m [W.bl b]).flatten=(List.replicate m b).map .bl:=fun m=>by
  induction m with
  |zero=>rfl
  |succ m ih=>rw[w1e,w1n,ih,w1e];rfl
 exact this _
def rCat0(K:Fg):R2:=fun x y H Q=>∃a b ys,x=.ref a/\y=.ref b/\SqT K H a []/\SqT K H b ys/\Q (.ref b) H
open PyProof.Rows in
theorem op_cat0:OpR X (binaryOp .Add) (rCat0 X.K):=by
 intro pins s σ H x y v u Q I rx ry h;obtain⟨a,b,ys,rfl,rfl,ha,hb,q⟩:=h;cases rx;cases ry;obtain⟨its,r1,p1,_⟩:=I.tuple ha;obtain⟨its2,r2,p2,_⟩:=I.tuple hb;cases r1;obtain⟨⟨cls,dd,data,sl⟩,ho,hc,n,hd⟩:=id p1;obtain⟨⟨cls2,dd2,data2,sl2⟩,ho2,hc2,n2,hd2⟩:=id p2;simp only at hc hd hc2 hd2;subst hc hd hc2 hd2;exact concat_meets ⟨_,ho,rfl⟩ ⟨_,ho2,rfl⟩ noFill_tuple_add seq_tuple_add PySem.F.slot_tuple_add PySem.F.entry_tuple_add (PySem.F.args_tuple_add_2 _ _) (tuple_addW0 a b _ _ n n2 dd dd2 sl sl2 rfl) ⟨ho,ho2,.ref b,H,I,rfl,q⟩
def addX:W->W->Option W
 |.tup xs,.tup ys=>if xs.length+ys.length<=16777216 then some (.tup (xs++ys))else none
 |x,y=>addW x y
theorem y3d{xs ys:List W}:addX (.tup xs) (.tup ys)=if xs.length+ys.length<=16777216 then some (.tup (xs++ys))else none:=rfl
theorem y3e{i j:Int}:addX (.int i) (.int j)=some (.int (i+j)):=rfl
theorem y3f{xs ys:List W}:addX (.lst xs) (.lst ys)=if xs.length+ys.length<=16777216 then some (.lst (xs++ys))else none:=rfl
theorem y3g{x y:Str}:addX (.str x) (.str y)=if x.length+y.length<=16777216 then some (.str (x++y))else none:=rfl
theorem y3h:Op2 K (fun x y H Q=>rCat0 K x y H Q\/(rI0 (fun i j=>.int (i+j)) x y H Q\/((∃i j,x=.str i/\y=.str j/\i.length+j.length<=sizeLine/\Q (.str (i++j)) H)\/(rCatT K x y H Q\/rCatS K x y H Q)))) addX:=by
 intro G H x y wx wy w Q s px py hf h;unfold addX at hf;split at hf
 ·rename_i xs ys;split at hf
  ·rename_i hl
   by_cases h0:xs=[]
   ·subst h0;cases hf;obtain⟨a,vs,rfl,hq,rp⟩:=px;obtain⟨b,us,rfl,hq2,rp2⟩:=py;cases(show vs=[]from rp);exact .inl ⟨a,b,us,rfl,rfl,s.tup hq,s.tup hq2,h G _ H (.refl s) ⟨b,us,rfl,hq2,rp2⟩⟩
   ·exact .inr (x5f G H x y (.tup xs) (.tup ys) w Q s px py (by show(if xs≠[]/\xs.length+ys.length<=16777216 then some (W.tup (xs++ys))else none)=some w;rw[if_pos ⟨h0,hl⟩];exact hf) h)
  ·cases hf
 ·exact .inr (x5f G H x y _ _ w Q s px py hf h)
section
variable{b:Expr}{da db:Den W}
theorem q0y(ha:DE Z X EE a da)(hb:DE Z X EE b db):DE Z X EE (.BinOp a .Add b pos) (dOp addX da db):=q5f (op_cat0.or (op_add.or (op_add_str.or (op_catT.or x2s)))) y3h ha hb
end
mutual
def toD:W->Option PyData
 |.non=>some .none
 |.bl b=>some (.bool b)
 |.int i=>some (.int i)
 |.str x=>some (.str x)
 |.tup ws=>(toDs ws).map .tuple
 |.lst ws=>(toDs ws).map .list
 |.exc _=>none
 |.dw _ _ _ _=>none
 |.fn _ _ _=>none
def toDs:List W->Option (List PyData)
 |[]=>some []
 |w::ws=>match toD w,toDs ws with
  |some d,some ds=>some (d::ds)
  |_,_=>none
end
section
variable{pins:List (Addr×Obj)}{σ:St}{H G:Hp}{s:Shared}
mutual
theorem q9q(I:Inv X pins σ H s)(sg:Same G H):∀(w:W){v:V}{u:Value}{d:PyData},Rep X.K G w v->RelV v u->toD w=some d->∃as,Reads s.heap u d as
 |.non,v,u,d,p,r,h=>by
  cases(show v=.non from p);cases(show u=Value.none from r);cases h;exact⟨_,.none⟩
 |.bl b,v,u,d,p,r,h=>by
  cases(show v=.bl b from p);cases(show u=Value.bool b from r);cases h;exact⟨_,.bool b⟩
 |.int i,v,u,d,p,r,h=>by
  cases(show v=.int i from p);obtain⟨t,rfl⟩:=(show ∃t,u=Value.int i t from r);cases h;exact⟨_,.int i t⟩
 |.str x,v,u,d,p,r,h=>by
  cases(show v=.str x from p);obtain⟨t,rfl⟩:=(show ∃t,u=Value.str x t from r);cases h;exact⟨_,.str x t⟩
 |.tup ws,v,u,d,p,r,h=>by
  obtain⟨a,xs,rfl,hq,rp⟩:=p;cases(show u=Value.ref a from r);obtain⟨ds,h1,rfl⟩:=w0e.mp (show(toDs ws).map PyData.tuple=some d from h);obtain⟨its,rv,⟨o,ho,hc,n,hd⟩,_⟩:=I.tuple (sg.tup hq);obtain⟨as,ra⟩:=q50 I sg ws rp rv h1;exact⟨_,.tuple ho hc hd (by simpa using ra)⟩
 |.lst ws,v,u,d,p,r,h=>by
  obtain⟨a,xs,rfl,hq,rp⟩:=p;cases(show u=Value.ref a from r);obtain⟨ds,h1,rfl⟩:=w0e.mp (show(toDs ws).map PyData.list=some d from h);obtain⟨its,rv,pl,_⟩:=I.list (sg.seq hq);obtain⟨o,ho,hc,n,hd⟩:=pl.isList;obtain⟨as,ra⟩:=q50 I sg ws rp rv h1;exact⟨_,.list ho hc hd (by simpa using ra)⟩
 |.exc c,v,u,d,p,r,h=>by cases h
 |.dw _ _ _ _,v,u,d,p,r,h=>by cases h
 |.fn _ _ _,v,u,d,p,r,h=>by cases h
theorem q50(I:Inv X pins σ H s)(sg:Same G H):∀(ws:List W){xs:List V}{its:List Value}{ds:List PyData},Reps X.K G ws xs->Vals xs its->toDs ws=some ds->∃as,ReadsAll s.heap its ds as
 |[],xs,its,ds,p,r,h=>by
  cases(show xs=[]from p);cases r;cases h;exact⟨_,.nil⟩
 |w::ws,xs,its,ds,p,r,h=>by
  obtain⟨x,xr,rfl,p1,p2⟩:=p;cases r with
  |cons r1 r2=>
   unfold toDs at h;split at h
   ·rename_i d0 ds0 h1 h2;cases h;obtain⟨as,q1⟩:=q9q I sg w p1 r1 h1;obtain⟨bs,q2⟩:=q50 I sg ws p2 r2 h2;exact⟨_,.cons q1 q2⟩
   ·cases h
end
end
theorem noDicts:∀(w:W){d:PyData},toD w=some d->d.hasDict=false
 |.non,d,h=>by cases h;rfl
 |.bl b,d,h=>by cases h;rfl
 |.int i,d,h=>by cases h;rfl
 |.str x,d,h=>by cases h;rfl
 |.tup ws,d,h=>by
  obtain⟨ds,h1,rfl⟩:=w0e.mp (show(toDs ws).map PyData.tuple=some d from h);exact go ws h1
 |.lst ws,d,h=>by
  obtain⟨ds,h1,rfl⟩:=w0e.mp (show(toDs ws).map PyData.list=some d from h);exact go ws h1
 |.exc c,d,h=>by cases h
 |.dw _ _ _ _,d,h=>by cases h
 |.fn _ _ _,d,h=>by cases h
where
 go:∀(ws:List W){ds:List PyData},toDs ws=some ds->PyData.hasDictAll ds=false
 |[],ds,h=>by cases h;rfl
 |w::ws,ds,h=>by
  unfold toDs at h;split at h
  ·rename_i d0 ds0 h1 h2;cases h;show(PyData.hasDict d0||PyData.hasDictAll ds0)=false;rw[noDicts w h1,go ws h2];rfl
  ·cases h
theorem x4h(hu:X.A.units+150<cLine)(hg:X.A.guards=some []):CallR X (.builtin "repr") (fun xs H Q=>∃x w d G,xs=[x]/\Same G H/\Rep X.K G w x/\(∃a,x=.ref a)/\toD w=some d/\d.showable=true/\d.depth<=100/\d.shown.length<=sizeLine/\Q (.str d.shown) H):=by
 intro pins s σ H xs us Q I r h;obtain⟨x,w,d,G,rfl,sg,p,⟨a,rfl⟩,hd,h1,h2,h3,q⟩:=h;obtain⟨u,rfl,rx⟩:=vals1 r;obtain⟨as,rr⟩:=q9q I sg w p rx hd;cases(show u=Value.ref a from rx);refine repr_of_reads' rr h1 (PyData.noDict_hsm (noDicts w hd)) hg (by omega) (fun _ _ e=>e) (fun h' u' tk hk=>?_) h3
 exact⟨.str d.shown,H,I.kept (t':=tk) hk,⟨u',rfl⟩,q⟩
def repr1:List W->Option W
 |[.tup ws]=>(toD (.tup ws)).bind fun d=>if d.showable=true/\d.depth<=100/\d.shown.length<=16777216 then some (.str d.shown)else none
 |[.lst ws]=>(toD (.lst ws)).bind fun d=>if d.showable=true/\d.depth<=100/\d.shown.length<=16777216 then some (.str d.shown)else none
 |_=>none
theorem y3i:OpN K (fun xs H Q=>∃x w d G,xs=[x]/\Same G H/\Rep K G w x/\(∃a,x=.ref a)/\toD w=some d/\d.showable=true/\d.depth<=100/\d.shown.length<=sizeLine/\Q (.str d.shown) H) repr1:=by
 intro G H xs ws w Q s pr hf h;unfold repr1 at hf;split at hf
 ·obtain⟨x,r,rfl,px,pr⟩:=pr;cases(show r=[]from pr);obtain⟨d,hd,hf⟩:=w1f.mp hf;split at hf
  ·rename_i hc;cases hf;exact⟨x,_,d,G,rfl,s,px,(by obtain⟨a,_,e,_⟩:=px;exact⟨a,e⟩),hd,hc.1,hc.2.1,by rw[sizeLine_eq];exact hc.2.2,h G _ H (.refl s) rfl⟩
  ·cases hf
 ·obtain⟨x,r,rfl,px,pr⟩:=pr;cases(show r=[]from pr);obtain⟨d,hd,hf⟩:=w1f.mp hf;split at hf
  ·rename_i hc;cases hf;exact⟨x,_,d,G,rfl,s,px,(by obtain⟨a,_,e,_⟩:=px;exact⟨a,e⟩),hd,hc.1,hc.2.1,by rw[sizeLine_eq];exact hc.2.2,h G _ H (.refl s) rfl⟩
  ·cases hf
 ·cases hf
theorem x20(hu:X.A.units+150<cLine)(hgd:X.A.guards=some [])(hm:X.mg "repr"=none)(ha:DA Z X EE [e] dA)(hg:Gl X "repr":=by rfl)(he:starEach [e] X.env=(false,eval e X.env)::starEach [] X.env:=by rfl)(hpl:(backTo pos (starEach [] X.env)).any (·.1)=false:=by rfl):DE Z X EE (.Call (.Name "repr" p) [e] [] pos) (dFn repr1 dA):=
 q8b (x4h hu hgd) y3i PyProof.Rows.Boot.«repr» hm ha hg (by decide) (by decide) he hpl
mutual
def plainW:W->Bool
 |.non=>true
 |.bl _=>true
 |.int i=>decide (0<=i/\i<32)
 |.tup ws=>plainWs ws
 |.lst ws=>plainWs ws
 |_=>false
def plainWs:List W->Bool
 |[]=>true
 |w::ws=>plainW w&&plainWs ws
end
mutual
def wgt:W->Nat
 |.int i=>(PyData.int i).weight
 |.tup ws=>wgts ws
 |.lst ws=>wgts ws
 |_=>0
def wgts:List W->Nat
 |[]=>0
 |w::ws=>wgt w+1+wgts ws
end
theorem x6m:∀n:Fin 32,(PyData.int ((n.val:Nat):Int)).weight<=8:=by decide +kernel
theorem q65{n:Nat}(h:n<32):wgt (.int (n:Int))<=8:=x6m ⟨n,h⟩
theorem q4d:∀bs:List Bool,plainWs (bs.map .bl)=true/\depWs (bs.map .bl)=0/\wgts (bs.map .bl)=bs.length
 |[]=>⟨rfl,rfl,rfl⟩
 |b::bs=>by
  obtain⟨h1,h2,h3⟩:=q4d bs;refine⟨h1,?_,?_⟩
  ·show max 0 (depWs (bs.map .bl))=0;omega
  ·show 0+1+wgts (bs.map .bl)=_;rw[h3,w0x];omega
open PySem L2 PySem.Spec PyProof.Rows
section
variable{ta:TA}{p2 pos2:Pos}
theorem y3j{vs:List V}{us:List Value}(hl:vs.length=us.length)(h:∀(i:Nat)(h1:i<vs.length)(h2:i<us.length),RelV vs[i] us[i]):Vals vs us:=by
 induction vs generalizing us with
 |nil=>
  cases us with
  |nil=>exact .nil
  |cons u us=>simp at hl
 |cons v vs ih=>
  cases us with
  |nil=>simp at hl
  |cons u us=>
   refine .cons (h 0 (by simp) (by simp)) (ih (by simpa using hl) fun i h1 h2=>?_)
   have:=h (i+1) (by simpa using h1) (by simpa using h2)
   simpa using this
end
end D
namespace L2
open PySem PySem.Spec PyProof.Rows
section
variable{κ:Type} [DecidableEq κ]
def valV(kvs:List (κ×V))(k:κ):Option V:=(kvs.find? fun kv=>decide (kv.1=k)).map (·.2)
def putK(kvs:List (κ×V))(k:κ)(v:V):List (κ×V):=
 if(kvs.any fun kv=>decide (kv.1=k))=true then kvs.map (fun kv=>if kv.1=k then(kv.1,v)else kv)else kvs++[(k,v)]
theorem q51{p:κ×V}{r:List (κ×V)}{k:κ}(e:p.1=k):valV (p::r) k=some p.2:=by simp[valV,w1z,e]
theorem q49{p:κ×V}{r:List (κ×V)}{k:κ}(e:¬p.1=k):valV (p::r) k=valV r k:=by simp[valV,w1z,e]
theorem q52(k:κ):∀kvs:List (κ×V),(kvs.any fun kv=>decide (kv.1=k))=(valV kvs k).isSome
 |[]=>rfl
 |p::r=>by
  rw[w4h]
  by_cases e:p.1=k
  ·simp only[q51 e,decide_eq_true e,Bool.true_or,w2j]
  ·rw[q49 e,decide_eq_false e,Bool.false_or];exact q52 k r
theorem q5i(kvs:List (κ×V))(k:κ)(v:V):(putK kvs k v).length<=kvs.length+1:=by
 unfold putK;split
 ·rw[w0a];omega
 ·rw[w0l,w0x,List.length_nil];omega
theorem q7s{kvs:List (κ×V)}{k:κ}(v:V)(h:valV kvs k=none):putK kvs k v=kvs++[(k,v)]:=by
 unfold putK;rw[q52,h];exact if_neg (by decide)
theorem RelO.isSome_eq{o:Option V}{u:Option Value}(r:RelO o u):o.isSome=u.isSome:=by
 cases o with
 |none=>cases u with
  |none=>rfl
  |some _=>exact(show False from r).elim
 |some _=>cases u with
  |none=>exact(show False from r).elim
  |some _=>rfl
theorem KV.val{kvs:List (κ×V)}{vs:List (κ×Value)}(r:KV kvs vs)(k:κ):RelO (valV kvs k) (valueAt vs k):=by
 unfold KV at r
 induction r with
 |nil=>exact True.intro
 | @cons p q ps qs h t ih=>
  obtain⟨h1,h2⟩:=h
  by_cases e:p.1=k
  ·have e':q.1=k:=h1.symm.trans e;have b:valueAt (q::qs) k=some q.2:=by simp[valueAt,w1z,e']
   rw[q51 e,b];exact h2
  ·have e':¬q.1=k:=fun z=>e (h1.trans z)
   have b:valueAt (q::qs) k=valueAt qs k:=by simp[valueAt,w1z,e']
   rw[q49 e,b];exact ih
theorem KV.any{kvs:List (κ×V)}{vs:List (κ×Value)}(r:KV kvs vs)(k:κ):(kvs.any fun kv=>decide (kv.1=k))=vs.any fun kv=>decide (kv.1=k):=by
 unfold KV at r
 induction r with
 |nil=>rfl
 |cons h t ih=>rw[w4h,w4h,ih,h.1]
theorem KV.repl{kvs:List (κ×V)}{vs:List (κ×Value)}(r:KV kvs vs)(k:κ){y:V}{u:Value}(ry:RelV y u):
  KV (kvs.map fun kv=>if kv.1=k then(kv.1,y)else kv) (vs.map fun kv=>if kv.1=k then(kv.1,u)else kv):=by
 unfold KV at r |-
 induction r with
 |nil=>exact .nil
 | @cons p q ps qs h t ih=>
  rw[w0v,w0v];refine .cons ?_ ih;obtain⟨h1,h2⟩:=h
  by_cases e:p.1=k
  ·rw[if_pos e,if_pos (h1.symm.trans e)];exact⟨h1,ry⟩
  ·rw[if_neg e,if_neg (fun z=>e (h1.trans z))];exact⟨h1,h2⟩
theorem KV.put{kvs:List (κ×V)}{vs:List (κ×Value)}(r:KV kvs vs)(k:κ){y:V}{u:Value}(ry:RelV y u):KV (putK kvs k y) (stored vs k u):=by
 unfold putK stored;rw[r.any k]
 by_cases e:(vs.any fun kv=>decide (kv.1=k))=true
 ·rw[if_pos e,if_pos e];exact r.repl k ry
 ·rw[if_neg e,if_neg e];exact Paired.snoc r ⟨rfl,ry⟩
theorem KV.length{kvs:List (κ×V)}{vs:List (κ×Value)}(r:KV kvs vs):kvs.length=vs.length:=Paired.length r
end
variable{a b:Addr}{A:Around}{X:Cx}{H H':Hp}{k:Kx}{pins:List (Addr×Obj)}{xs:List (Kx×Addr×Value)}{kvs:List (Kx×V)}{kas:List Addr}{P:Program}{sh:Sh}{s:Shared}{σ:St}{y:V}{u:Value}{w:World}
theorem x4i{k:Key}(r:RelV (kV k) u):(mixKind P w).is k u=true:=by
 cases k with
 |inl i=>obtain⟨t,e⟩:=(show ∃t,u=Value.int i t from r);subst e;exact x17 P w i t
 |inr x=>obtain⟨t,e⟩:=(show ∃t,u=Value.str x t from r);subst e;exact x18 P w x t
abbrev KT(sh:Sh)(H:Hp):List (Kx×V)->List (Kx×Addr×Value)->Prop:=Paired fun p q=>p.1=q.1/\(KRep H p.1 (.ref q.2.1)/\Conf p.1 sh/\p.1.depth<=7)/\RelV p.2 q.2.2
theorem KT.val(r:KT sh H kvs xs)(k:Kx):RelO (valV kvs k) ((atKey xs k).map (·.2)):=by
 induction r with
 |nil=>exact True.intro
 | @cons p q ps qs h t ih=>
  obtain⟨h1,_,h2⟩:=h
  by_cases e:p.1=k
  ·have e':q.1=k:=h1.symm.trans e;have b:atKey (q::qs) k=some q.2:=by simp[atKey,w1z,e']
   rw[q51 e,b];exact h2
  ·have e':¬q.1=k:=fun z=>e (h1.trans z)
   have b:atKey (q::qs) k=atKey qs k:=by simp[atKey,w1z,e']
   rw[q49 e,b];exact ih
theorem KT.repl(r:KT sh H kvs xs)(k:Kx)(ry:RelV y u):
  KT sh H (kvs.map fun kv=>if kv.1=k then(kv.1,y)else kv) (xs.map (putAt k u)):=by
 induction r with
 |nil=>exact .nil
 | @cons p q ps qs h t ih=>
  rw[w0v,w0v];refine .cons ?_ ih;obtain⟨h1,h2,h3⟩:=h;unfold putAt
  by_cases e:p.1=k
  ·rw[if_pos e,if_pos (h1.symm.trans e)];exact⟨h1,h2,ry⟩
  ·rw[if_neg e,if_neg (fun z=>e (h1.trans z))];exact⟨h1,h2,h3⟩
theorem KT.put(r:KT sh H kvs xs)(k:Kx)(hb:KRep H k (.ref b)/\Conf k sh/\k.depth<=7)(ry:RelV y u):
  KT sh H (putK kvs k y) (storedH xs k b u):=by
 have e:(kvs.any fun kv=>decide (kv.1=k))=(atKey xs k).isSome:=by
  rw[q52,(r.val k).isSome_eq,w3a]
 unfold putK storedH;rw[e]
 by_cases q:(atKey xs k).isSome=true
 ·rw[if_pos q,if_pos q];exact r.repl k ry
 ·rw[if_neg q,if_neg q];exact Paired.snoc r ⟨rfl,hb,ry⟩
def putAd(kvs:List (Kx×V))(kas:List Addr)(k:Kx)(b:Addr):List Addr:=if(valV kvs k).isSome=true then kas else kas++[b]
theorem KT.putAd(r:KT sh H kvs xs)(ka:xs.map (·.2.1)=kas)(k:Kx):(storedH xs k b u).map (·.2.1)=L2.putAd kvs kas k b:=by
 unfold storedH L2.putAd;rw[(r.val k).isSome_eq,w3a]
 by_cases q:(atKey xs k).isSome=true
 ·rw[if_pos q,if_pos q,w1q,<- ka];refine w3g fun x _=>?_
  show(putAt k u x).2.1=x.2.1;unfold putAt;split<;>rfl
 ·rw[if_neg q,if_neg q,w0m,ka];rfl
theorem KT.keeps(r:KT sh H kvs xs)(ht:∀b u,TupLike u->H b=some u->H' b=some u):KT sh H' kvs xs:=
 Paired.mapP r fun _ _ z=>⟨z.1,⟨KRep.keeps ht _ z.2.1.1,z.2.1.2⟩,z.2.2⟩
section
variable{h:Heap}
theorem y0w{u:HO}(ok:HOk P w H h)(e:Rd H a u):ObjOk P w H h a u:=e.ok ok
theorem x4j{kvs:List (Key×V)}(ok:HOk P w H h)(e:Rd H a (.dK kvs)):kvs.length<=sizeLine/\(a==sysModules)=false/\∃vs,KV kvs vs/\h.DictOf (mixKind P w) a vs:=
 show ObjOk P w H h a (.dK kvs)from y0w ok e
theorem z0p{kvs:List (Key×V)}(ok:HOk P w H h)(e:H a=some (.dK kvs)):kvs.length<=sizeLine/\(a==sysModules)=false/\∃vs,KV kvs vs/\h.DictOf (mixKind P w) a vs:=x4j ok (.inl e)
theorem IsTup.seq{h:Heap}{its:List Value}(p:IsTup h a its.toArray):∃o n,h.get? a=some o/\o.cls=.type "tuple" /\ o.data=.seq its.toArray n:=by
 obtain⟨o,h1,h2,n,h3⟩:=p;exact⟨o,n,h1,h2,h3⟩
mutual
theorem KRep.is(ok:HOk P w H h):∀(k:Kx){x:V}{v:Value},KRep H k x->RelV x v->KIs h k v
 |.non,x,v,e,r=>by cases(show x=.non from e);exact r
 |.bl b,x,v,e,r=>by cases(show x=.bl b from e);exact r
 |.int b,x,v,e,r=>by cases(show x=.int b from e);exact r
 |.str b,x,v,e,r=>by cases(show x=.str b from e);exact r
 |.tup ks,x,v,e,r=>by
  obtain⟨a,xs,rfl,q,rs⟩:=e;cases(show v=Value.ref a from r);obtain⟨_,its,rv,p,_⟩:=(show ObjOk P w H h a (.tup xs)from Rd.ok q ok);obtain⟨o,n,h1,h2,h3⟩:=IsTup.seq p;exact⟨a,o,its.toArray,n,rfl,h1,h2,h3,by simpa using KReps.are ok ks rs rv⟩
theorem KReps.are(ok:HOk P w H h):∀(ks:List Kx){xs:List V}{vs:List Value},KReps H ks xs->Vals xs vs->KAre h ks vs
 |[],xs,vs,e,r=>by
  cases(show xs=[]from e);cases r;rfl
 |k::ks,xs,vs,e,r=>by
  obtain⟨x,r0,rfl,h1,h2⟩:=e;cases r with
  |cons q t=>exact⟨_,_,rfl,KRep.is ok k h1 q,KReps.are ok ks h2 t⟩
end
theorem q5s(ok:HOk P w H h)(e:KRep H k (.ref a)/\Conf k sh/\k.depth<=7):(treeKind P w sh).is h k a:=⟨KRep.is ok k e.1 rfl,e.2⟩
theorem x4k(ok:HOk P w H h)(e:Rd H a (.dT sh kvs kas)):kvs.length<=sizeLine/\(a==sysModules)=false /\
  ∃xs,KT sh H kvs xs/\xs.map (·.2.1)=kas/\h.DictOfH (treeKind P w sh) a xs:=by
 obtain⟨z,y,xs,r,ka,o,es,ep,h1,h2,h3,h4,h5⟩:=(show ObjOk P w H h a (.dT sh kvs kas)from y0w ok e);refine⟨z,y,xs,r,ka,o,es,ep,h1,h2,h3,h4,fun x hx=>?_,h5⟩
 have all:∀{l:List (Kx×V)}{m:List (Kx×Addr×Value)},KT sh H l m->∀x∈m,(treeKind P w sh).is h x.1 x.2.1:=by
  intro l m q
  induction q with
  |nil=>intro x hx;exact nomatch hx
  | @cons p q ps qs hq t ih=>
   intro x hx;rcases w0p.mp hx with e|hx
   ·subst e;exact q5s ok (by rw[<- hq.1];exact hq.2.1)
   ·exact ih x hx
 exact all r x hx
theorem x4l(ok:HOk P w H h)(e:H a=some (.dT sh kvs kas)):kvs.length<=sizeLine/\(a==sysModules)=false /\
  ∃xs,KT sh H kvs xs/\xs.map (·.2.1)=kas/\h.DictOfH (treeKind P w sh) a xs:=x4k ok (.inl e)
end
def DGet(H:Hp)(a:Addr)(y:V)(r:Option V):Prop:=
 (∃kvs k,Rd H a (.dK kvs)/\y=kV k/\r=valV kvs k)\/∃sh kvs kas k b,Rd H a (.dT sh kvs kas)/\y=.ref b/\(KRep H k (.ref b)/\Conf k sh/\k.depth<=7)/\r=valV kvs k
def DPut(H:Hp)(a:Addr)(y v:V)(H':Hp):Prop:=
 (∃kvs k,H a=some (.dK kvs)/\y=kV k/\kvs.length<sizeLine/\H'=upd H a (.dK (putK kvs k v))) \/
 ∃sh kvs kas k b,H a=some (.dT sh kvs kas)/\y=.ref b/\(KRep H k (.ref b)/\Conf k sh/\k.depth<=7)/\kvs.length<sizeLine/\H'=upd H a (.dT sh (putK kvs k v) (putAd kvs kas k b))
theorem DGet.t(e:Rd H a (.dT sh kvs kas))(eb:KRep H k (.ref b)/\Conf k sh/\k.depth<=7):DGet H a (.ref b) (valV kvs k):=.inr ⟨sh,kvs,kas,k,b,e,rfl,eb,rfl⟩
theorem DPut.t{v:V}(e:H a=some (.dT sh kvs kas))(eb:KRep H k (.ref b)/\Conf k sh/\k.depth<=7)(hl:kvs.length<sizeLine):
  DPut H a (.ref b) v (upd H a (.dT sh (putK kvs k v) (putAd kvs kas k b))):=.inr ⟨sh,kvs,kas,k,b,e,rfl,eb,hl,rfl⟩
section
variable{v:V}{r:Value}{o:Option V}{E:Value->Shared->Prop}
theorem Inv.big(I:Inv X pins σ H s):sysModules<s.heap.objs.size:=by
 have h:mainGlobals<s.heap.objs.size:=(I.mod.glob.keeps I.bk).lt;exact Nat.lt_trans (by decide) h
theorem q7t(hu:A.units+20<cLine):(treeKind P w sh).room A.in1:=by
 show A.in1.units+8<cLine;rw[Around.in1_units];omega
theorem d_in{Q:Value->Shared->Prop}(hu:A.units+20<cLine)(I:Inv X pins σ H s)(g:DGet H a y o)(ry:RelV y u)(h:∀s',Inv X pins σ H s'->Q (.bool o.isSome) s'):
  wpAny (model X.prog X.w) A (compareOp .In u (.ref a)) Q E s:=by
 rcases g with⟨kvs,k,e,ey,l⟩|⟨sh,kvs,kas,k,b,e,ey,eb,l⟩
 ·subst ey;obtain⟨z,hd,vs,rel,dd⟩:=x4j I.hok e;refine wpAny_in_of (x4i ry) hd dd.mapOf ?_;rw[<- (rel.val k).isSome_eq,<- l];exact h _ (I.tok _)
 ·subst ey;cases(show u=Value.ref b from ry);obtain⟨z,hd,xs,rel,_,dd⟩:=x4k I.hok e;refine wpAny_in_heap (q7t hu) (q5s I.hok eb) hd dd ?_;have q:=(rel.val k).isSome_eq;rw[w3a]at q;rw[<- q,<- l];exact h _ (I.tok _)
theorem y3k{Q:Value->Shared->Prop}(hu:A.units+20<cLine)(I:Inv X pins σ H s)(g:DGet H a y o)(ry:RelV y u)(h:∀s',Inv X pins σ H s'->Q (.bool (!o.isSome)) s'):
  wpAny (model X.prog X.w) A (compareOp .NotIn u (.ref a)) Q E s:=by
 rcases g with⟨kvs,k,e,ey,l⟩|⟨sh,kvs,kas,k,b,e,ey,eb,l⟩
 ·subst ey;obtain⟨z,hd,vs,rel,dd⟩:=x4j I.hok e;refine wpAny_notIn_of (x4i ry) hd dd.mapOf ?_;rw[<- (rel.val k).isSome_eq,<- l];exact h _ (I.tok _)
 ·subst ey;cases(show u=Value.ref b from ry);obtain⟨z,hd,xs,rel,_,dd⟩:=x4k I.hok e;refine wpAny_notIn_heap (q7t hu) (q5s I.hok eb) hd dd ?_;have q:=(rel.val k).isSome_eq;rw[w3a]at q;rw[<- q,<- l];exact h _ (I.tok _)
theorem q66{h':Heap}{t':Nat}{ob:HO}(I:Inv X pins σ H s)(mu:Mut (H a))(hs:Heap.SameBut a s.heap h')(he:∃q,h'.get? a=some q)(new:ObjOk X.prog X.w (upd H a ob) h' a ob):
  Inv X pins σ (upd H a ob) {s with heap:=h',toks:=t'}:=
 I.write (x:=a) (e:=a) mu (.inl rfl) (fun b q hb z=>(hs.2 b hb).trans z) he new
theorem y76{h':Heap}{kvs:List (Key×V)}{vs:List (Key×Value)}(z:kvs.length<=sizeLine)(hd:(a==sysModules)=false)(rel:KV kvs vs)(dd:h'.DictOf (mixKind P w) a vs):
  ObjOk P w H' h' a (.dK kvs):=⟨z,hd,vs,rel,dd⟩
theorem x6n{Q:Unit->Shared->Prop}(hu:A.units+20<cLine)(I:Inv X pins σ H s)(g:DPut H a y v H')(ry:RelV y u)(rv:RelV v r)(h:∀s',Inv X pins σ H' s'->Q () s'):
  wpAny (model X.prog X.w) A (setItem (.ref a) u r) Q E s:=by
 rcases g with⟨kvs,k,e,ey,l,eH⟩|⟨sh,kvs,kas,k,b,e,ey,eb,l,eH⟩
 ·subst ey eH;obtain⟨z,hd,vs,rel,dd⟩:=z0p I.hok e;have hz:vs.length<=sizeLine:=by rw[<- rel.length];exact z
  have hl:(putK kvs k v).length<=sizeLine:=by have:=q5i kvs k v;omega
  refine wpAny_setItem_pairs (hsz:=hz) (x4i ry) dd fun h' dd' hs=>h _ ?_
  have he:∃q,h'.get? a=some q:=let ⟨q,_,_,hq,_⟩:=dd';⟨q,hq⟩;exact q66 I (by rw[e];exact True.intro) hs he (y76 hl hd (rel.put k rv) dd')
 ·subst ey eH;cases(show u=Value.ref b from ry);obtain⟨z,hd,xs,rel,ka,dd⟩:=x4l I.hok e;have hz:xs.length<=sizeLine:=by rw[<- Paired.length rel];exact z
  have hl:(putK kvs k v).length<=sizeLine:=by have:=q5i kvs k v;omega
  refine wpAny_setItem_heap (hsz:=hz) (q7t hu) (q5s I.hok eb) dd fun h' dd' hs=>h _ ?_
  obtain⟨q,es,ep,hq,h2,h3,h4,_,h5⟩:=dd';refine q66 I (by rw[e];exact True.intro) hs ⟨q,hq⟩ ⟨hl,hd,_,(rel.put k eb rv).keeps fun c u ys ec=>?_,rel.putAd ka k,q,es,ep,hq,h2,h3,h4,h5⟩
  rw[q0c (q0x ec e (fun z=>by subst z;exact ys))]
  exact ec
end
def tDIn(ty td:TE):TE:=fun σ H Q=>ty σ H fun y H1=>td σ H1 fun x H2=>∃a o,x=.ref a/\DGet H2 a y o/\Q (.bl o.isSome) H2
def tDNotIn(ty td:TE):TE:=fun σ H Q=>ty σ H fun y H1=>td σ H1 fun x H2=>∃a o,x=.ref a/\DGet H2 a y o/\Q (.bl (!o.isSome)) H2
def sDPut(td ty tv:TE):TS:=fun D σ H=>tv σ H fun v H1=>td σ H1 fun x H2=>ty σ H2 fun y H3=>∃a H4,x=.ref a/\DPut H3 a y v H4/\D.nx σ H4
section
variable{o i e value:Expr}{pos pos' tpos:Pos}{td ty tv:TE}
theorem y77(hu:X.A.units+20<cLine)(hi:PE X i ty)(ho:PE X o td):PC X .In i o (tDIn ty td):=by
 intro pins s σ H Q I h;refine thn (hi pins s σ H _ I h) fun iv s1 ⟨y,H1,I1,ry,q1⟩=>thn (ho pins s1 σ H1 _ I1 q1) fun u s2 ⟨x,H2,I2,rx,a,ov,ex,g,q2⟩=>?_
 subst ex;obtain rfl:u=Value.ref a:=rx;exact d_in hu I2 g ry fun s3 I3=>⟨.bl ov.isSome,H2,I3,rfl,q2⟩
theorem x6o(hu:X.A.units+20<cLine)(hi:PE X i ty)(ho:PE X o td):PC X .NotIn i o (tDNotIn ty td):=by
 intro pins s σ H Q I h;refine thn (hi pins s σ H _ I h) fun iv s1 ⟨y,H1,I1,ry,q1⟩=>thn (ho pins s1 σ H1 _ I1 q1) fun u s2 ⟨x,H2,I2,rx,a,ov,ex,g,q2⟩=>?_
 subst ex;obtain rfl:u=Value.ref a:=rx;exact y3k hu I2 g ry fun s3 I3=>⟨.bl (!ov.isSome),H2,I3,rfl,q2⟩
theorem x21(hu:X.A.units+20<cLine)(ho:PE X o td)(hi:PE X i ty)(hv:PE X value tv)(hs:swapsWith value (some (.Subscript o i pos')) pos.line X.env=pure false):
  PS X (.Assign [.Subscript o i pos'] value pos) (sDPut td ty tv):=by
 intro pins s σ H D I h;refine wpAny_Assign_Subscript (thn (hv pins s σ H _ I h) fun r s1 ⟨v,H1,I1,rv,q1⟩=>thn (ho pins s1 σ H1 _ I1 q1) fun u s2 ⟨x,H2,I2,rx,q2⟩=>thn (hi pins s2 σ H2 _ I2 q2) fun iv s3 ⟨y,H3,I3,ry,a,H4,ex,g,q3⟩=>?_) hs
 subst ex;obtain rfl:u=Value.ref a:=rx;exact x6n hu I3 g ry rv fun s4 I4=>⟨σ,H4,I4,q3⟩
end
theorem q7u(h:Heap)(hb:sysModules<h.objs.size):ObjOk P w H (h.push {cls:=.type "dict", data:=.dict #[]}) h.objs.size (.dT sh [] []):=
 ⟨w1b _,beq_eq_false_iff_ne.mpr (Ne.symm (w0u hb)),[],.nil,rfl,_,#[],0,Heap.get?_push_size _ rfl,⟨rfl,rfl,rfl⟩,rfl,rfl,List.nodup_nil⟩
def tDNewT(sh:Sh):TE:=fun _ H Q=>∀p,H p=none->Q (.ref p) (upd H p (.dT sh [] []))
section
variable{pos:Pos}
theorem x9b{sh:Sh}:PE X (.Dict [] [] pos) (tDNewT sh):=fun pins s σ H Q I h=>
 wpAny_Dict_empty ⟨.ref s.heap.objs.size,_,I.laid (a:=s.heap.objs.size) (o:=.dT sh [] []) (t':=s.toks) (fun _ _ q=>Heap.get?_push_of_some _ q) (w0g _) (q7u s.heap I.big),rfl,h _ (I.hok.fresh (w0g _))⟩
end
section
variable{o:Obj}{kvs:List (Key×V)}
theorem Inv.swapAt{u u':HO}(I:Inv X pins σ H s)(e:H a=some u)(ht:¬TupLike u)(hb:∀ps,u≠.tbl ps)(hf:∀o v,X.H₀ a≠some (.frz o v))(hw:∀x,u≠.own x)(ok:HOk X.prog X.w H s.heap->ObjOk X.prog X.w (upd H a u') s.heap a u'):Inv X pins σ (upd H a u') s:=by
 have up:∀b,H b=none->upd H a u' b=none:=fun b n=>by
  rw[q0c (fun z=>by subst z;rw[e]at n;cases n)];exact n
 refine⟨I.ok,I.os,I.bare,⟨I.base.keep,I.base.slot,fun b ob q n hx=>up b (I.base.free b ob q n hx),I.base.there,fun b xs q=>?_,fun b ob v q=>?_,fun b ps q=>?_⟩,I.loc,I.cell,up _ I.free,fun x c q=>up c (I.freeC x c q),fun p hp=>?_,fun b v q=>?_,I.len⟩
 ·have z:=I.base.tups b xs q
  by_cases hb':b=a
  ·subst hb';rw[e]at z;exact absurd (show TupLike u by rw[Option.some.inj z];exact True.intro) ht
  ·rw[q0c hb'];exact z
 ·by_cases hb':b=a
  ·subst hb';exact absurd q (hf ob v)
  ·rw[q0c hb'];exact I.base.frzs b ob v q
 ·obtain⟨more,z⟩:=I.base.tbls b ps q
  by_cases hb':b=a
  ·subst hb';rw[e]at z;exact absurd (Option.some.inj z) (hb _)
  ·exact⟨more,by rw[q0c hb'];exact z⟩
 ·obtain⟨q1,q2,q3⟩:=I.pin p hp;exact⟨q1,up _ q2,q3⟩
 ·by_cases hb':b=a
  ·subst hb';rw[q0d]at q;cases q;exact ok I.hok
  ·rw[q0c hb']at q;refine(I.hok b v q).stay (fun _ _ _ z=>z) (fun c z=>?_) fun c xs tl z=>?_
   ·rw[q0c (fun y=>by subst y;rw[e]at z;exact hw _ (Option.some.inj z))];exact z
   ·rw[q0c (fun y=>by subst y;rw[e]at z;exact ht ((Option.some.inj z) ▸ tl))];exact z
end
section
variable{o:Obj}{xs:List V}
theorem Inv.freezeL(I:Inv X pins σ H s)(e:H a=some (.lst xs))(q:s.heap.get? a=some o):Inv X pins σ (upd H a (.frz o (.lst xs))) s:=
 I.swapAt e (fun z=>z) (fun _ z=>nomatch z) (fun ob v z=>by have:=I.base.frzs a ob v z;rw[e]at this;cases this) (fun _ z=>nomatch z) fun ok=>⟨q,(ok a _ e).stay (fun _ _ _ z=>z) (fun c z=>by rw[q0c (q0x z e (fun y=>nomatch y))];exact z) fun c xs tl z=>by rw[q0c (q0x z e (fun y=>by subst y;exact tl))];exact z⟩
theorem Inv.meltL(I:Inv X pins σ H s)(e:H a=some (.frz o (.lst xs)))(hf:∀o v,X.H₀ a≠some (.frz o v)):Inv X pins σ (upd H a (.lst xs)) s:=
 I.swapAt e (fun z=>z) (fun _ z=>nomatch z) hf (fun _ z=>nomatch z) fun ok=>(ok a _ e).2.stay (fun _ _ _ z=>z) (fun c z=>by rw[q0c (q0x z e (fun y=>nomatch y))];exact z) fun c xs tl z=>by rw[q0c (q0x z e (fun y=>by subst y;exact tl))];exact z
end
theorem q5t{l:Expr}{tl:TE}(hl:PE X l tl):PE X l (fun σ H Q=>tl σ H fun v H1=>∃a xs,v=.ref a/\H1 a=some (.lst xs)/\∀o,Q v (upd H1 a (.frz o (.lst xs)))):=by
 intro pins s σ H Q I h;refine thn (hl pins s σ H _ I h) fun v s1 ⟨x,H1,I1,r1,q1⟩=>?_
 obtain⟨a,xs,rfl,e,q⟩:=q1;obtain⟨its,_,⟨o,n,g,_⟩,_⟩:=I1.list (SqL.of e);exact⟨.ref a,_,I1.freezeL e g,r1,q o⟩
theorem x9c{l:Expr}{tl:TE}(hl:PE X l tl):PE X l (fun σ H Q=>tl σ H fun v H1=>∃a o xs,v=.ref a/\H1 a=some (.frz o (.lst xs))/\(∀o v,X.H₀ a≠some (.frz o v))/\Q v (upd H1 a (.lst xs))):=by
 intro pins s σ H Q I h;refine thn (hl pins s σ H _ I h) fun v s1 ⟨x,H1,I1,r1,q1⟩=>?_
 obtain⟨a,o,xs,rfl,e,hf,q⟩:=q1;exact⟨.ref a,_,I1.meltL e hf,r1,q⟩
end L2
namespace D
open PySem L2 PySem.Spec PyProof.Rows
open PyProof.Rows (envOfC)
section
variable{P:Program}{w:World}{K:Fg}{mg:Str->Option Value}{base:Heap}
theorem conZ{x:Str}{st:Stmt}{N ps:List Str}{k:Nat}{F:List W->FR}(A:At K mg x st ps)(sc:FnScope N ps (defScope st))(len:∀ws,F ws≠.no->ws.length=ps.length)
  (hb:∀ws,F ws≠.no->∀(f:Addr)(cdv:Value)(A:Around)(outer:List Env)(s:Shared)(H:Hp)(E:XK)(Z:Zt),Room k (A.deeper (envOfC x (defScope st) s.heap.objs.size f cdv))->(Z.H=H/\Z.io=[]) ->
   ∃d,DSs Z (cxOf (CX1 P w) P w K mg base N x (defScope st) f cdv A outer s H E) (fun _=>E) (defBody st) d/\(d (init N.length ws)).fn=F ws):Cal P w K mg base (k+1) x ps (spF K F):=by
 refine A.cal sc (fun vs H Q E h=>?_) (fun f cdv A outer s H vs Q E hr h=>?_)
 ·obtain⟨G,ws,hn,r⟩:=q8d h;rw[r.length];exact len ws hn
 ·obtain⟨G,ws,sg,rp,h⟩:=h;have hn:F ws≠.no:=fun z=>by rw[z]at h;exact h
  obtain⟨d,hd,he⟩:=hb ws hn f cdv A outer s H E ⟨H,G,[]⟩ hr ⟨rfl,rfl⟩;exact⟨_,hd,G,init N.length ws,q46 sg rp,q60 he h⟩
theorem conFZ{x:Str}{st:Stmt}{N ps:List Str}{k:Nat}{F:List W->FR}{f:Addr}{fd:FuncData}(A:Fun K x x st f fd)(sc:FnScope N ps (defScope st))(len:∀ws,F ws≠.no->ws.length=ps.length)
  (hb:∀ws,F ws≠.no->∀(cdv:Value)(A:Around)(outer:List Env)(s:Shared)(H:Hp)(E:XK)(Z:Zt),Room k (A.deeper (PyProof.Rows.envOfC x (defScope st) s.heap.objs.size f cdv))->(Z.H=H/\Z.io=[]) ->
   ∃d,DSs Z (cxOf (CX1 P w) P w K mg base N x (defScope st) f cdv A outer s H E) (fun _=>E) (defBody st) d/\(d (init N.length ws)).fn=F ws):FnOk P w K mg base (CX1 P w) (k+1) f fd ps (spF K F):=by
 refine A.okX sc (fun vs H Q E h=>?_) (fun cdv A outer s H vs Q E hr h=>?_)
 ·obtain⟨G,ws,hn,r⟩:=q8d h;rw[r.length];exact len ws hn
 ·obtain⟨G,ws,sg,rp,h⟩:=h;have hn:F ws≠.no:=fun z=>by rw[z]at h;exact h
  obtain⟨d,hd,he⟩:=hb ws hn cdv A outer s H E ⟨H,G,[]⟩ hr ⟨rfl,rfl⟩;exact⟨_,hd,G,init N.length ws,q46 sg rp,q60 he h⟩
end
section
variable{X:Cx}{Z:Zt}{EE:L2.St->XK}{a b c e:Expr}{es:List Expr}{da db d:Den W}{dF dA:Den (List W)}{x:Str}{pos p tpos:Pos}
def isT:S->Bool
 |.nest _=>true
 |.x (.tn _ _)=>true
 |.x (.fz _)=>true
 |.x (.fzo _)=>true
 |_=>false
theorem Rel.mutL{K:Fg}{G H:Hp}{σ:L2.St}{e:List S}{l:Addr}{o:Obj}{ys:List V}{u:HO}(r:Rel K Z G σ H e)(hl:H l=some (.frz o (.lst ys)))(hg:G l=none)(hz:Z.H l=none)(hT:∀s∈e,isT s=false):Rel K Z G σ (upd H l u) e:=by
 refine⟨fun c u z=>?_,fun j s z=>?_,r.len,r.dis,fun c u z n=>?_,fun c z=>?_,r.gen⟩
 ·rw[q0c (q0n z hg)];exact r.sub c u z
 ·have y:=r.slot j s z;cases s with
  |no=>trivial
  |fr w=>exact y
  |own b2 w2=>
   obtain⟨c,ys,y1,y2,y3,y4,y5⟩:=y;refine⟨c,ys,y1,?_,y3,y4,y5⟩;rw[q0c (q0x y2 hl (fun z=>nomatch z))];exact y2
  |nest _=>have:=hT _ (w0n z);cases this
  |x k=>
   have hk:=hT _ (w0n z);cases k with
   |old _=>exact y
   |new _=>exact y
   |_=>cases hk
  |dw sh ks ws=>exact DwOk.move y (.refl _) fun l o ys k1 k2 k3=>⟨by rw[q0c (q0x k1 hl (q1f rfl))];exact k1,k2,k3⟩
 ·rw[q0c (q0n z hz)];exact r.ent c u z n
 ·by_cases hc:c=l
  ·subst hc;rw[q0d];exact fun z=>nomatch z
  ·rw[q0c hc];exact r.ion c z
end
variable{X:Cx}{e:Expr}{EE:L2.St->XK}{K:Fg}{Z:Zt}
mutual
def flatW:W->Bool
 |.non=>true
 |.bl _=>true
 |.int _=>true
 |.str _=>true
 |.tup ws=>flatWs ws
 |_=>false
def flatWs:List W->Bool
 |[]=>true
 |w::ws=>flatW w&&flatWs ws
end
section
variable{e e':List S}{ws us vs:List W}{v:Value}
theorem x6p{wss:List (List W)}:hide1 (.nest wss)=.fr (.lst (wss.map W.lst)):=rfl
end
end D
namespace L2
open PySem PySem.Spec PyProof.Rows
section
variable{X:Cx}
def insV{α:Type}(xs:List α)(k:Nat)(y:α):List α:=xs.take k++y::xs.drop k
def rSetM(X:Cx):V->V->V->Hp->(Hp->Prop)->Prop:=fun o i v H Q=>∃l ob ys,o=.ref l/\H l=some (.frz ob (.lst ys))/\(∀o v,X.H₀ l≠some (.frz o v))/\rSetL o i v (upd H l (.lst ys)) Q
theorem x9d:PSet X (rSetM X):=by
 intro pins s σ H o i v ov iv u Q I ro ri rv hq;obtain⟨l,ob,ys,rfl,e,hf,q⟩:=hq;exact x0v pins s σ _ _ i v ov iv u Q (I.meltL e hf) ro ri rv q
end
end L2
namespace D
open PySem L2 PySem.Spec PyProof.Rows
section
variable{K:Fg}{Z:Zt}{G H:Hp}{ls:List Addr}{wss:List (List W)}
theorem NestIn.mem:∀{ls:List Addr}{wss:List (List W)},NestIn K Z G H ls wss->∀l∈ls,∃o ys,FzAt Z G H l o ys
 |[],_,_,_,hl=>nomatch hl
 |l::ls,ws::wss,⟨⟨o,ys,h1,_⟩,h⟩,c,hc=>by
  rcases w0p.mp hc with rfl|hc
  ·exact⟨o,ys,h1⟩
  ·exact h.mem c hc
 |_::_,[],h,_,_=>h.elim
theorem NestIn.snoc{a:Addr}{ws:List W}(hn:∃o ys,FzAt Z G H a o ys/\Reps K G ws ys):∀{ls:List Addr}{wss:List (List W)},NestIn K Z G H ls wss->NestIn K Z G H (ls++[a]) (wss++[ws])
 |[],[],_=>⟨hn,trivial⟩
 |_::_,_::_,⟨h1,h⟩=>⟨h1,h.snoc hn⟩
 |[],_::_,h=>h.elim
 |_::_,[],h=>h.elim
theorem NestIn.len:∀{ls:List Addr}{wss:List (List W)},NestIn K Z G H ls wss->ls.length=wss.length
 |[],[],_=>rfl
 |_::_,_::_,⟨_,h⟩=>by rw[w0x,w0x,h.len]
 |[],_::_,h=>h.elim
 |_::_,[],h=>h.elim
theorem NestIn.at:∀{ls:List Addr}{wss:List (List W)}{j:Nat}{ws:List W},NestIn K Z G H ls wss->wss[j]?=some ws->∃l o ys,ls[j]?=some l/\FzAt Z G H l o ys/\Reps K G ws ys
 |l::ls,_::wss,0,_,⟨⟨o,ys,h1,h2⟩,_⟩,e=>by cases e;exact⟨l,o,ys,rfl,h1,h2⟩
 |_::ls,_::wss,j+1,_,⟨_,h⟩,e=>by
  obtain⟨l,o,ys,h1,h2⟩:=h.at e;exact⟨l,o,ys,h1,h2⟩
 |[],[],_,_,_,e=>by simp at e
 |[],_::_,_,_,h,_=>h.elim
 |_::_,[],_,_,h,_=>h.elim
def LsIn(K:Fg)(G H:Hp):List Addr->List (List W)->Prop
 |[],[]=>True
 |l::ls,ws::wss=>(∃ys,(H l=some (.lst ys)\/∃o,H l=some (.frz o (.lst ys)))/\Reps K G ws ys)/\LsIn K G H ls wss
 |[],_::_=>False
 |_::_,[]=>False
theorem NestIn.toLs{H':Hp}:∀{ls:List Addr}{wss:List (List W)},NestIn K Z G H ls wss->(∀l∈ls,H' l=H l)->LsIn K G H' ls wss
 |[],[],_,_=>trivial
 |l::ls,_::wss,⟨⟨o,ys,h1,h2⟩,h⟩,e=>⟨⟨ys,.inr ⟨o,by rw[e l (by simp)];exact h1.1⟩,h2⟩,h.toLs fun l hl=>e l (by simp[hl])⟩
 |[],_::_,h,_=>h.elim
 |_::_,[],h,_=>h.elim
theorem NestIn.lsSet{a:Addr}{ws':List W}{ys':List V}(rp:Reps K G ws' ys'):∀{ls:List Addr}{wss:List (List W)}{j:Nat},NestIn K Z G H ls wss->ls.Nodup->ls[j]?=some a->LsIn K G (upd H a (.lst ys')) ls (wss.set j ws')
 |l::ls,_::wss,0,⟨_,h⟩,hn,e=>by
  cases e;refine⟨⟨ys',.inl q0d,rp⟩,h.toLs fun c hc=>q0c fun z=>?_⟩
  subst z;exact(w1g.mp hn).1 hc
 |l::ls,_::wss,j+1,⟨⟨o,ys,h1,h2⟩,h⟩,hn,e=>by
  have hj:ls[j]?=some a:=e;refine⟨⟨ys,.inr ⟨o,?_⟩,h2⟩,h.lsSet rp (w1g.mp hn).2 hj⟩;rw[q0c];exact h1.1;rintro rfl;exact(w1g.mp hn).1 (w0n hj)
 |[],[],_,_,_,e=>by simp at e
 |[],_::_,_,h,_,_=>h.elim
 |_::_,[],_,h,_,_=>h.elim
theorem LsIn.some{H:Hp}:∀{ls:List Addr}{wss:List (List W)},LsIn K G H ls wss->∀l∈ls,H l≠none
 |[],_,_,_,hl=>nomatch hl
 |l::ls,_::wss,⟨⟨ys,h1,_⟩,h⟩,c,hc=>by
  rcases w0p.mp hc with rfl|hc
  ·rcases h1 with h1|⟨o,h1⟩<;>rw[h1]<;>exact fun z=>nomatch z
  ·exact h.some c hc
 |_::_,[],h,_,_=>h.elim
theorem LsIn.reps{H G':Hp}(sg:Same G G'):∀{ls:List Addr}{wss:List (List W)},LsIn K G H ls wss->(∀l∈ls,G' l=H l)->Reps K G' (wss.map W.lst) (ls.map V.ref)
 |[],[],_,_=>rfl
 |l::ls,ws::wss,⟨⟨ys,h1,h2⟩,h⟩,e=>by
  refine⟨.ref l,ls.map V.ref,rfl,⟨l,ys,rfl,?_,Reps.mono sg ws h2⟩,h.reps sg fun l hl=>e l (by simp[hl])⟩
  have e0:=e l (by simp);rcases h1 with h1|⟨o,h1⟩
  ·exact SqL.of (by rw[e0,h1])
  ·exact .inl (.inr ⟨o,by rw[e0,h1]⟩)
 |[],_::_,h,_=>h.elim
 |_::_,[],h,_=>h.elim
end
section
variable{K:Fg}{Z:Zt}{G H:Hp}{σ:L2.St}{e:List S}
theorem Rel.nest(r:Rel K Z G σ H e){i:Nat}{wss:List (List W)}(h:e[i]?=some (.nest wss)):∃a ls,σ[i]?=some (some (.ref a))/\G a=some (.lst (ls.map V.ref))/\ls.Nodup/\NestIn K Z G H ls wss:=by
 obtain⟨a,ls,h1,h2,h3,h4⟩:=r.slot i _ h;refine⟨a,ls,?_,h2,h3,h4⟩;cases q:σ[i]? with
 |none=>rw[q]at h1;cases h1
 |some z=>rw[q]at h1;rw[show z=some (V.ref a)from h1]
theorem Rel.opened(r:Rel K Z G σ H e){i:Nat}{wss wss':List (List W)}{a:Addr}{ls:List Addr}{H':Hp}(he:e[i]?=some (.nest wss))(hv:σ[i]?=some (some (.ref a)))(ha:G a=some (.lst (ls.map V.ref)))(hin:NestIn K Z G H ls wss)
  (hT:∀s∈e.set i .no,isT s=false)(hH:∀c,c∉ls->H' c=H c)(hin':LsIn K G H' ls wss'):∃G',Same G G'/\Rep K G' (.lst (wss'.map W.lst)) (.ref a)/\Rel K Z G' σ H' (e.set i (.fr (.lst (wss'.map W.lst)))):=by
 classical
 have out:∀c u,G c=some u->c∉ls:=fun c u h hc=>by
  obtain⟨o,ys,h1⟩:=hin.mem c hc;rw[h1.2.1]at h;cases h
 have sg:Same G (fun c=>if c∈ls then H' c else G c):=fun c u h=>by
  show(if c∈ls then H' c else G c)=some u;rw[if_neg (out c u h)];exact h
 have inn:∀c,c∉ls->(fun c=>if c∈ls then H' c else G c) c=G c:=fun c hc=>if_neg hc
 have rp:Rep K (fun c=>if c∈ls then H' c else G c) (.lst (wss'.map W.lst)) (.ref a):=⟨a,_,rfl,SqL.of (sg _ _ ha),hin'.reps sg fun l hl=>if_pos hl⟩
 have hi:i<e.length:=(w0b.mp he).1
 have lt:∀c o,H c=some o->(∀ob ys,o≠.frz ob (.lst ys))->c∉ls:=fun c o h hne hc=>by
  obtain⟨ob,ys,h1⟩:=hin.mem c hc;rw[h1.1]at h;cases h;exact hne _ _ rfl
 refine⟨_,sg,rp,fun c u z=>?_,fun j s z=>?_,by simpa using r.len,fun j k b1 b2 w1 w2 c z1 z2 z3 z4=>?_,fun c u z n=>?_,fun c z=>?_,fun c z=>?_⟩
 ·by_cases hc:c∈ls
  ·rw[show(if c∈ls then H' c else G c)=H' c from if_pos hc]at z;exact z
  ·rw[show(if c∈ls then H' c else G c)=G c from if_neg hc]at z;rw[hH c hc];exact r.sub c u z
 ·by_cases hj:j=i
  ·subst hj;rw[w0h hi]at z;cases z;exact⟨.ref a,by rw[hv];rfl,rp⟩
  ·rw[w0f (fun z=>hj z.symm)]at z
   have hns:isT s=false:=hT s (w0n (i:=j) (by rw[w0f (fun z=>hj z.symm)];exact z))
   have y:=r.slot j s z;cases s with
   |no=>trivial
   |fr w=>
    obtain⟨u,y1,y2⟩:=y;exact⟨u,y1,Rep.mono sg w y2⟩
   |own b ws=>
    obtain⟨c,xs,y1,y2,y3,y4,y5⟩:=y;have hc:=lt c _ y2 (fun _ _ z=>nomatch z)
    exact⟨c,xs,y1,by rw[hH c hc];exact y2,(inn c hc).trans y3,y4,Reps.mono sg ws y5⟩
   |nest _=>cases hns
   |x k=>
    cases k with
    |old w=>obtain⟨u,h1,h2,h3⟩:=y;exact⟨u,h1,h2,Rep.mono sg w h3⟩
    |new w=>obtain⟨u,h1,h2⟩:=y;exact⟨u,h1,RepN.move sg (fun _ _ _ z=>z) w h2⟩
    |_=>cases hns
   |dw sh ks ws=>
    refine DwOk.move y sg fun c kv ka k1 k2 k3=>?_
    have hc:=lt c _ k1 (fun _ _=>q1f rfl)
    exact⟨by rw[hH c hc];exact k1,by show(if c∈ls then H' c else G c)=none;rw[if_neg hc];exact k2,k3⟩
 ·have old:∀(k:Nat)(bb:Option Nat)(ww:List W),(e.set i (S.fr (.lst (wss'.map W.lst))))[k]?=some (.own bb ww)->e[k]?=some (.own bb ww):=fun k bb ww z=>by
   by_cases hk:k=i
   ·subst hk;rw[w0h hi]at z;cases z
   ·rw[w0f (fun z=>hk z.symm)]at z;exact z
  exact r.dis _ _ _ _ _ _ _ (old _ _ _ z1) (old _ _ _ z2) z3 z4
 ·have hc:c∉ls:=fun hc=>by
   obtain⟨_,_,h1⟩:=hin.mem c hc;rw[h1.2.2]at z;cases z
  rw[hH c hc];exact r.ent c u z n
 ·by_cases hc:c∈ls
  ·exact hin'.some c hc
  ·rw[hH c hc];exact r.ion c z
 ·have hc:c∉ls:=fun hc=>by
   obtain⟨_,_,h1⟩:=hin.mem c hc;exact z h1.2.2
  show(if c∈ls then H' c else G c)=Z.G c;rw[if_neg hc];exact r.gen c z
theorem Rel.setNest(r:Rel K Z G σ H e){i:Nat}{wss:List (List W)}{v:V}(q:NestOk K Z G H wss (some v)):Rel K Z G (σ.set i (some v)) H (e.set i (.nest wss)):=by
 refine⟨r.sub,fun j s z=>?_,by simpa using r.len,fun j k b1 b2 w1 w2 c z1 z2 z3 z4=>?_,r.ent,r.ion,r.gen⟩
 ·by_cases hj:j=i
  ·subst hj
   have hi:j<e.length:=by
    have:=(w0b.mp z).1;simpa using this
   rw[w0h hi]at z;cases z;rw[w0h (by rw[<- r.len];exact hi)];exact q
  ·rw[w0f (fun z=>hj z.symm)]at z |-
   exact r.slot j s z
 ·have old:∀(k:Nat)(bb:Option Nat)(ww:List W),(e.set i (S.nest wss))[k]?=some (.own bb ww)->k≠i/\e[k]?=some (.own bb ww):=fun k bb ww z=>by
   by_cases hk:k=i
   ·subst hk
    have hi:k<e.length:=by
     have:=(w0b.mp z).1;simpa using this
    rw[w0h hi]at z;cases z
   ·rw[w0f (fun z=>hk z.symm)]at z;exact⟨hk,z⟩
  obtain⟨n1,q1⟩:=old _ _ _ z1;obtain⟨n2,q2⟩:=old _ _ _ z2;rw[w0f (fun z=>n1 z.symm)]at z3
  rw[w0f (fun z=>n2 z.symm)]at z4
  exact r.dis _ _ _ _ _ _ _ q1 q2 z3 z4
end
variable{X:Cx}{d dA:Den (List W)}{d2:Den W}{H:Hp}{a:Int}{EE:L2.St->XK}{wss:List (List W)}{ls:List Addr}{js:List Nat}{e:List S}{ws:List W}{f:List W->List W->Option (List W)}{i:Nat}{pos:Pos}{K:Fg}{Z:Zt}
def compN(d:Den (List W))(pe:List S):List W->Option (List (List W))
 |[]=>some []
 |w::ws=>match d (.fr w::pe)with
  |.ok y _=>(compN d pe ws).map (y::·)
  |_=>none
def nestK(i:Nat)(e:List S):Option (List (List W))->SR
 |some out=>.nx (e.set i (.nest out))
 |none=>.no
def nestW(i:Nat)(js:List Nat)(d:Den (List W))(e:List S):Option (List W)->SR
 |some ws=>if ws.length<=16777216 then nestK i (frzs js e) (compN d (pjS js (frzs js e)) ws)else .no
 |none=>.no
def dSetN(i:Nat)(js:List Nat)(di:Den W)(d:Den (List W)):List S->SR:=fun e=>(di e).stm fun w e1=>nestW i js d e1 (seqW w)
def cF(K:Fg)(d:Den (List W)):TE:=fun σ H Q=>∃Z',liftF K Z' (fun _=>E0) d σ H Q
def cFz(K:Fg)(d:Den (List W)):TE:=fun σ H Q=>cF K d σ H fun v H1=>∃a xs,v=.ref a/\H1 a=some (.lst xs)/\∀o,Q v (upd H1 a (.frz o (.lst xs)))
section
variable{G1 H1:Hp}{σ:L2.St}{e1:List S}
theorem q67{J:It}{xs:List V}{SQ:Hp->Prop}{out:List (List W)}{Q:VK}{G0:Hp}(W0:Walk J xs SQ)(r1:Rel K Z G1 σ H1 e1)(s1:Same G0 G1)(rp:Reps K G1 ws xs)(hSQ:∀G' H',Same G1 G'->Same G' H'->SQ H')(hl:ws.length<=16777216)
  (hz:∀p,H1 p=none->p∉Z.io)(hc:compN d (pjS js e1) ws=some out)
  (h:∀G' a ls H',Rel K Z G' σ H' e1->Same G0 G'->H' a=some (.lst (ls.map V.ref))->G' a=none->Z.H a=none->Free σ e1 a->ls.Nodup->NestIn K Z G' H' ls out->Q (.ref a) H'):
  ∀D,H1 D=none->∃W:Nat->Nat->Hp->Prop,(∃m,W 0 m (upd H1 D (.lst [])))/\∀i m H2,W i m H2 ->
   (J.stop i H2/\Q (.ref D) H2)\/(J.go i H2/\∀x H3,J.yld i H2 x H3->gName 0 x (List.replicate 1 none++pj js σ) H3 fun σ4 H4=>Kp (List.replicate 1 none++pj js σ) σ4/\cT K dYes σ4 H4 fun b H5=>
    if b=true then cFz K d σ4 H5 fun y H6=>∃ys,H6 D=some (.lst ys)/\ys.length<sizeLine/\∃m',m'<m/\W (i+1) m' (upd H6 D (.lst (ys++[y])))else ∃m',m'<m/\W (i+1) m' H5):=by
 intro D hD;have hlen:=rp.length
 refine⟨fun i m H2=>m=ws.length-i/\i<=ws.length/\∃G2 ls done rest,Rel K Z G2 σ H2 e1/\Same G1 G2/\H2 D=some (.lst (ls.map V.ref))/\G2 D=none/\ls.Nodup/\NestIn K Z G2 H2 ls done/\ls.length=i/\compN d (pjS js e1) (ws.drop i)=some rest/\done++rest=out,
  ⟨ws.length,by omega,w1b _,G1,[],[],out,r1.grow (Grow.hid r1.sub hD _),.refl _,q0d,r1.sub.free hD,.nil,trivial,rfl,hc,rfl⟩,?_⟩
 rintro i m H2 ⟨rfl,hi,G2,ls,done,rest,r2,s2,hd2,hg2,hnd,hin,hll,hc2,ho⟩;have hfree:Free σ e1 D:=q35 r1 hD;have hzh:Z.H D=none:=q2h r1 hD
 by_cases hlt:i<ws.length
 ·refine .inr ⟨W0.go i H2 (hSQ G2 H2 s2 r2.sub) (by omega),fun x H3 hy=>?_⟩
  obtain⟨rfl,hx⟩:=W0.yld i H2 x H3 (hSQ G2 H2 s2 r2.sub) hy (by omega);obtain⟨w,hw,pw⟩:=rp.getV hx;rw[q6h hw]at hc2;refine⟨Kp.one,⟨H3,G2,[]⟩,G2,.fr w::pjS js e1,r2.block js (Rep.mono s2 w pw),?_⟩;intro G3 H5 r3 s3;rw[if_pos rfl];refine⟨⟨H3,G2,[]⟩,G3,.fr w::pjS js e1,r3,?_⟩;unfold compN at hc2;cases qd:d (.fr w::pjS js e1)with
  |no=>rw[qd]at hc2;cases hc2
  |ex _ _=>rw[qd]at hc2;cases hc2
  |ok y e3=>
   rw[qd]at hc2;intro G4 a xs H6 r4 s4 q1 q2 q3 q4 p4;have q3:H3 a=none:=q3;refine⟨a,xs,rfl,q1,fun o=>?_⟩
   have g4:=r4.toGrow (s3.trans s4);obtain⟨rest',hr,rfl⟩:=w0e.mp hc2;have hDa:D≠a:=q0n hd2 q3;have hd6:H6 D=some (.lst (ls.map V.ref)):=g4.hh _ _ hd2;have hg6:G4 D=none:=by rw[g4.new D (by rw[hd2];simp)];exact hg2
   have r6:=((r2.grow g4).mutFree (o:=.frz o (.lst xs)) q2 (q2h r2 q3) (ionone r2 a q3) (q35 r2 q3) q1);have hd7:(upd H6 a (.frz o (.lst xs))) D=some (.lst (ls.map V.ref)):=by rw[q0c hDa];exact hd6
   have r7:=r6.mutFree (o:=.lst (ls.map V.ref++[.ref a])) hg6 hzh (hz D hD) hfree hd7
   have hnew:∀c∈ls,c≠a/\c≠D:=fun c hcl=>by
    obtain⟨oc,yc,h1⟩:=hin.mem c hcl;exact⟨q0n h1.1 q3,q0x h1.1 hd2 (fun z=>nomatch z)⟩
   refine⟨ls.map V.ref,hd7,by rw[w0a,sizeLine_eq];omega,ws.length-(i+1),by omega,rfl,hlt,G4,ls++[a],done++[y],rest',?_,s2.trans (s3.trans s4),?_,hg6,?_,?_,by simp[hll],hr,by rw[w2g];exact ho⟩
   ·exact r7
   ·rw[q0d,w0m];rfl
   ·rw[w2i];refine⟨hnd,by simp,fun c hc d hd=>?_⟩
    rw[w0q.mp hd];exact(hnew c hc).1
   ·refine NestIn.snoc ⟨o,xs,⟨by rw[q0c (fun z=>hDa z.symm),q0d],q2,q2h r2 q3⟩,p4⟩ ?_
    refine hin.move (s3.trans s4) fun l ob ys k1 k2 k3=>⟨?_,by rw[g4.new l (by rw[k1];simp)];exact k2,k3⟩
    rw[q0c (q0x k1 hd2 (fun z=>nomatch z)),q0c (q0n k1 q3)]
    exact g4.hh _ _ k1
 ·have:i=ws.length:=by omega
  subst this;rw[w2p]at hc2;cases hc2;rw[w1j]at ho;subst ho;exact .inl ⟨W0.stop _ H2 (hSQ G2 H2 s2 r2.sub) (by omega),h G2 D ls H2 r2 (s1.trans s2) hd2 hg2 hzh hfree hnd hin⟩
end
section
variable{elt iter:Expr}{scope sc:Scope}{pt:Pos}{x:Str}{Nf N:List Str}{di:Den W}
theorem y3l(i:Nat){y:Str}{py spos:Pos}(hNd:X.N.Nodup)(hc:X.calm=true)(hi:DE Z X EE iter di)(ok:compOk sc scope N Nf js=true)
  (he:∀Z' cl C s₀ H₀ ex,DF Z' (X.cp ([x]++Nf) scope cl C s₀ H₀ ex) (fun _=>E0) elt d)
  (hg:∀cl C s₀ H₀ ex,PG (X.cp ([x]++Nf) scope cl C s₀ H₀ ex) (.Name x pt) (gName 0))
  (hsc:X.env.scope=sc:=by rfl)(hN:X.N=N:=by rfl)(hs:∀x,foldedSetIterable iter X.env x=pure x:=by intro _;rfl)(hiy:X.N[i]?=some y:=by rfl)(hxy:Loc X.env.scope y:=by walk_at "3")(hfy:X.fn y=true\/X.env.scope.names.lookup y=some .local:=by walk_at "2")(hsw:swapsWith (.ListComp elt [⟨.Name x pt,iter,[],0⟩] scope pos) (some (.Name y py)) spos.line X.env=pure true:=by rfl):
  DS Z X EE (.Assign [.Name y py] (.ListComp elt [⟨.Name x pt,iter,[],0⟩] scope pos) spos) (dSetN i js di d):=by
 have hE:∀cl C s₀ H₀ ex,PE (X.cp ([x]++Nf) scope cl C s₀ H₀ ex) elt (cF X.K d):=fun cl C s₀ H₀ ex pins s σ H Q I ⟨Z',h⟩=>he Z' cl C s₀ H₀ ex pins s σ H Q I h
 refine PS.mono (q6i (Nl:=[x]) (tc:=cT X.K dYes) (te:=cFz X.K d) hc (q45 hi) ok hg (q61 fun _ _ _ _ _ _=>q25) (fun cl C s₀ H₀ ex=>q5t (hE cl C s₀ H₀ ex)) (q1y i hNd hiy hxy hfy) hsw hsc hN hs) ?_
 rintro D σ H ⟨G,e,rel,h⟩;refine⟨G,e,rel,(q0u h).imp (fun w e1 h G1 v1 H1 r1 s1 p1=>?_) fun _ _ h=>h⟩
 unfold nestW at h;split at h
 ·rename_i ws hw;split at h
  ·rename_i hl;unfold nestK at h;split at h
   ·rename_i out ho;obtain⟨G2,s2,r2⟩:=r1.frzs js;have p2:=Rep.mono s2 w p1;have io:=ionone r2
    have fin:∀G' a ls H',Rel X.K Z G' σ H' (frzs js e1)->Same G G'->H' a=some (.lst (ls.map V.ref))->G' a=none->Z.H a=none->Free σ (frzs js e1) a->ls.Nodup->NestIn X.K Z G' H' ls out->D.nx (σ.set i (some (.ref a))) H':=fun G' a ls H' r s q1 q2 q3 q4 hn hin=>by
     obtain⟨sg,rg⟩:=r.seen q1 q2 q3 q4;exact h _ _ H' (rg.setNest (v:=.ref a) ⟨a,ls,rfl,q0d,hn,hin.move sg fun l o ys k1 k2 k3=>⟨k1,by rw[q0c (q0x k1 q1 (fun z=>nomatch z))];exact k2,k3⟩⟩) (s.trans sg)
    cases w with
    |tup us=>
     cases hw;obtain⟨a,xs,rfl,hq,rp⟩:=p2;exact⟨a,rfl,.inr ⟨⟨xs,r2.sub.tup hq⟩,q67 (Q:=fun x H1=>gName i x σ H1 D.nx) q8f r2 (s1.trans s2) rp (fun G' H' s s'=>Same.tup s' (Same.tup s hq)) hl io ho fin⟩⟩
    |lst us=>
     cases hw;obtain⟨a,xs,rfl,hq,rp⟩:=p2;exact⟨a,rfl,.inl ⟨⟨xs,r2.sub.seq hq⟩,q67 (Q:=fun x H1=>gName i x σ H1 D.nx) q8e r2 (s1.trans s2) rp (fun G' H' s s'=>Same.seq s' (Same.seq s hq)) hl io ho fin⟩⟩
    |_=>cases hw
   ·exact h.elim
  ·exact h.elim
 ·exact h.elim
end
def ixNB(a:Int)(k2:W)(e2:List S):Option S->R W
 |some (.nest wss)=>match k2 with
  |.int b=>ofOpt ((atI wss a).bind fun ws=>atI ws b) e2
  |_=>.no
 |_=>.no
def ixNA(i:Nat)(d2:Den W)(k1:W)(e1:List S):Option S->R W
 |some (.nest wss)=>match k1 with
  |.int a=>if(atI wss a).isSome=true then(d2 e1).bind fun k2 e2=>ixNB a k2 e2 e2[i]? else .no
  |_=>.no
 |_=>.no
def ixN0(k:R W):Option S->R W
 |some (.nest _)=>k
 |_=>.no
def dIxN(i:Nat)(d1 d2:Den W):Den W:=fun e=>ixN0 ((d1 e).bind fun k1 e1=>ixNA i d2 k1 e1 e1[i]?) e[i]?
theorem allT(h:e.all (fun s=>!isT s)=true):∀s∈e,isT s=false:=fun s hs=>by
 have:=w0o.mp h s hs;simpa using this
theorem x1e{ls':List Addr}(h:ls.map V.ref=ls'.map V.ref):ls=ls':=by
 induction ls generalizing ls' with
 |nil=>cases ls' with
  |nil=>rfl
  |cons=>cases h
 |cons a ls ih=>cases ls' with
  |nil=>cases h
  |cons b ls'=>
   rw[w0v,w0v]at h;injection h with h1 h2
   injection h1 with h1
   rw[h1,ih h2]
section
variable{G:Hp}
theorem NestIn.atI{i:Int}(h:NestIn K Z G H ls wss)(e:L2.atI wss i=some ws):∃j l o ys,ixN wss.length i=some j/\ls[j]?=some l/\L2.atI (ls.map V.ref) i=some (.ref l)/\FzAt Z G H l o ys/\Reps K G ws ys:=by
 have hl:=h.len;unfold L2.atI at e;cases q:ixN wss.length i with
 |none=>rw[q]at e;cases e
 |some j=>
  rw[q]at e;obtain⟨l,o,ys,h1,h2,h3⟩:=h.at e;refine⟨j,l,o,ys,rfl,h1,?_,h2,h3⟩;unfold L2.atI;rw[w0a,hl,q];simp[h1]
end
section
variable{a b k:Expr}{es:List Expr}{d1 dk dv:Den W}{x:Str}{p spos tpos:Pos}
theorem x6q(i:Nat)(h1:DE Z X EE a d1)(h2:DE Z X EE b d2)(hN:X.N[i]?=some x:=by rfl)(hv:Vis X.env.scope x:=by walk_at "1")(hd:(x==("__debug__":Str))=false:=by decide)(hcd:(x==("__classdict__":Str))=false:=by decide)
  (hs1:PlainIx a:=by intro _ _;rfl)(hs2:PlainIx b:=by intro _ _;rfl):DE Z X EE (.Subscript (.Subscript (.Name x p) a spos) b pos) (dIxN i d1 d2):=by
 refine PE.mono (q5z ix_list (q5z ix_list (pv i hN hv hd hcd) h1 hs1) h2 hs2) ?_;rintro σ H Q ⟨G,e,rel,h⟩;unfold dIxN ixN0 at h;split at h
 ·rename_i wss0 he0;obtain⟨aa,ls,g1,g2,g3,g4⟩:=rel.nest he0;rw[R.holds_bind]at h;refine⟨.ref aa,g1,G,e,rel,h.imp (fun k1 e1 h G1 v1 H1 r1 s1 p1=>?_) fun _ _ h=>h⟩
  unfold ixNA at h;split at h
  ·rename_i wss1 he1;split at h
   ·rename_i n1;split at h
    ·rename_i hsome;cases p1;obtain⟨a1,ls1,f1,f2,f3,f4⟩:=r1.nest he1;rw[g1]at f1;cases f1;obtain⟨ws,hws⟩:=w2e.mp hsome;obtain⟨j,l,o,ys,_,m1,m2,m3,m4⟩:=f4.atI hws;refine⟨aa,_,n1,_,rfl,rfl,SqL.of (r1.sub _ _ f2),m2,G1,e1,r1,?_⟩;rw[R.holds_bind]at h;refine h.imp (fun k2 e2 h G2 v2 H2 r2 s2 p2=>?_) fun _ _ h=>XH.trans s1 h
     unfold ixNB at h;split at h
     ·rename_i wss2 he2;split at h
      ·rename_i n2;rw[ofOpt_holds]at h;obtain⟨w,hw,h⟩:=h;cases p2;obtain⟨a2,ls2,u1,u2,u3,u4⟩:=r2.nest he2;rw[g1]at u1;cases u1;have hls:ls1=ls2:=x1e (by have z:=s2 _ _ f2;rw[u2]at z;injection z with z;injection z with z;exact z.symm);subst hls;obtain⟨ws2,hws2,hw⟩:=w1f.mp hw;obtain⟨j2,l2,o2,ys2,_,t1,t2,t3,t4⟩:=u4.atI hws2;rw[m2]at t2;injection t2 with t2;injection t2 with t2;subst t2
       obtain⟨v,hv2,pv2⟩:=t4.atI hw;exact⟨l,ys2,n2,v,rfl,rfl,.inl (.inr ⟨o2,t3.1⟩),hv2,h G2 v H2 r2 (s1.trans s2) pv2⟩
      ·exact h.elim
     ·exact h.elim
    ·exact h.elim
   ·exact h.elim
  ·exact h.elim
 ·exact h.elim
def mutNB(i:Nat)(f:List W->List W->Option (List W))(a:Int)(as:List W)(e2:List S):Option S->SR
 |some (.nest wss)=>match ixN wss.length a,(atI wss a).bind fun ws=>f ws as with
  |some j,some ws'=>if(e2.set i .no).all (fun s=>!isT s)=true then .nx (e2.set i (.fr (.lst ((wss.set j ws').map W.lst))))else .no
  |_,_=>.no
 |_=>.no
def mutNA(i:Nat)(f:List W->List W->Option (List W))(dA:Den (List W))(k1:W)(e1:List S):Option S->SR
 |some (.nest wss)=>match k1 with
  |.int a=>if(atI wss a).isSome=true then(dA e1).stm fun as e2=>mutNB i f a as e2 e2[i]? else .no
  |_=>.no
 |_=>.no
def mutN0(k:SR):Option S->SR
 |some (.nest _)=>k
 |_=>.no
def dMutN(i:Nat)(f:List W->List W->Option (List W))(dk:Den W)(dA:Den (List W)):List S->SR:=fun e=>mutN0 ((dk e).stm fun k1 e1=>mutNA i f dA k1 e1 e1[i]?) e[i]?
def insF(ws:List W):List W->Option (List W)
 |[.int n,w]=>if 0<=n/\n<9223372036854775808/\ws.length<16777216 then some (insV ws (min n.toNat ws.length) w)else none
 |_=>none
def putF(w:W)(ws:List W):List W->Option (List W)
 |[.int n]=>(ixN ws.length n).map fun j=>ws.set j w
 |_=>none
def one1(d:Den W):Den (List W):=fun e=>(d e).bind fun w e1=>.ok [w] e1
def dPutN(i:Nat)(dv dk d2:Den W):List S->SR:=fun e=>(dv e).stm fun w e1=>dMutN i (putF w) dk (one1 d2) e1
theorem x22(i:Nat)(hz:Z.H=X.H₀)(hval:DE Z X EE a dv)(hk:DE Z X EE k dk)(h2:DE Z X EE b d2)(hN:X.N[i]?=some x:=by rfl)(hv:Vis X.env.scope x:=by walk_at "1")(hd:(x==("__debug__":Str))=false:=by decide)(hcd:(x==("__classdict__":Str))=false:=by decide)
  (hs:PlainIx k:=by intro _ _;rfl)
  (ha:∀v,assign (.Subscript (.Subscript (.Name x p) k spos) b tpos) X.env v=(do
   let ov <- holding [v] (eval (.Subscript (.Name x p) k spos) X.env)
   let iv <- holding [v,ov] (eval b X.env)
   standAt tpos
   holding [v,ov,iv] (setItem ov iv v)
   release [v,ov,iv] []):=by intro _;rfl)
  (hs1:swapsWithSole [.Subscript (.Subscript (.Name x p) k spos) b tpos] a pos.line X.env=pure false:=by rfl)(hw:swappedStores [.Subscript (.Subscript (.Name x p) k spos) b tpos] a X.env=pure none:=by rfl)
  (h1:(assignEach [.Subscript (.Subscript (.Name x p) k spos) b tpos] X.env).map (·.2)=[assign (.Subscript (.Subscript (.Name x p) k spos) b tpos) X.env]:=by rfl):
  DS Z X EE (.Assign [.Subscript (.Subscript (.Name x p) k spos) b tpos] a pos) (dPutN i dv dk d2):=by
 refine PS.mono (x0p hval (x4y (q5z ix_list (pv i hN hv hd hcd) hk hs) h2 x9d ha) hs1 hw h1) ?_;rintro D σ H ⟨G,e,rel,h⟩;refine⟨G,e,rel,(q0u h).imp (fun w e0 h G0 v0 H0 r0 s0 p0=>?_) fun _ _ h=>h⟩
 unfold dMutN mutN0 at h;split at h
 ·rename_i wss0 he0;obtain⟨aa,ls,g1,g2,g3,g4⟩:=r0.nest he0;refine⟨.ref aa,g1,G0,e0,r0,(q0u (σ:=σ) h).imp (fun k1 e1 h G1 v1 H1 r1 s1 p1=>?_) fun _ _ h=>XH.trans s0 h⟩
  unfold mutNA at h;split at h
  ·rename_i wss1 he1;split at h
   ·rename_i n1;split at h
    ·rename_i hsome;cases p1;obtain⟨a1,ls1,f1,f2,f3,f4⟩:=r1.nest he1;rw[g1]at f1;cases f1;obtain⟨ws,hws⟩:=w2e.mp hsome;obtain⟨j,l,o,ys,_,m1,m2,m3,m4⟩:=f4.atI hws;refine⟨aa,_,n1,_,rfl,rfl,SqL.of (r1.sub _ _ f2),m2,G1,e1,r1,?_⟩
     have h:PostS X.K Z EE D G ((d2 e1).stm fun w2 e2=>mutNB i (putF w) n1 [w2] e2 e2[i]?):=by
      unfold one1 at h;cases q:d2 e1 with
      |ok w2 e2=>rw[q]at h;exact h
      |ex c e2=>rw[q]at h;exact h
      |no=>rw[q]at h;exact h
     refine(q0u (σ:=σ) h).imp (fun w2 e2 h G2 v2 H2 r2 s2 p2=>?_) fun _ _ h=>XH.trans (s0.trans s1) h
     unfold mutNB at h;split at h
     ·rename_i wss2 he2;split at h
      ·rename_i j2 ws' hj2 hf2;split at h
       ·rename_i hT;obtain⟨a2,ls2,u1,u2,u3,u4⟩:=r2.nest he2;rw[g1]at u1;cases u1;have hls:ls1=ls2:=x1e (by have z:=s2 _ _ f2;rw[u2]at z;injection z with z;injection z with z;exact z.symm);subst hls;obtain⟨ws2,hws2,hf3⟩:=w1f.mp hf2;obtain⟨j3,l2,o2,ys2,t0,t1,t2,t3,t4⟩:=u4.atI hws2;rw[hj2]at t0;cases t0;rw[m2]at t2;injection t2 with t2;injection t2 with t2;subst t2
        unfold putF at hf3;split at hf3
        ·rename_i n2 hn2;injection hn2 with hn2 _
         subst hn2;cases p2;obtain⟨j4,hj4,rfl⟩:=w0e.mp hf3;refine⟨l,o2,ys2,rfl,t3.1,fun _ _ z=>(by rw[<- hz,t3.2.2]at z;cases z),l,ys2,n2,j4,rfl,rfl,q0d,by rw[t4.length];exact hj4,?_⟩
         rw[show ∀u,upd (upd H2 l (.lst ys2)) l u=upd H2 l u from fun u=>by funext c;unfold upd;split<;>rfl]
         obtain⟨G',sg,_,r'⟩:=r2.opened (H':=upd H2 l (.lst (ys2.set j4 v0))) he2 g1 u2 u4 (allT hT) (fun c hc=>q0c fun z=>hc (by rw[z];exact w0n t1)) (u4.lsSet (t4.set j4 (Rep.mono (s1.trans s2) w p0)) u3 t1)
         exact h G' σ _ r' (((s0.trans s1).trans s2).trans sg)
        ·cases hf3
       ·exact h.elim
      ·exact h.elim
     ·exact h.elim
    ·exact h.elim
   ·exact h.elim
  ·exact h.elim
 ·exact h.elim
end
section
variable{e':List S}{us vs:List W}{v:Value}{w:W}
theorem y3m{di:Den W}:dSetN i js di d e=(di e).stm fun w e1=>nestW i js d e1 (seqW w):=rfl
theorem x4m:nestW i js d e (some ws)=if ws.length<=16777216 then nestK i (frzs js e) (compN d (pjS js (frzs js e)) ws)else .no:=rfl
theorem x4n:nestK i e (some wss)=.nx (e.set i (.nest wss)):=rfl
theorem q9r{pe:List S}{g:W->List W}:∀(ws:List W),(∀w∈ws,∃e',d (.fr w::pe)=.ok (g w) e')->compN d pe ws=some (ws.map g)
 |[],_=>rfl
 |w::ws,h=>by
  obtain⟨e',h1⟩:=h w (by simp);unfold compN;rw[h1,q9r ws fun u hu=>h u (by simp[hu])]
  rfl
theorem y78{d1:Den W}:dIxN i d1 d2 e=ixN0 ((d1 e).bind fun k1 e1=>ixNA i d2 k1 e1 e1[i]?) e[i]?:=rfl
theorem y79{k:R W}:ixN0 k (some (.nest wss))=k:=rfl
theorem y8a:ixNA i d2 (.int a) e (some (.nest wss))=if(atI wss a).isSome=true then(d2 e).bind fun k2 e2=>ixNB a k2 e2 e2[i]? else .no:=rfl
theorem y8b{b:Int}:ixNB a (.int b) e (some (.nest wss))=ofOpt ((atI wss a).bind fun ws=>atI ws b) e:=rfl
theorem y3n{dk:Den W}:dMutN i f dk dA e=mutN0 ((dk e).stm fun k1 e1=>mutNA i f dA k1 e1 e1[i]?) e[i]?:=rfl
theorem y3o{k:SR}:mutN0 k (some (.nest wss))=k:=rfl
theorem y3p:mutNA i f dA (.int a) e (some (.nest wss))=if(atI wss a).isSome=true then(dA e).stm fun as e2=>mutNB i f a as e2 e2[i]? else .no:=rfl
theorem x23{j:Nat}{ws':List W}(h1:ixN wss.length a=some j)(h2:(atI wss a).bind (fun ws=>f ws us)=some ws')(h3:(e.set i .no).all (fun s=>!isT s)=true):mutNB i f a us e (some (.nest wss))=.nx (e.set i (.fr (.lst ((wss.set j ws').map W.lst)))):=by
 show(match ixN wss.length a,(atI wss a).bind fun ws=>f ws us with|some j,some ws'=>_|_,_=>_)=_
 rw[h1,h2];show(if _ then _ else _)=_;rw[if_pos h3]
theorem y3q{dv dk:Den W}:dPutN i dv dk d2 e=(dv e).stm fun w e1=>dMutN i (putF w) dk (one1 d2) e1:=rfl
theorem y8c{d:Den W}:one1 d e=(d e).bind fun w e1=>.ok [w] e1:=rfl
theorem y8d{n:Nat}(h1:n<ws.length):putF w ws [.int (n:Int)]=some (ws.set n w):=by
 show(ixN ws.length (n:Int)).map _=_;unfold ixN;simp[h1]
end
end D
namespace L2
open PySem PySem.Spec PyProof.Rows
section
variable{X:Cx}{pins:List (Addr×Obj)}{σ:St}{H:Hp}{s:Shared}{a:Addr}{A:Around}{E:Value->Shared->Prop}{sh:Sh}{kvs:List (Kx×V)}{kas:List Addr}
theorem Inv.freezeT{o:Obj}(I:Inv X pins σ H s)(e:H a=some (.dT sh kvs kas))(q:s.heap.get? a=some o):Inv X pins σ (upd H a (.frz o (.dT sh kvs kas))) s:=
 I.swapAt e (fun z=>z) (fun _ z=>nomatch z) (fun ob v z=>by have:=I.base.frzs a ob v z;rw[e]at this;cases this) (fun _ z=>nomatch z) fun ok=>⟨q,(ok a _ e).stay (fun _ _ _ z=>z) (fun c z=>by rw[q0c (q0x z e (fun y=>nomatch y))];exact z) fun c xs tl z=>by rw[q0c (q0x z e (fun y=>by subst y;exact tl))];exact z⟩
theorem y3r{l:Expr}{tl:TE}(hl:PE X l tl):PE X l (fun σ H Q=>tl σ H fun v H1=>∃a sh kvs kas,v=.ref a/\H1 a=some (.dT sh kvs kas)/\∀o,Q v (upd H1 a (.frz o (.dT sh kvs kas)))):=by
 intro pins s σ H Q I h;refine thn (hl pins s σ H _ I h) fun v s1 ⟨x,H1,I1,r1,q1⟩=>?_
 obtain⟨a,sh,kvs,kas,rfl,e,q⟩:=q1;obtain⟨_,_,_,_,_,o,_,_,g,_⟩:=I1.hok a _ e;exact⟨.ref a,_,I1.freezeT e g,r1,q o⟩
end
variable{d:Addr}{A:Around}{es:Array DictEntry}{ep:Nat}{s:Shared}{E:Value->Shared->Prop}{w:World}
def RawAt(h:Heap)(d:Addr)(es:Array DictEntry)(ep:Nat):Prop:=∃o,h.get? d=some o/\o.ExactDict/\o.data=.dict es ep
section
variable{prog:Program}{it:Addr}{i:Nat}
theorem RawAt.typeIs(h:RawAt s.heap d es ep):s.TypeIs (.ref d) "dict":=let ⟨o,ho,hc,_⟩:=h;⟨o,ho,hc.1⟩
theorem x9e{Q:Value->Shared->Prop}(hd:(d==sysModules)=false)(hm:RawAt s.heap d es ep)
  (hQ:Q (.ref s.heap.objs.size) {s with heap:=s.heap.push {cls:=.type "dict_keyiterator", data:=.fields #[.ref d,.int 0 0,.int es.size 0,.int ep 0]}}):wpAny (model prog w) A (pyIter (.ref d)) Q E s:=by
 have hT:=hm.typeIs;obtain⟨o,ho,_,hdat⟩:=hm;refine wpAny_pyIter_slot hT F.slot_dict_iter (wpAny_call_entry F.slot_dict_iter hT F.entry_dict_iter ?_ (F.args_dict_iter_1 _));unfold Builtin.«dict.__iter__»;refine wpAny_bind ?_;unfold Builtin.Dict.dictSlotNone;refine wpAny_bind (wpAny_notOrdered_dict hT ?_);show wpAny _ _ (pure (Value.ref d)) _ _ s;refine wpAny_pure ?_;show wpAny _ _ (Builtin.Dict.showsAll d >>= _) _ _ s;unfold Builtin.Dict.showsAll;rw[if_neg (by rw[hd];exact w0r)];refine wpAny_bind (wpAny_pure (wpAny_bind (wpAny_dictEntries ho hdat (wpAny_bind (wpAny_dictEpoch ho hdat ?_)))));refine wpAny_bind (wpAny_newObj_type (wpAny_pure ⟨_,rfl, "dict_keyiterator", _,⟨_,Heap.get?_push_size _ rfl,rfl⟩,F.slot_dict_keyiterator_next.lookup,?_⟩))
 simpa [rawInt]using hQ
theorem x9f{Q:Option Value->Shared->Prop}(hit:s.heap.IsKeyIter it d i es.size ep)(hm:RawAt s.heap d es ep)(hx:i<es.size)
  (hQ:∀h',h'.IsKeyIter it d (i+1) es.size ep->Heap.SameBut it s.heap h'->Q (some es[i].key) {s with heap:=h'}):wpAny (model prog w) A (pyNext (.ref it)) Q E s:=by
 obtain⟨o,ho,hc,hd⟩:=id hit;obtain⟨od,hod,_,hdd⟩:=hm;unfold pyNext
 refine wpAny_bind (wpAny_attempt (wpAny_callSpecial?_slot (name:=Str.ofString "__next__") hit.typeIs F.slot_dict_keyiterator_next
  (wpAny_call_entry F.slot_dict_keyiterator_next hit.typeIs F.entry_dict_keyiterator_next ?_ (F.args_dict_keyiterator_next_1 _))))
 refine wpAny_bind (wpAny_pure (wpAny_bind (wpAny_bind ?_)))
 first|refine wpAny_bind (wpAny_typeNameOfWhole_keyiter hit.typeIs (wpAny_pure ?_))|refine wpAny_bind (wpAny_typeNameOf_keyiter hit.typeIs (wpAny_pure ?_))
 refine wpAny_bind (wpAny_fieldsOf ho hd ?_);have hown:Builtin.Dict_items.ownsTuple "dict_keyiterator"=false:=by decide
 simp only[hown,w1u,if_false];show wpAny _ _ (if(Value.ref d==Value.none)=true then _ else _) _ _ s;rw[if_neg (show ¬((Value.ref d==Value.none)=true)from w0r)];refine wpAny_bind (wpAny_pure (wpAny_bind (wpAny_dictEntries hod hdd ?_)));rw[if_neg (by simp)];refine wpAny_bind (wpAny_pure (wpAny_bind (wpAny_dictEpoch hod hdd ?_)));rw[if_neg (by simp)];refine wpAny_pure ?_;simp only[show ¬((i:Int)<0)from by omega,if_false,w1y,w3n hx];refine wpAny_bind ?_
 first|refine wpAny_bind (wpAny_typeNameOfWhole_keyiter hit.typeIs (wpAny_pure ?_))|refine wpAny_bind (wpAny_typeNameOf_keyiter hit.typeIs (wpAny_pure ?_))
 refine wpAny_bind (wpAny_isOneOf_keyiter hit.typeIs ?_);show wpAny _ _ (setField (.ref it) 1 (rawInt ((i:Int)+1)) >>= _) _ _ s;refine wpAny_bind (wpAny_setField ho hd (by simp) ?_)
 have hit':(s.heap.update it (Obj.mapFields (·.setIfInBounds 1 (rawInt ((i:Int)+1))))).IsKeyIter it d (i+1) es.size ep:=
  ⟨_,Heap.get?_update_self _ ho (Obj.isFreed_of_fields (Obj.data_mapFields hd _)),(Obj.cls_mapFields ..).trans hc,by rw[Obj.data_mapFields hd];simp[rawInt]⟩
 refine wpAny_bind (wpAny_holding ?_);refine wpAny_bind (wpAny_isOneOf_keyiter (s:={s with heap:=s.heap.update it (Obj.mapFields (·.setIfInBounds 1 (rawInt ((i:Int)+1))))}) hit'.typeIs ?_);show wpAny _ _ (pure es[i].key) _ _ _;exact wpAny_pure (wpAny_pure ⟨_,rfl,wpAny_pure (hQ _ hit' (Heap.SameBut.update ..))⟩)
theorem y3s{Q:Option Value->Shared->Prop}(hh:A.handled=none)(hit:s.heap.IsKeyIter it d i es.size ep)(hm:RawAt s.heap d es ep)(hx:es.size<=i)
  (hQ:∀h',Heap.ExtBut it s.heap h'->Q none {s with heap:=h'}):wpAny (model prog w) A (pyNext (.ref it)) Q E s:=by
 obtain⟨o,ho,hc,hd⟩:=id hit;obtain⟨od,hod,_,hdd⟩:=hm;unfold pyNext
 refine wpAny_bind (wpAny_attempt (wpAny_callSpecial?_slot (name:=Str.ofString "__next__") hit.typeIs F.slot_dict_keyiterator_next
  (wpAny_call_entry F.slot_dict_keyiterator_next hit.typeIs F.entry_dict_keyiterator_next ?_ (F.args_dict_keyiterator_next_1 _))))
 refine wpAny_bind (wpAny_pure (wpAny_bind (wpAny_bind ?_)))
 first|refine wpAny_bind (wpAny_typeNameOfWhole_keyiter hit.typeIs (wpAny_pure ?_))|refine wpAny_bind (wpAny_typeNameOf_keyiter hit.typeIs (wpAny_pure ?_))
 refine wpAny_bind (wpAny_fieldsOf ho hd ?_);have hown:Builtin.Dict_items.ownsTuple "dict_keyiterator"=false:=by decide
 simp only[hown,w1u,if_false];show wpAny _ _ (if(Value.ref d==Value.none)=true then _ else _) _ _ s;rw[if_neg (show ¬((Value.ref d==Value.none)=true)from w0r)];refine wpAny_bind (wpAny_pure (wpAny_bind (wpAny_dictEntries hod hdd ?_)));rw[if_neg (by simp)];refine wpAny_bind (wpAny_pure (wpAny_bind (wpAny_dictEpoch hod hdd ?_)));rw[if_neg (by simp)];refine wpAny_pure ?_;simp only[show ¬((i:Int)<0)from by omega,if_false,w1y,Array.getElem?_eq_none hx];refine wpAny_bind ?_
 first|refine wpAny_bind (wpAny_typeNameOfWhole_keyiter hit.typeIs (wpAny_pure ?_))|refine wpAny_bind (wpAny_typeNameOf_keyiter hit.typeIs (wpAny_pure ?_))
 show wpAny _ _ (setField (.ref it) 0 .none >>= _) _ _ s;refine wpAny_bind (wpAny_setField ho hd (by simp) ?_);show wpAny _ _ (newExc (.type "StopIteration") [] >>= _) _ _ _;refine wpAny_bind ?_;simp only[newExc,newTuple];refine wpAny_bind (wpAny_newObj_type ?_ (by size_fits));refine wpAny_bind (m:=firstArgMember _ _) (wpAny_of_eq (a:=Value.none) (by first|rfl|(simp only[firstArgMember];rfl)) ?_);refine wpAny_newObj_type ?_ (by size_fits);simp only[raiseNew];refine wpAny_bind (wpAny_handled ?_);rw[show A.in1.handled=none from hh];refine wpAny_bind (wpAny_pure (wpAny_throw ?_));refine wpAny_bind (wpAny_isInstance (T:="StopIteration") (b:=true) ⟨_,Heap.get?_push_size _ rfl,rfl⟩ isSubtype_stop ?_);exact wpAny_pure (hQ _ (((Heap.SameBut.update ..).extBut.push _).push _))
end
def Itk(d:Addr)(o:Obj)(sh:Sh)(kvs:List (Kx×V))(kas:List Addr):It:=
 ⟨fun i H=>H d=some (.frz o (.dT sh kvs kas))/\i<kas.length,fun i H x H'=>H'=H/\∃b,kas[i]?=some b/\x=.ref b,fun i H=>H d=some (.frz o (.dT sh kvs kas))/\kas.length<=i⟩
theorem x6r{P:Program}{K:Fg}{tg:Expr}{it:Addr}{o:Obj}{sh:Sh}{kvs:List (Kx×V)}{kas:List Addr}(hx:o.ExactDict)(hd:o.data=.dict es ep)(hk:es.toList.map (·.key)=kas.map Value.ref):
  Turn P w K tg (Itk d o sh kvs kas) [it] it (fun i h=>h.IsKeyIter it d i es.size ep) where
 mem:=by simp
 obj:=fun i h st b hb=>by
  have e:b=it:=by simpa using hb
  subst e;obtain⟨o,e,c,d⟩:=st;exact⟨o,e,fun v z=>by rw[d]at z;cases z⟩
 keep:=fun i h h' st k=>by
  obtain⟨o,e,r⟩:=st;exact⟨o,k it (by simp) o e,r⟩
 item:=by
  intro X hP hw hK hc i pins s σ H E I hf st hg;subst hP hw hK;obtain⟨hq,hi⟩:=hg;have hat:RawAt s.heap d es ep:=⟨o,(I.hok d _ hq).1,hx,hd⟩;have hl:es.size=kas.length:=by have:=congrArg List.length hk;simpa using this
  obtain⟨f0,f1,f2,f3,f4,f5⟩:=hf it (by simp);have hi':i<es.size:=by rw[hl];exact hi
  refine x9f st hat hi' fun h' st' sb=>?_
  have I1:Inv X pins σ H {s with heap:=h'}:=I.turned (t':=s.toks) (fun b o hb e=>(sb.2 b hb).trans e) f0 f1 f3 f4 f5
  obtain⟨o',e,c,d'⟩:=id st'
  have hkey:es[i].key=Value.ref kas[i]:=by
   have z:=congrArg (fun l=>l[i]?) hk
   simp only[w0j,Array.getElem?_toList,w3n hi',w0d hi,Option.map_some]at z;exact Option.some.inj z
  refine⟨_,rfl,x0f (s:={s with heap:=h'}) e c d' (by decide) ⟨.ref kas[i],H,I1,hkey,⟨rfl,kas[i],w0d hi,rfl⟩,st',fun b hb=>(hf b hb).1⟩⟩
 done:=by
  intro X hP hw hK hc i pins s σ H E I hf st hg;subst hP hw hK;obtain⟨hq,hi⟩:=hg;have hat:RawAt s.heap d es ep:=⟨o,(I.hok d _ hq).1,hx,hd⟩;have hl:es.size=kas.length:=by have:=congrArg List.length hk;simpa using this
  obtain⟨f0,f1,f2,f3,f4,f5⟩:=hf it (by simp);exact y3s (I.ok.hd hc) st hat (by rw[hl];exact hi) fun h' eb=>⟨rfl,I.turned (t':=s.toks) (fun b o hb e=>eb b o hb e) f0 f1 f3 f4 f5⟩
 self:=fun _ _ _ _ _ st h=>wpAny_pyIter_keyiter st h
def iKeys(tl:TE):TI:=fun σ H R=>tl σ H fun x H1=>∃a o sh kvs kas,x=.ref a/\H1 a=some (.frz o (.dT sh kvs kas))/\R (Itk a o sh kvs kas) H1
theorem y3t{X:Cx}{tg l:Expr}{tl:TE}(hl:PE X l tl):PI X tg l (iKeys tl):=by
 intro pins s σ H R I h;refine thn (hl pins s σ H _ I h) fun v s1 ⟨x,H1,I1,r1,q1⟩=>?_
 obtain⟨a,o,sh,kvs,kas,e,hq,q⟩:=q1;subst e;cases r1;obtain⟨g0,_⟩:=I1.hok a _ hq;obtain⟨_,hsys,xs,rel,hka,o',es,ep,g1,g2,g3,g4,_⟩:=(I1.hok a _ hq).2;rw[g0]at g1;cases g1
 have hk:es.toList.map (·.key)=kas.map Value.ref:=by
  rw[g4,w1q,<- hka,w1q];rfl
 refine x9e hsys ⟨o,g0,g2,g3⟩ ?_;refine⟨s1.heap.objs.size,[s1.heap.objs.size],_,_,_,rfl,I1.kept (t':=s1.toks) fun b o e=>Heap.get?_push_of_some _ e,x6r (o:=o) (sh:=sh) (kvs:=kvs) (kas:=kas) g2 g3 hk,⟨_,Heap.get?_push_size _ rfl,rfl,rfl⟩,fun b hb=>?_,q⟩
 have e:b=s1.heap.objs.size:=by simpa using hb
 subst e;exact I1.fpOk (w0g _) (I1.hok.fresh (w0g _))
end L2
namespace D
open PySem L2 PySem.Spec PyProof.Rows
open Classical
variable{a b:Addr}{fz:Bool}{X:Cx}{d dk:Den W}{G H:Hp}{k:Kx}{σ:L2.St}{EE:L2.St->XK}{ks:List Kx}{e:List S}{ws:List W}{i:Nat}{pos:Pos}{K:Fg}{sh:Sh}{x:Str}{v:V}{w:W}{Z:Zt}
mutual
def kxW:W->Option Kx
 |.non=>some .non
 |.bl b=>some (.bl b)
 |.int i=>some (.int i)
 |.str x=>some (.str x)
 |.tup ws=>(kxWs ws).map .tup
 |_=>none
def kxWs:List W->Option (List Kx)
 |[]=>some []
 |w::ws=>match kxW w,kxWs ws with
  |some k,some ks=>some (k::ks)
  |_,_=>none
end
def NoTup(K:Fg):Prop:=∀a o,K.lookup a=some o->o.cls≠.type "tuple"
theorem SqT.rd{xs:List V}(hK:NoTup K)(q:SqT K G a xs):Rd G a (.tup xs):=by
 rcases q with q|⟨o,its,n,h1,h2,_⟩
 ·exact q
 ·exact absurd h2 (hK a o h1)
mutual
theorem x6s{K:Fg}{G H:Hp}(hK:NoTup K)(s:Same G H):∀(w:W){k:Kx}{v:V},kxW w=some k->Rep K G w v->KRep H k v
 |.bl b,k,v,e,r=>by cases e;exact r
 |.int b,k,v,e,r=>by cases e;exact r
 |.str b,k,v,e,r=>by cases e;exact r
 |.tup ws,k,v,e,r=>by
  have e:(kxWs ws).map Kx.tup=some k:=e;obtain⟨ks,h1,rfl⟩:=w0e.mp e;obtain⟨a,xs,rfl,q,rs⟩:=r;refine⟨a,xs,rfl,?_,x24 hK s ws h1 rs⟩;rcases SqT.rd hK q with z|⟨o,z⟩
  ·exact .inl (s _ _ z)
  ·exact .inr ⟨o,s _ _ z⟩
 |.non,k,v,e,r=>by cases e;exact r
 |.lst _,k,v,e,r=>by cases e
 |.exc _,k,v,e,r=>by cases e
 |.dw _ _ _ _,k,v,e,r=>by cases e
 |.fn _ _ _,k,v,e,r=>by cases e
theorem x24{K:Fg}{G H:Hp}(hK:NoTup K)(s:Same G H):∀(ws:List W){ks:List Kx}{vs:List V},kxWs ws=some ks->Reps K G ws vs->KReps H ks vs
 |[],ks,vs,e,r=>by cases e;exact r
 |w::ws,ks,vs,e,r=>by
  have e:(match kxW w,kxWs ws with|some k,some ks=>some (k::ks)|_,_=>none)=some ks:=e;split at e
  ·rename_i k0 ks0 h1 h2;cases e;obtain⟨x,xs,rfl,r1,r2⟩:=r;exact⟨x,xs,rfl,x6s hK s w h1 r1,x24 hK s ws h2 r2⟩
  ·cases e
end
def keyT:W->Option Kx
 |.tup ws=>(kxWs ws).map .tup
 |_=>none
theorem q5a(hK:NoTup K)(s:Same G H)(e:keyT w=some k)(r:Rep K G w v):∃b,v=.ref b/\KRep H k (.ref b):=by
 cases w with
 |tup ws=>
  have z:=x6s hK s (.tup ws) e r;obtain⟨a,xs,rfl,q,rs⟩:=r;exact⟨a,rfl,z⟩
 |_=>cases e
def fits(k:Kx)(sh:Sh):Prop:=Conf k sh/\k.depth<=7
mutual
def wK:Kx->W
 |.non=>.non
 |.bl b=>.bl b
 |.int i=>.int i
 |.str x=>.str x
 |.tup ks=>.tup (wKs ks)
def wKs:List Kx->List W
 |[]=>[]
 |k::ks=>wK k::wKs ks
end
mutual
theorem x1f{K:Fg}{G:Hp}:∀(k:Kx){v:V},KRep G k v->Rep K G (wK k) v
 |.non,_,h=>h
 |.bl _,_,h=>h
 |.int _,_,h=>h
 |.str _,_,h=>h
 |.tup ks,_,h=>by
  obtain⟨a,xs,rfl,q,r⟩:=h;exact⟨a,xs,rfl,.inl q,q8l ks r⟩
theorem q8l{K:Fg}{G:Hp}:∀(ks:List Kx){vs:List V},KReps G ks vs->Reps K G (wKs ks) vs
 |[],_,h=>h
 |k::ks,_,⟨v,r,e,h1,h2⟩=>⟨v,r,e,x1f k h1,q8l ks h2⟩
end
theorem q9s:∀{ks:List Kx}{bs:List Addr},KeysG G ks bs->Reps K G (ks.map wK) (bs.map V.ref)
 |[],[],_=>rfl
 |k::ks,b::bs,h=>⟨.ref b,bs.map V.ref,rfl,x1f k h.1,q9s h.2⟩
 |[],_::_,h=>h.elim
 |_::_,[],h=>h.elim
theorem KeysG.snoc(hk:KRep G k (.ref b)):∀{ks:List Kx}{bs:List Addr},KeysG G ks bs->KeysG G (ks++[k]) (bs++[b])
 |[],[],_=>⟨hk,trivial⟩
 |_::_,_::_,h=>⟨h.1,KeysG.snoc hk h.2⟩
 |[],_::_,h=>h.elim
 |_::_,[],h=>h.elim
def lkW:List Kx->List W->Kx->Option W
 |k::ks,w::ws,x=>if k=x then some w else lkW ks ws x
 |_,_,_=>none
theorem q6p{K:Fg}{G:Hp}{x:Kx}:∀{kvs:List (Kx×V)}{ws:List W},Reps K G ws (kvs.map (·.2)) ->
  (∀w,lkW (kvs.map (·.1)) ws x=some w->∃v,valV kvs x=some v/\Rep K G w v)/\(lkW (kvs.map (·.1)) ws x=none->valV kvs x=none)
 |[],ws,r=>by
  cases ws with
  |nil=>exact⟨(fun w z=>nomatch z),fun _=>rfl⟩
  |cons w ws=>obtain⟨_,_,z,_⟩:=r;cases z
 |p::kvs,[],r=>by cases(show _=[]from r)
 |p::kvs,w::ws,r=>by
  obtain⟨v,rr,z,h1,h2⟩:=r;cases z;have ih:=q6p (x:=x) h2
  by_cases e:p.1=x
  ·refine⟨fun w' z=>?_,fun z=>?_⟩
   ·have z:(if p.1=x then some w else lkW (kvs.map (·.1)) ws x)=some w':=z;rw[if_pos e]at z;cases z;exact⟨p.2,q51 e,h1⟩
   ·have z:(if p.1=x then some w else lkW (kvs.map (·.1)) ws x)=none:=z;rw[if_pos e]at z;cases z
  ·refine⟨fun w' z=>?_,fun z=>?_⟩
   ·have z:(if p.1=x then some w else lkW (kvs.map (·.1)) ws x)=some w':=z;rw[if_neg e]at z;rw[q49 e];exact ih.1 w' z
   ·have z:(if p.1=x then some w else lkW (kvs.map (·.1)) ws x)=none:=z;rw[if_neg e]at z;rw[q49 e];exact ih.2 z
theorem DAt.rd{kvs:List (Kx×V)}{kas:List Addr}(s:Same G H)(h:DAt fz G a sh kvs kas):Rd H a (dwO sh kvs kas):=by
 cases fz with
 |true=>obtain⟨o,h⟩:=h;exact .inr ⟨o,s _ _ h⟩
 |false=>exact .inl (s _ _ h)
theorem noI{t:Kx}(kr:KRep H t (.ref b))(hc:fits t sh):sh.isI=false:=by
 cases sh with
 |int=>
  cases t with
  |int i=>exact nomatch (show V.ref b=V.int i from kr)
  |_=>exact hc.1.elim
 |_=>rfl
def inT(w d:W):Option W:=match keyT w,d with
 |some k,.dw _ sh ks ws=>if fits k sh then some (.bl (lkW ks ws k).isSome)else none
 |_,_=>none
def ninT(w d:W):Option W:=match keyT w,d with
 |some k,.dw _ sh ks ws=>if fits k sh then some (.bl (!(lkW ks ws k).isSome))else none
 |_,_=>none
theorem x6t(s:Same G H)(p:Rep K G (.dw fz sh ks ws) v)(kr:KRep H k (.ref b))(hc:fits k sh):
  ∃a o,v=.ref a/\DGet H a (.ref b) o/\(∀w,lkW ks ws k=some w->∃u,o=some u/\Rep K G w u)/\(lkW ks ws k=none->o=none):=by
 obtain⟨a,kvs,kas,rfl,h1,rfl,h3,h4⟩:=p;refine⟨a,_,rfl,DGet.t (by have:=h1.rd s;rwa [q4c (noI kr hc)]at this) ⟨kr,hc⟩,?_⟩;exact q6p h4
theorem y8e(hK:NoTup K):Op2 K (fun y x H Q=>∃a o,x=.ref a/\DGet H a y o/\Q (.bl o.isSome) H) inT:=by
 intro G H x y wx wy w Q s px py hf h;unfold inT at hf;split at hf
 ·rename_i k fz sh ks ws hk;split at hf
  ·rename_i hc;cases hf;obtain⟨b,rfl,kr⟩:=q5a hK s hk px;obtain⟨a,o,rfl,g,g1,g2⟩:=x6t s py kr hc;refine⟨a,o,rfl,g,h G _ H (.refl s) ?_⟩;show V.bl o.isSome=V.bl (lkW ks ws k).isSome;cases q:lkW ks ws k with
   |none=>rw[g2 q];rfl
   |some w=>obtain⟨u,hu,_⟩:=g1 w q;rw[hu];rfl
  ·cases hf
 ·cases hf
theorem y3u(hK:NoTup K):Op2 K (fun y x H Q=>∃a o,x=.ref a/\DGet H a y o/\Q (.bl (!o.isSome)) H) ninT:=by
 intro G H x y wx wy w Q s px py hf h;unfold ninT at hf;split at hf
 ·rename_i k fz sh ks ws hk;split at hf
  ·rename_i hc;cases hf;obtain⟨b,rfl,kr⟩:=q5a hK s hk px;obtain⟨a,o,rfl,g,g1,g2⟩:=x6t s py kr hc;refine⟨a,o,rfl,g,h G _ H (.refl s) ?_⟩;show V.bl (!o.isSome)=V.bl (!(lkW ks ws k).isSome);cases q:lkW ks ws k with
   |none=>rw[g2 q];rfl
   |some w=>obtain⟨u,hu,_⟩:=g1 w q;rw[hu];rfl
  ·cases hf
 ·cases hf
section
variable{a b e k o:Expr}{es:List Expr}{da db:Den W}{dA:Den (List W)}{p tpos:Pos}{body:List Stmt}{s1:List S->SR}
theorem y8f(hK:NoTup X.K)(hu:X.A.units+150<cLine)(ha:DE Z X EE a da)(hb:DE Z X EE b db)(hm:behindInMarks .In b=false:=by rfl):DE Z X EE (.Compare a [.In] [b] pos) (dOp inT da db):=
 PE.mono (y47 (y77 (by omega) ha hb) hm) (q4w (y8e hK))
theorem q68(hK:NoTup X.K)(hu:X.A.units+150<cLine)(ha:DE Z X EE a da)(hb:DE Z X EE b db)(hm:behindInMarks .NotIn b=false:=by rfl):DT Z X EE (.Compare a [.NotIn] [b] pos) (dTest (dOp ninT da db)):=
 PT.mono (y48 (x6o (by omega) ha hb) hm) fun σ H Q h=>q4w (y3u hK) σ H _ (q6g h)
def isDw:S->Bool
 |.dw _ _ _=>true
 |_=>false
theorem Rel.dw{e:List S}(r:Rel K Z G σ H e)(h:e[i]?=some (.dw sh ks ws)):∃a kvs kas,σ[i]?=some (some (.ref a))/\H a=some (dwO sh kvs kas)/\G a=none/\Z.H a=none/\kvs.map (·.1)=ks/\KeysS sh G ks kas/\Reps K G ws (kvs.map (·.2)):=by
 obtain⟨a,kvs,kas,h1,h2,h3,h4,h5,h6,h7⟩:=r.slot i _ h;refine⟨a,kvs,kas,?_,h2,h3,h4,h5,h6,h7⟩;cases q:σ[i]? with
 |none=>rw[q]at h1;cases h1
 |some z=>rw[q]at h1;rw[show z=some (V.ref a)from h1]
theorem Rel.setS{e:List S}(r:Rel K Z G σ H e){i:Nat}{s:S}(hs:∀b ws,s≠.own b ws)(q:SlotOk K Z G H s (some v)):Rel K Z G (σ.set i (some v)) H (e.set i s):=by
 refine⟨r.sub,fun j t z=>?_,by simpa using r.len,fun j k b1 b2 w1 w2 c z1 z2 z3 z4=>?_,r.ent,r.ion,r.gen⟩
 ·by_cases hj:j=i
  ·subst hj
   have hi:j<e.length:=by
    have:=(w0b.mp z).1;simpa using this
   rw[w0h hi]at z;cases z;rw[w0h (by rw[<- r.len];exact hi)];exact q
  ·rw[w0f (fun z=>hj z.symm)]at z |-
   exact r.slot j t z
 ·have old:∀(k:Nat)(bb:Option Nat)(ww:List W),(e.set i s)[k]?=some (.own bb ww)->k≠i/\e[k]?=some (.own bb ww):=fun k bb ww z=>by
   by_cases hk:k=i
   ·subst hk
    have hi:k<e.length:=by
     have:=(w0b.mp z).1;simpa using this
    rw[w0h hi]at z;cases z;exact absurd rfl (hs _ _)
   ·rw[w0f (fun z=>hk z.symm)]at z;exact⟨hk,z⟩
  obtain⟨n1,q1⟩:=old _ _ _ z1;obtain⟨n2,q2⟩:=old _ _ _ z2;rw[w0f (fun z=>n1 z.symm)]at z3
  rw[w0f (fun z=>n2 z.symm)]at z4
  exact r.dis _ _ _ _ _ _ _ q1 q2 z3 z4
theorem Rel.mutDw{e:List S}(r:Rel K Z G σ H e){ks':List Kx}{ws':List W}{a:Addr}{kvs':List (Kx×V)}{kas':List Addr}(h:e[i]?=some (.dw sh ks ws))(ha:σ[i]?=some (some (.ref a)))(ho:∀s∈e.set i .no,isDw s=false)
  (h5:kvs'.map (·.1)=ks')(h6:KeysS sh G ks' kas')(h7:Reps K G ws' (kvs'.map (·.2))):Rel K Z G σ (upd H a (dwO sh kvs' kas')) (e.set i (.dw sh ks' ws')):=by
 obtain⟨a',kvs,kas,h1,h2,h3,h4,_⟩:=r.dw h;rw[ha]at h1;cases h1;have hi:i<e.length:=(w0b.mp h).1;refine⟨fun c o z=>?_,fun j s z=>?_,by simpa using r.len,fun j k b1 b2 w1 w2 c z1 z2 z3 z4=>?_,fun c o z n=>?_,fun c z=>?_,r.gen⟩
 ·rw[q0c (q0n z h3)];exact r.sub c o z
 ·by_cases hj:j=i
  ·subst hj;rw[w0h hi]at z;cases z;exact⟨a,kvs',kas',by rw[ha];rfl,q0d,h3,h4,h5,h6,h7⟩
  ·rw[w0f (fun z=>hj z.symm)]at z
   have y:=r.slot j s z;cases s with
   |no=>trivial
   |fr w=>exact y
   |own b2 w2=>
    obtain⟨c,ys,y1,y2,y3,y4,y5⟩:=y;refine⟨c,ys,y1,?_,y3,y4,y5⟩;rw[q0c (q0x y2 h2 (fun z=>q1f rfl z.symm))];exact y2
   |nest wss=>exact NestOk.move y (.refl _) fun l o ys k1 k2 k3=>⟨by rw[q0c (q0x k1 h2 (fun z=>q1f rfl z.symm))];exact k1,k2,k3⟩
   |x k=>exact XOk.move y (.refl _) fun l o ys k1 k2 k3=>⟨by rw[q0c (q0x k1 h2 (fun z=>q1f rfl z.symm))];exact k1,k2,k3⟩
   |dw _ _ _=>
    have:=ho _ (w0n (i:=j) (by rw[w0f (fun z=>hj z.symm)];exact z))
    cases this
 ·have old:∀(k:Nat)(bb:Option Nat)(ww:List W),(e.set i (S.dw sh ks' ws'))[k]?=some (.own bb ww)->e[k]?=some (.own bb ww):=fun k bb ww z=>by
   by_cases hk:k=i
   ·subst hk;rw[w0h hi]at z;cases z
   ·rw[w0f (fun z=>hk z.symm)]at z;exact z
  exact r.dis _ _ _ _ _ _ _ (old _ _ _ z1) (old _ _ _ z2) z3 z4
 ·rw[q0c (q0n z h4)];exact r.ent c o z n
 ·by_cases hc:c=a
  ·subst hc;rw[q0d];exact fun z=>nomatch z
  ·rw[q0c hc];exact r.ion c z
def dSetW(i:Nat)(sh:Sh):List S->SR:=fun e=>.nx (e.set i (.dw sh [] []))
theorem y3v(i:Nat)(sh:Sh){pos' dpos:Pos}(hN:X.N.Nodup)(hI:sh.isI=false:=by rfl)(hi:X.N[i]?=some x:=by rfl)(hx:Loc X.env.scope x:=by walk_at "3")(hs:swapsWith (.Dict [] [] dpos) (some (.Name x pos')) pos.line X.env=pure false:=by rfl)(hf:X.fn x=true\/X.env.scope.names.lookup x=some .local:=by walk_at "2"):
  DS Z X EE (.Assign [.Name x pos'] (.Dict [] [] dpos) pos) (dSetW i sh):=by
 refine PS.mono (q5e i hN (x9b (sh:=sh)) hi hx hs hf) ?_;rintro D σ H ⟨G,e,rel,h⟩;intro q hq;have g:=Grow.hid rel.sub hq (.dT sh [] []);exact h G _ _ ((rel.grow g).setS (s:=.dw sh [] []) (fun _ _ z=>nomatch z) ⟨q,[],[],rfl,by rw[q4c hI];exact q0d,rel.sub.free hq,q2h rel hq,rfl,.of trivial hI,rfl⟩) (.refl _)
def putWC(i:Nat)(w kw:W)(e:List S):Option S->SR
 |some (.dw sh ks ws)=>match keyT kw with
  |some x=>if ks.length<16777216/\(e.set i .no).all (fun s=>!isDw s)=true/\fits x sh/\lkW ks ws x=none then .nx (e.set i (.dw sh (ks++[x]) (ws++[w])))else .no
  |none=>.no
 |_=>.no
def putW0(i:Nat)(dk:Den W)(w:W)(e1:List S):Option S->SR
 |some (.dw _ _ _)=>(dk e1).stm fun kw e2=>putWC i w kw e2 e2[i]?
 |_=>.no
def dPutW(i:Nat)(d dk:Den W):List S->SR:=fun e=>(d e).stm fun w e1=>putW0 i dk w e1 e1[i]?
theorem y3w(i:Nat)(hK:NoTup X.K)(hu:X.A.units+150<cLine)(he:DE Z X EE e d)(hk:DE Z X EE k dk)(hN:X.N[i]?=some x:=by rfl)(hv:Vis X.env.scope x:=by walk_at "1")(hd:(x==("__debug__":Str))=false:=by decide)(hcd:(x==("__classdict__":Str))=false:=by decide)
  (hs:swapsWith e (some (.Subscript (.Name x p) k tpos)) pos.line X.env=pure false:=by rfl):DS Z X EE (.Assign [.Subscript (.Name x p) k tpos] e pos) (dPutW i d dk):=by
 refine PS.mono (x21 (by omega) (pv i hN hv hd hcd) hk he hs) ?_;rintro D σ H ⟨G,e,rel,h⟩;refine⟨G,e,rel,(q0u h).imp (fun w e1 h G1 v1 H1 r1 s1 p1=>?_) fun _ _ h=>h⟩
 unfold putW0 at h;split at h
 ·rename_i sh0 ks0 ws0 he0;obtain⟨a,kvs0,kas0,q1,q2,_⟩:=r1.dw he0;refine⟨.ref a,q1,G1,e1,r1,(q0u (σ:=σ) h).imp (fun kw e2 h G2 v2 H2 r2 s2 p2=>?_) fun _ _ h G' H' r s=>h G' H' r (s1.trans s)⟩
  unfold putWC at h;split at h
  ·rename_i sh ks ws he2;obtain⟨a',kvs,kas,g1,g2,g3,g4,g5,g6,g7⟩:=r2.dw he2;rw[q1]at g1;cases g1;split at h
   ·rename_i t hk1;split at h
    ·rename_i hc;obtain⟨b,rfl,kr⟩:=q5a hK (.refl G2) hk1 p2;have krH:KRep H2 t (.ref b):=KRep.keeps (fun _ _ _ z=>r2.sub _ _ z) t kr
     subst g5;have hI:=noI kr hc.2.2.1;rw[q4c hI]at g2;have hnew:valV kvs t=none:=(q6p g7).2 hc.2.2.2;refine⟨a,_,rfl,DPut.t g2 ⟨krH,hc.2.2.1⟩ (by rw[sizeLine_eq];have:=hc.1;rw[w0a]at this;exact this),?_⟩;rw[q7s v1 hnew,show putAd kvs kas t b=kas++[b] by unfold putAd;rw[hnew];rfl,<- q4c hI];refine h G2 σ _ (r2.mutDw (ks':=kvs.map (·.1)++[t]) (ws':=ws++[w]) he2 q1 (fun s hs=>?_) (by rw[w0m];rfl) (.of (KeysG.snoc kr (g6.g hI)) hI) ?_) (s1.trans s2)
     ·have:=w0o.mp hc.2.1 s hs;simpa using this
     ·rw[w0m];exact g7.append (.one (Rep.mono s2 w p1))
    ·exact h.elim
   ·exact h.elim
  ·exact h.elim
 ·exact h.elim
end
section
variable{kw dflt:W}{x:Kx}
theorem y3x:dSetW i sh e=.nx (e.set i (.dw sh [] [])):=rfl
theorem y3y:dPutW i d dk e=(d e).stm fun w e1=>putW0 i dk w e1 e1[i]?:=rfl
theorem y3z:putW0 i dk w e (some (.dw sh ks ws))=(dk e).stm fun kw e2=>putWC i w kw e2 e2[i]?:=rfl
theorem y30(hk:keyT kw=some x)(h1:ks.length<16777216)(h2:(e.set i .no).all (fun s=>!isDw s)=true)(h3:fits x sh)(h4:lkW ks ws x=none):putWC i w kw e (some (.dw sh ks ws))=.nx (e.set i (.dw sh (ks++[x]) (ws++[w]))):=by
 show(match keyT kw with|some x=>_|none=>_)=_;rw[hk];exact if_pos ⟨h1,h2,h3,h4⟩
theorem y8g(hk:keyT w=some x)(hc:fits x sh):ninT w (.dw fz sh ks ws)=some (.bl (!(lkW ks ws x).isSome)):=by
 unfold ninT;rw[hk];exact if_pos hc
theorem y31:hide1 (.dw sh ks ws)=.fr (.dw false sh ks ws):=rfl
end
def tupAt(K:Fg)(a:Addr):Bool:=match K.lookup a with
 |some o=>(match o.cls with
  |.type n=>n=="tuple"
  |_=>false)
 |none=>false
def dropT(K:Fg):Fg:=K.filter fun p=>!tupAt K p.1
theorem q4e{q:Addr->Bool}:∀{K:Fg}{o:Obj},(K.filter fun p=>q p.1).lookup a=some o->K.lookup a=some o/\q a=true
 |[],_,h=>by cases h
 |(b,u)::K,o,h=>by
  by_cases hq:q b=true
  ·rw[w2x (p:=fun p:Addr×Obj=>q p.1) (a:=(b,u)) hq]at h
   by_cases e:a=b
   ·subst e;rw[show List.lookup a ((a,u)::(K.filter fun p=>q p.1))=some u by simp[List.lookup]]at h
    refine⟨?_,hq⟩;rw[<- h];simp[List.lookup]
   ·rw[show List.lookup a ((b,u)::(K.filter fun p=>q p.1))=List.lookup a (K.filter fun p=>q p.1) by simp only[List.lookup];rw[beq_eq_false_iff_ne.mpr e]]at h
    obtain⟨h1,h2⟩:=q4e h;refine⟨?_,h2⟩;rw[<- h1];simp only[List.lookup];rw[beq_eq_false_iff_ne.mpr e]
  ·rw[w3q (p:=fun p:Addr×Obj=>q p.1) (a:=(b,u)) hq]at h
   obtain⟨h1,h2⟩:=q4e h;have e:a≠b:=fun z=>hq (by rw[<- z];exact h2)
   refine⟨?_,h2⟩;rw[<- h1];simp only[List.lookup];rw[beq_eq_false_iff_ne.mpr e]
theorem x9g{h:Heap}(X:K.In h):(dropT K).In h:=fun a o e=>X a o (q4e (q:=fun a=>!tupAt K a) e).1
theorem x9h:NoTup (dropT K):=fun a o e z=>by
 obtain⟨h1,h2⟩:=q4e (q:=fun a=>!tupAt K a) e
 unfold tupAt at h2;rw[h1]at h2;simp[z]at h2
theorem q0p{o:Obj}(h:K.lookup a=some o)(t:tupAt K a=false):(dropT K).lookup a=some o:=by
 have gen:∀(l:Fg)(q:Addr->Bool),q a=true->l.lookup a=some o->(l.filter fun p=>q p.1).lookup a=some o:=by
  intro l q hq
  induction l with
  |nil=>intro h;cases h
  |cons p l ih=>
   obtain⟨b,u⟩:=p;intro h
   by_cases e:a=b
   ·subst e;rw[w2x (p:=fun p:Addr×Obj=>q p.1) (a:=(a,u)) hq]
    rw[show List.lookup a ((a,u)::l)=some u by simp[List.lookup]]at h;rw[<- h];simp[List.lookup]
   ·rw[show List.lookup a ((b,u)::l)=List.lookup a l by simp only[List.lookup];rw[beq_eq_false_iff_ne.mpr e]]at h
    by_cases hb:q b=true
    ·rw[w2x (p:=fun p:Addr×Obj=>q p.1) (a:=(b,u)) hb,<- ih h]
     simp only[List.lookup];rw[beq_eq_false_iff_ne.mpr e]
    ·rw[w3q (p:=fun p:Addr×Obj=>q p.1) (a:=(b,u)) hb]
     exact ih h
 exact gen K (fun a=>!tupAt K a) (by rw[t];rfl) h
theorem q0i{r:Option Value}(h:PySem.W.nsIn K a x=some r)(t:tupAt K a=false):PySem.W.nsIn (dropT K) a x=some r:=by
 unfold PySem.W.nsIn at h |-
 cases q:K.lookup a with
 |none=>rw[q]at h;cases h
 |some o=>rw[q0p q t];rw[q]at h;exact h
def tupAtV(K:Fg):Value->Bool
 |.ref a=>tupAt K a
 |_=>false
theorem q0r{cd:Value}(h:PySem.W.codeIn K cd x=true)(t:tupAtV K cd=false):PySem.W.codeIn (dropT K) cd x=true:=by
 cases cd with
 |ref a=>
  unfold PySem.W.codeIn at h |-
  dsimp only at h |-
  cases q:K.lookup a with
  |none=>rw[q]at h;cases h
  |some o=>rw[q0p q t];rw[q]at h;exact h
 |_=>cases h
def funAt(K:Fg)(a:Addr):Bool:=!tupAt K a&&(match K.lookup a with
 |some ⟨_,_,.func _,_⟩=>true
 |_=>false)
def lk{κ:Type} [DecidableEq κ](kvs:List (κ×Sv))(x:κ):Option Sv:=(kvs.find? fun p=>decide (p.1=x)).map (·.2)
theorem hu1{n:Nat}(h:n+150<cLine):n+20<cLine:=Nat.lt_of_le_of_lt (Nat.add_le_add_left (by decide:20<=150) _) h
end D
namespace L2
open PySem PySem.Spec PyProof.Rows
theorem x6u{P:Program}{w:World}{K:Fg}{mg mb:Str->Option Value}{CX:CXT}{k:Nat}{fa a:Addr}{fd:FuncData}{x:Str}{sp:Sp}{s₁:Shared}{vs:List Value}{ns:List Int}{tabs:List (Addr×Str)}
  (KX:K.In s₁.heap)(hns:s₁.heap.Ns mainGlobals mg)(hb:s₁.heap.Ns builtinsNs mb)(hbb:∀x:Str,x≠"__name__"->mb x=bootBuiltins x)(hlim:s₁.heap.NoLimit)(hg:s₁.gens=#[])
  (ha:s₁.heap.get? a=some {cls:=.type "list", data:=.seq vs.toArray})(hi:IntsAre vs ns)(hl:ns.length<=sizeLine)(hr:Room k callerA)
  (F:∀base:Heap,K.In base->base.Ns mainGlobals mg->BMain base mg->FnOk P w K mg base CX k fa fd [x] sp)(hbind:∀(s:Shared)(u:Value),BindsTo s fd ⟨[u],[]⟩ [(x,u)])
  (hsp:∀H:Hp,SqL K H a (ns.map V.int)->sp [.ref a] H (fun v _=>v=.bl true) fun _ _ _=>False)
  (hCX:∀H e s',CX [] H s₁ (fun _ _ _=>False) e s'->False)
  (hBM:BMain s₁.heap mg)(hM:∀a q P,(a,markO P q)∈K->tabs.lookup P=some q)(hT:∀P q,tabs.lookup P=some q->s₁.heap.get? P=some (tabObj #[])/\isCodeTable s₁.heap P)(hKT:∀P q,tabs.lookup P=some q->K.lookup P=none):
  codeAny (model P w) callerA (.call (.ref fa) ⟨[.ref a],[]⟩) (fun r s'=>r=.ok (.ret (.bool true))/\OldK s₁.heap s'.heap/\s'.os=s₁.os/\AllBare s'.gens) s₁:=by
 have rv:=q6e hi;have lenV:=hi.length
 have aT:tabs.lookup a=none:=by
  cases q:tabs.lookup a with
  |none=>rfl
  |some t=>rw[(hT a t q).1]at ha;cases ha
 have core:∀H0:Hp,(∀b,H0 b=none\/∃o xs,H0 b=some (.frz o (.lst xs)))->SqL K H0 a (ns.map V.int)->HOk P w H0 s₁.heap->(∀b,H0 b≠none->b=a)->(H0 a≠none->K.lookup a=none) ->
   codeAny (model P w) callerA (.call (.ref fa) ⟨[.ref a],[]⟩) (fun r s'=>r=.ok (.ret (.bool true))/\OldK s₁.heap s'.heap/\s'.os=s₁.os/\AllBare s'.gens) s₁:=by
  intro H0 hO hS0 hok0 hA hK;obtain⟨H,hH⟩:∃H:Hp,H=fun b=>match tabs.lookup b with|some q=>some (.tbl #[.bool true,.str q 0])|none=>H0 b:=⟨_,rfl⟩
  have inT:∀b q,tabs.lookup b=some q->H b=some (.tbl #[.bool true,.str q 0]):=fun b q z=>by rw[hH];simp only[z]
  have outT:∀b,tabs.lookup b=none->H b=H0 b:=fun b z=>by rw[hH];simp only[z]
  have up:∀b u,H0 b=some u->H b=some u:=fun b u z=>by
   have:b=a:=hA b (by rw[z];simp);subst this;rw[outT b aT];exact z
  have hS:SqL K H a (ns.map V.int):=by
   rcases hS0 with(z|⟨o,z⟩)|z
   ·exact .inl (.inl (up _ _ z))
   ·exact .inl (.inr ⟨o,up _ _ z⟩)
   ·exact .inr z
  have hok:HOk P w H s₁.heap:=fun b u z=>by
   cases q:tabs.lookup b with
   |some t=>
    rw[inT b t q]at z;cases z;exact .inl ⟨t,#[],rfl,rfl,(hT b t q).1,trivial,fun pos cv z=>by cases z⟩
   |none=>
    rw[outT b q]at z;exact(hok0 b u z).stay (fun c v _ q=>q) (fun c q=>up c _ q) fun c v _ q=>up c v q
  have base_of:∀{b:Addr}{o:Obj},s₁.heap.get? b=some o->H b=none->(hidT s₁.heap H).get? b=some o:=fun e n=>x0k e n
  have free:∀{b:Addr}{o:Obj},s₁.heap.get? b=some o->o≠{cls:=.type "list", data:=.seq vs.toArray}->o≠tabObj #[]->H b=none:=fun {b o} e d1 d2=>by
   cases q:tabs.lookup b with
   |some t=>rw[(hT b t q).1]at e;cases e;exact absurd rfl d2
   |none=>
    rw[outT b q];cases q0:H0 b with
    |none=>rfl
    |some u=>
     have e':b=a:=hA b (by rw[q0];simp);subst e';rw[ha]at e;cases e;exact absurd rfl d1
  have nsK:∀{b:Addr}{m:Str->Option Value},s₁.heap.Ns b m->(hidT s₁.heap H).Ns b m:=fun {b m} ⟨o,es,ep,e,d,r⟩=>⟨o,es,ep,base_of e (free e (fun z=>by rw[z]at d;cases d) fun z=>by rw[z]at d;cases d),d,r⟩
  have hKb:K.In (hidT s₁.heap H):=fun b o e=>base_of (KX b o e) (by
   cases q:tabs.lookup b with
   |some t=>rw[hKT b t q]at e;cases e
   |none=>
    rw[outT b q];cases q0:H0 b with
    |none=>rfl
    |some u=>
     have e':b=a:=hA b (by rw[q0];simp);subst e';rw[hK (by rw[q0];simp)]at e;cases e)
  have hBb:BMain (hidT s₁.heap H) mg:=by
   obtain⟨bm,ob,b1,b2,b3,b4,b5,b6⟩:=hBM;exact⟨bm,ob,b1,b2,base_of b3 (free b3 (fun z=>by rw[z]at b4;simp at b4) fun z=>by rw[z]at b4;cases b4),b4,b5,b6⟩
  have hMd:Mod K mg (hidT s₁.heap H):=⟨hKb,nsK hns,⟨mb,nsK hb,hbb⟩,let ⟨mc,h1,h2⟩:=hlim;⟨mc,nsK h1,h2⟩⟩;have e0:Env0 P w K mg (hidT s₁.heap H) callerA [] s₁ H:=⟨rfl,hMd,fun b o e=>x2l e,Nat.le_of_eq (q9g _ _),trivial,fun b hb=>absurd (show b∈([]:List Addr)from hb) (by simp),hok,.of_eq hg,fun a q P m=>⟨_,inT P q (hM a q P m),rfl,rfl⟩⟩
  refine codeAny_mono ((F _ hKb (nsK hns) hBb).run callerA [] s₁ H ⟨[.ref a],[]⟩ [.ref a] [.ref a] _ _ hr e0 (hbind s₁ (.ref a)) (.cons rfl .nil) (hsp H hS)) fun r s' h=>?_
  cases r with
  |error e=>exact(hCX H e s' h).elim
  |ok fl=>
   cases fl with
   |next=>exact False.elim h
   |brk=>exact False.elim h
   |cont=>exact False.elim h
   |ret u=>
    obtain⟨v,H',os,bare,un,hok',r',q⟩:=h;have q':v=.bl true:=q;subst q';obtain rfl:u=Value.bool true:=r'
    have kp:∀b o,tabs.lookup b=none->s₁.heap.get? b=some o->s'.heap.get? b=some o:=fun b o z e=>by
     cases q:H b with
     |none=>exact un.keep b o e q (by intro z;exact absurd (show b∈([]:List Addr)from z) (by simp)) (by simp)
     |some u=>
      have q0:=q;rw[outT b z]at q0;rcases hO b with z|⟨ob,xs,z⟩
      ·rw[q0]at z;cases z
      ·rw[q0]at z;cases z;have z2:=un.frzs b ob _ q;obtain⟨e1,_⟩:=(show s₁.heap.get? b=some ob/\_ from hok b _ q);obtain⟨e2,_⟩:=(show s'.heap.get? b=some ob/\_ from hok' b _ z2);rw[e]at e1;cases e1;exact e2
    have gr:∀b t,tabs.lookup b=some t->∃qs,s'.heap.get? b=some (tabObj qs):=fun b t z=>by
     obtain⟨more,e⟩:=un.tbls b _ (inT b t z);have o1:ObjOk P w H' s'.heap b (.tbl (#[.bool true,.str t 0]++more)):=hok' b _ e;rcases o1 with⟨_,qs,_,_,g,_⟩|⟨_,_,_,_,_,_,p0,_⟩
     ·exact⟨qs,g⟩
     ·rw[w1r (by simp)]at p0;cases p0
    refine⟨rfl,⟨fun b o e=>?_,fun b o e=>?_⟩,os,bare⟩
    ·cases z:tabs.lookup b with
     |none=>exact .inl (kp b o z e)
     |some t=>
      obtain⟨qs,g⟩:=gr b t z;obtain⟨g1,g2⟩:=hT b t z;rw[e]at g1;cases g1;exact .inr (.inl ⟨g2,rfl,#[],qs,rfl,by rw[Array.empty_append];exact g⟩)
    ·cases z:tabs.lookup b with
     |none=>exact⟨o,kp b o z e⟩
     |some t=>
      obtain⟨qs,g⟩:=gr b t z;exact⟨_,g⟩
 cases hk:K.lookup a with
 |some o=>
  have e:=KX a o hk;rw[ha]at e;cases e;refine core (fun _=>none) (fun _=>.inl rfl) (.inr ⟨_,vs.toArray,_,hk,rfl,rfl,rfl,by rw[w0c,lenV];exact hl,by simpa using rv⟩) (fun b u z=>by have z':(none:Option HO)=some u:=z;cases z') (fun b z=>absurd rfl z) fun z=>absurd rfl z
 |none=>
  refine core (fun b=>if b=a then some (.frz {cls:=.type "list", data:=.seq vs.toArray} (.lst (ns.map V.int)))else none) (fun b=>?_) (.inl (.inr ⟨{cls:=.type "list", data:=.seq vs.toArray},if_pos rfl⟩)) (fun b u z=>?_) (fun b z=>?_) fun _=>hk
  ·by_cases hb:b=a
   ·exact .inr ⟨_,_,if_pos hb⟩
   ·exact .inl (if_neg hb)
  ·by_cases hb:b=a
   ·have z':=(if_pos hb).symm.trans z;cases z';subst hb;exact⟨ha,by rw[w0a];exact hl,vs,_,rv,ha⟩
   ·have z':=(if_neg hb).symm.trans z;cases z'
  ·by_cases hb:b=a
   ·exact hb
   ·exact absurd (if_neg hb) z
theorem x9i{l:PySem.W.OpenLaw}{n k:Nat}{q:Program}{loose:List Str}{XP:(Str->Option Value)->Heap->Prop}{YP:World->Heap->Prop}{d:DefRec}{K:Params->Fg}{CX:World->CXT}{sp:World->Sp}{x:Str}{tabs:List (Addr×Str)}
  (hn:l.most=some n)(hn2:n<=sizeLine)(hdf:d.params.defaults=[])(hr:Room k callerA)
  (hY:∀(w:World)(h:Heap),YP w h->(K w.params).In h)
  (F:∀(w:World)(mg:Str->Option Value)(fa:Addr)(h:Heap),(K w.params).In h->h.Ns mainGlobals mg->mg d.name=some (.ref fa) ->
   ∃fd:FuncData,(∀(s:Shared)(u:Value),BindsTo s fd ⟨[u],[]⟩ [(x,u)]) /\
    ∀base:Heap,(K w.params).In base->base.Ns mainGlobals mg->BMain base mg->FnOk l.prog w (K w.params) mg base (CX w) k fa fd [x] (sp w))
  (hsp:∀(w:World)(H:Hp)(a:Addr)(ns:List Int),ns.length<=n->SqL (K w.params) H a (ns.map V.int)->sp w [.ref a] H (fun v _=>v=.bl true) fun _ _ _=>False)
  (hCX:∀(w:World)(H:Hp)(s:Shared)(e:Value)(s':Shared),CX w [] H s (fun _ _ _=>False) e s'->False)
  (hM:∀(w:World) a q P,(a,markO P q)∈K w.params->tabs.lookup P=some q)(hT:∀(w:World)(h:Heap),YP w h->∀P q,tabs.lookup P=some q->h.get? P=some (tabObj #[])/\isCodeTable h P)(hKT:∀(w:World) P q,tabs.lookup P=some q->(K w.params).lookup P=none):
  PySem.W.WalkO q loose XP YP l.row.toRowW d [] (fun f vs=>PySem.call f vs):=by
 refine Att.attach_call hn hdf fun w s₀ s₁ mg mb fa o pm cd doc a vs ns G Y ho hd hcd hmg hobj hints hlen hg=>?_
 have KX:=hY w _ Y;obtain⟨fd,hb,hF⟩:=F w mg fa _ KX G.T.g hmg;exact x6u KX G.T.g G.T.b G.T.builtins G.T.nolimit hg hobj hints (w1c hlen hn2) hr hF hb (fun H hS=>hsp w H a ns hlen hS) (fun H e s'=>hCX w H s₁ e s') G.T.bmain (hM w) (hT w _ Y) (hKT w)
end L2
namespace D
open PySem L2
variable{X:Cx}{dA:Den (List W)}{e:Expr}{G H:Hp}{EE:L2.St->XK}{es:List Expr}{ps:List Str}{k:Nat}{r:Nat->List W->FR}{p pos:Pos}{K:Fg}{x:Str}{Z:Zt}
mutual
def noFn:W->Bool
 |.tup ws=>noFns ws
 |.lst ws=>noFns ws
 |.dw _ _ _ ws=>noFns ws
 |.fn _ _ _=>false
 |.non=>true
 |.bl _=>true
 |.int _=>true
 |.str _=>true
 |.exc _=>true
def noFns:List W->Bool
 |[]=>true
 |w::ws=>noFn w&&noFns ws
end
section
variable{cs:Cs}
theorem Rd.rm{a:Addr}{u:HO}(c:CelsIn G cs)(h:Rd G a u)(n:∀o,u≠celO o)(n2:∀φ,u≠.ext φ):Rd (rmC G cs) a u:=by
 rcases h with h|⟨o,h⟩
 ·exact .inl (c.rm_some h n)
 ·exact .inr ⟨o,c.rm_some h fun o' z=>by cases z;exact n2 _ rfl⟩
theorem KeysG.rm(c:CelsIn G cs):∀{ks:List Kx}{bs:List Addr},KeysG G ks bs->KeysG (rmC G cs) ks bs
 |[],[],_=>trivial
 |k::ks,b::bs,h=>⟨KRep.keeps (fun _ _ t z=>c.rm_some z (q7c t)) k h.1,KeysG.rm c h.2⟩
 |[],_::_,h=>h.elim
 |_::_,[],h=>h.elim
theorem KeysS.rm{sh:Sh}(c:CelsIn G cs){ks:List Kx}{bs:List Addr}(h:KeysS sh G ks bs):KeysS sh (rmC G cs) ks bs:=by
 unfold KeysS at h |-
 split at h
 ·rename_i hi;rw[if_pos hi];exact h
 ·rename_i hi;rw[if_neg hi];exact h.rm c
mutual
theorem Rep.rm(c:CelsIn G cs):∀(w:W){v:V},noFn w=true->Rep K G w v->Rep K (rmC G cs) w v
 |.non,v,_,h=>h
 |.bl b,v,_,h=>h
 |.int i,v,_,h=>h
 |.str x,v,_,h=>h
 |.tup ws,v,n,h=>by
  obtain⟨a,xs,rfl,q,r⟩:=h;refine⟨a,xs,rfl,?_,Reps.rm c ws n r⟩;rcases q with q|q
  ·exact .inl (Rd.rm c q (fun o z=>nomatch z) fun φ z=>nomatch z)
  ·exact .inr q
 |.lst ws,v,n,h=>by
  obtain⟨a,xs,rfl,q,r⟩:=h;refine⟨a,xs,rfl,?_,Reps.rm c ws n r⟩;rcases q with q|q
  ·exact .inl (Rd.rm c q (fun o z=>nomatch z) fun φ z=>nomatch z)
  ·exact .inr q
 |.exc e,v,_,h=>by
  obtain⟨a,rfl,q⟩:=h;exact⟨a,rfl,c.rm_some q fun o z=>by unfold excO at z;cases z⟩
 |.dw fz sh ks ws,v,n,h=>by
  obtain⟨a,kvs,kas,rfl,h1,h2,h3,h4⟩:=h;refine⟨a,kvs,kas,rfl,?_,h2,KeysS.rm c h3,Reps.rm c ws n h4⟩;cases fz with
  |true=>obtain⟨o,h1⟩:=h1;exact⟨o,c.rm_some h1 fun o z=>by injection z with _ z;exact q1f rfl z⟩
  |false=>exact c.rm_some h1 fun o z=>q1f rfl z
 |.fn _ _ _,v,n,_=>by cases n
theorem Reps.rm(c:CelsIn G cs):∀(ws:List W){xs:List V},noFns ws=true->Reps K G ws xs->Reps K (rmC G cs) ws xs
 |[],xs,_,h=>h
 |w::ws,xs,n,h=>by
  obtain⟨x,r,rfl,h1,h2⟩:=h
  have n':noFn w=true/\noFns ws=true:=by
   have:(noFn w&&noFns ws)=true:=n
   rwa [w0s]at this
  exact⟨x,r,rfl,Rep.rm c w n'.1 h1,Reps.rm c ws n'.2 h2⟩
end
end
section
variable{G' H':Hp}{cs:Cs}
theorem x1g(h:∀b o,cs.lookup b=some o->H b=none):Same H (addC H cs):=fun b u e=>by
 cases q:cs.lookup b with
 |some o=>rw[h b o q]at e;cases e
 |none=>rw[q0v q];exact e
theorem q6q(h:Same G H):Same (addC G cs) (addC H cs):=fun b u e=>by
 cases q:cs.lookup b with
 |some o=>rw[q24 q]at e |-;exact e
 |none=>rw[q0v q]at e |-;exact h b u e
theorem x1h(h:Same G H):Same (rmC G cs) (rmC H cs):=fun b u e=>by
 obtain⟨e1,e2⟩:=y0p e;rw[q1m e2];exact h b u e1
theorem Grow.lam(ch:CelsIn H cs)(cg:CelsIn G cs)(e1:Same (rmC H cs) H')(e2:Same (rmC G cs) G')(e3:Same G' H')(e4:∀a,rmC H cs a≠none->G' a=rmC G cs a):Grow G H (addC G' cs) (addC H' cs) where
 hh:=fun b u e=>by
  cases q:cs.lookup b with
  |some o=>rw[q24 q];rw[ch b o q]at e;exact e
  |none=>rw[q0v q];exact e1 b u (by rw[q1m q];exact e)
 gg:=fun b u e=>by
  cases q:cs.lookup b with
  |some o=>rw[q24 q];rw[cg b o q]at e;exact e
  |none=>rw[q0v q];exact e2 b u (by rw[q1m q];exact e)
 sub:=q6q e3
 new:=fun a ha=>by
  cases q:cs.lookup a with
  |some o=>rw[q24 q,cg a o q]
  |none=>
   rw[q0v q,e4 a (by rw[q1m q];exact ha),q1m q]
theorem Grow.nocells(g:Grow (addC G cs) (addC H cs) G' H')(hn:∀b o,cs.lookup b=some o->H b=none)(sg:Same G H):Grow G H (rmC G' cs) (rmC H' cs) where
 hh:=fun b u e=>by
  cases q:cs.lookup b with
  |some o=>rw[hn b o q]at e;cases e
  |none=>rw[q1m q];exact g.hh b u (by rw[q0v q];exact e)
 gg:=fun b u e=>by
  cases q:cs.lookup b with
  |some o=>have:=sg b u e;rw[hn b o q]at this;cases this
  |none=>rw[q1m q];exact g.gg b u (by rw[q0v q];exact e)
 sub:=x1h g.sub
 new:=fun a ha=>by
  cases q:cs.lookup a with
  |some o=>exact absurd (hn a o q) ha
  |none=>rw[q1m q,g.new a (by rw[q0v q];exact ha),q0v q]
end
def exprFR:R W->FR
 |.ok w _=>.ok (.fr w)
 |.ex c _=>.ex c
 |.no=>.no
def spV(K:Fg)(lams:Nat->Option Lm)(r:Nat->List W->FR):V->List V->Hp->VK->XK->Prop:=fun x vs H Q _=>∃G i l caps ws w,Same G H/\Rep K G (.fn i l caps) x/\Reps K G ws vs/\noFns ws=true/\noFns caps=true/\lams i=some l /\
 r i (ws++caps)=.ok (.fr w)/\∀G' H' v,Grow G H G' H'->Rep K G' w v->Q v H'
structure LamOk(P:Program)(w:World)(K:Fg)(mg:Str->Option Value)(base:Heap)(n:Nat)(l:Lm)(ps:List Str)(F:List W->FR):Prop where
 sc:LamScope ps l.nf l.scope
 bind:∀(cl:List (Str×Addr))(pm:Value)(c':Addr)(ctv:Value)(us:List Value),us.length=ps.length->bindArgs (PySem.W.kla_fn "<lambda>" l.qual l.params l.body l.scope cl pm (.ref c') ctv) ⟨us,[]⟩=pure (ps.zip us)
 len:∀ws,F ws≠.no->ws.length=ps.length+l.nf.length
 body:∀ws,F ws≠.no->∀(Z:Zt)(f:Addr)(cd:Value)(cl:List (Str×Addr))(A:Around)(outer:List Env)(s:Shared)(H:Hp),Room n (A.deeper (lamEnv l.qual l.scope f cd cl s)) ->
  ∃d,DE Z (cxLam P w K mg base (ps++l.nf) l.qual l.scope f cd cl A outer s H) (fun _=>E0) l.body d/\exprFR (d (ws.map .fr))=F ws
theorem y8h{P:Program}{w:World}{mg:Str->Option Value}{base:Heap}{n:Nat}{lams:Nat->Option Lm}(h:∀i l,lams i=some l->∃ps,LamOk P w K mg base n l ps (r i)):
  FnV P w K mg base (CX1 P w) (n+1) (spV K lams r):=by
 rintro x vs H Q E ⟨G,i,l,caps,ws,w',sg,rf,rv,nw,nc,hl,hr,q⟩;obtain⟨ps,L⟩:=h i l hl;obtain⟨f,cl,zs,cs,rfl,⟨pm,c',ctv,ef⟩,FC,rz⟩:=rf;have hn:r i (ws++caps)≠.no:=by rw[hr];exact fun z=>nomatch z
 have hlen:=L.len _ hn;have hz:zs.length=l.nf.length:=FC.len;have hcl:caps.length=l.nf.length:=by rw[<- rz.length];exact hz
 have hwl:ws.length=ps.length:=by rw[w0l,hcl]at hlen;omega
 have hvl:vs.length=ps.length:=by rw[rv.length];exact hwl
 have cg:CelsIn G cs:=fun b o e=>(FC.cel b o e).1
 have ch:CelsIn H cs:=fun b o e=>sg _ _ (cg b o e)
 refine⟨f,_,_,_,_,_,rfl,sg _ _ ef,fun A outer s us hR e0 ru=>?_⟩
 have hul:us.length=ps.length:=by rw[<- ru.length];exact hvl
 have FC2:LamCells cl l.nf l.scope zs s.heap cs:=⟨FC.inj,FC.has,FC.all,fun c o e=>⟨(show s.heap.get? c=some o/\_ from e0.hok c _ (ch c o e)).1,(FC.cel c o e).2⟩,FC.val⟩
 obtain⟨d,hd,he⟩:=L.body _ hn ⟨rmC H cs,rmC G cs,[]⟩ f (.ref c') cl A outer s (rmC H cs) (hR.deeper _);refine lam_run hR e0 (sg _ _ ef) L.sc ch FC2 (L.bind cl pm c' ctv us hul) hvl hz ru hd ?_;have sg':Same (rmC G cs) (rmC H cs):=x1h sg;have rr:Reps K (rmC G cs) (ws++caps) (vs++zs):=(Reps.rm cg ws nw rv).append (Reps.rm cg caps nc rz);have rel:=q46 (N:=ps++l.nf) sg' rr
 have e1:L2.start (ps++l.nf) (vs++zs)=vs.map some++zs.map some:=by
  unfold L2.start;rw[show(ps++l.nf).length-(vs++zs).length=0 by simp[hvl,hz],w4d,w1j,w0m]
 have e2:init (ps++l.nf).length (ws++caps)=(ws++caps).map .fr:=by
  unfold init;rw[show(ps++l.nf).length-(ws++caps).length=0 by simp[hwl,hcl],w4d,w1j]
 rw[e1,e2]at rel;refine⟨rmC G cs,_,rel,?_⟩;cases hde:d ((ws++caps).map .fr)with
 |ok w2 e'=>
  rw[hde,hr]at he;cases he;intro G' v H' r' sG rp hnone
  have hn':∀b o,cs.lookup b=some o->G' b=none:=fun b o z=>by
   cases q2:G' b with
   |none=>rfl
   |some u=>have:=r'.sub b u q2;rw[hnone b o z]at this;cases this
  exact q (addC G' cs) (addC H' cs) v (Grow.lam ch cg (fun b u e=>r'.ent b u e (fun z=>nomatch z)) sG r'.sub r'.gen) (Rep.mono (x1g hn') _ rp)
 |ex c e'=>rw[hde,hr]at he;cases he
 |no=>rw[hde,hr]at he;cases he
section
variable{lams:Nat->Option Lm}
open Classical in
def callVK(lams:Nat->Option Lm)(r:Nat->List W->FR)(j:Nat)(l:Lm)(caps:List W)(ws:List W)(e1:List S):R W:=
 if lams j=some l/\noFns ws=true/\noFns caps=true then(match r j (ws++caps)with
  |.ok (.fr w)=>.ok w e1
  |_=>.no)else .no
def callV0(lams:Nat->Option Lm)(r:Nat->List W->FR)(dA:Den (List W))(e:List S):Option S->R W
 |some (.fr (.fn j l caps))=>(dA e).bind fun ws e1=>callVK lams r j l caps ws e1
 |_=>.no
end
def capsOf:List Nat->List S->Option (List W)
 |[],_=>some []
 |j::js,e=>match e[j]? with
  |some (.fr w)=>(capsOf js e).map (w::·)
  |_=>none
theorem q9t{σ:L2.St}{e:List S}(r:Rel K Z G σ H e):∀{js:List Nat}{caps:List W},capsOf js e=some caps->∃zs:List V,Reps K G caps zs/\zs.length=js.length/\∀(i j:Nat) z,js[i]?=some j->zs[i]?=some z->σ[j]?=some (some z)
 |[],caps,h=>by
  cases h;exact⟨[],rfl,rfl,fun i j z h _=>by simp at h⟩
 |j::js,caps,h=>by
  unfold capsOf at h;split at h
  ·rename_i w hw;obtain⟨cs,h1,rfl⟩:=w0e.mp h;obtain⟨zs,r1,r2,r3⟩:=q9t r h1;obtain⟨v,v1,v2⟩:=r.fr hw;refine⟨v::zs,⟨v,zs,rfl,v2,r1⟩,by simp[r2],fun i j' z g1 g2=>?_⟩
   cases i with
   |zero=>
    simp only[w1v,Option.some.injEq]at g1 g2;subst g1;subst g2;exact v1
   |succ i=>exact r3 i j' z (by simpa using g1) (by simpa using g2)
  ·cases h
def noE:Expr:=.Name "" ⟨0,0,0,0⟩
def stAt(i:Nat)(st:Stmt):Stmt:=(defBody st).getD i (.Pass ⟨0,0,0,0⟩)
def stVal:Stmt->Expr
 |.Assign _ v _=>v
 |.Return (some v) _=>v
 |.For _ it _ _ _=>it
 |.Expr v _=>v
 |_=>noE
def lamParams:Expr->Arguments
 |.Lambda p _ _ _=>p
 |_=>default
def lamBody:Expr->Expr
 |.Lambda _ b _ _=>b
 |_=>noE
def lamScope:Expr->Scope
 |.Lambda _ _ s _=>s
 |_=>default
def MakK(K:Fg)(x:Str)(cdv:Value):Prop:=∃c P a,cdv=.ref c/\codeHdIn K c P=true/\(a,markO P ((x++".<locals>.")++"<lambda>"))∈K
section
variable{P:Program}{w:World}{mg:Str->Option Value}{base:Heap}
theorem z0q{CX:CXT}{N:List Str}{scope:Scope}{f:Addr}{cdv:Value}{A:Around}{outer:List Env}{s:Shared}{E:XK}(h:MakK K x cdv)(b:BMain base mg):Maker (cxOf CX P w K mg base N x scope f cdv A outer s H E):=by
 obtain⟨c,P,a,rfl,h1,h2⟩:=h;exact⟨⟨c,P,a,rfl,h1,h2⟩,b⟩
theorem fnV0{lams:Nat->Option Lm}(h:∀i ws,r i ws=.no:=by intro _ _;rfl):FnV P w K mg base (CX1 P w) 0 (spV K lams r):=by
 rintro x vs H Q E ⟨G,i,l,caps,ws,w',sg,rf,rv,nw,nc,hl,hr,q⟩;rw[h]at hr;cases hr
end
def markT(K:Fg)(tabs:List (Addr×Str)):Fg:=K++tabs.map fun p=>(mainGlobals,markO p.1 p.2)
section
variable{tabs:List (Addr×Str)}{a:Addr}{o:Obj}
theorem q1a(h:K.lookup a=some o):(markT K tabs).lookup a=some o:=by
 unfold markT;rw[w4i,h];rfl
theorem q87(hG:(K.lookup mainGlobals).isSome=true):(markT K tabs).lookup a=K.lookup a:=by
 unfold markT;rw[w4i];cases q:K.lookup a with
 |some o=>rfl
 |none=>
  have ne:a≠mainGlobals:=fun z=>by rw[<- z,q]at hG;cases hG
  have:∀l:List (Addr×Str),(l.map fun p=>(mainGlobals,markO p.1 p.2)).lookup a=none:=fun l=>by
   induction l with
   |nil=>rfl
   |cons p l ih=>rw[w0v,w0y,beq_eq_false_iff_ne.mpr ne];exact ih
  rw[this];rfl
theorem in_m{h:Heap}(hG:(K.lookup mainGlobals).isSome=true)(X:K.In h):(markT K tabs).In h:=fun b u e=>X b u (by rw[<- q87 (tabs:=tabs) hG];exact e)
theorem no_m(hG:(K.lookup mainGlobals).isSome=true)(n:NoTup K):NoTup (markT K tabs):=fun b u e=>n b u (by rw[<- q87 (tabs:=tabs) hG];exact e)
theorem ns_m{r:Option Value}(h:PySem.W.nsIn K a x=some r):PySem.W.nsIn (markT K tabs) a x=some r:=by
 unfold PySem.W.nsIn at h |-
 cases q:K.lookup a with
 |none=>rw[q]at h;cases h
 |some o=>rw[q1a q];rw[q]at h;exact h
theorem q1j{cd:Value}(h:PySem.W.codeIn K cd x=true):PySem.W.codeIn (markT K tabs) cd x=true:=by
 cases cd with
 |ref a=>
  unfold PySem.W.codeIn at h |-
  dsimp only at h |-
  cases q:K.lookup a with
  |none=>rw[q]at h;cases h
  |some o=>rw[q1a q];rw[q]at h;exact h
 |_=>cases h
theorem q1k(t:funAt K a=true):keepIn (markT (dropT K) tabs) (.ref a)=true:=by
 have h:=t;unfold funAt at t
 rw[w0s]at t;obtain⟨t1,t2⟩:=t;have t1:tupAt K a=false:=by simpa using t1
 unfold keepIn;dsimp only;split at t2
 ·rename_i q;rw[q1a (q0p q t1)]
 ·cases t2
theorem x4o(h:noMark K=true)(hd:tabs.all (fun p=>tabs.lookup p.1==some p.2)=true):∀a q P,(a,markO P q)∈markT K tabs->tabs.lookup P=some q:=fun a q P m=>by
 rcases w1a.mp m with m|m
 ·have:=w0o.mp h _ m;cases this
 ·obtain⟨p,hp,e⟩:=w0z.mp m;have e1:markO p.1 p.2=markO P q:=(Prod.mk.inj e).2;have e2:p.2=q:=by injection e1 with h1;injection h1
  have e3:p.1=P:=by
   injection e1 with _ _ h3
   injection h3 with h4
   have:=congrArg (fun a:Array Value=>a[0]?) h4
   simpa using this
  have:=w0o.mp hd p hp;rw[<- e2,<- e3]
  simpa using this
theorem x2c(h:noMark K=true):noMark (dropT K)=true:=w0o.mpr fun p hp=>w0o.mp h p (w3u.mp hp).1
theorem tabs_none(hG:(K.lookup mainGlobals).isSome=true)(h:tabs.all (fun p=>(K.lookup p.1).isNone)=true):∀P q,tabs.lookup P=some q->(markT K tabs).lookup P=none:=fun P q e=>by
 rw[q87 hG];have:=w0o.mp h _ (mem_look e)
 simpa using this
where
 mem_look:∀{l:List (Addr×Str)}{P:Addr}{q:Str},l.lookup P=some q->(P,q)∈l
 |[],_,_,e=>by cases e
 |(b,t)::l,P,q,e=>by
  rw[w0y]at e
  by_cases hb:(P==b)=true
  ·rw[hb]at e;cases e;rw[eq_of_beq hb];exact .head _
  ·rw[w1h.mpr hb]at e;exact .tail _ (mem_look e)
theorem y32{h:Heap}(X:K.In h)(hT:∀P∈tabs.map (·.1),h.get? P=some (tabObj #[]))(hc:∀p∈tabs,∃c,codeHdIn K c p.1=true):∀P q,tabs.lookup P=some q->h.get? P=some (tabObj #[])/\isCodeTable h P:=fun P q e=>by
 have m:=tabs_none.mem_look e;obtain⟨c,hc⟩:=hc _ m;have g:=hT P (w0z.mpr ⟨_,m,rfl⟩);exact⟨g,((PySem.W.codeHd_of_K X hc).tab g).isCodeTable⟩
end
section
variable{e:List S}{ws caps:List W}{lams:Nat->Option Lm}{d:Den W}{i j:Nat}{l:Lm}{w:W}{F:List W->FR}{js:List Nat}
theorem x6v:callV0 lams r dA e (some (.fr (.fn j l caps)))=(dA e).bind fun ws e1=>callVK lams r j l caps ws e1:=rfl
theorem x9j:capsOf [] e=some []:=rfl
end
end D
namespace L2
open PySem PySem.Spec PyProof.Rows
end L2
namespace D
open PySem L2
end D
namespace L2
open PySem PySem.Spec PyProof.Rows
section
open HT
variable{prog:Program}{w:World}{A:Around}{E:Value->Shared->Prop}{s:Shared}
theorem q57{t sl:Addr}{items:Array Value}{vl vu:Value}{lo hi:Option Int}{Q:Value->Shared->Prop}(ht:IsTup s.heap t items)(hs:s.heap.IsSliceOf sl vl vu .none)(pl:IsPart vl lo)(pu:IsPart vu hi)
  (hw:sIx items.size 0 lo=0/\sIx items.size items.size hi=items.size)(h:Q (.ref t) s):wpAny (model prog w) A (getItem (.ref t) (.ref sl)) Q E s:=by
 obtain⟨os,hos,hcs,hds⟩:=id hs;have hTs:s.TypeIs (.ref sl) "slice":=⟨os,hos,hcs⟩;unfold getItem;try with_reducible refine wpAny_holding ?_
 first|refine wpAny_bind (wpAny_pure ?_)|skip
 refine wpAny_bind (wpAny_sequenceKey ht.typeIs (by decide) ?_)
 refine wpAny_bind (wpAny_callSpecial?_slot (name:=Str.ofString "__getitem__") ht.typeIs PyProof.Rows.slot_tuple_getitem
  (wpAny_call_entry PyProof.Rows.slot_tuple_getitem ht.typeIs entry_tuple_getitem ?_ (args_tuple_getitem _ _)))
 show wpAny _ _ (Builtin.Tuple.tupleItemsOf (.ref t) >>= _) _ _ s;refine wpAny_bind (tupleItemsOf_ ht ?_);refine wpAny_bind (wpAny_typeOf hTs ?_);rw[if_pos (by decide)];refine wpAny_bind (q4z hs pl pu ?_);show wpAny _ _ (if(((sIx items.size 0 lo:Nat):Int)==0&&(1:Int)==1&&(sIx items.size items.size hi-sIx items.size 0 lo)==items.size)=true then _ else _) _ _ s;rw[if_pos (by rw[hw.1,hw.2];simp)];refine wpAny_bind (wpAny_bind (wpAny_typeOf ht.typeIs (wpAny_pure ?_)));rw[if_pos (by decide)];exact wpAny_bind (wpAny_rule (wpAny_pure ⟨_,rfl,wpAny_pure h⟩))
end
theorem y33{X:Cx}:SlR X (fun x lo hi H Q=>∃a xs,x=.ref a/\SqT X.K H a xs/\(HT.sIx xs.length 0 lo=0/\HT.sIx xs.length xs.length hi=xs.length)/\Q x H):=by
 intro pins s σ H x v vl vu lo hi sl Q I rx hs pl pu h;obtain⟨a,xs,rfl,hx,hw,q⟩:=h;cases rx;obtain⟨its,r,ht,hz⟩:=I.tuple hx;have hlen:its.toArray.size=xs.length:=by rw[w0c];exact r.length.symm
 refine⟨"tuple", _,PyProof.Rows.slot_tuple_getitem.lookup,ht.typeIs,?_⟩;exact q57 ht hs pl pu (by rw[hlen];exact hw) ⟨.ref a,H,I,rfl,q⟩
def rSlS:V->Option Int->Option Int->Hp->VK->Prop:=fun x lo hi H Q=>∃z,x=.str z/\z.length<=sizeLine/\Q (.str (Txt.slice z lo hi)) H
theorem x25{v:Value}{o:Option Int}(p:IsPart v o):∃q:Option (Int×Tok),v=partValue q/\q.map (·.1)=o:=by
 cases p with
 |none=>exact⟨none,rfl,rfl⟩
 |int i t=>exact⟨some (i,t),rfl,rfl⟩
theorem y8i{X:Cx}:SlR X rSlS:=by
 intro pins s σ H x v vl vu lo hi sl Q I rx hs pl pu h;obtain⟨z,rfl,hz,q⟩:=h;obtain⟨t,rfl⟩:=rx;obtain⟨ql,rfl,e1⟩:=x25 pl;obtain⟨qu,rfl,e2⟩:=x25 pu;refine⟨"str", _,F.slot_str_getitem.lookup,typeIs_str _ _ _,?_⟩;refine wpAny_getItem_str_slice (l:=ql) (u:=qu) (st:=none) hs rfl ?_
 have e3:sliceMade z t ql qu none=if((1:Int)==1&&(Builtin.Str.strSliceIndices lo hi 1 z.length).length==z.length)=true then .val (.str z t)else .str ⟨((Builtin.Str.strSliceIndices lo hi 1 z.length).filterMap (z.cps[·]?)).toArray⟩:=by
  unfold sliceMade slicePicked;rw[e1,e2];rfl
 rw[e3];have hq:Q (.str (Txt.slice z lo hi)) H:=q;have hl:=Txt.slice_le z lo hi;unfold Txt.slice at hq hl;split
 ·rename_i c;rw[if_pos c]at hq;exact⟨.str z,H,I,⟨t,rfl⟩,hq⟩
 ·rename_i c;rw[if_neg c]at hq hl;exact⟨w1c hl hz,.str _,H,I.tok _,⟨_,rfl⟩,hq⟩
end L2
namespace D
open PySem L2
def slX:W->Option Int->Option Int->Option W
 |.str z,lo,hi=>if z.length<=16777216 then some (.str (Txt.slice z lo hi))else none
 |.tup ws,lo,hi=>if ¬(HT.sIx ws.length 0 lo=0/\HT.sIx ws.length ws.length hi=ws.length)then some (.tup (cutW ws lo hi))else some (.tup ws)
 |w,lo,hi=>slW w lo hi
def dSlX(d:Den W)(dl dh:Den (Option Int)):Den W:=fun e=>(d e).bind fun w e1=>(dl e1).bind fun lo e2=>(dh e2).bind fun hi e3=>ofOpt (slX w lo hi) e3
section
variable{X:Cx}{Z:Zt}{EE:L2.St->XK}{e a b:Expr}{da db:Den W}{pos:Pos}
theorem q2a{lo hi:Option Expr}{dl dh:Den (Option Int)}{p2:Pos}(he:DE Z X EE e da)(hl:DO Z X EE lo dl)(hh:DO Z X EE hi dh):DE Z X EE (.Subscript e (.Slice lo hi none p2) pos) (dSlX da dl dh):=by
 refine PE.mono (x7r (((sl_list.or y5o).or y33).or y8i) he hl hh) ?_;rintro σ H Q ⟨G,e,rel,h⟩;simp only[dSlX,R.holds_bind,ofOpt_holds]at h;refine⟨G,e,rel,h.imp (fun w e1 h G1 v1 H1 r1 s1 p1=>?_) fun _ _ h=>h⟩
 refine⟨G1,e1,r1,h.imp (fun lo e2 h G2 H2 r2 s2=>?_) fun _ _ h=>XH.trans s1 h⟩
 refine⟨G2,e2,r2,h.imp (fun hi e3 h G3 H3 r3 s3=>?_) fun _ _ h=>XH.trans (s1.trans s2) h⟩
 obtain⟨y,hf,h⟩:=h;have p3:=Rep.mono (s2.trans s3) w p1;have s03:=(s1.trans s2).trans s3;cases w with
 |str z=>
  simp only[slX]at hf;split at hf
  ·rename_i hz;cases hf;cases p3;exact .inr ⟨z,rfl,by rw[sizeLine_eq];exact hz,h _ _ _ r3 s03 rfl⟩
  ·cases hf
 |lst ws=>
  cases hf;obtain⟨a,xs,rfl,q,r⟩:=p3;refine .inl (.inl (.inl ⟨a,xs,rfl,r3.sub.seq q,fun p hp=>?_⟩))
  have g:=Grow.laid r3.sub hp (.lst (cutV xs lo hi));exact h _ _ _ (r3.grow g) (s03.trans g.gg) ⟨p,_,rfl,SqL.of q0d,Reps.mono g.gg _ (r.cut lo hi)⟩
 |tup ws=>
  simp only[slX]at hf;obtain⟨a,xs,rfl,q,r⟩:=p3;split at hf
  ·rename_i hw;cases hf;refine .inl (.inl (.inr ⟨a,xs,rfl,r3.sub.tup q,by rw[r.length];exact hw,fun p hp=>?_⟩))
   have g:=Grow.laid r3.sub hp (.tup (cutV xs lo hi));exact h _ _ _ (r3.grow g) (s03.trans g.gg) ⟨p,_,rfl,SqT.of q0d,Reps.mono g.gg _ (r.cut lo hi)⟩
  ·rename_i hw;cases hf;exact .inl (.inr ⟨a,xs,rfl,r3.sub.tup q,by rw[r.length];exact Decidable.not_not.mp hw,h _ _ _ r3 s03 ⟨a,xs,rfl,q,r⟩⟩)
 |_=>cases hf
end
section
variable{e:List S}{ws:List W}{lo hi:Option Int}{d da db:Den W}{dA:Den (List W)}{js:List Nat}{c:Den Bool}{kvs:List (Key×Sv)}{w kw:W}
theorem y8j{dl dh:Den (Option Int)}:dSlX d dl dh e=(d e).bind fun w e1=>(dl e1).bind fun lo e2=>(dh e2).bind fun hi e3=>ofOpt (slX w lo hi) e3:=rfl
theorem z0r:slX (.lst ws) lo hi=some (.lst (cutW ws lo hi)):=rfl
theorem z0s(h:¬(HT.sIx ws.length 0 lo=0/\HT.sIx ws.length ws.length hi=ws.length)):slX (.tup ws) lo hi=some (.tup (cutW ws lo hi)):=if_pos h
theorem z0t(h:HT.sIx ws.length 0 lo=0/\HT.sIx ws.length ws.length hi=ws.length):slX (.tup ws) lo hi=some (.tup ws):=if_neg (not_not_intro h)
end
end D
namespace L2
open PySem PySem.Spec PyProof.Rows
namespace RevT
end RevT
variable{A:Around}{X:Cx}{us:List Value}{k:Nat}{prog:Program}{s:Shared}{sp:V->List V->Hp->VK->XK->Prop}{E:Value->Shared->Prop}{w:World}
theorem y34{P:Program}{sh:Sh}(hu:A.units+20<cLine):(treeKind P w sh).room A:=by
 show A.units+8<cLine;omega
def tDT1(sh:Sh)(tk tv:TE):TE:=fun σ H Q=>∀p,H p=none->tk σ (upd H p (.dT sh [] [])) fun k H1=>tv σ H1 fun v H2=>∃x b,k=.ref b/\(KRep H2 x (.ref b)/\Conf x sh/\x.depth<=7)/\H2 p=some (.dT sh [] [])/\Q (.ref p) (upd H2 p (.dT sh [(x,v)] [b]))
section
variable{ek ev:Expr}{tk tv:TE}{pos:Pos}{sh:Sh}
theorem y8k(hu:X.A.units+20<cLine)(hk:PE X ek tk)(hv:PE X ev tv):PE X (.Dict [some ek] [ev] pos) (tDT1 sh tk tv):=by
 intro pins s σ H Q I h;refine wpAny_Dict_any rfl rfl (by simp) (by simp) ?_;have fr:H s.heap.objs.size=none:=I.hok.fresh (w0g _);have I0:=I.laid (a:=s.heap.objs.size) (o:=.dT sh [] []) (t':=s.toks) (fun _ _ q=>Heap.get?_push_of_some _ q) (w0g _) (q7u s.heap I.big)
 show wpAny _ _ (evalPairs [(eval ek X.env,do let x <- eval ev X.env;standAt pos;pure x)]) _ _ _;refine evalPairs_cons (thn (hk pins _ σ _ _ I0 (h _ fr)) fun ku s1 ⟨k,H1,I1,rk,q1⟩=>?_)
 refine wpAny_bind (thn (hv pins s1 σ H1 _ I1 q1) fun vu s2 ⟨v,H2,I2,rv,x,b,e,eb,hp,q⟩=>wpAny_bind (wpAny_standAt (wpAny_pure (evalPairs_nil ?_))))
 subst e;obtain rfl:ku=Value.ref b:=rk;obtain⟨z,hd,xs,rel,ka,dd⟩:=x4l I2.hok hp;unfold storeAll;rw[w2d];have hxs:xs=[]:=by cases xs with|nil=>rfl|cons y ys=>exact absurd (Paired.length rel) (by simp)
 subst hxs;refine wpAny_bind (wpAny_bind (wpAny_dictSet_heap (hsz:=w1b _) (y34 hu) (q5s I2.hok eb) dd fun h' dd' hs=>wpAny_pure ?_))
 show wpAny _ _ (forIn ([]:List (Value×Value)) _ _) _ _ _;rw[w3m];obtain⟨q0,es,ep,hq,h2,h3,h4,_,h5⟩:=dd';refine wpAny_pure ⟨.ref s.heap.objs.size,_,q66 I2 (by rw[hp];exact True.intro) hs ⟨q0,hq⟩ (ob:=.dT sh [(x,v)] [b]) ⟨by rw[sizeLine_eq];simp,hd,_,(rel.put x eb rv).keeps fun c u ys ec=>?_,rel.putAd ka x,q0,es,ep,hq,h2,h3,h4,h5⟩,rfl,q⟩
 rw[q0c (q0x ec hp (fun z=>by subst z;exact ys))]
 exact ec
end
open PySem PySem.Spec PyProof.Rows
theorem q6r(a v:Value):argsOk "list.sort" ⟨[a],[(Str.ofString "key", v)]⟩:=by unfold argsOk;kernel_rfl
theorem q8m(a v:Value):argsOk "sorted" ⟨[a],[(Str.ofString "key", v)]⟩:=by unfold argsOk;kernel_rfl
def keyStep(a:Addr)(f ks x:Value)(items:Array Value):Sem (ForInStep PUnit):=do
 match <- (call f [x]).attempt with
 |.ok k=>do
  Builtin.List.listUpdate ks (·.push k)
  pure (ForInStep.yield PUnit.unit)
 |.error e=>do
  rule "list.sort.key-raised"
  let made <- Builtin.List.listItems ks
  Builtin.List.listUpdate ks fun _=>#[]
  letGo made.toList.reverse [e]
  Builtin.List.listUpdate (.ref a) fun _=>items
  throw e
theorem q97(a f:Addr):Builtin.«list.sort» ⟨[.ref a],[(Str.ofString "key", .ref f)]⟩=(do
  let items <- Builtin.List.listItems (.ref a)
  Builtin.List.listUpdate (.ref a) fun _=>#[]
  let before <- seqEpoch a
  let held <- newTuple items.toList
  let keyStore <- newList []
  holding [held,keyStore] do
   rule "list.sort.key"
   let _ <- forIn items PUnit.unit fun x (_:PUnit)=>keyStep a (.ref f) keyStore x items
   let keys <- Builtin.List.listItems keyStore
   let kind <- if items.size<2 then pure general' else keyKind' keys
   let ((),s) <- (if items.size<2 then pure ()else sortRuns').run (SortSt.mk' kind (keys.zip items) #[] 7 none)
   let sorted:=(arrOf s).map (·.2)
   Builtin.List.listUpdate keyStore fun _=>#[]
   letGo ((arrOf s).map (·.1)).toList (failedOf s).toList
   let touched:=(<- seqEpoch a) != before
   Builtin.List.listUpdate (.ref a) fun _=>sorted
   if let some e:=failedOf s then rule "list.sort.comparison-raised";throw e
   if touched then rule "list.sort.modified";raiseError "ValueError" "list modified during sort"
   ret .none):=by
 first|rfl|(fail "not by rfl")
theorem y35{pins:List (Addr×Obj)}{σ:St}{H:Hp}{f:Addr}{vs:List V}{cs:Cs}{Q:VK}
  (F:FnV X.prog X.w X.K X.mg X.base (CX1 X.prog X.w) k sp)(hr:Room k A)(hA:A.frames=X.A.frames)(I:Inv X pins σ H s)(hc:∀b o,cs.lookup b=some o->H b=none/\s.heap.get? b=some o)
  (hv:∀b o,cs.lookup b=some o->b∉frs X.stack)(hn:∀b o,cs.lookup b=some o->X.base.get? b=none)(r:Vals vs us)
  (h:sp (.ref f) vs (addC H cs) (fun v H'=>Q v (rmC H' cs)) fun _ _ _=>False):
  wpAny (model X.prog X.w) A (call (.ref f) us) (fun u s'=>(∀b o,cs.lookup b=some o->s'.heap.get? b=some o)/\EP X pins σ (fun v H'=>(∀b o,cs.lookup b=some o->H' b=none)/\Q v H') u s') E s:=by
 have e0:=I.env0
 have out:∀b,H b=none->(∀o,cs.lookup b≠some o)->addC H cs b=none:=fun b n z=>by
  cases q:cs.lookup b with
  |some o=>exact absurd q (z o)
  |none=>rw[q0v q];exact n
 have e1:Env0 X.prog X.w X.K X.mg X.base A X.stack s (addC H cs):=by
  refine⟨hA.trans e0.frames,e0.mod,fun b o q=>⟨(e0.bs b o q).1,out b (e0.bs b o q).2 fun o' z=>?_⟩,e0.bsz,e0.funs,fun b hb=>out b (e0.frf b hb) fun o z=>?_,e0.hok.add hc,e0.bare,fun a q P m=>?_⟩
  ·rw[hn b o' z]at q;cases q
  ·exact hv b o z hb
  ·obtain⟨ps,e,p⟩:=e0.tab a q P m;refine⟨ps,?_,p⟩;cases z:cs.lookup P with
   |some o=>rw[(hc P o z).1]at e;cases e
   |none=>rw[q0v z];exact e
 obtain⟨f',oc,od,fd,sl,u,ex,ef,run⟩:=F _ _ _ _ _ h;cases ex;refine wpAny_call (codeAny_mono (run A X.stack s us hr e1 r) fun r s' hq=>?_)
 cases r with
 |error e=>
  obtain⟨_,_,_,_,_,_,_,_,_,_,hE⟩:=hq;exact hE.elim
 |ok fl=>
  cases fl with
  |ret u=>
   obtain⟨v,H',os,bare,un,hok,rv,q⟩:=hq;have CI:CelsIn H' cs:=fun b o z=>un.frzs b o _ (q24 z)
   exact⟨fun b o z=>(show s'.heap.get? b=some o/\_ from hok b _ (CI b o z)).1,I.after ⟨v,rmC H' cs,os,bare,un.nocells hok hc,hok.rm CI,rv,fun b o z=>q42 z,q⟩⟩
  |next=>exact False.elim hq
  |brk=>exact False.elim hq
  |cont=>exact False.elim hq
def keysT(sp:V->List V->Hp->VK->XK->Prop)(f:V)(cs:Cs)(l:Addr)(o:Obj)(ks:Addr)(K:Hp->Prop):List Int->List Int->Hp->Prop
 |[],ns,H=>K H
 |i::is,ns,H=>sp f [.int i] (addC H cs) (fun v H'=>∃n,v=.int n/\rmC H' cs l=some (.frz o (.lst []))/\rmC H' cs ks=some (.lst (ns.map V.int))/\keysT sp f cs l o ks K is (ns++[n]) (upd (rmC H' cs) ks (.lst ((ns++[n]).map V.int)))) fun _ _ _=>False
def CelsAt(cs:Cs)(H:Hp)(h:Heap):Prop:=∀b o,cs.lookup b=some o->H b=none/\h.get? b=some o
section
variable{pins:List (Addr×Obj)}{σ:St}{f l ks:Addr}{cs:Cs}{o:Obj}{K:Hp->Prop}
theorem q9u(F:FnV X.prog X.w X.K X.mg X.base (CX1 X.prog X.w) k sp)(hr:Room k A)(hA:A.frames=X.A.frames)(hv:∀b o,cs.lookup b=some o->b∉frs X.stack)(hn:∀b o,cs.lookup b=some o->X.base.get? b=none)
  (hlk:l≠ks)(items:Array Value):∀(is:List Int)(us:List Value)(ns:List Int)(s:Shared)(H:Hp),Vals (is.map V.int) us->Inv X pins σ H s->CelsAt cs H s.heap->H l=some (.frz o (.lst []))->H ks=some (.lst (ns.map V.int))->ns.length+is.length<=1000->keysT sp (.ref f) cs l o ks K is ns H ->
  wpAny (model X.prog X.w) A (forIn us PUnit.unit fun x (_:PUnit)=>keyStep l (.ref f) (.ref ks) x items) (fun _ s'=>∃(H':Hp)(ns':List Int),Inv X pins σ H' s'/\H' l=some (.frz o (.lst []))/\H' ks=some (.lst (ns'.map V.int))/\ns'.length=ns.length+is.length/\K H') E s
 |[],us,ns,s,H,r,I,hc,hl,hk,hz,h=>by
  cases r;rw[w3m];exact wpAny_pure ⟨H,ns,I,hl,hk,rfl,h⟩
 |i::is,us,ns,s,H,r,I,hc,hl,hk,hz,h=>by
  cases r with
  | @cons _ u _ us r rr=>
   rw[w2d];refine wpAny_bind ?_;unfold keyStep;refine wpAny_bind (wpAny_attempt ?_);refine wpAny_mono (y35 (cs:=cs) (Q:=fun v H'=>∃n,v=.int n/\H' l=some (.frz o (.lst []))/\H' ks=some (.lst (ns.map V.int))/\keysT sp (.ref f) cs l o ks K is (ns++[n]) (upd H' ks (.lst ((ns++[n]).map V.int)))) F hr hA I hc hv hn (.cons r .nil) h) (fun w s1 hq=>?_) (fun _ _ z=>z)
   obtain⟨g1,v,H1,I1,rv,g2,n,rfl,e1,e2,h2⟩:=hq;obtain⟨hz1,its,m,rI,eo⟩:=(show ObjOk X.prog X.w H1 s1.heap ks (.lst (ns.map V.int))from I1.hok ks _ e2);have hil:its.length=ns.length:=by rw[<- rI.length,w0a]
   refine wpAny_bind (listUpdate_at eo rfl ?_ (hsz:=by rw[w0c,sizeLine_eq];omega) (hsz2:=by rw[Array.size_push,w0c,sizeLine_eq];omega))
   obtain⟨m2,eo2⟩:∃m2,(s1.heap.update ks (Obj.mapSeq (·.push w))).get? ks=some {cls:=.type "list", data:=.seq (its++[w]).toArray m2}:=by
    have z:=get?_update_seq eo (·.push w);rw[show its.toArray.push w=(its++[w]).toArray by simp]at z;exact⟨_,z⟩
   have I2:Inv X pins σ (upd H1 ks (.lst ((ns++[n]).map V.int))) {s1 with heap:=s1.heap.update ks (Obj.mapSeq (·.push w))}:=by
    refine I1.write (t':=s1.toks) (by rw[e2];exact True.intro) (.inl rfl) (fun b u hb q=>(Heap.get?_update_other _ _ (Ne.symm hb)).trans q) ⟨_,eo2⟩ (show ObjOk X.prog X.w _ _ _ (.lst _)from⟨by rw[w0a,w0l,sizeLine_eq];simp;omega,its++[w],m2,?_,eo2⟩)
    rw[w0m];exact rI.append (.cons rv .nil)
   refine wpAny_pure ?_;show wpAny _ _ (forIn us PUnit.unit _) _ _ _;refine wpAny_mono (q9u F hr hA hv hn hlk items is us (ns++[n]) _ _ rr I2 (fun b o z=>⟨?_,?_⟩) ?_ q0d (by rw[w0l];simp at hz |-;omega) h2) (fun _ s' hq=>?_) (fun _ _ z=>z)
   ·rw[q0c (fun y=>by subst y;rw[g2 _ _ z]at e2;cases e2)];exact g2 b o z
   ·exact(Heap.get?_update_other _ _ (fun y=>by subst y;rw[g2 _ _ z]at e2;cases e2)).trans (g1 b o z)
   ·rw[q0c hlk];exact e1
   ·obtain⟨H',ns',a1,a2,a3,a4,a5⟩:=hq;exact⟨H',ns',a1,a2,a3,by rw[a4,w0l];simp;omega,a5⟩
def tKeyed(sp:V->List V->Hp->VK->XK->Prop)(f:V)(cs:Cs)(l:Addr)(is:List Int)(H:Hp)(Q:VK):Prop:=
 ∀o ks,upd H l (.frz o (.lst [])) ks=none->(∀o',cs.lookup ks≠some o')->keysT sp f cs l o ks (fun H'=>∀ys:List Int,ys.Perm is->Q (.ref l) (upd (upd H' ks (.lst [])) l (.lst (ys.map V.int)))) is [] (upd (upd H l (.frz o (.lst []))) ks (.lst []))
theorem q9v{is:List Int}(r:Vals (is.map V.int) us):IntsAre us is:=x3w r
theorem q6s:∀{us:List Value}{is:List Int},IntsAre us is->Vals (is.map V.int) us
 |_,_,.nil=>.nil
 |_,_,.cons n t h=>.cons ⟨t,rfl⟩ (q6s h)
theorem x9k{ws:List Value}{is ns:List Int}(hu:IntsAre us is)(hw:IntsAre ws ns)(hl:ws.length=us.length):IntKeys (ws.toArray.zip us.toArray):=by
 intro p hp;have:p∈ws.zip us:=by simpa using hp
 exact hw.all _ (w2u this).1
theorem x9l{ws:List Value}{is:List Int}(hu:IntsAre us is)(hl:ws.length=us.length){xs:Array Keyed}(hp:xs.Perm (ws.toArray.zip us.toArray)):∃ys:List Int,IntsAre (xs.map (·.2)).toList ys/\ys.Perm is:=by
 have h1:xs.toList.Perm (ws.zip us):=by
  have:=Array.perm_iff_toList_perm.mp hp
  simpa using this
 have h2:(xs.toList.map (·.2)).Perm us:=by
  have:=h1.map (·.2)
  rwa [List.map_snd_zip (by omega)]at this
 refine⟨(xs.toList.map (·.2)).map numOf,?_,?_⟩
 ·rw[Array.toList_map];exact intsAre_map _ fun v hv=>hu.all v (h2.mem_iff.mp hv)
 ·have:=h2.map numOf
  rwa [hu.nums]at this
theorem x6w:∀{ws:List Value}{ns:List Int},IntsAre ws ns->2<=ws.length->keyKind' ws.toArray=pure oneType'
 |[],_,_,h=>absurd h (by simp)
 |[_],_,_,h=>absurd h (by simp)
 |_::_::_,_,hJ,_=>keyKind_ints hJ
theorem x9m{Q:VK}{is:List Int}{H:Hp}(F:FnV X.prog X.w X.K X.mg X.base (CX1 X.prog X.w) k sp)(hr:Room k A)(hA:A.frames=X.A.frames)(hv:∀b o,cs.lookup b=some o->b∉frs X.stack)(hn:∀b o,cs.lookup b=some o->X.base.get? b=none)
  (I:Inv X pins σ H s)(hc:CelsAt cs H s.heap)(el:H l=some (.lst (is.map V.int)))(hf:∀o v,X.H₀ l≠some (.frz o v))(h64:is.length<64)(h:tKeyed sp (.ref f) cs l is H Q):
  wpAny (model X.prog X.w) A (Builtin.«list.sort» ⟨[.ref l],[(Str.ofString "key", .ref f)]⟩) (fun fin s'=>fin=.done (.ret .none)/\EP X pins σ Q (.ref l) s') E s:=by
 rw[q97];obtain⟨_,us,m,rU,eo⟩:=(show ObjOk X.prog X.w H s.heap l (.lst (is.map V.int))from I.hok l _ el);have hul:us.length=is.length:=by rw[<- rU.length,w0a]
 have hI:=q9v rU;refine wpAny_bind (listItems_at eo rfl ?_);refine wpAny_bind (listUpdate_at eo rfl ?_ (hsz:=by rw[w0c,sizeLine_eq];omega));obtain⟨e1,eo1⟩:∃e1,(s.heap.update l (Obj.mapSeq fun _=>#[])).get? l=some (seqObj "list" #[] e1):=⟨_,get?_update_seq eo (fun _=>#[])⟩
 have I1:Inv X pins σ (upd H l (.lst [])) {s with heap:=s.heap.update l (Obj.mapSeq fun _=>#[])}:=
  I.write (t':=s.toks) (by rw[el];exact True.intro) (.inl rfl) (fun b u hb q=>(Heap.get?_update_other _ _ (Ne.symm hb)).trans q) ⟨_,eo1⟩ (show ObjOk X.prog X.w _ _ _ (.lst [])from⟨w1b _,[],e1,.nil,eo1⟩)
 have I2:=I1.freezeL (a:=l) (xs:=[]) (o:=seqObj "list" #[] e1) q0d eo1;rw[q80]at I2;refine wpAny_bind (seqEpoch_at eo1 rfl ?_);refine wpAny_bind (wpAny_newTuple ?_ (hsz:=by rw[sizeLine_eq];simp;omega));have I3:=I2.kept (t':=s.toks) (h':=(s.heap.update l (Obj.mapSeq fun _=>#[])).push (seqObj "tuple" us.toArray.toList.toArray 0)) fun b u q=>Heap.get?_push_of_some _ q
 refine wpAny_bind (wpAny_newList ?_);have fr:=I3.hok.fresh (w0g _)
 have I4:=I3.laid (t':=s.toks) (o:=.lst []) (h':=((s.heap.update l (Obj.mapSeq fun _=>#[])).push (seqObj "tuple" us.toArray.toList.toArray 0)).push (seqObj "list" #[] 0)) (fun b u q=>Heap.get?_push_of_some _ q) (w0g _)
  (show ObjOk X.prog X.w _ _ _ (.lst [])from⟨w1b _,[],0,.nil,Heap.get?_push_size _ rfl⟩)
 refine wpAny_holding ?_;refine wpAny_bind (wpAny_rule ?_);rw[List.forIn_toArray]
 have hlk:l≠((s.heap.update l (Obj.mapSeq fun _=>#[])).push (seqObj "tuple" us.toArray.toList.toArray 0)).objs.size:=fun z=>by
  rw[<- z,q0d]at fr;cases fr
 have hks:∀b o,cs.lookup b=some o->b≠l/\b≠((s.heap.update l (Obj.mapSeq fun _=>#[])).push (seqObj "tuple" us.toArray.toList.toArray 0)).objs.size:=fun b o z=>by
  refine⟨fun y=>?_,fun y=>?_⟩
  ·subst y;rw[(hc _ _ z).1]at el;cases el
  ·have:=Heap.lt_size (hc _ _ z).2;rw[y,size_push',Heap.size_update]at this;exact absurd this (w3o.mpr (w4p _))
 refine wpAny_bind (wpAny_mono (q9u (cs:=cs) F hr hA hv hn hlk us.toArray is us [] _ _ rU I4 (fun b o z=>⟨?_,?_⟩) ?_ q0d (by simp;omega) (h _ _ fr fun o' z=>(hks _ o' z).2 rfl)) (fun _ s5 hq=>?_) (fun _ _ z=>z))
 ·rw[q0c (hks b o z).2,q0c (hks b o z).1];exact(hc b o z).1
 ·exact Heap.get?_push_of_some _ (Heap.get?_push_of_some _ ((Heap.get?_update_other _ _ (Ne.symm (hks b o z).1)).trans (hc b o z).2))
 ·rw[q0c hlk];exact q0d
 obtain⟨H5,ns,I5,el5,ek5,hns,q⟩:=hq
 clear I1 I2 I3 I4
 generalize ((s.heap.update l (Obj.mapSeq fun _=>#[])).push (seqObj "tuple" us.toArray.toList.toArray 0)).objs.size=ks at *
 obtain⟨_,ws,mk,rW,ew⟩:=(show ObjOk X.prog X.w H5 s5.heap _ (.lst (ns.map V.int))from I5.hok _ _ ek5);have hwl:ws.length=us.length:=by rw[<- rW.length,w0a,hns,hul];simp
 have hJ:=q9v rW;have eo5:s5.heap.get? l=some (seqObj "list" #[] e1):=(show _/\_ from I5.hok _ _ el5).1;refine wpAny_bind (listItems_at ew rfl ?_)
 have fin:∀xs:Array Keyed,xs.Perm (ws.toArray.zip us.toArray)->wpAny (model X.prog X.w) A (do
   Builtin.List.listUpdate (.ref ks) fun _=>#[]
   letGo (xs.map (·.1)).toList ([]:List Value)
   let touched:=(<- seqEpoch l) != e1
   Builtin.List.listUpdate (.ref l) fun _=>xs.map (·.2)
   if touched then rule "list.sort.modified";raiseError "ValueError" "list modified during sort"
   ret .none) (fun fin s'=>fin=.done (.ret .none)/\EP X pins σ Q (.ref l) s') E s5:=fun xs hp=>by
  obtain⟨ys,hy,py⟩:=x9l hI hwl hp;have hxs:xs.size=us.length:=by rw[hp.size_eq];simp[hwl]
  refine wpAny_bind (listUpdate_at ew rfl ?_ (hsz:=by rw[w0c,sizeLine_eq];omega));obtain⟨e6,ew6⟩:∃e6,(s5.heap.update ks (Obj.mapSeq fun _=>#[])).get? ks=some (seqObj "list" #[] e6):=⟨_,get?_update_seq ew (fun _=>#[])⟩
  have I6:Inv X pins σ (upd H5 ks (.lst [])) {s5 with heap:=s5.heap.update ks (Obj.mapSeq fun _=>#[])}:=
   I5.write (t':=s5.toks) (by rw[ek5];exact True.intro) (.inl rfl) (fun b u hb q=>(Heap.get?_update_other _ _ (Ne.symm hb)).trans q) ⟨_,ew6⟩ (show ObjOk X.prog X.w _ _ _ (.lst [])from⟨w1b _,[],e6,.nil,ew6⟩)
  have el6:upd H5 ks (.lst []) l=some (.frz (seqObj "list" #[] e1) (.lst [])):=by rw[q0c hlk];exact el5
  have eo6:(s5.heap.update ks (Obj.mapSeq fun _=>#[])).get? l=some (seqObj "list" #[] e1):=(Heap.get?_update_other _ _ (Ne.symm hlk)).trans eo5
  have I7:=I6.meltL el6 hf;refine wpAny_bind (wpAny_letGo ?_);refine wpAny_bind (seqEpoch_at eo6 rfl ?_);refine wpAny_bind (listUpdate_at eo6 rfl ?_ (hsz2:=by rw[Array.size_map,hxs,sizeLine_eq];omega));obtain⟨e8,eo8⟩:∃e8,((s5.heap.update ks (Obj.mapSeq fun _=>#[])).update l (Obj.mapSeq fun _=>xs.map (·.2))).get? l=some (seqObj "list" (xs.map (·.2)) e8):=⟨_,get?_update_seq eo6 (fun _=>xs.map (·.2))⟩
  have I8:=I7.write (x:=l) (e:=l) (o:=.lst (ys.map V.int)) (t':=s5.toks) (h':=(s5.heap.update ks (Obj.mapSeq fun _=>#[])).update l (Obj.mapSeq fun _=>xs.map (·.2))) (by rw[q0d];exact True.intro) (.inl rfl) (fun b u hb q=>(Heap.get?_update_other _ _ (Ne.symm hb)).trans q) ⟨_,eo8⟩
   (show ObjOk X.prog X.w _ _ _ (.lst (ys.map V.int))from⟨by rw[w0a,py.length_eq,sizeLine_eq];omega,(xs.map (·.2)).toList,e8,q6s hy,by rw[Array.toArray_toList];exact eo8⟩)
  rw[q80]at I8;simp only[bne_self_eq_false,w1u,if_false];exact wpAny_pure ⟨rfl,.ref l,_,I8,rfl,q ys py⟩
 have hsz:us.toArray.size=us.length:=by simp
 by_cases h2:us.toArray.size<2
 ·rw[if_pos h2,if_pos h2];refine wpAny_bind (wpAny_pure ?_);dsimp only;rw[StateT.run_pure];refine wpAny_bind (wpAny_pure ?_);exact fin (ws.toArray.zip us.toArray) (Array.Perm.refl _)
 ·rw[if_neg h2,if_neg h2];rw[x6w hJ (by omega)];refine wpAny_bind (wpAny_pure ?_);have hza:(ws.toArray.zip us.toArray).size=us.length:=by simp[hwl]
  refine wpAny_bind (wpAny_mono (wpS_sortRuns (a₀:=ws.toArray.zip us.toArray) (st:=SortSt.mk' oneType' (ws.toArray.zip us.toArray) #[] 7 none)
   (Q:=fun _ st'=>(arrOf st').Perm (ws.toArray.zip us.toArray)/\failedOf st'=none)
   (x9k hI hJ hwl) ⟨Array.Perm.refl _,rfl,rfl,rfl⟩ (by rw[hza];omega) (by rw[hza];omega) fun st' a1 a2 a3=>⟨a1,a2⟩) ?_ fun _ _ e=>e)
  rintro⟨⟨⟩,st'⟩ s' ⟨rfl,hp,hf5⟩;have z:=fin _ hp;rw[<- show(failedOf st').toList=([]:List Value) by rw[hf5];rfl]at z;dsimp only at z |-
  rw[hf5]at z |-
  exact z
end
section
variable{r:Addr}{a b:Int}{t u v:Tok}{n:Nat}
theorem x4p{R:Result->Shared->Prop}{S:Addr}(hh:A.handled=none)(hr:IsRange s.heap r a b 1 t u v)(hsmall:Builtin.Range.small a b 1=true)(hn:Builtin.Range.rangeSize a b 1=n)(hlen:n<=2^24)(hS:s.heap.get? S=some {cls:=.type "list", data:=.seq #[]})
  (hR:∀h' tk acc' c',(∀b o,b≠S->s.heap.get? b=some o->h'.get? b=some o)->h'.get? S=some {cls:=.type "list", dict:=none,data:=.seq acc' c',slots:=#[]}->ItemsOf (fun i v=>∃t,v=.int (a+i*1) t) acc' n->R (.ok (.ret (.ref S))) {s with heap:=h',toks:=tk}):
  codeAny (model prog w) A (.builtin "list.__iadd__" ⟨[.ref S,.ref r],[]⟩) R s:=by
 refine codeAny_builtin F.entry_list_iadd ?_;rw[Around.under_plainId F.plain_list_iadd _];exact wpAny_extend_range (A:=A) hh hr hsmall hn hlen S (.ref S) _ hS hR
theorem q98{Q:List Value->Shared->Prop}(hh:A.handled=none)(hr:IsRange s.heap r a b 1 t u v)(hsmall:Builtin.Range.small a b 1=true)(hn:Builtin.Range.rangeSize a b 1=n)(hlen:n<=2^24)
  (hQ:∀h' tk acc,(∀b o,s.heap.get? b=some o->h'.get? b=some o)->ItemsOf (fun i v=>∃t,v=.int (a+i*1) t) acc n->Q acc.toList {s with heap:=h',toks:=tk}):wpAny (model prog w) A (collect (.ref r)) Q E s:=by
 unfold collect;refine wpAny_bind (wpAny_runValue (codeAny_builtin F.entry_proto_collect ?_));rw[Around.under_plainId F.plain_proto_collect _];show wpAny _ A.in1 (newList [] >>= fun l=>again (.builtin "list.__iadd__" ⟨[l,.ref r],[]⟩)) _ _ s
 refine wpAny_bind (wpAny_newObj_type ?_);refine wpAny_pure ⟨plainId_quiet F.plain_list_iadd _,x4p hh (Heap.get?_push_of_some _ hr) hsmall hn hlen (Heap.get?_push_size _ rfl) fun h' tk acc' c' hk hS' hacc=>?_⟩
 show wpAny _ A (load s.heap.objs.size >>= _) _ _ _;refine wpAny_bind (wpAny_load hS' ?_);exact wpAny_pure (hQ h' tk acc' (fun b o e=>hk b o (w0u (Heap.lt_size e)) (Heap.get?_push_of_some _ e)) hacc)
end
def rangeI(lo hi:Int):List Int:=(List.range (hi-lo).toNat).map fun(k:Nat)=>lo+(k:Int)
def tSortK(sp:V->List V->Hp->VK->XK->Prop)(X:Cx)(params:Arguments)(body:Expr)(scope:Scope)(Nf:List Str)(js:List Nat)(ta:TA):TE:=fun σ H Q=>ta σ H fun vs H1=>∃lo hi:Int,vs=[.int lo,.int hi]/\-(2^62)<=lo/\lo<2^62/\-(2^62)<=hi/\hi<2^62/\(hi-lo).toNat<64 /\
 ∀f clos H2,LamAt X params body scope clos f H1 H2->∀cs,CellsOf clos Nf scope js σ H2 cs->∀l,H2 l=none->(∀o,cs.lookup l≠some o)->tKeyed sp (.ref f) cs l (rangeI lo hi) (upd H2 l (.lst ((rangeI lo hi).map V.int))) Q
theorem x9n{params:Arguments}{body a b:Expr}{scope:Scope}{lpos p pos p2 pos2 kp:Pos}{Nf:List Str}{js:List Nat}{ta:TA}(F:FnV X.prog X.w X.K X.mg X.base (CX1 X.prog X.w) k sp)(hr:Room (k+2) X.A)(hc:X.calm=true)(hg:Gl X "sorted")(hm:X.mg "sorted"=none)(hg2:Gl X "range")(hm2:X.mg "range"=none)
  (M:Maker X)(hfn:∀y,X.fn y=true)(ha:PA X [a,b] ta)(hdef:defaultsOf params X.env=([],[]))
  (hfree:∀x∈scope.names,x.2=.free->X.env.kindOf x.1=some .cell\/X.env.kindOf x.1=some .free)
  (hNf:∀(i j:Nat) y,Nf[i]?=some y->js[i]?=some j->X.N[j]?=some y/\(y,NameKind.free)∈scope.names/\Vis X.env.scope y/\X.env.kindOf y≠some .local)
  (hs:starEach [a,b] X.env=(false,eval a X.env)::starEach [b] X.env:=by rfl)(hsp:(backTo pos2 (starEach [b] X.env)).any (·.1)=false:=by rfl)
  (he:starEach [.Call (.Name "range" p2) [a,b] [] pos2] X.env=[(false,eval (.Call (.Name "range" p2) [a,b] [] pos2) X.env)]:=by rfl):
  PE X (.Call (.Name "sorted" p) [.Call (.Name "range" p2) [a,b] [] pos2] [⟨some "key", .Lambda params body scope lpos,kp⟩] pos) (tSortK sp X params body scope Nf js ta):=by
 intro pins s σ H Q I h;refine wpAny_Call_Name_kw (q4y I hg hm PyProof.Rows.Boot.«sorted» ?_ (by decide) (by decide));refine callWith_kw ?_ (by rw[he];rfl) (by rw[he];rfl);rw[he];show wpAny _ _ (spliced ((false,eval (.Call (.Name "range" p2) [a,b] [] pos2) X.env)::[])) _ _ s;refine Calls.spliced_cons ?_;refine Call_ (q4y I hg2 hm2 boot_range (PyProof.Rows.callWith_type1 (thn (ha pos2 pins s σ H _ I h) fun us s1 ⟨vs,H1,I1,r1,q1⟩=>?_) hs hsp))
 obtain⟨lo,hi,e,z1,z2,z3,z4,z5,q⟩:=q1;subst e;cases r1 with
 |cons ra rr=>
 cases rr with
 |cons rb rn=>
 cases rn;obtain⟨t,rfl⟩:=ra;obtain⟨u,rfl⟩:=rb;refine call_range_2 (Calls.spliced_nil ?_);have fr1:H1 s1.heap.objs.size=none:=I1.hok.fresh (w0g _);have I2:Inv X pins σ H1 {s1 with heap:=s1.heap.push {cls:=.type "range", data:=.fields #[.int lo t,.int hi u,.int 1 s1.toks]},toks:=s1.toks+1}:=I1.kept fun b o e=>Heap.get?_push_of_some _ e
 have I2p:Inv X ((s1.heap.objs.size,{cls:=.type "range", data:=.fields #[.int lo t,.int hi u,.int 1 s1.toks]})::pins) σ H1 {s1 with heap:=s1.heap.push {cls:=.type "range", data:=.fields #[.int lo t,.int hi u,.int 1 s1.toks]},toks:=s1.toks+1}:=I2.pins_of fun p hp=>by
  rcases w0p.mp hp with rfl|hp
  ·exact⟨Heap.get?_push_size _ rfl,fr1,w3b I1.lt,I1.nofs (w0g _),fun v z=>nomatch z⟩
  ·exact I2.pin p (w0i _ hp)
 refine kws_cons (thn (y5s M hdef hfree _ _ σ H1 (fun v H2=>∃f clos,v=.ref f/\LamAt X params body scope clos f H1 H2) I2p (fun f clos H2 z=>⟨f,clos,rfl,z⟩)) fun fv s3 ⟨v3,H2,I3,rv3,f,clos,ev,la⟩=>kws_nil ?_)
 subst ev;obtain rfl:fv=Value.ref f:=rv3;have hrg:s3.heap.get? s1.heap.objs.size=some {cls:=.type "range", data:=.fields #[.int lo t,.int hi u,.int 1 s1.toks]}:=(I3.pin _ (w0i _ w1d)).1;have I4:Inv X pins σ H2 s3:=I3.pins_of fun p hp=>I3.pin p (w0i _ (w0k _ hp))
 obtain⟨clos',hclos',hcl,hcf⟩:=q4r (scope:=scope) (env:=X.env) fun x hx hf=>I.ok.has x.1 (hfree x hx hf)
 obtain rfl:clos'=clos:=pure_inj (hclos'.symm.trans la.1)
 have look:∀b o,(celsAt clos' s3.heap).lookup b=some o->∃x,X.env.cells.lookup x=some b/\s3.heap.get? b=some o:=fun b o z=>by
  obtain⟨x,h1,h2⟩:=q7e z;exact⟨x,hcl x b h1,h2⟩
 have hnone:∀b o,(celsAt clos' s3.heap).lookup b=some o->H2 b=none/\s3.heap.get? b=some o:=fun b o z=>by
  obtain⟨x,h1,h2⟩:=look b o z;exact⟨I4.freeC x b h1,h2⟩
 have hab:∀b o,(celsAt clos' s3.heap).lookup b=some o->X.s₀.heap.objs.size<=b:=fun b o z=>by
  obtain⟨x,h1,h2⟩:=look b o z;exact I4.ok.cab x b (hfn x) h1
 have CO:CellsOf clos' Nf scope js σ H2 (celsAt clos' s3.heap):=by
  refine⟨fun x y c e1 e2=>I4.ok.inj x y c (hcl x c e1) (hcl y c e2),hcf,fun x c e=>?_,fun c o e=>⟨(hnone c o e).1,?_⟩,fun i y j z e1 e2 e3=>?_⟩
  ·obtain⟨v,o,g,_⟩:=I4.cell x c (hcl x c e);exact⟨o,q78 e g⟩
  ·obtain⟨x,h1,h2⟩:=look c o e;obtain⟨v,o',g,d⟩:=I4.cell x c h1;rw[h2]at g;cases g;exact⟨v,d⟩
  ·obtain⟨n1,n2,n3,n4⟩:=hNf i j y e1 e2;obtain⟨m,hm,hl⟩:=I4.loc;obtain⟨u,ru,l⟩:=hl j y z n1 e3 n3;rcases l with⟨k1,_⟩|⟨k1,c,ec,o,g,d⟩
   ·exact absurd k1 n4
   ·obtain⟨c',ec'⟩:=hcf y n2;have e4:=hcl y c' ec';rw[ec]at e4;cases e4;exact⟨c,o,u,ec',q78 ec' g,d,ru⟩
 show wpAny _ _ (call (.builtin "sorted") [.ref s1.heap.objs.size] [(Str.ofString "key", .ref f)]) _ _ _;refine call_function_entry_kw kind_sorted plain_sorted entry_sorted (q8m _ _) ?_
 unfold Builtin.«sorted»;refine wpAny_bind (m:=checkCount "sorted" 1 1 _) (wpAny_pure ?_);have hn:Builtin.Range.rangeSize lo hi 1=(((hi-lo).toNat:Nat):Int):=by rw[rangeSize_one];split<;>omega
 refine wpAny_bind (q98 (I.ok.hd hc) hrg (small_one z1 z2 z3 z4) hn (by omega) fun h' tk acc hk hacc=>?_)
 have I5:Inv X pins σ H2 {s3 with heap:=h',toks:=tk}:=I4.kept (t':=tk) hk;refine wpAny_bind (wpAny_newList ?_ (hsz:=by rw[w2r,hacc.1,sizeLine_eq];omega));have fr5:H2 h'.objs.size=none:=I5.hok.fresh (w0g _)
 have va:Vals ((rangeI lo hi).map V.int) acc.toList:=D.y3j (by simp[hacc.1,rangeI]) fun i h1 h2=>by
  have h2':i<acc.size:=by simpa using h2
  obtain⟨t2,e2⟩:=hacc.2 i acc[i] (by simp[h2']);have e3:acc.toList[i]=.int (lo+(i:Int)*1) t2:=by simpa using e2
  rw[e3];simp only[rangeI,List.getElem_map,w4j];exact⟨t2,by simp⟩
 have I6:=I5.laid (t':=tk) (o:=.lst ((rangeI lo hi).map V.int)) (h':=h'.push {cls:=.type "list", data:=.seq acc.toList.toArray}) (fun b o q=>Heap.get?_push_of_some _ q) (w0g _)
  (show ObjOk X.prog X.w _ _ _ (.lst _)from⟨by simp[rangeI];rw[sizeLine_eq];omega,acc.toList,0,va,Heap.get?_push_size _ rfl⟩)
 have hlt:∀b o,(celsAt clos' s3.heap).lookup b=some o->b≠h'.objs.size:=fun b o z=>w0u (Heap.lt_size (hk b o (hnone b o z).2))
 refine wpAny_bind (wpAny_holding (wpAny_call_entry_kw slot_list_sort ⟨_,Heap.get?_push_size _ rfl,rfl⟩ entry_list_sort (wpAny_mono (x9m (cs:=celsAt clos' s3.heap) (Q:=Q) (is:=rangeI lo hi) F ((hr.in1).in1) rfl ?_ (fun b o z=>Heap.get?_none_of_le (w1c I4.ok.bsz (hab b o z))) I6 (fun b o z=>⟨?_,?_⟩) q0d ?_ (by simp[rangeI];omega) (q f clos' H2 la _ CO _ fr5 fun o z=>hlt _ o z rfl)) (fun fin s' hq=>⟨_,hq.1,?_⟩) fun _ _ z=>z) (q6r _ _)))
 ·exact fun b o z hb=>by
   rcases w0p.mp (I4.stkSub b hb)with e|hb2
   ·obtain⟨x,h1,_⟩:=look b o z;exact I4.cne x b h1 e
   ·obtain⟨_,o',q',_⟩:=I4.ok.funs.mem hb2
    exact absurd (Heap.lt_size q') (w3o.mpr (hab b o z))
 ·rw[q0c (hlt b o z)];exact(hnone b o z).1
 ·exact Heap.get?_push_of_some _ (hk b o (hnone b o z).2)
 ·intro o v z;have:=I5.base.frzs _ o v z;rw[fr5]at this;cases this
 ·exact wpAny_pure ⟨_,rfl,hq.2⟩
end L2
namespace D
open PySem L2
section
variable{K:Fg}{Z:Zt}{G H:Hp}{σ:L2.St}{e:List S}
theorem Rel.seenW(r:Rel K Z G σ H e){a:Addr}{sh:Sh}{kvs:List (Kx×V)}{kas:List Addr}(h:H a=some (dwO sh kvs kas))(hg:G a=none)(hz:Z.H a=none)(hf:∀s∈e,isDw s=false):Same G (upd G a (dwO sh kvs kas))/\Rel K Z (upd G a (dwO sh kvs kas)) σ H e:=by
 have sg:Same G (upd G a (dwO sh kvs kas)):=q20 hg _;refine⟨sg,⟨fun c o z=>?_,fun j s z=>?_,r.len,r.dis,r.ent,r.ion,fun c z=>?_⟩⟩
 ·by_cases hc:c=a
  ·subst hc;rw[q0d]at z;cases z;exact h
  ·rw[q0c hc]at z;exact r.sub c o z
 ·have y:=r.slot j s z;cases s with
  |no=>trivial
  |fr w=>
   obtain⟨u,y1,y2⟩:=y;exact⟨u,y1,Rep.mono sg w y2⟩
  |own b2 w2=>
   obtain⟨c,ys,y1,y2,y3,y4,y5⟩:=y;refine⟨c,ys,y1,y2,?_,y4,Reps.mono sg w2 y5⟩;rw[q0c (q0x y2 h (fun z=>q1f rfl z.symm))];exact y3
  |nest wss=>exact NestOk.move y sg fun l o ys k1 k2 k3=>⟨k1,by rw[q0c (q0x k1 h (fun z=>q1f rfl z.symm))];exact k2,k3⟩
  |x k=>exact XOk.move y sg fun l o ys k1 k2 k3=>⟨k1,by rw[q0c (q0x k1 h (fun z=>q1f rfl z.symm))];exact k2,k3⟩
  |dw sh ks ws=>exact nomatch (hf _ (w0n z))
 ·by_cases hc:c=a
  ·subst hc;exact absurd hz z
  ·rw[q0c hc];exact r.gen c z
theorem PostS.mono{EE:L2.St->XK}{D:Ends}{G':Hp}(sg:Same G G'):∀{r:SR},PostS K Z EE D G r->PostS K Z EE D G' r
 |.nx _,h=>fun G1 σ1 H1 r s=>h G1 σ1 H1 r (sg.trans s)
 |.bk _,h=>fun G1 σ1 H1 r s=>h G1 σ1 H1 r (sg.trans s)
 |.ct _,h=>fun G1 σ1 H1 r s=>h G1 σ1 H1 r (sg.trans s)
 |.rt _ _,h=>fun G1 σ1 v H1 r s=>h G1 σ1 v H1 r (sg.trans s)
 |.ex _ _,h=>fun G1 σ1 H1 r s=>h G1 σ1 H1 r (sg.trans s)
 |.no,h=>h
end
variable{X:Cx}{dA:Den (List W)}{H:Hp}{EE:L2.St->XK}{e:List S}{k:Nat}{a:Nat ⊕ Int}{pos:Pos}{K:Fg}{st:Stmt}{x:Str}{O:Type}{Z:Zt}
def stayC(i:Nat)(d:List S->SR)(e:List S):Option S->SR
 |some (.dw sh ks ws)=>if(e.set i .no).all (fun s=>!isDw s)=true then d (e.set i (.fr (.dw false sh ks ws)))else .no
 |_=>.no
def dStay(i:Nat)(d:List S->SR):List S->SR:=fun e=>stayC i d e e[i]?
section
variable{d:List S->SR}
theorem y36(i:Nat)(h:DS Z X EE st d):DS Z X EE st (dStay i d):=by
 refine PS.mono h ?_;rintro D σ H ⟨G,e,rel,q⟩;unfold dStay stayC at q;split at q
 ·rename_i sh ks ws hw;split at q
  ·rename_i hc;obtain⟨a,kvs,kas,h1,h2,h3,h4,h5,h6,h7⟩:=rel.dw hw;have hi:i<e.length:=(w0b.mp hw).1
   have r0:Rel X.K Z G σ H (e.set i .no):=rel.forget (by simp) fun j s z=>by
    by_cases hj:j=i
    ·subst hj;rw[w0h hi]at z;cases z;exact .inl rfl
    ·rw[w0f (fun z=>hj z.symm)]at z;exact .inr z
   obtain⟨sg,r1⟩:=r0.seenW h2 h3 h4 fun s hs=>by
    have:=w0o.mp hc s hs
    simpa using this
   have r2:=r1.set (i:=i) (w:=.dw false sh ks ws) (v:=.ref a) ⟨a,kvs,kas,rfl,q0d,h5,h6.mono sg,Reps.mono sg ws h7⟩;rw[w4n]at r2
   have es:σ.set i (some (V.ref a))=σ:=by
    apply w2y;intro j
    by_cases hj:j=i
    ·subst hj;rw[h1,w0h (w0b.mp h1).1]
    ·rw[w0f (fun z=>hj z.symm)]
   rw[es]at r2;exact⟨_,_,r2,PostS.mono sg q⟩
  ·exact q.elim
 ·exact q.elim
end
def smK:Option S->Option Int
 |some (.fr (.int n))=>some n
 |_=>none
def smW:Nat ⊕ Int->List S->Option Int
 |.inl j,e=>smK e[j]?
 |.inr n,_=>some n
def smT:Nat ⊕ Int->TE
 |.inl j=>tVar j
 |.inr n=>tC (.int n)
def scV:W->Option V
 |.non=>some .non
 |.bl b=>some (.bl b)
 |.int n=>some (.int n)
 |_=>none
def setD2K(i:Nat)(w:W)(e:List S):Option Int->Option Int->SR
 |some m,some n=>.nx (e.set i (.dw (.tup [.int,.int]) [.tup [.int m,.int n]] [w]))
 |_,_=>.no
def dSetD2(i:Nat)(a b:Nat ⊕ Int)(w:W):List S->SR:=fun e=>setD2K i w e (smW a e) (smW b e)
section
variable{p:Pos}
theorem q8n{G H':Hp}{σ:L2.St}{Q:VK}(r:Rel K Z G σ H e){n:Int}(h:smW a e=some n)(q:Q (.int n) H'):smT a σ H' Q:=by
 cases a with
 |inl j=>
  simp only[smW,smK]at h;split at h
  ·rename_i m hm;cases h;obtain⟨v,v1,v2⟩:=r.fr hm;cases(show v=V.int n from v2);exact⟨_,v1,q⟩
  ·cases h
 |inr m=>
  cases h;exact q
theorem x9o(i:Nat){ka kb ve:Expr}{tp:Pos}{x1}{b:Nat ⊕ Int}{w:W}{v:V}{pos' dpos:Pos}(hu:X.A.units+20<cLine)(hN:X.N.Nodup)(hk:PE X (.Tuple [ka,kb] x1 tp) (tTup (tCons (smT a) (tCons (smT b) tNil))))(hv:PE X ve (tC v))(hw:scV w=some v)(hi:X.N[i]?=some x:=by rfl)(hx:Loc X.env.scope x:=by walk_at "3")
  (hs:swapsWith (.Dict [some (.Tuple [ka,kb] x1 tp)] [ve] dpos) (some (.Name x pos')) pos.line X.env=pure false:=by rfl)(hf:X.fn x=true\/X.env.scope.names.lookup x=some .local:=by walk_at "2"):
  DS Z X EE (.Assign [.Name x pos'] (.Dict [some (.Tuple [ka,kb] x1 tp)] [ve] dpos) pos) (dSetD2 i a b w):=by
 refine PS.mono (q5e i hN (y8k (sh:=.tup [.int,.int]) hu hk hv) hi hx hs hf) ?_;rintro D σ H ⟨G,e,rel,h⟩;unfold dSetD2 at h;cases ha:smW a e with
 |none=>rw[ha]at h;exact h.elim
 |some m=>
  cases hb:smW b e with
  |none=>rw[ha,hb]at h;exact h.elim
  |some n=>
   rw[ha,hb]at h;intro q hq;refine q8n rel ha (q8n rel hb ⟨by rw[sizeLine_eq];simp,fun t ht=>?_⟩)
   have hne:t≠q:=fun z=>by subst z;rw[q0d]at ht;cases ht
   have ht0:H t=none:=by rw[q0c hne]at ht;exact ht
   refine⟨.tup [.int m,.int n],t,rfl,⟨⟨t,_,rfl,.inl q0d,?_⟩,?_,?_⟩,by rw[q0c (Ne.symm hne)];exact q0d,?_⟩
   ·exact⟨_,_,rfl,rfl,_,_,rfl,rfl,rfl⟩
   ·exact⟨trivial,trivial,trivial⟩
   ·simp[Kx.depth,Kx.depths]
   ·have eH:upd (upd (upd H q (.dT (.tup [.int,.int]) [] [])) t (.tup [.int m,.int n])) q (.dT (.tup [.int,.int]) [(.tup [.int m,.int n],v)] [t])=upd (upd H t (.tup [.int m,.int n])) q (.dT (.tup [.int,.int]) [(.tup [.int m,.int n],v)] [t]):=by
     funext c
     by_cases h1:c=q
     ·subst h1;rw[q0d,q0d]
     ·rw[q0c h1,q0c h1]
      by_cases h2:c=t
      ·subst h2;rw[q0d,q0d]
      ·rw[q0c h2,q0c h2,q0c h1]
    rw[eH];have g1:=Grow.laid rel.sub ht0 (.tup [.int m,.int n]);have r1:=rel.grow g1;have hq1:upd H t (.tup [.int m,.int n]) q=none:=by rw[q0c (Ne.symm hne)];exact hq
    have g2:=Grow.hid r1.sub hq1 (.dT (.tup [.int,.int]) [(.tup [.int m,.int n],v)] [t]);have r2:=r1.grow g2;refine h _ _ _ (r2.setS (s:=.dw (.tup [.int,.int]) [.tup [.int m,.int n]] [w]) (fun _ _ z=>nomatch z) ⟨q,[(.tup [.int m,.int n],v)],[t],rfl,q0d,r1.sub.free hq1,?_,rfl,⟨⟨t,_,rfl,.inl q0d,?_⟩,trivial⟩,⟨v,[],rfl,?_,rfl⟩⟩) g1.gg
    ·exact q2h rel hq
    ·exact⟨_,_,rfl,rfl,_,_,rfl,rfl,rfl⟩
    ·cases w<;>cases hw<;>rfl
end
section
def liftD(K:Fg)(Z:Zt)(EE:L2.St->XK)(f:O->List S->Option SR):TS:=fun D σ H=>AtG K Z σ H fun G e=>∀o r,f o e=some r->PostS K Z EE D G r
def DSD(Z:Zt)(X:Cx)(EE:L2.St->XK)(st:Stmt)(f:O->List S->Option SR):Prop:=PS X st (liftD X.K Z EE f)
def DSsD(Z:Zt)(X:Cx)(EE:L2.St->XK)(sts:List Stmt)(f:O->List S->Option SR):Prop:=PSs X sts (liftD X.K Z EE f)
def seqD(d:List S->SR)(f:List S->Option SR):List S->Option SR:=fun e=>match d e with
 |.nx e'=>f e'
 |r=>some r
def seqC(f:List S->Option SR)(d:List S->SR):List S->Option SR:=fun e=>match f e with
 |some (.nx e')=>some (d e')
 |r=>r
variable{sts:List Stmt}{d:List S->SR}{f:O->List S->Option SR}
theorem q5g(h1:DS Z X EE st d)(h2:DSsD Z X EE sts f)(o0:O):DSsD Z X EE (st::sts) (fun o=>seqD d (f o)):=by
 refine PSs.mono (q5y h1 h2) ?_;rintro D σ H ⟨G,e,rel,h⟩;refine⟨G,e,rel,?_⟩;simp only[seqD]at h;cases q:d e with
 |nx e'=>
  intro G' σ' H' r' sg;refine⟨G',e',r',fun o r hr=>PostS.mono sg (h o r ?_)⟩
  rw[q];exact hr
 |rt s e'=>exact h o0 (.rt s e') (by rw[q])
 |ex c e'=>exact h o0 (.ex c e') (by rw[q])
 |bk e'=>exact h o0 (.bk e') (by rw[q])
 |ct e'=>exact h o0 (.ct e') (by rw[q])
 |no=>exact h o0 .no (by rw[q])
theorem q7f(h1:DSD Z X EE st f)(h2:DSs Z X EE sts d):DSsD Z X EE (st::sts) (fun o=>seqC (f o) d):=by
 refine PSs.mono (q5y h1 h2) ?_;rintro D σ H ⟨G,e,rel,h⟩;refine⟨G,e,rel,fun o r hr=>?_⟩
 simp only[seqC]at h;cases r with
 |nx e'=>
  intro G' σ' H' r' sg;exact⟨G',e',r',PostS.mono sg (h o (d e') (by rw[hr]))⟩
 |rt s e'=>exact h o (.rt s e') (by rw[hr])
 |ex c e'=>exact h o (.ex c e') (by rw[hr])
 |bk e'=>exact h o (.bk e') (by rw[hr])
 |ct e'=>exact h o (.ct e') (by rw[hr])
 |no=>exact h o .no (by rw[hr])
open Classical in
def dem(f:O->List S->Option SR):List S->SR:=fun e=>if h:∃n,∀o r,f o e=some r->∃e',r=.rt (.fr (.bl true)) e'/\e'.length=n then .rt (.fr (.bl true)) (List.replicate h.choose .no)else .no
theorem y37(h:DSsD Z X EE sts f):DSs Z X EE sts (dem f):=by
 refine PSs.mono h ?_;rintro D σ H ⟨G,e,rel,q⟩;unfold dem at q;split at q
 ·rename_i hd;refine⟨G,e,rel,fun o r hr=>?_⟩
  obtain⟨e',rfl,hl⟩:=hd.choose_spec o r hr;exact fun G' σ' v H' r' sg sl=>q G' σ' v H' (r'.forget (by rw[w1k,hl]) fun i s z=>.inl (List.eq_of_mem_replicate (w0n z))) sg sl
 ·exact q.elim
theorem x9p{f:O->List S->Option SR}{n:Nat}(h:∀o r,f o e=some r->∃e',r=.rt (.fr (.bl true)) e'/\e'.length=n):(dem f e).fn=.ok (.fr (.bl true)):=by
 unfold dem;rw[dif_pos ⟨n,h⟩];rfl
end
section
def spD(K:Fg)(F:O->List W->Option FR):Sp:=fun vs H Q E=>∃G ws,Same G H/\Reps K G ws vs/\∀o,match F o ws with
 |some (.ok s)=>∀G' H' v,Grow G H G' H'->SlotOk K ⟨H,G,[]⟩ G' H' s (some v)->Q v H'
 |some (.ex c)=>∀H',Same H H'->E c none H'
 |some .no=>False
 |none=>True
variable{P:Program}{w:World}{mg:Str->Option Value}{base:Heap}
theorem y8l{F:O->List W->Option FR}{vs:List V}{Q:VK}{E:XK}(h:spD K F vs H Q E):∃G ws,(∀o,F o ws≠some .no)/\Reps K G ws vs:=by
 obtain⟨G,ws,sg,rp,h⟩:=h;refine⟨G,ws,fun o z=>?_,rp⟩
 have:=h o;rw[z]at this;exact this
end
def secK(i:Nat)(e1:List S):Option FR->Option SR
 |some (.ok (.fr w))=>some (.nx (e1.set i (.fr w)))
 |none=>none
 |_=>some .no
def dSec(i:Nat)(F:O->List W->Option FR)(dA:Den (List W)):O->List S->Option SR:=fun o e=>match dA e with
 |.ok ws e1=>secK i e1 (F o ws)
 |.ex c e1=>some (.ex c e1)
 |.no=>some .no
section
variable{e:Expr}{es:List Expr}{y:Str}{ps:List Str}{F:O->List W->Option FR}{p cpos pos':Pos}
theorem y38(i:Nat)(hN:X.N.Nodup)(C:Cal X.prog X.w X.K X.mg X.base k x ps (spD X.K F))(hr:Room k X.A)(hx:PassX (CX1 X.prog X.w) X EE)(ha:DA Z X EE (e::es) dA)(o0:O)(hg:Gl X x:=by rfl)
  (hdb:(x==("__debug__":Str))=false:=by decide)(he:starEach (e::es) X.env=(false,eval e X.env)::starEach es X.env:=by rfl)(hpl:(backTo cpos (starEach es X.env)).any (·.1)=false:=by rfl)
  (hi:X.N[i]?=some y:=by rfl)(hy:Loc X.env.scope y:=by walk_at "3")(hs:swapsWith (.Call (.Name x p) (e::es) [] cpos) (some (.Name y pos')) pos.line X.env=pure false:=by rfl)(hf:X.fn y=true\/X.env.scope.names.lookup y=some .local:=by walk_at "2"):
  DSD Z X EE (.Assign [.Name y pos'] (.Call (.Name x p) (e::es) [] cpos) pos) (dSec i F dA):=by
 refine PS.mono (q5e i hN (q77 C hr hx ha hg hdb he hpl) hi hy hs hf) ?_;rintro D σ H ⟨G,en,rel,h⟩;simp only[dSec]at h;refine⟨G,en,rel,?_⟩;cases q:dA en with
 |no=>rw[q]at h;exact(h o0 .no rfl).elim
 |ex c e1=>rw[q]at h;exact fun G' H' r s=>h o0 (.ex c e1) rfl G' σ H' r s
 |ok ws e1=>
  rw[q]at h;intro G1 vs H1 r1 s1 p1;refine⟨G1,ws,r1.sub,by rw[w1j];exact p1,fun o=>?_⟩
  have ho:=h o;dsimp only at ho;cases z:F o ws with
  |none=>trivial
  |some r=>
   rw[z]at ho;cases r with
   |no=>exact ho .no rfl
   |ex c=>exact(ho .no rfl).elim
   |ok s=>
    cases s with
    |fr w=>
     intro G' H' v g sl;obtain⟨v',e',rp⟩:=sl;cases e';exact ho _ rfl G' _ H' ((r1.grow g).set rp) (s1.trans g.gg)
    |_=>exact(ho .no rfl).elim
end
theorem Grow.write{G G' H':Hp}{a:Addr}{o:HO}(g:Grow G H G' H')(hn:H a=none)(hg:G' a=none):Grow G H G' (upd H' a o) where
 hh:=fun b u e=>by rw[q0c (q0n e hn)];exact g.hh b u e
 gg:=g.gg
 sub:=fun b u e=>by rw[q0c (q0n e hg)];exact g.sub b u e
 new:=g.new
theorem x1i{lams:Nat->Option Lm}{r:Nat->List W->FR}{j:Nat}{lm:Lm}{caps:List W}{G1 H1:Hp}{cs:Cs}{f l ks:Addr}{o:Obj}{Kk:Hp->Prop}(hl:lams j=some lm)(hnc:noFns caps=true)(n1:H1 l=none)(n2:H1 ks=none)(hlk:l≠ks)
  (hK:∀Gc Hc (ns:List Int),Grow G1 H1 Gc Hc->Gc l=none->Gc ks=none->Hc l=some (.frz o (.lst []))->Hc ks=some (.lst (ns.map V.int))->Kk Hc):
  ∀(is ns:List Int)(Gc Hc:Hp),(∀i∈is,∃n,r j (.int i::caps)=.ok (.fr (.int n)))->Grow G1 H1 Gc Hc->Gc l=none->Gc ks=none->Hc l=some (.frz o (.lst []))->Hc ks=some (.lst (ns.map V.int))->(∀b o,cs.lookup b=some o->Hc b=none)->Rep K (addC Gc cs) (.fn j lm caps) (.ref f) ->
   keysT (spV K lams r) (.ref f) cs l o ks Kk is ns Hc
 |[],ns,Gc,Hc,hr,g,g1,g2,h1,h2,hc,rf=>hK Gc Hc ns g g1 g2 h1 h2
 |i::is,ns,Gc,Hc,hr,g,g1,g2,h1,h2,hc,rf=>by
  obtain⟨n,hn⟩:=hr i (by simp);refine⟨addC Gc cs,j,lm,caps,[.int i],.int n,q6q g.sub,rf,⟨_,_,rfl,rfl,rfl⟩,rfl,hnc,hl,hn,fun G' H' v g' rv=>?_⟩
  cases(show v=V.int n from rv);have gn:=Grow.nocells g' hc g.sub;have e1:=gn.hh _ _ h1;have e2:=gn.hh _ _ h2;have k1:rmC G' cs l=none:=by rw[gn.new l (by rw[h1];exact fun z=>nomatch z)];exact g1
  have k2:rmC G' cs ks=none:=by rw[gn.new ks (by rw[h2];exact fun z=>nomatch z)];exact g2
  refine⟨n,rfl,e1,e2,x1i hl hnc n1 n2 hlk hK is (ns++[n]) (rmC G' cs) _ (fun i hi=>hr i (by simp[hi])) ((g.trans gn).write n2 k2) k1 k2 (by rw[q0c hlk];exact e1) q0d (fun b o z=>?_) (Rep.mono (q6q gn.gg) _ rf)⟩
  rw[q0c (fun y=>by subst y;rw[hc _ _ z]at h2;cases h2)]
  exact q42 z
def ordOk(lams:Nat->Option Lm)(r:Nat->List W->FR)(j:Nat)(l:Lm)(caps:List W)(lo hi:Int):Prop:=-(2^62)<=lo/\lo<2^62/\-(2^62)<=hi/\hi<2^62/\(hi-lo).toNat<64/\lams j=some l/\noFns caps=true/\∀i∈rangeI lo hi,∃n,r j (.int i::caps)=.ok (.fr (.int n))
open Classical in
def ordK(i:Nat)(lams:Nat->Option Lm)(r:Nat->List W->FR)(j:Nat)(l:Lm)(o:List Int)(e:List S):Option Int->Option Int->Option (List W)->Option SR
 |some lo,some hi,some caps=>if ordOk lams r j l caps lo hi then(if o.Perm (rangeI lo hi)then some (.nx (e.set i (.fr (.lst (.int 0::o.map .int)))))else none)else some .no
 |_,_,_=>some .no
def dOrd(i:Nat)(lams:Nat->Option Lm)(r:Nat->List W->FR)(j:Nat)(l:Lm)(js:List Nat)(a b:Nat ⊕ Int):List Int->List S->Option SR:=fun o e=>ordK i lams r j l o e (smW a e) (smW b e) (capsOf js e)
section
variable{ea eb body:Expr}{params:Arguments}{lpos p p2 pos2 kp zp lp bp pos':Pos}{N nf:List Str}{js:List Nat}{sc scope:Scope}{lams:Nat->Option Lm}{r:Nat->List W->FR}{b:Nat ⊕ Int}{ci}{spos:Pos}
theorem y39(i j:Nat)(l:Lm)(hND:X.N.Nodup)(F:FnV X.prog X.w X.K X.mg X.base (CX1 X.prog X.w) k (spV X.K lams r))(hr:Room (k+2) X.A)(hc:X.calm=true)(hm:X.mg "sorted"=none)(hm2:X.mg "range"=none)(M:Maker X)(hfn:∀y,X.fn y=true)(ha:PA X [ea,eb] (tCons (smT a) (tCons (smT b) tNil)))(ok:compOk sc scope N nf js=true)
  (hl:l=⟨X.env.qual++"<lambda>", params,body,scope,nf⟩:=by rfl)(hdef:defaultsOf params X.env=([],[]):=by rfl)(hsc:X.env.scope=sc:=by rfl)(hN:X.N=N:=by rfl)(hg:Gl X "sorted":=by rfl)(hg2:Gl X "range":=by rfl)
  (hs:starEach [ea,eb] X.env=(false,eval ea X.env)::starEach [eb] X.env:=by rfl)(hsp:(backTo pos2 (starEach [eb] X.env)).any (·.1)=false:=by rfl)
  (he:starEach [.Call (.Name "range" p2) [ea,eb] [] pos2] X.env=[(false,eval (.Call (.Name "range" p2) [ea,eb] [] pos2) X.env)]:=by rfl)
  (hi:X.N[i]?=some x:=by rfl)(hx:Loc X.env.scope x:=by walk_at "3")
  (hsw:swapsWith (.BinOp (.List [.Constant (.int 0) ci zp] lp) .Add (.Call (.Name "sorted" p) [.Call (.Name "range" p2) [ea,eb] [] pos2] [⟨some "key", .Lambda params body scope lpos,kp⟩] pos) bp) (some (.Name x pos')) spos.line X.env=pure false:=by rfl)
  (hf:X.fn x=true\/X.env.scope.names.lookup x=some .local:=by walk_at "2"):
  DSD Z X EE (.Assign [.Name x pos'] (.BinOp (.List [.Constant (.int 0) ci zp] lp) .Add (.Call (.Name "sorted" p) [.Call (.Name "range" p2) [ea,eb] [] pos2] [⟨some "key", .Lambda params body scope lpos,kp⟩] pos) bp) spos) (dOrd i lams r j l js a b):=by
 unfold compOk at ok;simp only[w0s,w0o,beq_iff_eq,bne_iff_ne,w3x,w1x]at ok;obtain⟨⟨⟨⟨⟨⟨k1,k2⟩,k3⟩,k4⟩,k5⟩,k6⟩,k7⟩:=ok;have kind:∀x,X.env.kindOf x=sc.names.lookup x:=fun x=>by rw[<- hsc];rfl
 refine PS.mono (q5e i hND (y0l x2s (x0t (q09 q4x q2r)) (x9n (Nf:=nf) (js:=js) F hr hc hg hm hg2 hm2 M hfn ha hdef (fun x hx hf=>?_) (fun i j y e1 e2=>?_) hs hsp he)) hi hx hsw hf) ?_
 ·rw[kind];rcases k4 x hx with(z|z)|z
  ·exact absurd hf z
  ·exact .inl z
  ·exact .inr z
 ·have hlt:i<js.length:=(w0b.mp e2).1;have z:=k6 i hlt;rw[e1,e2]at z;obtain⟨z1,z2⟩:=k7 y (w0n e1);refine⟨by rw[hN];simpa using z,PySem.mem_of_lookup z1,?_,?_⟩
  ·rw[hsc];rcases z2 with z|z
   ·exact .inr (.inl z)
   ·exact .inr (.inr z)
  ·rw[kind];rcases z2 with z|z<;>(rw[z];decide)
 ·rintro D σ H ⟨G,e,rel,h⟩;simp only[dOrd]at h;cases q1:smW a e with
  |none=>rw[q1]at h;exact(h [] .no rfl).elim
  |some lo=>
  cases q2:smW b e with
  |none=>rw[q1,q2]at h;exact(h [] .no rfl).elim
  |some hi'=>
  cases q3:capsOf js e with
  |none=>rw[q1,q2,q3]at h;exact(h [] .no rfl).elim
  |some caps=>
  rw[q1,q2,q3]at h;simp only[ordK]at h
  by_cases hok:ordOk lams r j l caps lo hi'
  ·simp only[if_pos hok]at h;obtain⟨b1,b2,b3,b4,b5,b6,b7,b8⟩:=hok;refine⟨by rw[sizeLine_eq];simp,fun p1 hp1=>?_⟩
   have gp:=Grow.hid rel.sub hp1 (.lst [.int 0]);have r0:=rel.grow gp;refine q8n r0 q1 (q8n r0 q2 ⟨lo,hi',rfl,b1,b2,b3,b4,b5,fun f clos H2 la cs co lA hlA hcl=>?_⟩)
   obtain⟨hclos,Hm,pm,ctv,c',hH,hfm,rfl⟩:=la
   have gm:Grow G H G Hm/\Hm p1=some (.lst [.int 0]):=by
    rcases hH with rfl|⟨c,oc,hc,rfl⟩
    ·exact⟨gp,q0d⟩
    ·have hcp:p1≠c:=fun z=>by subst z;rw[q0d]at hc;cases hc
     exact⟨gp.trans (Grow.hid gp.sub hc _),by rw[q0c hcp];exact q0d⟩
   have gl:=Grow.laid gm.1.sub hfm (fnO (kla_obj "<lambda>" (X.env.qual++"<lambda>") params body scope clos pm c' ctv) (X.env.qual++"<lambda>") c');have g2:=gm.1.trans gl;generalize hfo:fnO (kla_obj "<lambda>" (X.env.qual++"<lambda>") params body scope clos pm c' ctv) (X.env.qual++"<lambda>") c'=fo at gl g2 co hlA |-
   obtain⟨zs,rz,zl,zv⟩:=q9t rel q3;have hn2:∀b o,cs.lookup b=some o->upd Hm f fo b=none:=fun b o z=>(co.cel b o z).1
   have gn2:∀b o,cs.lookup b=some o->upd G f fo b=none:=fun b o z=>by
    cases q:upd G f fo b with
    |none=>rfl
    |some u=>have:=g2.sub b u q;rw[hn2 b o z]at this;cases this
   have sA:=g2.gg.trans (x1g gn2)
   have fout:cs.lookup f=none:=by
    cases q:cs.lookup f with
    |none=>rfl
    |some o=>have:=gn2 f o q;rw[q0d]at this;cases this
   have fc:FnCells (addC (upd G f fo) cs) clos l zs cs:=by
    subst hl;refine⟨co.inj,co.has,co.all,fun c o z=>⟨q24 z,(co.cel c o z).2⟩,fun i y z g1 g2=>?_,by rw[zl];exact k5⟩
    have hi:i<js.length:=by rw[<- zl];exact(w0b.mp g2).1
    have g3:js[i]?=some js[i]:=w0d hi;exact co.val i y js[i] z g1 g3 (zv i _ z g3 g2)
   have rfn:Rep X.K (addC (upd G f fo) cs) (.fn j l caps) (.ref f):=by
    refine⟨f,clos,zs,cs,rfl,⟨pm,c',ctv,?_⟩,fc,Reps.mono sA caps rz⟩;rw[q0v fout,q0d,<- hfo,hl]
   have h2l:H lA=none:=by
    cases q:H lA with
    |none=>rfl
    |some u=>have:=g2.hh _ _ q;rw[hlA]at this;cases this
   have h2g:upd G f fo lA=none:=g2.sub.free hlA;have hp1f:p1≠f:=fun z=>by subst z;rw[gm.2]at hfm;cases hfm
   have hp2:upd Hm f fo p1=some (.lst [.int 0]):=by rw[q0c hp1f];exact gm.2
   intro o ks hks hck;rw[q80]at hks |-
   have hlk:lA≠ks:=fun z=>by subst z;rw[q0d]at hks;cases hks
   have hk0:upd Hm f fo ks=none:=by rw[q0c (Ne.symm hlk)]at hks;exact hks
   have h2k:H ks=none:=by
    cases q:H ks with
    |none=>rfl
    |some u=>have:=g2.hh _ _ q;rw[hk0]at this;cases this
   have h2gk:upd G f fo ks=none:=g2.sub.free hk0;have hpl:p1≠lA:=fun z=>by subst z;rw[hp2]at hlA;cases hlA
   have hpk:p1≠ks:=fun z=>by subst z;rw[hp2]at hk0;cases hk0
   refine x1i (G1:=upd G f fo) (H1:=upd Hm f fo) b6 b7 hlA hk0 hlk (fun Gc Hc ns gc c1 c2 c3 c4 ys hy=>?_) (rangeI lo hi') [] (upd G f fo) _ b8 (((Grow.refl g2.sub).write hlA h2g).write hk0 h2gk) h2g h2gk (by rw[q0c hlk];exact q0d) q0d (fun b o z=>?_) rfn
   ·have hyl:ys.length<64:=by rw[hy.length_eq];simp[rangeI];omega
    have e1:upd (upd Hc ks (.lst [])) lA (.lst (ys.map V.int)) p1=some (.lst [.int 0]):=by rw[q0c hpl,q0c hpk];exact gc.hh _ _ hp2
    refine⟨p1,lA,[.int 0],ys.map V.int,rfl,rfl,SqL.of e1,SqL.of q0d,by rw[sizeLine_eq,w0a];simp;omega,fun p hp=>?_⟩
    have gw:=(gc.write (o:=.lst []) hk0 c2).write (o:=.lst (ys.map V.int)) hlA c1;have gf:=(g2.trans gw).trans (Grow.laid gw.sub hp (.lst ([.int 0]++ys.map V.int)));have hh:PostS X.K Z EE D G (.nx (e.set i (.fr (.lst (.int 0::ys.map .int))))):=h ys _ (by rw[if_pos hy]);refine hh _ _ _ ((rel.grow gf).set (w:=.lst (.int 0::ys.map .int)) (v:=.ref p) ⟨p,_,rfl,SqL.of q0d,?_⟩) gf.gg;exact⟨_,_,rfl,rfl,q6l _⟩
   ·rw[q0c (fun y=>by subst y;exact hck _ z),q0c (fun y=>by subst y;exact hcl _ z)]
    exact hn2 b o z
  ·simp only[if_neg hok]at h;exact(h [] .no rfl).elim
end
section
variable{P:Program}{w:World}{mg:Str->Option Value}{base:Heap}
theorem conMD{N ps:List Str}{F:O->List W->Option FR}(A:At K mg x st ps)(hm:∀f oc od fd sl,mg x=some (.ref f)->K.lookup f=some ⟨oc,od,.func fd,sl⟩->MakK K x fd.code)(sc:FnScope N ps (defScope st))(len:∀ws,(∀o,F o ws≠some .no)->ws.length=ps.length)
  (hb:∀ws,(∀o,F o ws≠some .no)->∀(f:Addr)(cdv:Value)(A:Around)(outer:List Env)(s:Shared)(H:Hp)(E:XK)(Z:Zt),Room k (A.deeper (PyProof.Rows.envOfC x (defScope st) s.heap.objs.size f cdv))->MakK K x cdv->(Z.H=H/\Z.io=[]) ->
   ∃d:O->List S->Option SR,DSsD Z (cxOf (CX1 P w) P w K mg base N x (defScope st) f cdv A outer s H E) (fun _=>E) (defBody st) d/\∀o,(d o (init N.length ws)).map SR.fn=F o ws):Cal P w K mg base (k+1) x ps (spD K F):=by
 obtain⟨f,fd,F0,m,b⟩:=A.ex;have kp:=F0.kp;obtain⟨oc,od,kV,doc,pm,an,cdv,ct,osl,rfl,lk,hcd⟩:=F0.ex;have hk:MakK K x cdv:=hm f _ _ _ _ m lk;refine⟨f,_,y0n lk hcd sc (fun vs H Q E h=>?_) (fun A outer s H vs Q E hr h=>?_),m,kp,b⟩
 ·obtain⟨G,ws,hn,r⟩:=y8l h;rw[r.length];exact len ws hn
 ·obtain⟨G,ws,sg,rp,h⟩:=h;have hn:∀o,F o ws≠some .no:=fun o z=>by have:=h o;rw[z]at this;exact this
  obtain⟨d,hd,he⟩:=hb ws hn f cdv A outer s H E ⟨H,G,[]⟩ hr hk ⟨rfl,rfl⟩;refine⟨_,hd,G,init N.length ws,q46 sg rp,fun o r hr=>?_⟩
  have e:=he o;rw[hr]at e;have q:=h o;rw[<- e]at q;refine q60 (F:=fun _=>r.fn) (ws:=ws) rfl ?_
  show match r.fn with
   |.ok s=>∀G' H' v,Grow G H G' H'->SlotOk K ⟨H,G,[]⟩ G' H' s (some v)->Q v H'
   |.ex c=>∀H',Same H H'->E c none H'
   |.no=>False
  cases z:r.fn<;>(simp only[Option.map_some,z]at q;try exact q)
end
def dAlt(c:List S->Bool)(d1 d2:List S->SR):List S->SR:=fun e=>if c e=true then d1 e else d2 e
theorem y8m{d1 d2:List S->SR}(c:List S->Bool)(h1:DS Z X EE st d1)(h2:DS Z X EE st d2):DS Z X EE st (dAlt c d1 d2):=by
 intro pins s σ H D I q;obtain⟨G,e,rel,q⟩:=q;unfold dAlt at q;split at q
 ·exact h1 pins s σ H D I ⟨G,e,rel,q⟩
 ·exact h2 pins s σ H D I ⟨G,e,rel,q⟩
def modK(m k:Int):Option S->Bool
 |some (.fr (.int n))=>decide (n%m=k)
 |_=>false
def modIs(i:Nat)(m k:Int)(e:List S):Bool:=modK m k e[i]?
def binR:Expr->Expr
 |.BinOp _ _ b _=>b
 |_=>noE
def kwAt(i:Nat):Expr->Expr
 |.Call _ _ ks _=>match ks[i]? with
  |some k=>k.value
  |none=>noE
 |_=>noE
def compScope:Expr->Scope
 |.ListComp _ _ sc _=>sc
 |_=>default
def relabS(sc outer:Scope):Scope:=relabel sc {scope:=outer,locals:=0,globals:=0,cells:=[]}
section
variable{i j:Nat}{d d1 d2:Den W}{ws:List W}{w u v:W}{m n k:Int}{f f1 f2:List S->SR}{sh:Sh}{ks:List Kx}{b:Nat ⊕ Int}{c:List S->Bool}
theorem y4a:dStay i f e=stayC i f e e[i]?:=rfl
theorem y8n:stayC i f e (some (.dw sh ks ws))=if(e.set i .no).all (fun s=>!isDw s)=true then f (e.set i (.fr (.dw false sh ks ws)))else .no:=rfl
theorem x9q:dSetD2 i a b w e=setD2K i w e (smW a e) (smW b e):=rfl
theorem z0u:smW (.inr n) e=some n:=rfl
theorem z0v:smW (.inl j) e=smK e[j]?:=rfl
theorem z0w:smK (some (.fr (.int n)))=some n:=rfl
theorem x9r:setD2K i w e (some m) (some n)=.nx (e.set i (.dw (.tup [.int,.int]) [.tup [.int m,.int n]] [w])):=rfl
theorem y8o:dAlt c f1 f2 e=if c e=true then f1 e else f2 e:=rfl
theorem y4b:modIs i m k e=modK m k e[i]?:=rfl
theorem y8p:modK m k (some (.fr (.int n)))=decide (n%m=k):=rfl
end
end D
namespace L2
open PySem PySem.Spec PyProof.Rows
section
variable{X:Cx}{e:Expr}{te:TE}{e2:Expr}{tk:TO}{pos p2:Pos}
def tRevL(K:Fg)(te:TE)(tk:TO):TE:=fun σ H Q=>te σ H fun x H1=>tk σ H1 fun st H2=>st=some (-1)/\∃a xs,x=.ref a/\SqL K H2 a xs/\∀p,H2 p=none->Q (.ref p) (upd H2 p (.lst xs.reverse))
theorem Vals.rev{xs:List V}{us:List Value}(r:Vals xs us):Vals xs.reverse us.reverse:=by
 induction r with
 |nil=>exact .nil
 |cons h _ ih=>rw[w2f,w2f];exact ih.append (.cons h .nil)
theorem y4c(he:PE X e te)(hk:PO X (some e2) tk)(hs:∀a b:Addr,∃ops,subscripted (.Slice none none (some e2) p2) false (.ref a) (.ref b)=operate ops (getItem (.ref a) (.ref b)):=by intro _ _;exact⟨_,by with_unfolding_all rfl⟩):PE X (.Subscript e (.Slice none none (some e2) p2) pos) (tRevL X.K te tk):=by
 intro pins s σ H Q I h;refine Subscript_ (thn (he pins s σ H _ I h) fun v s1 ⟨x,H1,I1,r1,q1⟩=>?_)
 refine wpAny_Slice ?_;rw[evalPart_none];refine wpAny_pure ?_;refine wpAny_pure ?_;refine thn (hk pins s1 σ H1 _ I1 q1) fun vk s3 ⟨o,H3,I3,pk,ho,a,xs,ex,hx,q⟩=>?_
 subst ho ex;cases r1;have I4:Inv X pins σ H3 {s3 with heap:=s3.heap.push {cls:=.type "slice", data:=.fields #[.none,.none,vk]}}:=I3.kept (t':=s3.toks) fun b ob q=>Heap.get?_push_of_some _ q
 obtain⟨its,r,ht,hz⟩:=I4.list hx;have hlen:=r.length;show wpAny (model X.prog X.w) X.A (subscriptTail e (.Slice none none (some e2) p2) (.ref a) (.ref s3.heap.objs.size)) (EP X pins σ Q) X.xe {s3 with heap:=s3.heap.push {cls:=.type "slice", data:=.fields #[.none,.none,vk]}};obtain⟨ops,hs⟩:=hs a s3.heap.objs.size;refine tail_any (ops:=ops) ht.isList.typeIs slot_list_getitem.lookup ?_ hs;refine wpAny_getItem_list_slice ht.isList (Heap.IsSliceOf.new ..) .none .none pk (by decide) ?_ (by rw[w0c]<;>omega);rw[PySem.W.krv_pick];refine⟨.ref _,_,I4.laid (t':=s3.toks) (o:=.lst xs.reverse) (fun b ob q=>Heap.get?_push_of_some _ q) (w0g _) ?_,rfl,q _ (I4.hok.fresh (w0g _))⟩
 exact⟨by rw[w2s];exact hz,_,0,r.rev,Heap.get?_push_size _ rfl⟩
end
end L2
namespace D
open PySem L2
def revW:W->Option W
 |.lst ws=>some (.lst ws.reverse)
 |_=>none
def isM1(w:W)(e:List S):Option Int->R W
 |some (-1)=>ofOpt (revW w) e
 |_=>.no
def dRevS(d:Den W)(dk:Den (Option Int)):Den W:=fun e=>(d e).bind fun w e1=>(dk e1).bind fun st e2=>isM1 w e2 st
section
variable{X:Cx}{Z:Zt}{EE:L2.St->XK}{e e2:Expr}{da:Den W}{pos p2:Pos}
theorem y8q{dk:Den (Option Int)}(he:DE Z X EE e da)(hk:DO Z X EE (some e2) dk)(hs:∀a b:Addr,∃ops,subscripted (.Slice none none (some e2) p2) false (.ref a) (.ref b)=operate ops (getItem (.ref a) (.ref b)):=by intro _ _;exact⟨_,by with_unfolding_all rfl⟩):DE Z X EE (.Subscript e (.Slice none none (some e2) p2) pos) (dRevS da dk):=by
 refine PE.mono (y4c he hk hs) ?_;rintro σ H Q ⟨G,e,rel,h⟩;simp only[dRevS,R.holds_bind]at h;refine⟨G,e,rel,h.imp (fun w e1 h G1 v1 H1 r1 s1 p1=>?_) fun _ _ h=>h⟩
 refine⟨G1,e1,r1,h.imp (fun st e2 h G2 H2 r2 s2=>?_) fun _ _ h=>XH.trans s1 h⟩
 unfold isM1 at h;split at h
 ·rw[ofOpt_holds]at h;obtain⟨y,hf,h⟩:=h;have p3:=Rep.mono s2 w p1;have s03:=s1.trans s2;cases w with
  |lst ws=>
   cases hf;obtain⟨a,xs,rfl,q,r⟩:=p3;refine⟨rfl,a,xs,rfl,r2.sub.seq q,fun p hp=>?_⟩
   have g:=Grow.laid r2.sub hp (.lst xs.reverse);exact h _ _ _ (r2.grow g) (s03.trans g.gg) ⟨p,_,rfl,SqL.of q0d,Reps.mono g.gg _ r.rev⟩
  |_=>cases hf
 ·exact h.elim
theorem y4d{d:Den W}{dk:Den (Option Int)}{e:List S}:dRevS d dk e=(d e).bind fun w e1=>(dk e1).bind fun st e2=>isM1 w e2 st:=rfl
theorem y8r{w:W}{e:List S}:isM1 w e (some (-1))=ofOpt (revW w) e:=rfl
theorem z0x{ws:List W}:revW (.lst ws)=some (.lst ws.reverse):=rfl
end
end D
namespace L2
open PySem PySem.Spec PyProof.Rows
section
variable{X:Cx}
theorem y8s{l:Expr}{tl:TE}(hl:PE X l tl):PE X l (fun σ H Q=>tl σ H fun v H1=>∃a xs,H1 a=some (.lst xs)/\∀o,Q v (upd H1 a (.frz o (.lst xs)))):=by
 intro pins s σ H Q I h;refine thn (hl pins s σ H _ I h) fun v s1 ⟨x,H1,I1,r1,q1⟩=>?_
 obtain⟨a,xs,e,q⟩:=q1;obtain⟨its,_,⟨o,n,g,_⟩,_⟩:=I1.list (SqL.of e);exact⟨x,_,I1.freezeL e g,r1,q o⟩
end
end L2
namespace D
open PySem L2 PySem.Spec PyProof.Rows
open PyProof.Rows (envOfC)
section
variable{K:Fg}{Z:Zt}{G H:Hp}{σ:L2.St}{e:List S}
theorem Rel.refill(r:Rel K Z G σ H (e.set i .no)){s0:S}{v:V}(hv:σ[i]?=some (some v))(hs:∀b ws,s0≠.own b ws)(q:SlotOk K Z G H s0 (some v)):Rel K Z G σ H (e.set i s0):=by
 have h:=r.setS (i:=i) hs q;rw[w4n]at h
 have:σ.set i (some v)=σ:=by
  obtain⟨hi,h2⟩:=w0b.mp hv;rw[<- h2,List.set_getElem_self]
 rw[this]at h;exact h
theorem Rel.drop1(r:Rel K Z G σ H e)(i:Nat):Rel K Z G σ H (e.set i .no):=r.forget (by simp) fun k s z=>by
 by_cases hk:k=i
 ·subst hk
  have hi:k<e.length:=by
   have:=(w0b.mp z).1;simpa using this
  rw[w0h hi]at z;cases z;exact .inl rfl
 ·rw[w0f (fun z=>hk z.symm)]at z;exact .inr z
end
section
variable(K:Fg)(Z:Zt)(EE:L2.St->XK)
def PostW(D:Ends):SR->Prop
 |.nx e'=>∀G' σ' H',Rel K Z G' σ' H' e'->D.nx σ' H'
 |.bk e'=>∀G' σ' H',Rel K Z G' σ' H' e'->D.bk σ' H'
 |.ct e'=>∀G' σ' H',Rel K Z G' σ' H' e'->D.ct σ' H'
 |.rt s e'=>∀G' σ' v H',Rel K Z G' σ' H' e'->SlotOk K Z G' H' s (some v)->D.rt v H'
 |.ex c e'=>∀G' σ' H',Rel K Z G' σ' H' e'->EE σ' c none H'
 |.no=>False
def liftW(d:List S->SR):TS:=fun D σ H=>AtG K Z σ H fun G e=>PostW K Z EE D (d e)
end
variable{X:Cx}{dA:Den (List W)}{d:Den W}{G H:Hp}{σ:L2.St}{EE:L2.St->XK}{e:List S}{pos:Pos}{K:Fg}{x:Str}{Z:Zt}
def DSsW(Z:Zt)(X:Cx)(EE:L2.St->XK)(sts:List Stmt)(d:List S->SR):Prop:=PSs X sts (liftW X.K Z EE d)
section
variable{st:Stmt}{rest ss:List Stmt}{s1 s2 d:List S->SR}{y:Str}{p:Pos}
theorem PostW.post{D:Ends}{r:SR}(h:PostW K Z EE D r):PostS K Z EE D G r:=by
 cases r with
 |nx e=>exact fun G' σ' H' r _=>h G' σ' H' r
 |bk e=>exact fun G' σ' H' r _=>h G' σ' H' r
 |ct e=>exact fun G' σ' H' r _=>h G' σ' H' r
 |rt s e=>exact fun G' σ' v H' r _ q=>h G' σ' v H' r q
 |ex c e=>exact fun G' σ' H' r _=>h G' σ' H' r
 |no=>exact h
theorem x9s(h1:DS Z X EE st s1):DSsW Z X EE [st] s1:=PSs.mono (x2m h1) fun D σ H ⟨G,e,r,h⟩=>⟨G,e,r,h.post⟩
theorem q3o(h1:DS Z X EE st s1)(h2:DSsW Z X EE rest s2):DSsW Z X EE (st::rest) (dSeq s1 s2):=by
 refine PSs.mono (q5y h1 h2) ?_;rintro D σ H ⟨G,e,rel,h⟩;refine⟨G,e,rel,?_⟩;unfold dSeq at h;cases q:s1 e with
 |nx e'=>rw[q]at h;exact fun G' σ' H' r s=>⟨G',e',r,h⟩
 |bk e'=>rw[q]at h;exact h.post
 |ct e'=>rw[q]at h;exact h.post
 |rt w e'=>rw[q]at h;exact h.post
 |ex c e'=>rw[q]at h;exact h.post
 |no=>rw[q]at h;exact h
def toOld:S->S
 |.fr w=>.x (.old w)
 |.x (.fz w)=>.x (.fzo w)
 |_=>.no
def baseR:SR->SR
 |.rt (.fr w) e'=>.rt (.fr w) (e'.map fun _=>.no)
 |_=>.no
def dBase(d:List S->SR):List S->SR:=fun e=>baseR (d (e.map toOld))
def baseZ(Z:Zt)(G:Hp):Zt:=⟨fun a=>match G a with|some o=>some o|none=>Z.H a,G,[]⟩
theorem x4q{a:Addr}(h1:G a=none)(h2:Z.H a=none):(baseZ Z G).H a=none:=by
 show(match G a with|some o=>some o|none=>Z.H a)=none;rw[h1];exact h2
theorem Rel.base(r:Rel K Z G σ H e)(hio:Z.io=[]):Rel K (baseZ Z G) G σ H (e.map toOld):=by
 refine⟨r.sub,fun i s h=>?_,by rw[w0a];exact r.len,fun i j b b' ws ws' a h1 _ _ _=>?_,fun a o h _=>?_,(fun a h=>nomatch h),fun a _=>rfl⟩
 ·rw[w0j]at h;obtain⟨s0,h0,rfl⟩:=w0e.mp h;have q:=r.slot i s0 h0;cases s0 with
  |fr w=>obtain⟨u,q1,q2⟩:=q;exact⟨u,q1,q2,q2⟩
  |x k=>
   cases k with
   |fz w=>
    obtain⟨u,as,h1,h2,h3⟩:=q;have h4:=RepF.move (K:=K) (Z':=baseZ Z G) (H':=H) (.refl G) w (fun l o ys _ k=>⟨k.1,k.2.1,x4q k.2.1 k.2.2⟩) h3
    exact⟨u,as,h1,h2,h4,h4⟩
   |_=>trivial
  |_=>trivial
 ·rw[w0j]at h1;obtain⟨s0,_,h2⟩:=w0e.mp h1;cases s0 with
  |x k=>cases k<;>cases h2
  |_=>cases h2
 ·have h:(match G a with|some o=>some o|none=>Z.H a)=some o:=h;cases q:G a with
  |some u=>rw[q]at h;cases h;exact r.sub _ _ q
  |none=>rw[q]at h;exact r.ent a o h (by rw[hio];exact fun z=>nomatch z)
theorem Rel.unbase{G' H':Hp}{σ':L2.St}{e':List S}(r':Rel K (baseZ Z G) G' σ' H' e')(r:Rel K Z G σ H e)(hio:Z.io=[]):Rel K Z G' σ' H' (e'.map fun _=>.no):=by
 have hb:∀a o,Z.H a=some o->(baseZ Z G).H a=some o:=fun a o h=>by
  show(match G a with|some o=>some o|none=>Z.H a)=some o;cases q:G a with
  |none=>exact h
  |some u=>
   have h1:=r.sub _ _ q;rw[r.ent a o h (by rw[hio];exact fun z=>nomatch z)]at h1
   exact h1.symm
 refine⟨r'.sub,fun i s h=>?_,by rw[w0a];exact r'.len,fun i j b b' ws ws' a h1 _ _ _=>?_,fun a o h _=>r'.ent a o (hb a o h) (fun z=>nomatch z),fun a h=>(by rw[hio]at h;cases h),fun a h=>?_⟩
 ·rw[w0j]at h;obtain⟨s0,h0,rfl⟩:=w0e.mp h;trivial
 ·rw[w0j]at h1;obtain⟨s0,_,h2⟩:=w0e.mp h1;cases h2
 ·rw[<- r.gen a h];refine r'.gen a ?_;cases q:Z.H a with
  |none=>exact absurd q h
  |some o=>rw[hb a o q];exact fun z=>nomatch z
theorem x9t(hz:Z.H=X.H₀)(hio:Z.io=[])(h:∀Z',(∀a,Z'.H a=none->X.H₀ a=none)->Same Z'.G Z'.H->Z'.io=[]->DSsW Z' X EE ss d):DSs Z X EE ss (dBase d):=by
 intro pins s σ H D I hq;obtain⟨G,e,rel,hp⟩:=hq
 have hs:Same G (baseZ Z G).H:=fun a o z=>by
  show(match G a with|some o=>some o|none=>Z.H a)=some o;rw[z]
 refine h (baseZ Z G) (fun a z=>?_) hs rfl pins s σ H D I ⟨G,e.map toOld,rel.base hio,?_⟩
 ·have z:(match G a with|some o=>some o|none=>Z.H a)=none:=z;rw[<- hz];cases q:G a with
  |some u=>rw[q]at z;cases z
  |none=>rw[q]at z;exact z
 ·unfold dBase baseR at hp;split at hp
  ·rename_i w e' q;rw[q];intro G' σ' v H' r' sl;refine hp G' σ' v H' (r'.unbase rel hio) (fun a o z=>?_) sl
   rw[r'.gen a (by rw[hs a o z];exact fun z=>nomatch z)];exact z
  ·exact hp.elim
end
section
variable{w u v:W}{ws us vs:List W}{i j k:Nat}{da:Den W}{F:List W->FR}{l:Lm}{js:List Nat}{caps:List W}{c:Value}{ds:List S->SR}
theorem x9u:flatWs []=true:=rfl
theorem y8t{n:Int}:flatW (.int n)=true:=rfl
theorem y4e:dBase ds e=baseR (ds (e.map toOld)):=rfl
theorem x9v{e':List S}:baseR (.rt (.fr w) e')=.rt (.fr w) (e'.map fun _=>.no):=rfl
theorem y8u:toOld (.fr w)=.x (.old w):=rfl
theorem y8v:toOld .no=.no:=rfl
theorem x9w:hide1 (.x (.old w))=.fr w:=rfl
theorem x9x:hide1 (.x (.new w))=.fr w:=rfl
end
end D
namespace L2
open PySem PySem.Spec PyProof.Rows
end L2
namespace D
open PySem L2 PySem.Spec PyProof.Rows
open PyProof.Rows (envOfC)
variable{Z:Zt}
def nestCK(js:List Nat)(d:Den (List W))(e:List S):Option (List W)->R (List (List W))
 |some ws=>if ws.length<=16777216 then ofOpt (compN d (pjS js (frzs js e)) ws) (frzs js e)else .no
 |none=>.no
def dNestC(js:List Nat)(di:Den W)(d:Den (List W)):Den (List (List W)):=fun e=>(di e).bind fun w e1=>nestCK js d e1 (seqW w)
def liftX(K:Fg)(Z:Zt)(EE:L2.St->XK)(d:Den (List (List W))):TE:=fun σ H Q=>AtG K Z σ H fun G e=>(d e).holds (fun wss e'=>∀G' a ls H',Rel K Z G' σ H' e'->Same G G'->H' a=some (.lst (ls.map V.ref))->G' a=none->Z.H a=none->Free σ e' a->ls.Nodup->NestIn K Z G' H' ls wss->Q (.ref a) H') (XH K Z EE σ G)
def DX(Z:Zt)(X:Cx)(EE:L2.St->XK)(e:Expr)(d:Den (List (List W))):Prop:=PE X e (liftX X.K Z EE d)
section
variable{X:Cx}{EE:L2.St->XK}{elt iter:Expr}{scope sc:Scope}{pos pt:Pos}{x:Str}{Nf N:List Str}{js:List Nat}{di:Den W}{d:Den (List W)}
theorem y4f(hc:X.calm=true)(hi:DE Z X EE iter di)(ok:compOk sc scope N Nf js=true)
  (he:∀Z' cl C s₀ H₀ ex,DF Z' (X.cp ([x]++Nf) scope cl C s₀ H₀ ex) (fun _=>E0) elt d)
  (hg:∀cl C s₀ H₀ ex,PG (X.cp ([x]++Nf) scope cl C s₀ H₀ ex) (.Name x pt) (gName 0))
  (hsc:X.env.scope=sc:=by rfl)(hN:X.N=N:=by rfl)(hs:∀x,foldedSetIterable iter X.env x=pure x:=by intro _;rfl):
  DX Z X EE (.ListComp elt [⟨.Name x pt,iter,[],0⟩] scope pos) (dNestC js di d):=by
 have hE:∀cl C s₀ H₀ ex,PE (X.cp ([x]++Nf) scope cl C s₀ H₀ ex) elt (cF X.K d):=fun cl C s₀ H₀ ex pins s σ H Q I ⟨Z',h⟩=>he Z' cl C s₀ H₀ ex pins s σ H Q I h
 refine PE.mono (q7l (Nl:=[x]) (tc:=cT X.K dYes) (te:=cFz X.K d) hc (q45 hi) ok hg (q61 fun _ _ _ _ _ _=>q25) (fun cl C s₀ H₀ ex=>q5t (hE cl C s₀ H₀ ex)) hsc hN hs) ?_
 rintro σ H Q ⟨G,e,rel,h⟩;simp only[dNestC,R.holds_bind]at h;refine⟨G,e,rel,h.imp (fun w e1 h G1 v1 H1 r1 s1 p1=>?_) fun _ _ h=>h⟩
 unfold nestCK at h;split at h
 ·rename_i ws hw;split at h
  ·rename_i hl;obtain⟨out,ho,h⟩:=ofOpt_holds.mp h;obtain⟨G2,s2,r2⟩:=r1.frzs js;have p2:=Rep.mono s2 w p1;have io:=ionone r2;cases w with
   |tup us=>
    cases hw;obtain⟨a,xs,rfl,hq,rp⟩:=p2;exact⟨a,rfl,.inr ⟨⟨xs,r2.sub.tup hq⟩,q67 (Q:=Q) q8f r2 (s1.trans s2) rp (fun G' H' s s'=>Same.tup s' (Same.tup s hq)) hl io ho h⟩⟩
   |lst us=>
    cases hw;obtain⟨a,xs,rfl,hq,rp⟩:=p2;exact⟨a,rfl,.inl ⟨⟨xs,r2.sub.seq hq⟩,q67 (Q:=Q) q8e r2 (s1.trans s2) rp (fun G' H' s s'=>Same.seq s' (Same.seq s hq)) hl io ho h⟩⟩
   |_=>cases hw
  ·exact h.elim
 ·exact h.elim
end
section
variable{X:Cx}{EE:L2.St->XK}{a b c:Expr}{da db dc:Den W}{dX:Den (List (List W))}{x:Str}{pos p tpos ipos:Pos}
def dRetTN(da db:Den W)(dX:Den (List (List W))):List S->SR:=fun e=>(da e).stm fun u e1=>(db e1).stm fun v e2=>(dX e2).stm fun wss e3=>.rt (.x (.tn [u,v] wss)) e3
theorem x9y{x1}(hio:Z.io=[])(ha:DE Z X EE a da)(hb:DE Z X EE b db)(hc:DX Z X EE c dX)
  (h1:starEach [a,b,c] X.env=(false,eval a X.env)::starEach [b,c] X.env:=by rfl)(h2:starEach [b,c] X.env=(false,eval b X.env)::starEach [c] X.env:=by rfl)(h3:starEach [c] X.env=(false,eval c X.env)::starEach [] X.env:=by rfl):
  DS Z X EE (.Return (some (.Tuple [a,b,c] x1 tpos)) pos) (dRetTN da db dX):=by
 refine PS.mono (x0n (x0s (q09 ha (q09 hb (q09 (q5t hc) q2r h3) h2) h1))) ?_;rintro D σ H ⟨G,e,rel,h⟩;refine⟨G,e,rel,(q0u h).imp (fun u e1 h G1 v1 H1 r1 s1 p1=>?_) fun _ _ h=>h⟩
 refine⟨G1,e1,r1,(q0u (σ:=σ) h).imp (fun v e2 h G2 v2 H2 r2 s2 p2=>?_) fun _ _ h=>XH.trans s1 h⟩
 refine⟨G2,e2,r2,(q0u (σ:=σ) h).imp (fun wss e3 h G3 l ls H3 r3 s3 q1 q2 q3 q4 hnd hin=>?_) fun _ _ h=>XH.trans (s1.trans s2) h⟩
 refine⟨l,ls.map V.ref,rfl,q1,fun o=>⟨by rw[sizeLine_eq];show 3<=16777216;decide,fun t ht=>?_⟩⟩
 have r4:=r3.mutFree (o:=.frz o (.lst (ls.map V.ref))) q2 q3 (by rw[hio];exact fun z=>nomatch z) q4 q1
 have htl:l≠t:=fun z=>by subst z;rw[q0d]at ht;cases ht
 have g:=Grow.laid r4.sub ht (.tup [v1,v2,.ref l]);have s23:=s2.trans s3;refine h _ σ (.ref t) _ (r4.grow g) ((s1.trans s23).trans g.gg) ⟨t,l,o,ls,[v1,v2],rfl,q0d,⟨?_,?_,q3⟩,⟨hnd,fun hl=>?_⟩,?_,?_⟩
 ·rw[q0c htl,q0d]
 ·rw[q0c htl];exact q2
 ·obtain⟨o',ys',k⟩:=hin.mem l hl;have k1:=k.1;rw[q1]at k1;cases k1
 ·exact⟨v1,[v2],rfl,Rep.mono (s23.trans g.gg) u p1,v2,[],rfl,Rep.mono (s3.trans g.gg) v p2,rfl⟩
 ·refine hin.move g.gg fun c o ys k1 k2 k3=>?_
  have n1:c≠l:=q0x k1 q1 (fun z=>nomatch z)
  have n2:c≠t:=fun z=>by subst z;rw[q0c n1,k1]at ht;cases ht
  exact⟨by rw[q0c n2,q0c n1];exact k1,by rw[q0c n2];exact k2,k3⟩
end
section
variable{e:List S}{w u v:W}{ws us vs:List W}{wss:List (List W)}{i j k c:Nat}{d da db dc:Den W}{dA dF:Den (List W)}{dX:Den (List (List W))}{F:List W->FR}{js:List Nat}{kS:List S->SR}
theorem x9z:dNestC js d dF e=(d e).bind fun w e1=>nestCK js dF e1 (seqW w):=rfl
theorem x90:nestCK js dF e (some ws)=if ws.length<=16777216 then ofOpt (compN dF (pjS js (frzs js e)) ws) (frzs js e)else .no:=rfl
theorem x91:dRetTN da db dX e=(da e).stm fun u e1=>(db e1).stm fun v e2=>(dX e2).stm fun wss e3=>.rt (.x (.tn [u,v] wss)) e3:=rfl
theorem y4g:hide1 (.x (.tn us wss))=.fr (.tup (us++[.lst (wss.map W.lst)])):=rfl
end
end D
namespace Att
open PySem PySem.W PySem.Calls PyProof.Rows
end Att
namespace L2
open PySem PySem.Spec PyProof.Rows
end L2
namespace D
open PySem L2
open Classical in
noncomputable instance fitsD (k:Kx) (sh:Sh):Decidable (fits k sh):=Classical.propDecidable _
open PySem L2 PySem.Spec PyProof.Rows
section
variable{K:Fg}{Z:Zt}{G H:Hp}
mutual
theorem x6x:∀(w:W){v:V},flatW w=true->Rep K G w v->RepF K Z G H w v []
 |.non,_,_,h=>⟨h,rfl⟩
 |.bl _,_,_,h=>⟨h,rfl⟩
 |.int _,_,_,h=>⟨h,rfl⟩
 |.str _,_,_,h=>⟨h,rfl⟩
 |.tup ws,_,f,⟨a,xs,e,q,r⟩=>⟨a,xs,e,q,q3q ws f r⟩
 |.lst _,_,f,_=>nomatch f
 |.exc _,_,f,_=>nomatch f
 |.dw _ _ _ _,_,f,_=>nomatch f
 |.fn _ _ _,_,f,_=>nomatch f
theorem q3q:∀(ws:List W){vs:List V},flatWs ws=true->Reps K G ws vs->RepFs K Z G H ws vs []
 |[],_,_,h=>⟨h,rfl⟩
 |w::ws,_,f,⟨x,r,e,p,q⟩=>by
  have f:(flatW w&&flatWs ws)=true:=f;rw[w0s]at f;exact⟨x,r,[],[],e,rfl,x6x w f.1 p,q3q ws f.2 q⟩
end
theorem RepFs.append:∀{ws ws':List W}{xs xs':List V}{as as':List Addr},RepFs K Z G H ws xs as->RepFs K Z G H ws' xs' as'->RepFs K Z G H (ws++ws') (xs++xs') (as++as')
 |[],_,_,_,_,_,h,h'=>by obtain⟨rfl,rfl⟩:=h;exact h'
 |w::ws,_,_,_,_,_,⟨x,r,b,c,e,e2,p,q⟩,h'=>by
  subst e;subst e2;exact⟨x,_,b,_,rfl,by rw[w2g],p,RepFs.append q h'⟩
theorem q8o{Z':Zt}(hz:∀a,Z.H a=none->Z'.H a=none):∀{ls:List Addr}{wss:List (List W)},wss.all flatWs=true->NestIn K Z G H ls wss->RepFs K Z' G H (wss.map W.lst) (ls.map V.ref) ls
 |[],[],_,_=>⟨rfl,rfl⟩
 |l::ls,ws::wss,f,⟨⟨o,ys,⟨h1,h2,h3⟩,h4⟩,h⟩=>by
  rw[w1o,w0s]at f;exact⟨.ref l,_,[l],ls,rfl,rfl,⟨l,ys,rfl,⟨o,h1,h2,hz _ h3⟩,[],rfl,q3q ws f.1 h4⟩,q8o hz f.2 h⟩
 |[],_::_,_,h=>h.elim
 |_::_,[],_,h=>h.elim
theorem NestIn.fz0:∀{ls:List Addr}{wss:List (List W)},NestIn K Z G H ls wss->∀a∈ls,Z.H a=none
 |[],_,_,_,m=>nomatch m
 |l::ls,ws::wss,⟨⟨o,ys,⟨_,_,h3⟩,_⟩,h⟩,a,m=>by
  rcases w0p.mp m with rfl|m
  ·exact h3
  ·exact h.fz0 a m
 |_::_,[],h,_,_=>h.elim
def tnW(us:List W)(wss:List (List W)):W:=.tup (us++[.lst (wss.map W.lst)])
def flatTN(us:List W)(wss:List (List W)):Bool:=flatWs us&&wss.all flatWs
theorem z0y{Z':Zt}{us:List W}{wss:List (List W)}{v:V}(hz:∀a,Z.H a=none->Z'.H a=none)(f:flatTN us wss=true)(h:TnOk K Z G H us wss (some v)):∃as,RepF K Z' G H (tnW us wss) v as/\as.Nodup/\∀a∈as,Z.H a=none:=by
 obtain⟨t,l,o,ls,xs,h1,h2,h3,⟨h4,h5⟩,h6,h7⟩:=h;injection h1 with h1
 unfold flatTN at f;rw[w0s]at f;refine⟨l::ls,⟨t,_,h1,SqT.of h2,?_⟩,w1g.mpr ⟨h5,h4⟩,fun a m=>?_⟩
 ·have q:=RepFs.append (Z:=Z') (H:=H) (q3q us f.1 h6) (ws':=[.lst (wss.map W.lst)]) (xs':=[.ref l]) (as':=l::ls) ⟨.ref l,[],l::ls,[],rfl,by simp,⟨l,_,rfl,⟨o,h3.1,h3.2.1,hz _ h3.2.2⟩,ls,rfl,q8o hz f.2 h7⟩,rfl,rfl⟩
  simpa using q
 ·rcases w0p.mp m with rfl|m
  ·exact h3.2.2
  ·exact h7.fz0 a m
theorem FzAt.grow{G' H':Hp}(g:Grow G H G' H'){l:Addr}{o:Obj}{ys:List V}(h:FzAt Z G H l o ys):FzAt Z G' H' l o ys:=⟨g.hh _ _ h.1,by rw[g.new l (by rw[h.1];exact fun z=>nomatch z)];exact h.2.1,h.2.2⟩
theorem RepF.grow{G' H':Hp}(g:Grow G H G' H')(w:W){v:V}{as:List Addr}(h:RepF K Z G H w v as):RepF K Z G' H' w v as:=RepF.move g.gg w (fun _ _ _ _ k=>k.grow g) h
def clrW:List (Bool×Nat)->W->Option W
 |[],.lst _=>some (.lst [])
 |(false,k)::p,.lst ws=>(ws[k]?.bind (clrW p)).map fun w=>.lst (ws.set k w)
 |(true,k)::p,.tup ws=>(ws[k]?.bind (clrW p)).map fun w=>.tup (ws.set k w)
 |_,_=>none
def Way(K:Fg)(H:Hp):List (Bool×Nat)->V->Addr->Prop
 |[],v,l=>v=.ref l
 |(true,k)::p,v,l=>RefTo v (SqT K H) fun _ xs=>∃x,xs[k]?=some x/\Way K H p x l
 |(false,k)::p,v,l=>RefTo v (SqL K H) fun _ xs=>∃x,xs[k]?=some x/\Way K H p x l
theorem Way.snoc{t:Bool}{k:Nat}{l:Addr}:∀{p:List (Bool×Nat)}{v:V},Way K H (p++[(t,k)]) v l->∃l' xs,Way K H p v l'/\(if t=true then SqT K H l' xs else SqL K H l' xs)/\xs[k]?=some (.ref l)
 |[],v,h=>by
  cases t with
  |true=>obtain⟨a,xs,rfl,q,x,h1,h2⟩:=h;cases h2;exact⟨a,xs,rfl,q,h1⟩
  |false=>obtain⟨a,xs,rfl,q,x,h1,h2⟩:=h;cases h2;exact⟨a,xs,rfl,q,h1⟩
 |(true,j)::p,v,h=>by
  obtain⟨a,xs,rfl,q,x,h1,h2⟩:=h;obtain⟨l',ys,k1,k2,k3⟩:=Way.snoc h2;exact⟨l',ys,⟨a,xs,rfl,q,x,h1,k1⟩,k2,k3⟩
 |(false,j)::p,v,h=>by
  obtain⟨a,xs,rfl,q,x,h1,h2⟩:=h;obtain⟨l',ys,k1,k2,k3⟩:=Way.snoc h2;exact⟨l',ys,⟨a,xs,rfl,q,x,h1,k1⟩,k2,k3⟩
theorem RepFs.at:∀{ws:List W}{xs:List V}{as:List Addr}{k:Nat}{w:W},RepFs K Z G H ws xs as->ws[k]?=some w->∃x b,xs[k]?=some x/\b.Sublist as/\RepF K Z G H w x b /\
  (as.Nodup->∀(w':W)(b':List Addr)(H':Hp),b'.Sublist b->RepF K Z G H' w' x b'->(∀l o ys,l∈as->l∉b->FzAt Z G H l o ys->FzAt Z G H' l o ys)->∃as',as'.Sublist as/\RepFs K Z G H' (ws.set k w') xs as')
 |[],_,_,k,w,_,e=>by simp at e
 |w0::ws,_,_,0,w,⟨x,r,b,c,e1,e2,p,q⟩,e=>by
  subst e1;subst e2;simp at e;subst e;refine⟨x,b,rfl,List.sublist_append_left _ _,p,fun nd w' b' H' sb p' hk=>⟨b'++c,sb.append_right _,x,r,b',c,rfl,rfl,p',?_⟩⟩
  refine RepFs.move (.refl _) ws (fun l o ys m z=>hk l o ys (w0i _ m) (fun m'=>?_) z) q
  exact(w2i.mp nd).2.2 l m' l m rfl
 |w0::ws,_,_,k+1,w,⟨x,r,b,c,e1,e2,p,q⟩,e=>by
  subst e1;subst e2;obtain⟨y,d,h1,h2,h3,h4⟩:=RepFs.at q (by simpa using e);refine⟨y,d,by simpa using h1,h2.trans (List.sublist_append_right _ _),h3,fun nd w' b' H' sb p' hk=>?_⟩
  obtain⟨nb,nc,nn⟩:=w2i.mp nd;obtain⟨as',s1,s2⟩:=h4 nc w' b' H' sb p' fun l o ys m=>hk l o ys (w0i _ m)
  refine⟨b++as',s1.append_left _,x,r,b,as',rfl,rfl,RepF.move (.refl _) w0 (fun l o ys m z=>hk l o ys (w2m _ m) (fun m'=>nn l m l (h2.subset m') rfl) z) p,s2⟩
theorem RepF.clear:∀(p:List (Bool×Nat))(w:W){v:V}{as:List Addr}{w':W},RepF K Z G H w v as->Same G H->clrW p w=some w'->as.Nodup ->
  ∃l o ys,l∈as/\FzAt Z G H l o ys/\Way K H p v l/\∀o',∃as',as'.Sublist as/\RepF K Z G (upd H l (.frz o' (.lst []))) w' v as'
 |[],w,v,as,w',h,sg,e,nd=>by
  cases w with
  |lst ws=>
   cases e;obtain⟨a,xs,rfl,⟨o,q⟩,bs,rfl,r⟩:=h;refine⟨a,o,xs,w1d ..,q,rfl,fun o'=>⟨[a],by simp,a,[],rfl,⟨o',q0d,q.2.1,q.2.2⟩,[],rfl,rfl,rfl⟩⟩
  |_=>cases e
 |(true,k)::p,w,v,as,w',h,sg,e,nd=>by
  cases w with
  |tup ws=>
   obtain⟨w1,e1,rfl⟩:=w0e.mp e;obtain⟨w0,e0,e1⟩:=w1f.mp e1;obtain⟨a,xs,rfl,q,r⟩:=h;obtain⟨x,b,h1,h2,h3,h4⟩:=RepFs.at r e0;obtain⟨l,o,ys,g1,g2,g3,g4⟩:=RepF.clear p w0 h3 sg e1 (nd.sublist h2);refine⟨l,o,ys,h2.subset g1,g2,⟨a,xs,rfl,sg.tup q,x,h1,g3⟩,fun o'=>?_⟩
   obtain⟨b',s1,s2⟩:=g4 o';obtain⟨as',s3,s4⟩:=h4 nd w1 b' _ s1 s2 fun c oc yc m n z=>⟨by rw[q0c (fun z=>n (by rw[z];exact g1))];exact z.1,z.2.1,z.2.2⟩
   exact⟨as',s3,a,xs,rfl,q,s4⟩
  |_=>cases e
 |(false,k)::p,w,v,as,w',h,sg,e,nd=>by
  cases w with
  |lst ws=>
   obtain⟨w1,e1,rfl⟩:=w0e.mp e;obtain⟨w0,e0,e1⟩:=w1f.mp e1;obtain⟨a,xs,rfl,⟨oa,q⟩,bs,rfl,r⟩:=h;obtain⟨na,nb⟩:=w1g.mp nd;obtain⟨x,b,h1,h2,h3,h4⟩:=RepFs.at r e0;obtain⟨l,o,ys,g1,g2,g3,g4⟩:=RepF.clear p w0 h3 sg e1 (nb.sublist h2);refine⟨l,o,ys,w0k _ (h2.subset g1),g2,⟨a,xs,rfl,.inl (.inr ⟨oa,q.1⟩),x,h1,g3⟩,fun o'=>?_⟩
   obtain⟨b',s1,s2⟩:=g4 o';obtain⟨as',s3,s4⟩:=h4 nb w1 b' _ s1 s2 fun c oc yc m n z=>⟨by rw[q0c (fun z=>n (by rw[z];exact g1))];exact z.1,z.2.1,z.2.2⟩
   refine⟨a::as',s3.cons₂ _,a,xs,rfl,⟨oa,?_,q.2.1,q.2.2⟩,as',rfl,s4⟩;rw[q0c (fun z=>na (by rw[z];exact h2.subset g1))];exact q.1
  |_=>cases e
end
section
variable{X:Cx}{Z:Zt}{EE:L2.St->XK}{ex e:Expr}{x y z f:Str}{pos p tpos spos:Pos}
def tWay(K:Fg)(i:Nat)(p:List (Bool×Nat)):TE:=fun σ H Q=>∃v l,σ[i]?=some (some v)/\Way K H p v l/\Q (.ref l) H
theorem y0x(i:Nat)(hN:X.N[i]?=some x:=by rfl)(hv:Vis X.env.scope x:=by walk_at "1")(hd:(x==("__debug__":Str))=false:=by decide)(hcd:(x==("__classdict__":Str))=false:=by decide):PE X (.Name x pos) (tWay X.K i []):=
 PE.mono (pv i hN hv hd hcd) fun σ H Q ⟨v,l,h1,h2,h3⟩=>by cases h2;exact⟨_,h1,h3⟩
theorem pw_L(k:Nat){i:Nat}{q:List (Bool×Nat)}{kk kp}(h:PE X e (tWay X.K i q))(hs:PlainIx (.Constant (.int (k:Int)) kk kp):=by intro _ _;rfl):PE X (.Subscript e (.Constant (.int (k:Int)) kk kp) spos) (tWay X.K i (q++[(false,k)])):=
 PE.mono (q5z ix_list h q4x hs) fun σ H Q ⟨v,l,h1,h2,h3⟩=>by
  obtain⟨l',xs,g1,g2,g3⟩:=h2.snoc;rw[if_neg (fun z=>nomatch z)]at g2
  exact⟨v,l',h1,g1,l',xs,_,.ref l,rfl,rfl,g2,q19 g3,h3⟩
theorem pw_T(k:Nat){i:Nat}{q:List (Bool×Nat)}{kk kp}(h:PE X e (tWay X.K i q))(hs:PlainIx (.Constant (.int (k:Int)) kk kp):=by intro _ _;rfl):PE X (.Subscript e (.Constant (.int (k:Int)) kk kp) spos) (tWay X.K i (q++[(true,k)])):=
 PE.mono (q5z ix_tup h q4x hs) fun σ H Q ⟨v,l,h1,h2,h3⟩=>by
  obtain⟨l',xs,g1,g2,g3⟩:=h2.snoc;rw[if_pos rfl]at g2;exact⟨v,l',h1,g1,l',xs,_,.ref l,rfl,rfl,g2,q19 g3,h3⟩
def clearFK(i:Nat)(q:List (Bool×Nat))(e:List S):Option S->SR
 |some (.x (.fzo w))=>match clrW q w with
  |some w'=>if(e.set i .no).all (fun s=>!isT s)=true then .nx (e.set i (.x (.fzo w')))else .no
  |none=>.no
 |_=>.no
def dClearF(i:Nat)(q:List (Bool×Nat)):List S->SR:=fun e=>clearFK i q e e[i]?
theorem q9w(i:Nat){q:List (Bool×Nat)}{apos cpos:Pos}(hz:∀a,Z.H a=none->X.H₀ a=none)(hG:Same Z.G Z.H)(hio:Z.io=[])(he:PE X ex (tWay X.K i q))
  (hbase:attributeBase ex "clear" X.env (eval ex X.env)=eval ex X.env:=by rfl)(hline:(apos.endLine==cpos.line)=true:=by rfl)(hsw:swapsWith (.Call (.Attribute ex "clear" apos) [] [] cpos) none pos.line X.env=pure false:=by rfl):
  DS Z X EE (.Expr (.Call (.Attribute ex "clear" apos) [] [] cpos) pos) (dClearF i q):=by
 refine PS.mono (q6x (y8s (x48 PySem.F.plainAttrs_list PySem.F.slot_list_clear PySem.F.type_list_clear x7s (x9c he) hbase hline)) hsw) ?_;rintro D σ H ⟨G,e,rel,h⟩;unfold dClearF clearFK at h;split at h
 ·rename_i w hei;split at h
  ·rename_i w' hw;split at h
   ·rename_i hT;obtain⟨u,as,h1,h2,h3,h4⟩:=rel.slot i _ hei;have hvi:=rel.at hei fun _=>h1
    have sZ:Same Z.G H:=fun a o z=>rel.ent a o (hG a o z) (by rw[hio];exact fun z=>nomatch z)
    have sG:Same Z.G G:=fun a o z=>by rw[rel.gen a (by rw[hG a o z];exact fun z=>nomatch z)];exact z
    obtain⟨l,o,ys,g1,g2,g3,g4⟩:=RepF.clear q w h3 sZ hw h2;have gn:∀c,c∈as->G c=none:=fun c m=>let ⟨_,_,z⟩:=RepF.fzs w h4 m;z.2.1
    refine⟨u,l,hvi,g3,l,o,ys,rfl,g2.1,fun _ _ z=>(by rw[hz _ g2.2.2]at z;cases z),.inl ⟨rfl,ys,SqL.of q0d⟩,l,ys,rfl,rfl,q0d,l,[],q0d,fun o'=>?_⟩
    rw[show upd (upd (upd H l (.lst ys)) l (.lst [])) l (.frz o' (.lst []))=upd H l (.frz o' (.lst []))from by funext c;unfold upd;split<;>rfl]
    obtain⟨as',s1,s2⟩:=g4 o';exact h G σ _ (((rel.drop1 i).mutL g2.1 (gn l g1) g2.2.2 (allT hT)).refill hvi (fun _ _ z=>nomatch z) ⟨u,as',rfl,h2.sublist s1,s2,RepF.move sG w' (fun c oc yc m z=>⟨z.1,gn c (s1.subset m),z.2.2⟩) s2⟩) (.refl _)
   ·exact h.elim
  ·exact h.elim
 ·exact h.elim
def fzTN:FR->Option W
 |.ok (.x (.tn us wss))=>if flatTN us wss=true then some (tnW us wss)else none
 |_=>none
theorem x26{K:Fg}{G H:Hp}{σ:L2.St}{e:List S}{F:List W->FR}{w u:W}{v:V}{E:XK}{Q:VK}(rel:Rel K Z G σ H e)(hF:fzTN (F [w])=some u)(p:Rep K G w v)
  (h:∀G' H' v' as,Grow G H G' H'->RepF K Z G' H' u v' as->as.Nodup->(∀a∈as,H a=none)->Q v' H'):spF K F [v] H Q E:=by
 refine⟨G,[w],rel.sub,.one p,?_⟩;unfold fzTN at hF;split at hF
 ·rename_i us wss hq;split at hF
  ·rename_i hf;cases hF;rw[hq];intro G' H' v' g sl;obtain⟨as,k1,k2,k3⟩:=z0y (Z:=⟨H,G,[]⟩) (Z':=Z) (fun a z=>q2h rel z) hf sl
   exact h G' H' v' as g k1 k2 k3
  ·cases hF
 ·cases hF
end
section
variable{e:List S}{w w' u1 u2 w1 w2:W}{us:List W}{wss:List (List W)}{i j k:Nat}{q:List (Bool×Nat)}{F:List W->FR}
theorem x6y:dClearF i q e=clearFK i q e e[i]?:=rfl
theorem q6t(h1:clrW q w=some w')(h2:(e.set i .no).all (fun s=>!isT s)=true):clearFK i q e (some (.x (.fzo w)))=.nx (e.set i (.x (.fzo w'))):=by
 unfold clearFK;dsimp only;rw[h1];exact if_pos h2
theorem x1j(h:flatTN us wss=true):fzTN (.ok (.x (.tn us wss)))=some (tnW us wss):=if_pos h
theorem y4h:hide1 (.x (.fz w))=.fr w:=rfl
theorem x92:hide1 (.x (.fzo w))=.fr w:=rfl
theorem y8w:toOld (.x (.fz w))=.x (.fzo w):=rfl
end
variable{X:Cx}{G:Hp}{EE:L2.St->XK}{e:List S}{us:List W}{i:Nat}{p pos:Pos}{K:Fg}{x y:Str}{v:V}{w:W}{Z:Zt}
def allTr:List W->Bool
 |[]=>true
 |.bl true::ws=>allTr ws
 |_=>false
theorem q53:∀{ws:List W}{vs:List V},allTr ws=true->Reps K G ws vs->∀v∈vs,v=.bl true
 |[],_,_,h,v,m=>by cases(show _=[]from h);cases m
 |w::ws,_,a,⟨x,r,e,h1,h2⟩,v,m=>by
  subst e;cases w with
  |bl b=>
   cases b with
   |false=>cases a
   |true=>
    rcases w0p.mp m with rfl|m
    ·exact h1
    ·have a':allTr ws=true:=a;exact q53 a' h2 v m
  |_=>cases a
theorem q9x{κ:Type} [DecidableEq κ]{kvs:List (κ×V)}{k:κ}(h:(valV kvs k).isSome=true)(ha:∀x∈kvs.map (·.2),x=v):putK kvs k v=kvs:=by
 unfold putK;rw[q52,h,if_pos rfl]
 conv=>rhs;rw[<- List.map_id kvs]
 refine w3g fun p hp=>?_
 split
 ·have:=ha p.2 (w3h hp);show(p.1,v)=p;rw[<- this]
 ·rfl
def putXC(i:Nat)(w kw:W)(e:List S):Option S->SR
 |some (.dw sh ks ws)=>match keyT kw with
  |some x=>if ks.length<16777216/\(e.set i .no).all (fun s=>!isDw s)=true/\fits x sh/\(allTr ws&&allTr [w])=true then(if(lkW ks ws x).isSome=true then .nx e else .nx (e.set i (.dw sh (ks++[x]) (ws++[w]))))else .no
  |none=>.no
 |_=>.no
def putX0(i:Nat)(dk:Den W)(w:W)(e1:List S):Option S->SR
 |some (.dw _ _ _)=>(dk e1).stm fun kw e2=>putXC i w kw e2 e2[i]?
 |_=>.no
def dPutX(i:Nat)(d dk:Den W):List S->SR:=fun e=>(d e).stm fun w e1=>putX0 i dk w e1 e1[i]?
section
variable{e k:Expr}{d dk:Den W}{tpos:Pos}
theorem y4i(i:Nat)(hK:NoTup X.K)(hu:X.A.units+150<cLine)(he:DE Z X EE e d)(hk:DE Z X EE k dk)(hN:X.N[i]?=some x:=by rfl)(hv:Vis X.env.scope x:=by walk_at "1")(hd:(x==("__debug__":Str))=false:=by decide)(hcd:(x==("__classdict__":Str))=false:=by decide)
  (hs:swapsWith e (some (.Subscript (.Name x p) k tpos)) pos.line X.env=pure false:=by rfl):DS Z X EE (.Assign [.Subscript (.Name x p) k tpos] e pos) (dPutX i d dk):=by
 refine PS.mono (x21 (by omega) (pv i hN hv hd hcd) hk he hs) ?_;rintro D σ H ⟨G,e,rel,h⟩;refine⟨G,e,rel,(q0u h).imp (fun w e1 h G1 v1 H1 r1 s1 p1=>?_) fun _ _ h=>h⟩
 unfold putX0 at h;split at h
 ·rename_i sh0 ks0 ws0 he0;obtain⟨a,kvs0,kas0,q1,q2,_⟩:=r1.dw he0;refine⟨.ref a,q1,G1,e1,r1,(q0u (σ:=σ) h).imp (fun kw e2 h G2 v2 H2 r2 s2 p2=>?_) fun _ _ h G' H' r s=>h G' H' r (s1.trans s)⟩
  unfold putXC at h;split at h
  ·rename_i sh ks ws he2;obtain⟨a',kvs,kas,g1,g2,g3,g4,g5,g6,g7⟩:=r2.dw he2;rw[q1]at g1;cases g1;split at h
   ·rename_i t hk1;split at h
    ·rename_i hc;obtain⟨b,rfl,kr⟩:=q5a hK (.refl G2) hk1 p2;have krH:KRep H2 t (.ref b):=KRep.keeps (fun _ _ _ z=>r2.sub _ _ z) t kr
     subst g5;have hI:=noI kr hc.2.2.1;rw[q4c hI]at g2;obtain⟨hA1,hA2⟩:=(w0s _ _).mp hc.2.2.2;have hv1:v1=.bl true:=q53 hA2 (.one p1) v1 (by simp);subst hv1;refine⟨a,_,rfl,DPut.t g2 ⟨krH,hc.2.2.1⟩ (by rw[sizeLine_eq];have:=hc.1;rw[w0a]at this;exact this),?_⟩;cases hq:lkW (kvs.map (·.1)) ws t with
     |some w0=>
      rw[hq,if_pos (show(some w0).isSome=true from rfl)]at h;obtain⟨u,hu1,_⟩:=(q6p g7).1 w0 hq;have hsome:(valV kvs t).isSome=true:=by rw[hu1];rfl
      rw[q9x hsome (q53 hA1 g7),show putAd kvs kas t b=kas by unfold putAd;rw[if_pos hsome]]
      have eH:upd H2 a (.dT sh kvs kas)=H2:=by
       funext c
       by_cases hc':c=a
       ·subst hc';rw[q0d,g2]
       ·rw[q0c hc']
      rw[eH];exact h G2 σ H2 r2 (s1.trans s2)
     |none=>
      rw[hq,if_neg (show ¬((none:Option W).isSome=true)from w0r)]at h;have hnew:valV kvs t=none:=(q6p g7).2 hq;rw[q7s _ hnew,show putAd kvs kas t b=kas++[b] by unfold putAd;rw[hnew];rfl,<- q4c hI];refine h G2 σ _ (r2.mutDw (ks':=kvs.map (·.1)++[t]) (ws':=ws++[w]) he2 q1 (fun s hs=>?_) (by rw[w0m];rfl) (.of (KeysG.snoc kr (g6.g hI)) hI) ?_) (s1.trans s2)
      ·have:=w0o.mp hc.2.1 s hs;simpa using this
      ·rw[w0m];exact g7.append (.one (Rep.mono s2 w p1))
    ·exact h.elim
   ·exact h.elim
  ·exact h.elim
 ·exact h.elim
theorem y4j{e:List S}:dPutX i d dk e=(d e).stm fun w e1=>putX0 i dk w e1 e1[i]?:=rfl
theorem y4k{e:List S}{sh:Sh}{ks:List Kx}{ws:List W}:putX0 i dk w e (some (.dw sh ks ws))=(dk e).stm fun kw e2=>putXC i w kw e2 e2[i]?:=rfl
end
section
variable{z u f:Str}
def setFz3(i:Nat)(F:List W->FR)(e:List S):Option S->Option S->Option S->SR
 |some (.fr w1),some (.fr w2),some (.fr (.lst us))=>match fzTN (F [w1]),fzTN (F [w2])with
  |some u1,some u2=>if flatWs us=true then .nx (e.set i (.x (.fz (.lst [u1,u2,.lst us]))))else .no
  |_,_=>.no
 |_,_,_=>.no
def dSetFz3(i j k l:Nat)(F:List W->FR):List S->SR:=fun e=>setFz3 i F e e[j]? e[k]? e[l]?
theorem x6z(i j k l:Nat){n:Nat}{ps:List Str}{F:List W->FR}{np1 np2 np3 c1 c2 c3 yp zp up lp:Pos}(hN:X.N.Nodup)(hm:X.mg "list"=none)(C:Cal X.prog X.w X.K X.mg X.base n f ps (spF X.K F))(hr:Room n X.A)(hx:PassX (CX1 X.prog X.w) X EE)
  (hNy:X.N[j]?=some y:=by rfl)(hvy:Vis X.env.scope y:=by walk_at "1")(hdy:(y==("__debug__":Str))=false:=by decide)(hcy:(y==("__classdict__":Str))=false:=by decide)
  (hNz:X.N[k]?=some z:=by rfl)(hvz:Vis X.env.scope z:=by walk_at "1")(hdz:(z==("__debug__":Str))=false:=by decide)(hcz:(z==("__classdict__":Str))=false:=by decide)
  (hNu:X.N[l]?=some u:=by rfl)(hvu:Vis X.env.scope u:=by walk_at "1")(hdu:(u==("__debug__":Str))=false:=by decide)(hcu:(u==("__classdict__":Str))=false:=by decide)
  (hg:Gl X f:=by rfl)(hgl:Gl X "list":=by rfl)(hdb:(f==("__debug__":Str))=false:=by decide)
  (a1:starEach [.Name y yp] X.env=(false,eval (.Name y yp) X.env)::starEach [] X.env:=by rfl)(a2:starEach [.Name z zp] X.env=(false,eval (.Name z zp) X.env)::starEach [] X.env:=by rfl)(a3:starEach [.Name u up] X.env=(false,eval (.Name u up) X.env)::starEach [] X.env:=by rfl)
  (b1:(backTo c1 (starEach [] X.env)).any (·.1)=false:=by rfl)(b2:(backTo c2 (starEach [] X.env)).any (·.1)=false:=by rfl)(b3:(backTo c3 (starEach [] X.env)).any (·.1)=false:=by rfl)
  (h1:starEach [.Call (.Name f np1) [.Name y yp] [] c1,.Call (.Name f np2) [.Name z zp] [] c2,.Call (.Name "list" np3) [.Name u up] [] c3] X.env=(false,eval (.Call (.Name f np1) [.Name y yp] [] c1) X.env)::starEach [.Call (.Name f np2) [.Name z zp] [] c2,.Call (.Name "list" np3) [.Name u up] [] c3] X.env:=by rfl)
  (h2:starEach [.Call (.Name f np2) [.Name z zp] [] c2,.Call (.Name "list" np3) [.Name u up] [] c3] X.env=(false,eval (.Call (.Name f np2) [.Name z zp] [] c2) X.env)::starEach [.Call (.Name "list" np3) [.Name u up] [] c3] X.env:=by rfl)
  (h3:starEach [.Call (.Name "list" np3) [.Name u up] [] c3] X.env=(false,eval (.Call (.Name "list" np3) [.Name u up] [] c3) X.env)::starEach [] X.env:=by rfl)
  (hi:X.N[i]?=some x:=by rfl)(hl:Loc X.env.scope x:=by walk_at "3")(hs:swapsWith (.List [.Call (.Name f np1) [.Name y yp] [] c1,.Call (.Name f np2) [.Name z zp] [] c2,.Call (.Name "list" np3) [.Name u up] [] c3] lp) (some (.Name x p)) pos.line X.env=pure false:=by rfl)(hf:X.fn x=true\/X.env.scope.names.lookup x=some .local:=by walk_at "2"):
  DS Z X EE (.Assign [.Name x p] (.List [.Call (.Name f np1) [.Name y yp] [] c1,.Call (.Name f np2) [.Name z zp] [] c2,.Call (.Name "list" np3) [.Name u up] [] c3] lp) pos) (dSetFz3 i j k l F):=by
 refine PS.mono (q5e i hN (q5t (x0t (q09 (q77 C hr hx (q09 (pv j hNy hvy hdy hcy) q2r a1) hg hdb a1 b1) (q09 (q77 C hr hx (q09 (pv k hNz hvz hdz hcz) q2r a2) hg hdb a2 b2) (q09 (q5t (q5d q6b hgl hm PyProof.Rows.Boot.«list» (q09 (pv l hNu hvu hdu hcu) q2r a3) (by decide) (by decide) a3 b3)) q2r h3) h2) h1))) hi hl hs hf) ?_;rintro D σ H ⟨G,e,rel,h⟩;unfold dSetFz3 setFz3 at h;split at h
 ·rename_i w1 w2 us e1 e2 e3;split at h
  ·rename_i u1 u2 q1 q2;split at h
   ·rename_i hfl;obtain⟨v1,g1,p1⟩:=rel.fr e1;obtain⟨v2,g2,p2⟩:=rel.fr e2;obtain⟨v3,g3,p3⟩:=rel.fr e3;refine⟨v1,g1,x26 rel q1 p1 fun G1 H1 x1 as1 gr1 r1 n1 o1=>?_⟩
    have rel1:=rel.grow gr1;refine⟨v2,g2,x26 rel1 q2 (Rep.mono gr1.gg w2 p2) fun G2 H2 x2 as2 gr2 r2 n2 o2=>?_⟩
    have rel2:=rel1.grow gr2;obtain⟨la,ys,rfl,tq,rq⟩:=Rep.mono (gr1.gg.trans gr2.gg) _ p3;refine⟨_,g3,la,ys,rfl,.inl (rel2.sub.seq tq),fun q hq=>⟨q,ys,rfl,q0d,fun oq=>?_⟩⟩
    rw[show upd (upd H2 q (.lst ys)) q (.frz oq (.lst ys))=upd H2 q (.frz oq (.lst ys))from by funext c;unfold upd;split<;>rfl]
    have gq:=Grow.hid rel2.sub hq (.frz oq (.lst ys));have relq:=rel2.grow gq;refine⟨by rw[sizeLine_eq];show 3<=16777216;decide,fun pp hp=>⟨pp,_,rfl,q0d,fun o=>?_⟩⟩
    rw[show ∀X1 X2:HO,upd (upd (upd H2 q (.frz oq (.lst ys))) pp X1) pp X2=upd (upd H2 q (.frz oq (.lst ys))) pp X2 from fun X1 X2=>by funext c;unfold upd;split<;>rfl]
    have g4:=Grow.hid relq.sub hp (.frz o (.lst [x1,x2,.ref q]));have rel3:=relq.grow g4;have t1:=RepF.grow g4 _ (RepF.grow gq _ (RepF.grow gr2 _ r1));have t2:=RepF.grow g4 _ (RepF.grow gq _ r2);have f3:FzAt Z G2 (upd H2 q (.frz oq (.lst ys))) q oq ys:=⟨q0d,rel2.sub.free hq,q2h rel2 hq⟩;have t3:RepF X.K Z G2 (upd (upd H2 q (.frz oq (.lst ys))) pp (.frz o (.lst [x1,x2,.ref q]))) (.lst us) (.ref q) [q]:=⟨q,ys,rfl,⟨oq,f3.grow g4⟩,[],rfl,q3q us hfl rq⟩;have in1:∀a∈as1,H1 a≠none:=fun a m=>let ⟨_,_,z⟩:=RepF.fzs u1 r1 m;by rw[z.1];exact fun z=>nomatch z
    have in2:∀a∈as2,H2 a≠none:=fun a m=>let ⟨_,_,z⟩:=RepF.fzs u2 r2 m;by rw[z.1];exact fun z=>nomatch z
    have in12:∀a∈as1,H2 a≠none:=fun a m=>q9m gr2.hh (in1 a m)
    have hpq:pp≠q:=fun z=>by subst z;rw[q0d]at hp;cases hp
    have hp2:H2 pp=none:=by rw[q0c hpq]at hp;exact hp
    refine h _ _ _ (rel3.setS (s:=.x (.fz (.lst [u1,u2,.lst us]))) (fun _ _ z=>nomatch z) ⟨.ref pp,pp::(as1++(as2++([q]++[]))),rfl,?_,⟨pp,_,rfl,⟨o,q0d,relq.sub.free hp,q2h relq hp⟩,_,rfl,x1,_,as1,_,rfl,rfl,t1,x2,_,as2,_,rfl,rfl,t2,.ref q,_,[q],[],rfl,rfl,t3,rfl,rfl⟩⟩) ((gr1.gg.trans gr2.gg).trans (gq.gg.trans g4.gg))
    rw[w1j];refine w1g.mpr ⟨fun m=>?_,w2i.mpr ⟨n1,w2i.mpr ⟨n2,by simp,fun a m b m' z=>?_⟩,fun a m b m' z=>?_⟩⟩
    ·rcases w1a.mp m with m|m
     ·exact in12 pp m hp2
     ·rcases w1a.mp m with m|m
      ·exact in2 pp m hp2
      ·exact hpq (w0q.mp m)
    ·subst z;rw[w0q.mp m']at m;exact in2 q m hq
    ·subst z;rcases w1a.mp m' with m'|m'
     ·exact in1 a m (o2 a m')
     ·rw[w0q.mp m']at m;exact in12 q m hq
   ·exact h.elim
  ·exact h.elim
 ·exact h.elim
theorem x60{j k l:Nat}{F:List W->FR}:dSetFz3 i j k l F e=setFz3 i F e e[j]? e[k]? e[l]?:=rfl
theorem x93{F:List W->FR}{w1 w2 u1 u2:W}(h1:fzTN (F [w1])=some u1)(h2:fzTN (F [w2])=some u2)(h3:flatWs us=true):setFz3 i F e (some (.fr w1)) (some (.fr w2)) (some (.fr (.lst us)))=.nx (e.set i (.x (.fz (.lst [u1,u2,.lst us])))):=by
 unfold setFz3;dsimp only;rw[h1,h2];exact if_pos h3
end
end D
namespace L2
open PySem PySem.Spec PyProof.Rows
theorem q88:typeLookup (.type "list") "keys"=pure none:=am_miss_of_fast (by kernel_rfl)
theorem x1k{prog:Program}{w:World}{A:Around}{E:Value->Shared->Prop}{s:Shared}{a:Addr}{o:Obj}{xs:Array Value}{k:Nat}{Q:Option Value->Shared->Prop}
  (hx:s.heap.get? a=some o)(hc:o.cls=.type "list")(hdat:o.data=.seq xs k)(hd:o.dict=none)(hA:A.handled=none)
  (h:∀h' tk,(∀b ob,s.heap.get? b=some ob->h'.get? b=some ob)->Q none {s with heap:=h',toks:=tk}):
  wpAny (model prog w) A (getAttr? (.ref a) "keys") Q E s:=by
 obtain⟨c,dct,dat,sl⟩:=o;simp only at hc hdat hd;subst hc hdat hd;obtain⟨hp,g,d,tk,os⟩:=s;have hT:∀tk',(⟨hp,g,d,tk',os⟩:Shared).TypeIs (.ref a) "list":=fun _=>⟨_,hx,rfl⟩
 have f1:=sub_AttributeError;have f3:=PySem.F.slot_list_getattribute.lookup;have f4:=PySem.F.slot_list_getattribute.bind (.ref a);have f5:=am_list_getattr_none;unfold getAttr? getAttrBy? getAttrBy
 repeat (any_goals (first|assumption|exact hT _|((with_reducible show wpAny _ _ (call (Value.builtin "list.__getattribute__") _ _) _ _ _);refine call_meets PySem.F.slot_list_getattribute (hT _) am_entry_list_getattribute (PySem.F.args_list_getattribute_2 _ _) (meets_getattribute_miss_list a xs k sl "keys" _ q88 (by decide +kernel) (by size_fits)) ⟨hx,hA,fun h' tk' e hx'=>?_⟩)|wp_step))
 obtain⟨t',u',he⟩:=hx'.there;show wpAny _ _ (getattributeRaised _ _ _ _ _ _ _) _ _ _;unfold getattributeRaised
 repeat (any_goals (first|assumption|wp_step))
 exact h _ _ hx'.keeps
theorem q5h:entryFor table "dict.update.loop"=some Builtin.«dict.update.loop»:=entryFor_of_tree (by kernel_rfl)
theorem q2y:plainId "dict.update.loop"=true:=by decide +kernel
def PrT(K:Fg)(H:Hp)(sh:Sh)(u:V)(p:Kx×Addr×V):Prop:=∃b,u=.ref b/\SqT K H b [.ref p.2.1,p.2.2]/\(KRep H p.1 (.ref p.2.1)/\Conf p.1 sh/\p.1.depth<=7)
def putsT:List (Kx×Addr×V)->List (Kx×V)->List Addr->List (Kx×V)×List Addr
 |[],kvs,kas=>(kvs,kas)
 |p::ps,kvs,kas=>putsT ps (putK kvs p.1 p.2.2) (putAd kvs kas p.1 p.2.1)
inductive PrTs(K:Fg)(H:Hp)(sh:Sh):List V->List (Kx×Addr×V)->Prop
 |nil:PrTs K H sh [] []
 |cons {u:V} {us:List V} {p:Kx×Addr×V} {ps:List (Kx×Addr×V)}:PrT K H sh u p->PrTs K H sh us ps->PrTs K H sh (u::us) (p::ps)
section
variable{X:Cx}{pins:List (Addr×Obj)}{σ:St}{A:Around}{d it l:Addr}{sh:Sh}{ys:List V}{H₀:Hp}{R:Result->Shared->Prop}
theorem q9y(hu:A.units+30<cLine)(hA:A.handled=none)(hd:H₀ d=none)(hf:∀kvs kas,FpOk X pins (upd H₀ d (.dT sh kvs kas)) it)(hl:SqL X.K H₀ l ys):∀(rest:List V)(ps:List (Kx×Addr×V))(i:Nat)(n:Int)(t:Tok)(kvs:List (Kx×V))(kas:List Addr)(s:Shared),ys.drop i=rest->PrTs X.K H₀ sh rest ps ->
  Inv X pins σ (upd H₀ d (.dT sh kvs kas)) s->s.heap.IsListIter it l i->kvs.length+ps.length<=sizeLine->(∀s',Inv X pins σ (upd H₀ d (.dT sh (putsT ps kvs kas).1 (putsT ps kvs kas).2)) s'->R (.ok (.ret .none)) s') ->
  codeAny (model X.prog X.w) A (.builtin "dict.update.loop" ⟨[.ref d,.ref it,.int n t,.none],[]⟩) R s
 |[],ps,i,n,t,kvs,kas,s,hr,hp,I,st,hz,h=>by
  cases hp;have sm:Same H₀ (upd H₀ d (.dT sh kvs kas)):=fun b u e=>by rw[q0c (fun z=>by subst z;rw[hd]at e;cases e)];exact e
  obtain⟨its,rv,pl,hz1⟩:=I.list (sm.seq hl);obtain⟨f0,f1,f2,f3,f4,f5⟩:=hf kvs kas
  have hn:its.toArray[i]?=none:=by
   have e1:=congrArg List.length hr;have e2:=rv.length;simp at e1;simp;omega
  refine codeAny_builtin q5h ?_;rw[Around.under_plainId q2y _];show wpAny _ A.in1 (pyNext (.ref it) >>= _) _ _ s;refine wpAny_bind (wpAny_pyNext_list_end hA st pl.isList hn fun h' eb=>?_)
  have I1:Inv X pins σ (upd H₀ d (.dT sh kvs kas)) {s with heap:=h'}:=I.turned (t':=s.toks) (fun b o hb e=>eb b o hb e) f0 f1 f3 f4 f5
  show wpAny _ _ (Builtin.Dict.addKeywords d [] >>= _) _ _ _;exact wpAny_bind (wpAny_pure (wpAny_pure (h _ I1)))
 |u::rest,ps,i,n,t,kvs,kas,s,hr,hp,I,st,hz,h=>by
  cases hp with
  | @cons _ _ p ps hp hps=>
   have sm:Same H₀ (upd H₀ d (.dT sh kvs kas)):=fun b u e=>by rw[q0c (fun z=>by subst z;rw[hd]at e;cases e)];exact e
   obtain⟨its,rv,pl,hz1⟩:=I.list (sm.seq hl);obtain⟨f0,f1,f2,f3,f4,f5⟩:=hf kvs kas
   have hyi:ys[i]?=some u:=by
    have:=congrArg (·[0]?) hr
    simpa using this
   have hr2:ys.drop (i+1)=rest:=by
    have:=congrArg List.tail hr
    simpa using this
   obtain⟨b,rfl,ht,kr,hcf,hdp⟩:=hp;obtain⟨x,hx,rx⟩:=Vals.get rv hyi;cases(show x=Value.ref b from rx);refine codeAny_builtin q5h ?_;rw[Around.under_plainId q2y _];show wpAny _ A.in1 (pyNext (.ref it) >>= _) _ _ s;refine wpAny_bind (wpAny_pyNext_list_item st pl.isList (by simpa using hx) fun h' st' sb=>?_)
   have I1:Inv X pins σ (upd H₀ d (.dT sh kvs kas)) {s with heap:=h'}:=I.turned (t':=s.toks) (fun b o hb e=>(sb.2 b hb).trans e) f0 f1 f3 f4 f5
   show wpAny _ _ (holding [Value.ref b] _ >>= _) _ _ _
   have ht1:SqT X.K (upd H₀ d (.dT sh kvs kas)) b [.ref p.2.1,p.2.2]:=by
    rcases ht with(h|⟨o,h⟩)|h
    ·exact .inl (.inl (sm _ _ h))
    ·exact .inl (.inr ⟨o,sm _ _ h⟩)
    ·exact .inr h
   obtain⟨js,rj,⟨o,ho,hc,m,hdt⟩,_⟩:=I1.tuple ht1
   obtain⟨x1,x2,rfl,r1,r2⟩:∃x1 x2,js=[x1,x2]/\RelV (.ref p.2.1) x1/\RelV p.2.2 x2:=by
    cases rj with
    |cons r1 rj=>cases rj with
     |cons r2 rj=>cases rj;exact⟨_,_,rfl,r1,r2⟩
   cases(show x1=Value.ref p.2.1 from r1);refine wpAny_bind (wpAny_holding ?_);refine wpAny_bind (wpAny_tryCatch ?_);unfold Builtin.Dict.pairItems;refine wpAny_bind (wpAny_typeOf (T:="tuple") ⟨o,ho,hc⟩ ?_);rw[if_pos (by decide)];refine wpAny_bind (wpAny_seqItems ho hdt (wpAny_pure ?_));show wpAny _ _ (holding [Value.ref p.2.1,x2] (dictSet d (.ref p.2.1) x2)) _ _ _;refine wpAny_holding ?_;have krH:KRep (upd H₀ d (.dT sh kvs kas)) p.1 (.ref p.2.1):=KRep.keeps (fun _ _ _ z=>sm _ _ z) p.1 kr
   obtain⟨z,hds,xs,rel,ka,dd⟩:=x4l I1.hok (a:=d) q0d;have hz2:kvs.length+1<=sizeLine:=by simp at hz;omega
   have hzx:xs.length<=sizeLine:=by rw[<- Paired.length rel];exact z
   have hl2:(putK kvs p.1 p.2.2).length<=kvs.length+1:=q5i kvs p.1 p.2.2;refine wpAny_dictSet_heap (hsz:=hzx) (show A.in1.units+8<cLine by rw[Around.in1_units];omega) (q5s I1.hok ⟨krH,hcf,hdp⟩) dd fun h2 dd' hs=>?_
   obtain⟨q,es,ep,hq,g2,g3,g4,_,g5⟩:=id dd'
   have I2:Inv X pins σ (upd (upd H₀ d (.dT sh kvs kas)) d (.dT sh (putK kvs p.1 p.2.2) (putAd kvs kas p.1 p.2.1))) {s with heap:=h2,toks:=s.toks+(treeKind X.prog X.w sh).draws p.1}:=by
    refine q66 (s:={s with heap:=h'}) I1 (by rw[q0d];exact True.intro) hs ⟨q,hq⟩ ⟨by omega,hds,_,(rel.put p.1 ⟨krH,hcf,hdp⟩ r2).keeps fun c u ys ec=>?_,rel.putAd ka p.1,q,es,ep,hq,g2,g3,g4,g5⟩
    rw[q0c (q0x ec q0d (fun z=>by subst z;exact ys))]
    exact ec
   rw[show ∀X1 X2:HO,upd (upd H₀ d X1) d X2=upd H₀ d X2 from fun X1 X2=>by funext c;unfold upd;split<;>rfl]at I2
   refine wpAny_pure ⟨plainId_quiet q2y _,q9y hu hA hd hf hl rest ps (i+1) _ _ _ _ _ hr2 hps I2 ?_ (by simp at hz;omega) h⟩;refine st'.at fun o e=>(hs.2 it fun z=>?_).trans e
   rw[z,q0d]at f0;cases f0
end
theorem q8p{X:Cx}(hc:X.calm=true)(hu:X.A.units+100<cLine):CallR X (.type "dict") (fun xs H Q=>∃l ys sh ps,xs=[.ref l]/\SqL X.K H l ys/\PrTs X.K H sh ys ps/\ps.length<=sizeLine/\∀d,H d=none->Q (.ref d) (upd H d (.dT sh (putsT ps [] []).1 (putsT ps [] []).2))):=by
 intro pins s σ H xs us Q I r h;obtain⟨l,ys,sh,ps,rfl,hq,hp,hz,q⟩:=h;obtain⟨u,rfl,rx⟩:=vals1 r;cases rx;have hh:X.A.handled=none:=I.ok.hd hc;have hfd:H s.heap.objs.size=none:=I.hok.fresh (w0g _);refine callType_codes (Q₁:=fun obj s₁=>obj=.ref s.heap.objs.size/\s₁={s with heap:=s.heap.push {cls:=.type "dict", data:=.dict #[]}}) PySem.F.kt_called_dict (PySem.F.kt_typeCall_dict_1 _) PySem.F.entry_dict_init (kt_code_dict_new _ ⟨rfl,rfl⟩) ?_
 rintro obj s₁ ⟨rfl,rfl⟩;have I1:Inv X pins σ (upd H s.heap.objs.size (.dT sh [] [])) {s with heap:=s.heap.push {cls:=.type "dict", data:=.dict #[]}}:=I.laid (a:=s.heap.objs.size) (o:=.dT sh [] []) (t':=s.toks) (fun _ _ q=>Heap.get?_push_of_some _ q) (w0g _) (q7u s.heap I.big)
 have hnew:(s.heap.push {cls:=.type "dict", data:=.dict #[]}).DictOfH (treeKind X.prog X.w sh) s.heap.objs.size []:=Heap.DictOfH.new s.heap;have sm:Same H (upd H s.heap.objs.size (.dT sh [] [])):=fun b u e=>by rw[q0c (fun z=>by subst z;rw[hfd]at e;cases e)];exact e
 obtain⟨its,rv,pl,hz1⟩:=I1.list (sm.seq hq);obtain⟨ol,nl,hol,hcl,hdl,hsl⟩:=id pl;refine⟨hnew.typeIs,PySem.F.args_dict_init_2 _ _,?_⟩;unfold Builtin.«dict.__init__»;refine wpAny_bind ?_;unfold Builtin.Dict.selfAndRest;refine wpAny_bind (wpAny_notOrdered_dict hnew.typeIs ?_);show wpAny _ _ (pure (s.heap.objs.size,[Value.ref l])) _ _ _;refine wpAny_pure ?_;show wpAny _ _ (Builtin.Dict.updateFrom "dict.__init__" s.heap.objs.size (.ref l) [] .none) _ _ _;unfold Builtin.Dict.updateFrom;refine wpAny_bind (wpAny_typeOf (T:="list") ⟨ol,hol,hcl⟩ ?_);rw[if_pos (by decide)];refine wpAny_bind (x1k hol hcl hsl hdl hh fun h2 tk k2=>?_)
 rw[if_pos (show(Option.none (α:=Value)).isNone=true from rfl)];refine wpAny_bind (wpAny_rule ?_);have I2:Inv X pins σ (upd H s.heap.objs.size (.dT sh [] [])) {s with heap:=h2,toks:=tk}:=I1.kept (t':=tk) k2;obtain⟨its2,rv2,pl2,_⟩:=I2.list (sm.seq hq);refine wpAny_bind (wpAny_pyIter_list (s:={s with heap:=h2,toks:=tk}) pl2.isList ?_);have I3:Inv X pins σ (upd H s.heap.objs.size (.dT sh [] [])) {s with heap:=h2.push {cls:=.type "list_iterator", data:=.fields #[.ref l,.int 0 0]},toks:=tk}:=I2.kept (t':=tk) fun b o e=>Heap.get?_push_of_some _ e
 have hlt:s.heap.objs.size<h2.objs.size:=Heap.lt_size (k2 _ _ (Heap.get?_push_size _ rfl));refine wpAny_pure ⟨plainId_quiet q2y _,?_⟩;refine q9y (A:=X.A.in1) (R:=wants (fun r s₂=>r=Value.none/\EP X pins σ Q (.ref s.heap.objs.size) s₂) X.xe) (sh:=sh) (ys:=ys) (H₀:=H) (it:=h2.objs.size) (by rw[Around.in1_units];omega) hh hfd (fun kvs kas=>I2.fpOk (w0g _) ?_) hq ys ps 0 _ _ [] [] _ rfl hp I3 ⟨_,Heap.get?_push_size _ rfl,rfl,rfl⟩ (by simpa using hz) fun s' I'=>⟨rfl,.ref s.heap.objs.size,_,I',rfl,q _ hfd⟩
 rw[q0c (w3b hlt)];exact I.hok.fresh (w3v hlt)
end L2
namespace D
open PySem L2 PySem.Spec PyProof.Rows
variable{G:Hp}{e:List S}{ws:List W}{i:Nat}{K:Fg}{sh:Sh}{Z:Zt}
def keysOfP(sh:Sh):List W->Option (List Kx)
 |[]=>some []
 |.tup [kw,.bl true]::ws=>match keyT kw,keysOfP sh ws with
  |some k,some ks=>if fits k sh then some (k::ks)else none
  |_,_=>none
 |_=>none
def addKs:List Kx->List Kx->List Kx
 |[],ks=>ks
 |k::r,ks=>addKs r (if k∈ks then ks else ks++[k])
def trues(ks:List Kx):List W:=ks.map fun _=>.bl true
theorem q8q:∀{kvs:List (Kx×V)},(∀x∈kvs.map (·.2),x=.bl true)->Reps K G (trues (kvs.map (·.1))) (kvs.map (·.2))
 |[],_=>rfl
 |p::kvs,h=>⟨p.2,_,rfl,h p.2 (by simp),q8q fun x m=>h x (w0k _ m)⟩
theorem some_mem{k:Kx}:∀{kvs:List (Kx×V)},(valV kvs k).isSome=true↔k∈kvs.map (·.1)
 |[]=>by simp[valV]
 |p::kvs=>by
  have ih:=some_mem (k:=k) (kvs:=kvs);unfold valV at ih |-
  by_cases h:p.1=k
  ·simp[w1z,h]
  ·rw[w1z,decide_eq_false h];rw[w0v,w0p];exact ih.trans ⟨.inr,fun z=>z.elim (fun e=>absurd e.symm h) id⟩
theorem x1l{H:Hp}(hK:NoTup K)(s:Same G H):∀{ws:List W}{xs:List V}{ks:List Kx},keysOfP sh ws=some ks->Reps K G ws xs ->
  ∃ps:List (Kx×Addr×V),PrTs K H sh xs ps/\ps.map (·.1)=ks/\(∀p∈ps,p.2.2=.bl true)/\∀p∈ps,KRep G p.1 (.ref p.2.1)
 |[],xs,ks,e,r=>by
  cases(show xs=[]from r);cases(show some []=some ks from e);exact⟨[],.nil,rfl,(fun p m=>nomatch m),fun p m=>nomatch m⟩
 |w::ws,xs,ks,e,r=>by
  unfold keysOfP at e;split at e
  ·cases ‹w::ws=[]›
  ·rename_i kw ws' hw;injection hw with h1 h2
   subst h1 h2;split at e
   ·rename_i k ks' hk hks;split at e
    ·rename_i hf;cases e;obtain⟨v,xr,rfl,r1,r2⟩:=r;obtain⟨ps,q1,q2,q3,q4⟩:=x1l hK s hks r2;obtain⟨b,ys,rfl,sq,rs⟩:=r1;obtain⟨y1,yr,rfl,p1,y2,yr2,rfl,p2,p3⟩:=rs;cases(show yr2=[]from p3);cases(show y2=V.bl true from p2);obtain⟨c,rfl,kr⟩:=q5a hK (.refl G) hk p1;refine⟨(k,c,.bl true)::ps,.cons ⟨b,rfl,?_,KRep.keeps (fun _ _ _ z=>s _ _ z) k kr,hf⟩ q1,by rw[w0v,q2],fun p m=>?_,fun p m=>?_⟩
     ·rcases sq with(h|⟨o,h⟩)|h
      ·exact .inl (.inl (s _ _ h))
      ·exact .inl (.inr ⟨o,s _ _ h⟩)
      ·exact .inr h
     ·rcases w0p.mp m with rfl|m
      ·rfl
      ·exact q3 p m
     ·rcases w0p.mp m with rfl|m
      ·exact kr
      ·exact q4 p m
    ·cases e
   ·cases e
  ·cases e
theorem q89{G:Hp}:∀(ps:List (Kx×Addr×V))(kvs:List (Kx×V))(kas:List Addr),(∀p∈ps,p.2.2=.bl true)->(∀p∈ps,KRep G p.1 (.ref p.2.1))->(∀x∈kvs.map (·.2),x=.bl true)->KeysG G (kvs.map (·.1)) kas ->
  ((putsT ps kvs kas).1.map (·.1)=addKs (ps.map (·.1)) (kvs.map (·.1))/\(∀x∈(putsT ps kvs kas).1.map (·.2),x=.bl true)/\KeysG G ((putsT ps kvs kas).1.map (·.1)) (putsT ps kvs kas).2)
 |[],kvs,kas,_,_,h3,h4=>⟨rfl,h3,h4⟩
 |p::ps,kvs,kas,h1,h2,h3,h4=>by
  have hp:p.2.2=.bl true:=h1 p (by simp);unfold putsT addKs;rw[w0v,hp];show _/\_/\_
  by_cases hm:p.1∈kvs.map (·.1)
  ·have hs:=some_mem.mpr hm;rw[q9x hs h3,show putAd kvs kas p.1 p.2.1=kas by unfold putAd;rw[if_pos hs]];dsimp only;rw[if_pos hm];exact q89 ps kvs kas (fun q m=>h1 q (w0k _ m)) (fun q m=>h2 q (w0k _ m)) h3 h4
  ·have hn:valV kvs p.1=none:=by
    cases q:valV kvs p.1 with
    |none=>rfl
    |some v=>exact absurd (some_mem.mp (by rw[q];rfl)) hm
   rw[q7s _ hn,show putAd kvs kas p.1 p.2.1=kas++[p.2.1] by unfold putAd;rw[hn];rfl];dsimp only;rw[if_neg hm]
   have z:=q89 ps (kvs++[(p.1,.bl true)]) (kas++[p.2.1]) (fun q m=>h1 q (w0k _ m)) (fun q m=>h2 q (w0k _ m)) (fun x m=>by
    rw[w0m]at m;rcases w1a.mp m with m|m
    ·exact h3 x m
    ·exact w0q.mp m) (by rw[w0m];exact KeysG.snoc (h2 p (by simp)) h4)
   rw[w0m]at z;exact z
def setDO(i:Nat)(sh:Sh)(e:List S):W->SR
 |.lst ws=>match keysOfP sh ws with
  |some ks=>if ws.length<=16777216 then .nx (e.set i (.dw sh (addKs ks []) (trues (addKs ks []))))else .no
  |none=>.no
 |_=>.no
def dSetDO(i:Nat)(sh:Sh)(d:Den W):List S->SR:=fun e=>(d e).stm fun w e1=>setDO i sh e1 w
theorem q7g:∀{ws:List W}{ks:List Kx},keysOfP sh ws=some ks->ks.length=ws.length
 |[],ks,e=>by cases(show some []=some ks from e);rfl
 |w::ws,ks,e=>by
  unfold keysOfP at e;split at e
  ·cases ‹w::ws=[]›
  ·rename_i kw ws' hw;injection hw with h1 h2
   subst h1 h2;split at e
   ·rename_i k ks' hk hks;split at e
    ·cases e;rw[w0x,w0x,q7g hks]
    ·cases e
   ·cases e
  ·cases e
section
variable{X:Cx}{EE:L2.St->XK}{x:Str}{e:Expr}{d:Den W}{pos p np cp:Pos}
theorem x61(i:Nat)(sh:Sh)(hK:NoTup X.K)(hc:X.calm=true)(hu:X.A.units+150<cLine)(hsh:sh.isI=false)(hN:X.N.Nodup)(hm:X.mg "dict"=none)(he:DE Z X EE e d)
  (hg:Gl X "dict":=by rfl)(a1:starEach [e] X.env=(false,eval e X.env)::starEach [] X.env:=by rfl)(b1:(backTo cp (starEach [] X.env)).any (·.1)=false:=by rfl)
  (hi:X.N[i]?=some x:=by rfl)(hl:Loc X.env.scope x:=by walk_at "3")(hs:swapsWith (.Call (.Name "dict" np) [e] [] cp) (some (.Name x p)) pos.line X.env=pure false:=by rfl)(hf:X.fn x=true\/X.env.scope.names.lookup x=some .local:=by walk_at "2"):
  DS Z X EE (.Assign [.Name x p] (.Call (.Name "dict" np) [e] [] cp) pos) (dSetDO i sh d):=by
 refine PS.mono (q5e i hN (q5d (q8p hc (by omega)) hg hm PyProof.Rows.Boot.«dict» (q09 he q2r a1) (by decide) (by decide) a1 b1) hi hl hs hf) ?_;rintro D σ H ⟨G,e,rel,h⟩;refine⟨G,e,rel,(q0u h).imp (fun w e1 h G1 v1 H1 r1 s1 p1=>?_) fun _ _ h=>h⟩
 unfold setDO at h;split at h
 ·rename_i ws;split at h
  ·rename_i ks hks;split at h
   ·rename_i hz;obtain⟨l,ys,rfl,sq,rs⟩:=p1;obtain⟨ps,q1,q2,q3,q4⟩:=x1l hK r1.sub hks rs;have hlen:ps.length=ws.length:=by rw[<- q7g hks,<- q2,w0a]
    obtain⟨g1,g2,g3⟩:=q89 (G:=G1) ps [] [] q3 q4 (fun x m=>nomatch m) trivial
    refine⟨l,ys,sh,ps,rfl,r1.sub.seq sq,q1,by rw[sizeLine_eq,hlen];exact hz,fun q hq=>?_⟩
    have gq:=Grow.hid r1.sub hq (.dT sh (putsT ps [] []).1 (putsT ps [] []).2);have r2:=r1.grow gq;have g1':(putsT ps [] []).1.map (·.1)=addKs ks []:=by rw[g1,q2];rfl
    refine h _ _ _ (r2.setS (s:=.dw sh (addKs ks []) (trues (addKs ks []))) (fun _ _ z=>nomatch z) ⟨q,(putsT ps [] []).1,(putsT ps [] []).2,rfl,by rw[q4c hsh];exact q0d,r1.sub.free hq,q2h r1 hq,g1',.of (by rw[<- g1'];exact g3) hsh,by rw[<- g1'];exact q8q g2⟩) s1
   ·exact h.elim
  ·exact h.elim
 ·exact h.elim
theorem x94{e:List S}:dSetDO i sh d e=(d e).stm fun w e1=>setDO i sh e1 w:=rfl
theorem y4l{e:List S}{ks:List Kx}(h:keysOfP sh ws=some ks)(hz:ws.length<=16777216):setDO i sh e (.lst ws)=.nx (e.set i (.dw sh (addKs ks []) (trues (addKs ks [])))):=by
 unfold setDO;dsimp only;rw[h];exact if_pos hz
end
theorem x62{a:Addr}{ob:Obj}{kvs:List (Kx×V)}{kas:List Addr}:Walk (Itk a ob sh kvs kas) (kas.map V.ref) (fun H'=>H' a=some (.frz ob (.dT sh kvs kas))) where
 go:=fun i H q h=>⟨q,by simpa using h⟩
 yld:=fun i H x H' q y h=>by
  obtain⟨e,b,y1,y2⟩:=y;exact⟨e,by rw[w0j,y1,y2];rfl⟩
 stop:=fun i H q h=>⟨q,by simpa using h⟩
section
variable{H:Hp}{σ:L2.St}
theorem Rel.seenFW(r:Rel K Z G σ H e){a:Addr}{ob:Obj}{kvs:List (Kx×V)}{kas:List Addr}(h:H a=some (dwO sh kvs kas))(hg:G a=none)(hz:Z.H a=none)(hf:∀s∈e,isDw s=false):Same G (upd G a (.frz ob (dwO sh kvs kas)))/\Rel K Z (upd G a (.frz ob (dwO sh kvs kas))) σ (upd H a (.frz ob (dwO sh kvs kas))) e:=by
 have sg:Same G (upd G a (.frz ob (dwO sh kvs kas))):=q20 hg _;refine⟨sg,⟨fun c o z=>?_,fun j s z=>?_,r.len,r.dis,fun b o z m=>?_,fun b m=>?_,fun c z=>?_⟩⟩
 ·by_cases hc:c=a
  ·subst hc;rw[q0d]at z |-;exact z
  ·rw[q0c hc]at z |-;exact r.sub c o z
 ·have y:=r.slot j s z;cases s with
  |no=>trivial
  |fr w=>
   obtain⟨u,y1,y2⟩:=y;exact⟨u,y1,Rep.mono sg w y2⟩
  |own b2 w2=>
   obtain⟨c,ys,y1,y2,y3,y4,y5⟩:=y;have ne:=q0x y2 h (fun z=>q1f rfl z.symm)
   refine⟨c,ys,y1,by rw[q0c ne];exact y2,by rw[q0c ne];exact y3,y4,Reps.mono sg w2 y5⟩
  |nest wss=>exact NestOk.move y sg fun l o ys k1 k2 k3=>⟨by rw[q0c (q0x k1 h (fun z=>q1f rfl z.symm))];exact k1,by rw[q0c (q0x k1 h (fun z=>q1f rfl z.symm))];exact k2,k3⟩
  |x k=>exact XOk.move y sg fun l o ys k1 k2 k3=>⟨by rw[q0c (q0x k1 h (fun z=>q1f rfl z.symm))];exact k1,by rw[q0c (q0x k1 h (fun z=>q1f rfl z.symm))];exact k2,k3⟩
  |dw sh ks ws=>exact nomatch (hf _ (w0n z))
 ·rw[q0c (fun y=>by subst y;rw[hz]at z;cases z)];exact r.ent b o z m
 ·by_cases hc:b=a
  ·subst hc;rw[q0d];exact fun z=>nomatch z
  ·rw[q0c hc];exact r.ion b m
 ·by_cases hc:c=a
  ·subst hc;exact absurd hz z
  ·rw[q0c hc];exact r.gen c z
end
def srcPOK(i:Nat)(e:List S):Option S->R (List (W×W))
 |some (.dw sh ks ws)=>if(e.set i .no).all (fun s=>!isDw s)=true/\sh.isI=false then ofOpt (pairsW (ks.map wK)) (e.set i (.fr (.dw true sh ks ws)))else .no
 |_=>.no
def srcPO(i:Nat):Den (List (W×W)):=fun e=>srcPOK i e e[i]?
theorem y4m{X:Cx}{EE:L2.St->XK}{x:Str}{p:Pos}{tg:Expr}(i:Nat)(hN:X.N[i]?=some x:=by rfl)(hv:Vis X.env.scope x:=by walk_at "1")(hd:(x==("__debug__":Str))=false:=by decide)(hcd:(x==("__classdict__":Str))=false:=by decide):DI Z X EE tg (.Name x p) (srcPO i):=by
 refine PI.mono (y3t (y3r (pv i hN hv hd hcd))) ?_;rintro σ H RR ⟨G,e,rel,h⟩;unfold srcPO srcPOK at h;split at h
 ·rename_i sh ks ws hw;split at h
  ·rename_i hc;obtain⟨ps,hp,h⟩:=ofOpt_holds.mp h;obtain⟨a,kvs,kas,h1,h2,h3,h4,h5,h6,h7⟩:=rel.dw hw;have hi:i<e.length:=(w0b.mp hw).1
   have r0:Rel X.K Z G σ H (e.set i .no):=rel.forget (by simp) fun j s z=>by
    by_cases hj:j=i
    ·subst hj;rw[w0h hi]at z;cases z;exact .inl rfl
    ·rw[w0f (fun z=>hj z.symm)]at z;exact .inr z
   have h2':H a=some (.dT sh kvs kas):=by rw[q4c hc.2]at h2;exact h2
   refine⟨.ref a,h1,a,sh,kvs,kas,rfl,h2',fun ob=>⟨a,ob,sh,kvs,kas,rfl,q0d,?_⟩⟩
   obtain⟨sg,r1⟩:=r0.seenFW (ob:=ob) h2 h3 h4 fun s hs=>by
    have:=w0o.mp hc.1 s hs
    simpa using this
   have r2:=r1.set (i:=i) (w:=.dw true sh ks ws) (v:=.ref a) ⟨a,kvs,kas,rfl,⟨ob,q0d⟩,h5,h6.mono sg,Reps.mono sg ws h7⟩;rw[w4n]at r2
   have es:σ.set i (some (V.ref a))=σ:=by
    apply w2y;intro j
    by_cases hj:j=i
    ·subst hj;rw[h1,w0h (w0b.mp h1).1]
    ·rw[w0f (fun z=>hj z.symm)]
   rw[es,q4c hc.2]at r2;rw[q4c hc.2]at sg;exact h _ _ _ r2 sg (q6n x62 (q9s ((h6.g hc.2).mono sg)) hp fun G' H' s s'=>s' _ _ (s _ _ q0d))
  ·exact h.elim
 ·exact h.elim
theorem y4n:srcPO i e=srcPOK i e e[i]?:=rfl
theorem x95{ks:List Kx}(h1:(e.set i .no).all (fun s=>!isDw s)=true)(h2:sh.isI=false):srcPOK i e (some (.dw sh ks ws))=ofOpt (pairsW (ks.map wK)) (e.set i (.fr (.dw true sh ks ws))):=if_pos ⟨h1,h2⟩
mutual
def plX:W->Bool
 |.non=>true
 |.bl _=>true
 |.int i=>decide ((0<=i/\i<32)\/i=-1\/i=1000000000000)
 |.tup ws=>plXs ws
 |.lst ws=>plXs ws
 |_=>false
def plXs:List W->Bool
 |[]=>true
 |w::ws=>plX w&&plXs ws
end
mutual
theorem x1m:∀(w:W),plainW w=true->plX w=true
 |.non,_=>rfl
 |.bl b,_=>rfl
 |.tup ws,h=>q9a ws h
 |.lst ws,h=>q9a ws h
 |.int i,h=>by
  have h:decide (0<=i/\i<32)=true:=h;exact decide_eq_true (.inl (of_decide_eq_true h))
 |.str i,h=>by cases h
 |.exc i,h=>by cases h
 |.dw _ _ _ _,h=>by cases h
 |.fn _ _ _,h=>by cases h
theorem q9a:∀(ws:List W),plainWs ws=true->plXs ws=true
 |[],_=>rfl
 |w::ws,h=>by
  have h:(plainW w&&plainWs ws)=true:=h;rw[w0s]at h;show(plX w&&plXs ws)=true;rw[x1m w h.1,q9a ws h.2];rfl
end
theorem q8r:∀n:Fin 32,PyData.showable (.int ((n.val:Nat):Int))=true/\PyData.leavesShort 13 (.int ((n.val:Nat):Int))=true:=by decide +kernel
theorem x1n:PyData.showable (.int (-1))=true/\PyData.leavesShort 13 (.int (-1))=true:=by decide +kernel
theorem x1o:PyData.showable (.int 1000000000000)=true/\PyData.leavesShort 13 (.int 1000000000000)=true:=by decide +kernel
theorem wgtX:wgt (.int (-1))<=100/\wgt (.int 1000000000000)<=100:=by decide +kernel
mutual
theorem x63:∀(w:W),plX w=true->∃d,toD w=some d/\d.showable=true/\d.leavesShort 13=true/\d.depth=depW w/\d.weight=wgt w
 |.non,_=>⟨.none,rfl,rfl,rfl,rfl,rfl⟩
 |.bl b,_=>⟨.bool b,rfl,rfl,rfl,rfl,rfl⟩
 |.tup ws,h=>by
  obtain⟨ds,h1,h2,h3,h4,h5⟩:=q7v ws h;exact⟨.tuple ds,by show(toDs ws).map _=_;rw[h1];rfl,h2,h3,by show PyData.depthAll ds+1=_;rw[h4];rfl,by show PyData.weightAll ds=_;rw[h5];rfl⟩
 |.lst ws,h=>by
  obtain⟨ds,h1,h2,h3,h4,h5⟩:=q7v ws h;exact⟨.list ds,by show(toDs ws).map _=_;rw[h1];rfl,h2,h3,by show PyData.depthAll ds+1=_;rw[h4];rfl,by show PyData.weightAll ds=_;rw[h5];rfl⟩
 |.int i,h=>by
  have h:decide ((0<=i/\i<32)\/i=-1\/i=1000000000000)=true:=h;rcases of_decide_eq_true h with h|rfl|rfl
  ·obtain⟨n,rfl⟩:∃n:Fin 32,i=((n.val:Nat):Int):=⟨⟨i.toNat,by omega⟩,by simp;omega⟩;exact⟨.int _,rfl,(q8r n).1,(q8r n).2,rfl,rfl⟩
  ·exact⟨.int _,rfl,x1n.1,x1n.2,rfl,rfl⟩
  ·exact⟨.int _,rfl,x1o.1,x1o.2,rfl,rfl⟩
 |.str i,h=>by cases h
 |.exc i,h=>by cases h
 |.dw _ _ _ _,h=>by cases h
 |.fn _ _ _,h=>by cases h
theorem q7v:∀(ws:List W),plXs ws=true->∃ds,toDs ws=some ds/\PyData.showableAll ds=true/\PyData.leavesShortAll 13 ds=true/\PyData.depthAll ds=depWs ws/\PyData.weightAll ds=wgts ws
 |[],_=>⟨[],rfl,rfl,rfl,rfl,rfl⟩
 |w::ws,h=>by
  have h:(plX w&&plXs ws)=true:=h;rw[w0s]at h;obtain⟨d,d1,d2,d3,d4,d5⟩:=x63 w h.1;obtain⟨ds,h1,h2,h3,h4,h5⟩:=q7v ws h.2;refine⟨d::ds,?_,?_,?_,?_,?_⟩
  ·unfold toDs;rw[d1,h1]
  ·show(PyData.showable d&&PyData.showableAll ds)=true;rw[d2,h2];rfl
  ·show(PyData.leavesShort 13 d&&PyData.leavesShortAll 13 ds)=true;rw[d3,h3];rfl
  ·show max d.depth (PyData.depthAll ds)=_;rw[d4,h4];rfl
  ·show d.weight+1+PyData.weightAll ds=_;rw[d5,h5];rfl
end
theorem x64(h1:plXs ws=true)(h2:depWs ws<=90)(h3:wgts ws<=1000000):∃x:Str,repr1 [.lst ws]=some (.str x):=by
 obtain⟨d,d1,d2,d3,d4,d5⟩:=x63 (.lst ws) h1;refine⟨d.shown,?_⟩;show(toD (.lst ws)).bind _=_;rw[d1];show(if d.showable=true/\d.depth<=100/\d.shown.length<=16777216 then some (W.str d.shown)else none)=_;have hw:d.weight<=2^20:=by rw[d5];exact w1c h3 (by decide)
 have hs:=PyData.shown_fits (B:=13) (by decide) (by decide) d3 hw;rw[sizeLine_eq]at hs;exact if_pos ⟨d2,by rw[d4];show depWs ws+1<=100;omega,hs⟩
end D
namespace Q
open PySem L2 D
variable{f:Addr}{j way:Int}{ks:List (Int×Int)}{l:List (Nat×Nat)}{ord:List Nat}{b:List S->SR}{ws:List W}{k m n size wide:Nat}{x:Nat×Nat}{r:Nat->List W->FR}{K:Fg}{mg:Str->Option Value}{α:Type}
seal DE DF DT DW DA DS DSs DTs DO DFm PE PT PW PA PS PSs PG PGs PI PF PTs PC OpR UnR IxR CallR TruR MtR MtM SlR PO
theorem us1{P:List α->Prop}(h:∀x0,P [x0]):∀us:List α,us.length=1->P us
 |[x0],_=>h x0
theorem us2{P:List α->Prop}(h:∀x0 x1,P [x0,x1]):∀us:List α,us.length=2->P us
 |[x0,x1],_=>h x0 x1
theorem us3{P:List α->Prop}(h:∀x0 x1 x2,P [x0,x1,x2]):∀us:List α,us.length=3->P us
 |[x0,x1,x2],_=>h x0 x1 x2
theorem us4{P:List α->Prop}(h:∀x0 x1 x2 x3,P [x0,x1,x2,x3]):∀us:List α,us.length=4->P us
 |[x0,x1,x2,x3],_=>h x0 x1 x2 x3
def top(i:Nat):Stmt:=PySem.Challenge.pw_circuits_k61_closed.main.body.getD i (.Pass ⟨0,0,0,0⟩)
structure Blt(mg:Str->Option Value):Prop where
 b_all:mg "all"=none
 b_bool:mg "bool"=none
 b_dict:mg "dict"=none
 b_int:mg "int"=none
 b_isinstance:mg "isinstance"=none
 b_len:mg "len"=none
 b_list:mg "list"=none
 b_min:mg "min"=none
 b_range:mg "range"=none
 b_repr:mg "repr"=none
 b_sorted:mg "sorted"=none
 b_tuple:mg "tuple"=none
 b_zip:mg "zip"=none
structure Adr where
 CircuitError:Addr
 UnlikeSizes:Addr
 NoMachine:Addr
variable{a:Adr}
structure Exs(K:Fg)(mg:Str->Option Value)(a:Adr):Prop where
 z:True
 m_CircuitError:mg "CircuitError"=some (.ref a.CircuitError)
 m_UnlikeSizes:mg "UnlikeSizes"=some (.ref a.UnlikeSizes)
 m_NoMachine:mg "NoMachine"=some (.ref a.NoMachine)
 t_NoneType_bool:kitOne K (.type "NoneType") (.type "bool")=some false
 t_bool_bool:kitOne K (.type "bool") (.type "bool")=some true
 t_int_bool:kitOne K (.type "int") (.type "bool")=some false
 t_str_bool:kitOne K (.type "str") (.type "bool")=some false
 t_tuple_bool:kitOne K (.type "tuple") (.type "bool")=some false
 t_list_bool:kitOne K (.type "list") (.type "bool")=some false
 nt:NoTup K
noncomputable abbrev q3e:Nat:=0
noncomputable abbrev q1v:Nat:=1
noncomputable abbrev q2b:Nat:=2
noncomputable abbrev q21:Nat:=3
noncomputable abbrev q22:Nat:=4
noncomputable abbrev q13:Nat:=5
noncomputable abbrev q2j:Nat:=6
noncomputable abbrev q0k:Nat:=7
noncomputable abbrev q14:Nat:=8
noncomputable abbrev q3r:Nat:=9
noncomputable abbrev q1e:Nat:=10
noncomputable abbrev q01:Nat:=11
noncomputable abbrev q08:Nat:=12
noncomputable abbrev q1n:Nat:=13
noncomputable abbrev q1z:Nat:=15
noncomputable abbrev q10:Nat:=16
noncomputable abbrev q1c:Nat:=17
noncomputable abbrev q2e:Stmt:=top 5
theorem sc_rows_many:FnScope ["many", "count", "place"] ["many"] (defScope q2e):=⟨rfl,rfl,rfl,by decide +kernel,rfl,by decide +kernel,by decide +kernel⟩
noncomputable abbrev q1l:Stmt:=top 7
theorem sc_check_machine:FnScope ["machine", "states", "pairs_many", "state", "told", "follower"] ["machine"] (defScope q1l):=⟨rfl,rfl,rfl,by decide +kernel,rfl,by decide +kernel,by decide +kernel⟩
noncomputable abbrev q2m:Stmt:=top 8
theorem x2d:FnScope ["machine", "number"] ["machine", "number"] (defScope q2m):=⟨rfl,rfl,rfl,by decide +kernel,rfl,by decide +kernel,by decide +kernel⟩
noncomputable abbrev q15:Stmt:=top 10
theorem q99:FnScope ["machine", "other"] ["machine", "other"] (defScope q15):=⟨rfl,rfl,rfl,by decide +kernel,rfl,by decide +kernel,by decide +kernel⟩
noncomputable abbrev q16:Stmt:=top 12
theorem x0a:FnScope ["machine", "other"] ["machine", "other"] (defScope q16):=⟨rfl,rfl,rfl,by decide +kernel,rfl,by decide +kernel,by decide +kernel⟩
noncomputable abbrev q23:Stmt:=top 13
theorem sc_closed:FnScope ["machine", "other", "pairs", "known", "pair"] ["machine", "other", "pairs"] (defScope q23):=⟨rfl,rfl,rfl,by decide +kernel,rfl,by decide +kernel,by decide +kernel⟩
noncomputable abbrev q1p:Stmt:=top 14
theorem sc_stays_within:FnScope ["state", "other", "known", "pair", "wanted"] ["state", "other", "known"] (defScope q1p):=⟨rfl,rfl,rfl,by decide +kernel,rfl,by decide +kernel,by decide +kernel⟩
noncomputable abbrev q1q:Stmt:=top 16
theorem q8s:FnScope ["_law_script", "_law_k"] ["_law_script", "_law_k"] (defScope q1q):=⟨rfl,rfl,rfl,by decide +kernel,rfl,by decide +kernel,by decide +kernel⟩
noncomputable abbrev q17:Stmt:=top 17
theorem sc__law_mixed:FnScope ["_law_cell", "_law_k", "_law_number"] ["_law_cell", "_law_k"] (defScope q17):=⟨rfl,rfl,rfl,by decide +kernel,rfl,by decide +kernel,by decide +kernel⟩
noncomputable abbrev q2n:Stmt:=top 18
theorem sc__law_row:FnScope ["_law_number", "_law_many", "_law_row_here", "_law_step"] ["_law_number", "_law_many"] (defScope q2n):=⟨rfl,rfl,rfl,by decide +kernel,rfl,by decide +kernel,by decide +kernel⟩
noncomputable abbrev q1r:Stmt:=top 19
theorem q8t:FnScope ["_law_many"] ["_law_many"] (defScope q1r):=⟨rfl,rfl,rfl,by decide +kernel,rfl,by decide +kernel,by decide +kernel⟩
noncomputable abbrev q1s:Stmt:=top 20
theorem sc__law_machine:FnScope ["_law_script", "_law_at", "_law_cell", "_law_kinds", "_law_many", "_law_wide", "_law_size", "_law_base", "_law_states", "_law_k", "_law_state", "_law_number", "_law_left", "_law_told", "_law_goal", "_law_twin"] ["_law_script", "_law_at"] (defScope q1s):=⟨rfl,rfl,rfl,by decide +kernel,rfl,by decide +kernel,by decide +kernel⟩
noncomputable abbrev q11:Stmt:=top 21
theorem x1p:FnScope ["_law_machine_here"] ["_law_machine_here"] (defScope q11):=⟨rfl,rfl,rfl,by decide +kernel,rfl,by decide +kernel,by decide +kernel⟩
noncomputable abbrev q1o:Stmt:=top 22
theorem sc__law_fitted:FnScope ["_law_machine_here", "_law_many", "_law_wide", "_law_states", "_law_state", "_law_pairs"] ["_law_machine_here", "_law_many", "_law_wide"] (defScope q1o):=⟨rfl,rfl,rfl,by decide +kernel,rfl,by decide +kernel,by decide +kernel⟩
noncomputable abbrev q0o:Stmt:=top 23
theorem sc__law_second:FnScope ["_law_script", "_law_machine_here", "_law_way", "_law_size", "_law_order", "_law_states", "_law_at", "_law_number", "_law_pair", "_law_told", "_law_twin"] ["_law_script", "_law_machine_here"] (defScope q0o):=⟨rfl,rfl,rfl,by decide +kernel,rfl,by decide +kernel,by decide +kernel⟩
noncomputable abbrev q2f:Stmt:=top 24
theorem sc__law_come:FnScope ["_law_machine_here", "_law_other", "_law_pairs", "_law_known", "_law_at", "_law_mine", "_law_theirs"] ["_law_machine_here", "_law_other"] (defScope q2f):=⟨rfl,rfl,rfl,by decide +kernel,rfl,by decide +kernel,by decide +kernel⟩
noncomputable abbrev q12:Stmt:=top 25
theorem sc__law_good:FnScope ["_law_machine_here", "_law_other", "_law_pairs", "_law_known", "_law_low", "_law_high", "_law_mine", "_law_theirs"] ["_law_machine_here", "_law_other", "_law_pairs"] (defScope q12):=⟨rfl,rfl,rfl,by decide +kernel,rfl,by decide +kernel,by decide +kernel⟩
noncomputable abbrev q1w:Stmt:=top 26
theorem sc__law_spoilt:FnScope ["_law_machine_here", "_law_other", "_law_pairs", "_law_cell", "_law_at", "_law_low", "_law_high", "_law_far", "_law_pair", "_law_one", "_law_two"] ["_law_machine_here", "_law_other", "_law_pairs", "_law_cell"] (defScope q1w):=⟨rfl,rfl,rfl,by decide +kernel,rfl,by decide +kernel,by decide +kernel⟩
noncomputable abbrev q3f:Stmt:=top 27
theorem sc_law:FnScope ["_law_script", "_law_machine_here", "_law_other", "_law_cell", "_law_pairs", "_law_handed", "_law_found", "_law_due"] ["_law_script"] (defScope q3f):=⟨rfl,rfl,rfl,by decide +kernel,rfl,by decide +kernel,by decide +kernel⟩
noncomputable abbrev q3s:Expr:=(kwAt 0 (binR (stVal (stAt 3 q0o))))
noncomputable abbrev q1b:Lm:=⟨("_law_second"++".<locals>.")++"<lambda>", lamParams q3s,lamBody q3s,lamScope q3s,["_law_way"]⟩
noncomputable abbrev q2w:Nat:=19
def lams:Nat->Option Lm
 |19=>some q1b
 |_=>none
theorem q6u:lams 19=some q1b:=rfl
def q18(K:Fg)(a:Adr)(r:Nat->List W->FR):Den W:=
 (dCall (r q14) (dCons (dVar 1) (dCons (dVar 0) dNil)))
def q4l(K:Fg)(a:Adr)(r:Nat->List W->FR):List S->SR:=
 (dSet 1 (dOp mulW (dC (.int 2)) (dVar 1)))
def q4f(K:Fg)(a:Adr)(r:Nat->List W->FR):List S->SR:=
 (dSeq (dSet 1 (dC (.int 1)))
  (dSeq (dForR 2 rng1 (dCons (dVar 0) dNil)
  (q4l K a r))
  (dRet (dVar 1))))
def q3b(K:Fg)(a:Adr)(r:Nat->List W->FR):List S->SR:=
 (dSeq (dIfS (dTest (dOp ne2 (dFn len1 (dCons (dVar 4) dNil)) (dOp ixW (dVar 0) (dC (.int 1)))))
  dNo
  dNx)
  (dIfS (dNot (dTru (dCall (r q2b) (dCons (dVar 0) (dCons (dVar 5) dNil)))))
  dNo
  dNx))
def q3c(K:Fg)(a:Adr)(r:Nat->List W->FR):List S->SR:=
 (dSeq (dIfS (dTest (dOp ne2 (dFn len1 (dCons (dVar 3) dNil)) (dVar 2)))
  dNo
  dNx)
  (dForP 4 5 (srcP (dVar 3))
  (q3b K a r)))
def q2z(K:Fg)(a:Adr)(r:Nat->List W->FR):List S->SR:=
 (dSeq (dSet 1 (dOp ixW (dVar 0) (dC (.int 2))))
  (dSeq (dSet 2 (dCall (r q3e) (dCons (dOp ixW (dVar 0) (dC (.int 0))) dNil)))
  (dSeq (dIfS (dTest (dOp eq2 (dFn len1 (dCons (dVar 1) dNil)) (dC (.int 0))))
  dNo
  dNx)
  (dFor 3 (dVar 1)
  (q3c K a r)))))
def q3t(K:Fg)(a:Adr)(r:Nat->List W->FR):List S->SR:=
 (dRet (dAndV (dOp leW (dC (.int 0)) (dVar 1)) (dOp ltW (dVar 1) (dFn len1 (dCons (dOp ixW (dVar 0) (dC (.int 2))) dNil)))))
def q3u(K:Fg)(a:Adr)(r:Nat->List W->FR):List S->SR:=
 (dSeq (dDrop (dCall (r q1v) (dCons (dVar 0) dNil)))
  (dSeq (dDrop (dCall (r q1v) (dCons (dVar 1) dNil)))
  (dIfS (dTest (dOp ne2 (dOp ixW (dVar 0) (dC (.int 0))) (dOp ixW (dVar 1) (dC (.int 0)))))
  dNo
  dNx)))
def q3v(K:Fg)(a:Adr)(r:Nat->List W->FR):List S->SR:=
 (dSeq (dDrop (dCall (r q21) (dCons (dVar 0) (dCons (dVar 1) dNil))))
  (dIfS (dTest (dOp ne2 (dOp ixW (dVar 0) (dC (.int 1))) (dOp ixW (dVar 1) (dC (.int 1)))))
  dNo
  dNx))
def q2o(K:Fg)(a:Adr)(r:Nat->List W->FR):Den W:=
 (dCall (r q2j) (dCons (dOp ixW (dOp ixW (dVar 2) (dC (.int 2))) (dVar 0)) (dCons (dOp ixW (dOp ixW (dVar 3) (dC (.int 2))) (dVar 1)) (dCons (dVar 4) dNil))))
def q2c(K:Fg)(a:Adr)(r:Nat->List W->FR):List S->SR:=
 (dSeq (dIfS (dOr (dNot (dTru (dCall (r q2b) (dCons (dVar 0) (dCons (dOp ixW (dVar 4) (dC (.int 0))) dNil))))) (dNot (dTru (dCall (r q2b) (dCons (dVar 1) (dCons (dOp ixW (dVar 4) (dC (.int 1))) dNil))))))
  (dRet (dC (.bl false)))
  dNx)
  (dPutX 3 (dC (.bl true)) (dVar 4)))
def q54(K:Fg)(a:Adr)(r:Nat->List W->FR):List S->SR:=
 (dSeq (dDrop (dCall (r q22) (dCons (dVar 0) (dCons (dVar 1) dNil))))
  (dSeq (dSetW 3 (.tup [.int,.int]))
  (dSeq (dFor 4 (dVar 2)
  (q2c K a r))
  (dSeq (dIfS (dBorrowT (dTest (dOp ninT (dTup (dCons (dC (.int 0)) (dCons (dC (.int 0)) dNil))) (dVar 3))))
  (dRet (dC (.bl false)))
  dNx)
  (dRet (dFn all1 (dCons (dFz (dCompP [0,1,3] (srcPO 3) dYes (q2o K a r))) dNil)))))))
def q07(K:Fg)(a:Adr)(r:Nat->List W->FR):List S->SR:=
 (dIfS (dOr (dTest (dOp ne2 (dOp ixW (dVar 3) (dC (.int 0))) (dOp ixW (dVar 4) (dC (.int 0))))) (dTest (dOp ninT (dTup (dCons (dOp ixW (dVar 3) (dC (.int 1))) (dCons (dOp ixW (dVar 4) (dC (.int 1))) dNil))) (dVar 2))))
  (dRet (dC (.bl false)))
  dNx)
def q27(K:Fg)(a:Adr)(r:Nat->List W->FR):List S->SR:=
 (dSeq (dForP 3 4 (srcZ (dCons (dVar 0) (dCons (dVar 1) dNil)))
  (q07 K a r))
  (dRet (dC (.bl true))))
def q28(K:Fg)(a:Adr)(r:Nat->List W->FR):List S->SR:=
 (dSeq (dIfS (dTest (dOp ltW (dVar 1) (dFn len1 (dCons (dVar 0) dNil))))
  (dRet (dOp ixW (dVar 0) (dVar 1)))
  dNx)
  (dRet (dC (.int 0))))
def q3w(K:Fg)(a:Adr)(r:Nat->List W->FR):List S->SR:=
 (dSeq (dSet 2 (dOp modW (dOp mulW (dOp addX (dVar 0) (dOp mulW (dC (.int 7919)) (dVar 1))) (dC (.int 48271))) (dC (.int 2147483647))))
  (dRet (dOp modW (dOp addX (dOp addX (dOp mulW (dVar 2) (dVar 2)) (dOp mulW (dC (.int 7)) (dVar 2))) (dVar 1)) (dC (.int 2147483629)))))
def q5b(K:Fg)(a:Adr)(r:Nat->List W->FR):List S->SR:=
 (dSeq (dApp 2 (dCons (dOp eq2 (dOp modW (dVar 0) (dC (.int 2))) (dC (.int 1))) dNil))
  (dSet 0 (dOp fdivW (dVar 0) (dC (.int 2)))))
def q4t(K:Fg)(a:Adr)(r:Nat->List W->FR):List S->SR:=
 (dSeq (dSetO 2 (dLst dNil))
  (dSeq (dForR 3 rng1 (dCons (dVar 1) dNil)
  (q5b K a r))
  (dSeq (dMut0 2 List.reverse)
  (dRet (dFn tup1 (dCons (dVar 2) dNil))))))
def q29(K:Fg)(a:Adr)(r:Nat->List W->FR):List S->SR:=
 (dRet (dOp ixW (dFz (dLst (dCons (dC (.int 1)) (dCons (dC (.int 2)) (dCons (dC (.int 4)) (dCons (dC (.int 8)) dNil)))))) (dVar 0)))
def pair44(K:Fg)(a:Adr)(r:Nat->List W->FR):List S->SR:=
 (dSeq (dSet 15 (dOp modW (dCall (r q14) (dCons (dOp addX (dVar 3) (dVar 9)) (dCons (dVar 11) dNil))) (dOp addX (dOp fdivW (dOp subW (dOp subW (dVar 6) (dC (.int 1))) (dVar 14)) (dVar 7)) (dC (.int 1)))))
  (dApp 10 (dCons (dTup (dCons (dFn tup1 (dCons (dVar 13) dNil)) (dCons (dOp addX (dVar 14) (dOp mulW (dVar 7) (dVar 15))) dNil))) dNil)))
def goal44(K:Fg)(a:Adr)(r:Nat->List W->FR):List S->SR:=
 (dSeq (dSet 14 (dOp modW (dOp fdivW (dVar 12) (dC (.int 64))) (dVar 7)))
  (dSeq (dIfS (dTest (dOp eq2 (dOp modW (dVar 3) (dC (.int 3))) (dC (.int 1))))
  (dSeq (dSet 13 (dOp repW (dFz (dLst (dCons (dOp eq2 (dOp modW (dVar 9) (dVar 7)) (dOp subW (dVar 7) (dC (.int 1)))) dNil))) (dVar 5)))
  (dSet 14 (dOp ixW (dFz (dLst (dCons (dFn min2 (dCons (dOp addX (dOp modW (dVar 9) (dVar 7)) (dC (.int 1))) (dCons (dOp subW (dVar 7) (dC (.int 1))) dNil))) (dCons (dC (.int 0)) dNil)))) (dFn min2 (dCons (dVar 11) (dCons (dC (.int 1)) dNil))))))
  dNx)
  (pair44 K a r)))
def q2p(K:Fg)(a:Adr)(r:Nat->List W->FR):List S->SR:=
 (dSeq (dSet 12 (dCall (r q14) (dCons (dCall (r q0k) (dCons (dVar 0) (dCons (dOp addX (dOp addX (dVar 1) (dC (.int 2))) (dOp modW (dOp modW (dVar 9) (dVar 7)) (dC (.int 6)))) dNil))) (dCons (dOp addX (dOp mulW (dC (.int 8)) (dOp modW (dVar 9) (dVar 7))) (dVar 11)) dNil))))
  (dSeq (dSet 13 (dOp repW (dFz (dLst (dCons (dC (.bl false)) dNil))) (dVar 5)))
  (dSeq (dIfS (dTest (dOp eq2 (dOp modW (dVar 12) (dC (.int 4))) (dC (.int 0))))
  (dSet 13 (dFz (dList (dCons (dCall (r q3r) (dCons (dOp fdivW (dVar 12) (dC (.int 4))) (dCons (dVar 5) dNil))) dNil))))
  dNx)
  (goal44 K a r))))
def q2q(K:Fg)(a:Adr)(r:Nat->List W->FR):List S->SR:=
 (dSeq (dSetO 10 (dLst dNil))
  (dSeq (dForR 11 rng1 (dCons (dCall (r q1e) (dCons (dVar 4) dNil)) dNil)
  (q2p K a r))
  (dApp 8 (dCons (dVar 10) dNil))))
def sts44(K:Fg)(a:Adr)(r:Nat->List W->FR):List S->SR:=
 (dSeq (dSet 7 (dOp subW (dVar 6) (dOp modW (dOp fdivW (dVar 3) (dC (.int 24))) (dVar 6))))
  (dSeq (dSetO 8 (dLst dNil))
  (dSeq (dForR 9 rng1 (dCons (dVar 6) dNil)
  (q2q K a r))
  (dRet (dTup (dCons (dVar 4) (dCons (dVar 5) (dCons (dVar 8) dNil))))))))
def sec44(K:Fg)(a:Adr)(r:Nat->List W->FR):List S->SR:=
 (dSeq (dIfS (dAnd (dTest (dOp eq2 (dVar 6) (dC (.int 7)))) (dTest (dOp eq2 (dOp modW (dOp fdivW (dVar 2) (dC (.int 28))) (dC (.int 4))) (dC (.int 1)))))
  (dSeq (dSet 6 (dOp addX (dC (.int 12)) (dOp modW (dOp fdivW (dVar 2) (dC (.int 112))) (dC (.int 9)))))
  (dSet 4 (dOp modW (dVar 4) (dC (.int 2)))))
  dNx)
  (sts44 K a r))
def q3a(K:Fg)(a:Adr)(r:Nat->List W->FR):List S->SR:=
 (dSeq (dSet 2 (dCall (r q0k) (dCons (dVar 0) (dCons (dVar 1) dNil))))
  (dSeq (dSet 3 (dCall (r q0k) (dCons (dVar 0) (dCons (dOp addX (dVar 1) (dC (.int 1))) dNil))))
  (dSeq (dSet 4 (dOp ixW (dFz (dLst (dCons (dC (.int 0)) (dCons (dC (.int 1)) (dCons (dC (.int 2)) (dCons (dOp ixW (dFz (dLst (dCons (dC (.int 1)) (dCons (dC (.int 1)) (dCons (dC (.int 2)) (dCons (dC (.int 3)) dNil)))))) (dOp modW (dOp fdivW (dVar 2) (dC (.int 28))) (dC (.int 4)))) dNil)))))) (dOp modW (dVar 2) (dC (.int 4)))))
  (dSeq (dSet 5 (dOp ixW (dFz (dLst (dCons (dC (.int 1)) (dCons (dC (.int 2)) (dCons (dC (.int 1)) (dCons (dC (.int 0)) (dCons (dC (.int 3)) (dCons (dOp addX (dC (.int 4)) (dOp modW (dOp fdivW (dVar 3) (dC (.int 24))) (dC (.int 9)))) (dCons (dC (.int 2)) (dCons (dC (.int 1)) dNil)))))))))) (dOp modW (dOp fdivW (dVar 3) (dC (.int 3))) (dC (.int 8)))))
  (dSeq (dSet 6 (dOp addX (dC (.int 1)) (dOp modW (dOp fdivW (dVar 2) (dC (.int 4))) (dC (.int 7)))))
  (dSeq (dIfS (dTest (dOp eq2 (dVar 6) (dC (.int 6))))
  (dSeq (dSet 6 (dOp addX (dC (.int 6)) (dOp modW (dOp fdivW (dVar 2) (dC (.int 28))) (dC (.int 5)))))
  (dSet 4 (dFn min2 (dCons (dVar 4) (dCons (dC (.int 2)) dNil)))))
  dNx)
  (sec44 K a r)))))))
def q4g(K:Fg)(a:Adr)(r:Nat->List W->FR):List S->SR:=
 (dRetTN (dOp ixW (dVar 0) (dC (.int 0))) (dOp ixW (dVar 0) (dC (.int 1))) (dNestC [] (dOp ixW (dVar 0) (dC (.int 2))) (dList (dCons (dVar 0) dNil))))
def q3x(K:Fg)(a:Adr)(r:Nat->List W->FR):Den W:=
 (dTup (dCons (dSlX (dOp addX (dOp ixW (dVar 0) (dC (.int 0))) (dOp repT (dTup (dCons (dC (.bl false)) dNil)) (dC (.int 12)))) dNoPart (dPart (dVar 1))) (dCons (dOp ixW (dVar 0) (dC (.int 1))) dNil)))
def q2d(K:Fg)(a:Adr)(r:Nat->List W->FR):List S->SR:=
 (dSeq (dSet 5 (dFz (dComp [2] (dVar 4) dYes (q3x K a r))))
  (dApp 3 (dCons (dSlX (dOp repW (dVar 5) (dC (.int 8))) dNoPart (dPart (dCall (r q1e) (dCons (dVar 1) dNil)))) dNil)))
def q3g(K:Fg)(a:Adr)(r:Nat->List W->FR):List S->SR:=
 (dSeq (dSetO 3 (dLst dNil))
  (dSeq (dFor 4 (dOp ixW (dVar 0) (dC (.int 2)))
  (q2d K a r))
  (dRet (dTup (dCons (dVar 1) (dCons (dVar 2) (dCons (dVar 3) dNil)))))))
def q3y(K:Fg)(a:Adr)(r:Nat->List W->FR):Den W:=
 (dTup (dCons (dOp ixW (dVar 0) (dC (.int 0))) (dCons (dOp ixW (dFz (dLst (dCons (dOp ixW (dVar 0) (dC (.int 1))) (dCons (dVar 1) dNil)))) (dFn int1 (dCons (dOp eq2 (dOp ixW (dVar 0) (dC (.int 1))) (dVar 2)) dNil))) dNil)))
def q3z(K:Fg)(a:Adr)(r:Nat->List W->FR):Den W:=
 (dTup (dCons (dOp ixW (dVar 0) (dC (.int 0))) (dCons (dMeth "list" indexI (dVar 1) (dCons (dOp ixW (dVar 0) (dC (.int 1))) dNil)) dNil)))
def q06(K:Fg)(a:Adr)(r:Nat->List W->FR):Den (List W):=
 (dComp [2] (dOp ixW (dOp ixW (dVar 1) (dC (.int 2))) (dVar 0)) dYes (q3z K a r))
def q0z(K:Fg)(a:Adr)(r:Nat->List W->FR):List S->SR:=
 (dSeq (dAlt (modIs 2 4 3) (dSetO 5 (dComp [1,4] (dVar 4) dYes (dFz (q06 K a r)))) (dSetN 5 [1,4] (dVar 4) (q06 K a r)))
  (dSeq (dIfS (dTest (dOp eq2 (dOp modW (dVar 2) (dC (.int 4))) (dC (.int 1))))
  (dSeq (dSet 6 (dOp modW (dOp fdivW (dVar 2) (dC (.int 4))) (dVar 3)))
  (dSeq (dSet 7 (dOp modW (dOp fdivW (dVar 2) (dC (.int 80))) (dBorrow (dFn len1 (dCons (dIxV 5 (dVar 6)) dNil)))))
  (dSeq (dSet 8 (dIxN 5 (dVar 6) (dVar 7)))
  (dSeq (dSetO 9 (dList (dCons (dOp ixW (dVar 8) (dC (.int 0))) dNil)))
  (dSeq (dIfS (dBorrowT (dTest (dOp ne2 (dVar 9) (dFz (dLst dNil)))))
  (dPut 9 (dNotV (dIxV 9 (dOp modW (dOp fdivW (dVar 2) (dC (.int 640))) (dFnV 9 len1)))) (dOp modW (dOp fdivW (dVar 2) (dC (.int 640))) (dFnV 9 len1)))
  dNx)
  (dPutN 5 (dTup (dCons (dFn tup1 (dCons (dVar 9) dNil)) (dCons (dOp ixW (dVar 8) (dC (.int 1))) dNil))) (dVar 6) (dVar 7)))))))
  dNx)
  (dSeq (dIfS (dTest (dOp eq2 (dOp modW (dVar 2) (dC (.int 4))) (dC (.int 2))))
  (dSeq (dSet 6 (dOp modW (dOp fdivW (dVar 2) (dC (.int 4))) (dVar 3)))
  (dSeq (dSet 7 (dOp modW (dOp fdivW (dVar 2) (dC (.int 80))) (dBorrow (dFn len1 (dCons (dIxV 5 (dVar 6)) dNil)))))
  (dPutN 5 (dTup (dCons (dOp ixW (dIxN 5 (dVar 6) (dVar 7)) (dC (.int 0))) (dCons (dOp modW (dOp fdivW (dVar 2) (dC (.int 640))) (dVar 3)) dNil))) (dVar 6) (dVar 7))))
  dNx)
  (dSeq (dIfS (dAnd (dTest (dOp eq2 (dOp modW (dVar 2) (dC (.int 4))) (dC (.int 3)))) (dAnd (dTest (dOp eq2 (dOp modW (dOp fdivW (dVar 2) (dC (.int 4))) (dC (.int 2))) (dC (.int 1)))) (dTest (dOp ltW (dVar 3) (dC (.int 20))))))
  (dSeq (dSet 10 (dOp modW (dOp fdivW (dVar 2) (dC (.int 8))) (dVar 3)))
  (dSeq (dSet 6 (dOp modW (dOp fdivW (dVar 2) (dC (.int 160))) (dVar 3)))
  (dSeq (dApp 5 (dCons (dFz (dList (dCons (dIxV 5 (dVar 10)) dNil))) dNil))
  (dPut 5 (dFz (dComp [3,10] (dIxV 5 (dVar 6)) dYes (q3y K a r))) (dVar 6)))))
  dNx)
  (dRet (dTup (dCons (dOp ixW (dVar 1) (dC (.int 0))) (dCons (dOp ixW (dVar 1) (dC (.int 1))) (dCons (dVar 5) dNil)))))))))
def q2t(K:Fg)(a:Adr)(r:Nat->List W->FR)(rl:Nat->List W->FR)(o:List Int):List S->Option SR:=
 (seqD (dSet 2 (dCall (r q0k) (dCons (dVar 0) (dCons (dC (.int 20)) dNil))))
  (seqD (dSet 3 (dFn len1 (dCons (dOp ixW (dVar 1) (dC (.int 2))) dNil)))
  (seqD (dIfS (dTest (dOp eq2 (dOp modW (dVar 2) (dC (.int 4))) (dC (.int 0))))
  (dRet (dCall (r q1n) (dCons (dCall (r q01) (dCons (dVar 0) (dCons (dC (.int 8)) dNil))) (dCons (dOp ixW (dVar 1) (dC (.int 0))) (dCons (dOp ixW (dVar 1) (dC (.int 1))) dNil)))))
  dNx)
  (seqC (dOrd 4 lams rl 19 q1b [2] (.inr 1) (.inl 3) o)
  (q0z K a r)))))
def q3h(K:Fg)(a:Adr)(r:Nat->List W->FR):List S->SR:=
 (dIfS (dBorrowT (dTest (dOp ninT (dTup (dCons (dOp ixW (dVar 5) (dC (.int 1))) (dCons (dOp ixW (dVar 6) (dC (.int 1))) dNil))) (dVar 3))))
  (dSeq (dPutW 3 (dC (.bl true)) (dTup (dCons (dOp ixW (dVar 5) (dC (.int 1))) (dCons (dOp ixW (dVar 6) (dC (.int 1))) dNil))))
  (dApp 2 (dCons (dTup (dCons (dOp ixW (dVar 5) (dC (.int 1))) (dCons (dOp ixW (dVar 6) (dC (.int 1))) dNil))) dNil)))
  dNx)
def q2u(K:Fg)(a:Adr)(r:Nat->List W->FR):List S->SR:=
 (dIfS (dTest (dOp ltW (dVar 4) (dFnV 2 len1)))
  (dForP 5 6 (srcZ (dCons (dOp ixW (dOp ixW (dVar 0) (dC (.int 2))) (dOp ixW (dIxV 2 (dVar 4)) (dC (.int 0)))) (dCons (dOp ixW (dOp ixW (dVar 1) (dC (.int 2))) (dOp ixW (dIxV 2 (dVar 4)) (dC (.int 1)))) dNil)))
  (q3h K a r))
  dNx)
def q4h(K:Fg)(a:Adr)(r:Nat->List W->FR):List S->SR:=
 (dSeq (dSetO 2 (dLst (dCons (dTup (dCons (dC (.int 0)) (dCons (dC (.int 0)) dNil))) dNil)))
  (dSeq (dSetD2 3 (.inr 0) (.inr 0) (.bl true))
  (dSeq (dForR 4 rng1 (dCons (dOp mulW (dFn len1 (dCons (dOp ixW (dVar 0) (dC (.int 2))) dNil)) (dFn len1 (dCons (dOp ixW (dVar 1) (dC (.int 2))) dNil))) dNil)
  (q2u K a r))
  (dRetO 2))))
def q1d(K:Fg)(a:Adr)(r:Nat->List W->FR):List S->SR:=
 (dIfS (dOr (dTest (dOp ne2 (dOp ixW (dVar 6) (dC (.int 0))) (dOp ixW (dVar 7) (dC (.int 0))))) (dBorrowT (dTest (dOp ninT (dTup (dCons (dOp ixW (dVar 6) (dC (.int 1))) (dCons (dOp ixW (dVar 7) (dC (.int 1))) dNil))) (dVar 3)))))
  (dRet (dC (.bl false)))
  dNx)
def q00(K:Fg)(a:Adr)(r:Nat->List W->FR):List S->SR:=
 (dSeq (dIfS (dOr (dNot (dTest (dChain leW ltW (dC (.int 0)) (dVar 4) (dFn len1 (dCons (dOp ixW (dVar 0) (dC (.int 2))) dNil))))) (dNot (dTest (dChain leW ltW (dC (.int 0)) (dVar 5) (dFn len1 (dCons (dOp ixW (dVar 1) (dC (.int 2))) dNil))))))
  (dRet (dC (.bl false)))
  dNx)
  (dForP 6 7 (srcZ (dCons (dOp ixW (dOp ixW (dVar 0) (dC (.int 2))) (dVar 4)) (dCons (dOp ixW (dOp ixW (dVar 1) (dC (.int 2))) (dVar 5)) dNil)))
  (q1d K a r)))
def q4m(K:Fg)(a:Adr)(r:Nat->List W->FR):Den W:=
 (dTup (dCons (dVar 0) (dCons (dC (.bl true)) dNil)))
def q4i(K:Fg)(a:Adr)(r:Nat->List W->FR):List S->SR:=
 (dSeq (dSetDO 3 (.tup [.int,.int]) (dFz (dComp [] (dVar 2) dYes (q4m K a r))))
  (dSeq (dForP 4 5 (srcP (dVar 2))
  (q00 K a r))
  (dStay 3 (dRet (dOp inT (dTup (dCons (dC (.int 0)) (dCons (dC (.int 0)) dNil))) (dVar 3))))))
def q3i(K:Fg)(a:Adr)(r:Nat->List W->FR):List S->SR:=
 (dSeq (dSet 4 (dOp modW (dOp fdivW (dVar 3) (dC (.int 4))) (dFn len1 (dCons (dVar 2) dNil))))
  (dSeq (dSet2 5 6 (dOp ixW (dVar 2) (dVar 4)))
  (dSeq (dIfS (dTest (dOp eq2 (dOp modW (dVar 3) (dC (.int 4))) (dC (.int 1))))
  (dRet (dOp addX (dSlX (dVar 2) dNoPart (dPart (dVar 4))) (dSlX (dVar 2) (dPart (dOp addX (dVar 4) (dC (.int 1)))) dNoPart)))
  dNx)
  (dSeq (dIfS (dTest (dOp eq2 (dOp modW (dVar 3) (dC (.int 4))) (dC (.int 2))))
  (dSeq (dSet 7 (dOp ixW (dFz (dLst (dCons (dUn negW (dC (.int 1))) (dCons (dFn len1 (dCons (dOp ixW (dVar 0) (dC (.int 2))) dNil)) (dCons (dFn len1 (dCons (dOp ixW (dVar 1) (dC (.int 2))) dNil)) (dCons (dOp powW (dC (.int 10)) (dC (.int 12))) dNil)))))) (dOp modW (dOp fdivW (dVar 3) (dC (.int 400))) (dC (.int 4)))))
  (dSeq (dSet 8 (dFz (dLst (dCons (dTup (dCons (dOp modW (dOp fdivW (dVar 3) (dC (.int 1600))) (dFn len1 (dCons (dOp ixW (dVar 0) (dC (.int 2))) dNil))) (dCons (dVar 6) dNil))) (dCons (dTup (dCons (dVar 5) (dCons (dOp modW (dOp fdivW (dVar 3) (dC (.int 1600))) (dFn len1 (dCons (dOp ixW (dVar 1) (dC (.int 2))) dNil))) dNil))) (dCons (dTup (dCons (dVar 7) (dCons (dVar 6) dNil))) (dCons (dTup (dCons (dVar 5) (dCons (dVar 7) dNil))) dNil)))))))
  (dRet (dOp addX (dOp addX (dSlX (dVar 2) dNoPart (dPart (dVar 4))) (dFz (dLst (dCons (dOp ixW (dVar 8) (dOp modW (dOp fdivW (dVar 3) (dC (.int 100))) (dC (.int 4)))) dNil)))) (dSlX (dVar 2) (dPart (dOp addX (dVar 4) (dC (.int 1)))) dNoPart)))))
  dNx)
  (dSeq (dIfS (dTest (dOp eq2 (dOp modW (dVar 3) (dC (.int 4))) (dC (.int 3))))
  (dSeq (dSet 9 (dOp subW (dOp modW (dOp fdivW (dVar 3) (dC (.int 400))) (dOp addX (dFn len1 (dCons (dOp ixW (dVar 0) (dC (.int 2))) dNil)) (dC (.int 2)))) (dC (.int 1))))
  (dSeq (dSet 10 (dOp subW (dOp modW (dOp fdivW (dVar 3) (dC (.int 10000))) (dOp addX (dFn len1 (dCons (dOp ixW (dVar 1) (dC (.int 2))) dNil)) (dC (.int 2)))) (dC (.int 1))))
  (dRet (dOp addX (dOp addX (dSlX (dVar 2) dNoPart (dPart (dVar 4))) (dFz (dLst (dCons (dTup (dCons (dVar 9) (dCons (dVar 10) dNil))) dNil)))) (dSlX (dVar 2) (dPart (dVar 4)) dNoPart)))))
  dNx)
  (dRet (dVar 2)))))))
def q5u(K:Fg)(a:Adr)(r:Nat->List W->FR):List S->SR:=
 (dSeq (dSet 6 (dBorrow (dCall (r q13) (dCons (dOp ixW (dVar 5) (dC (.int 0))) (dCons (dOp ixW (dVar 5) (dC (.int 1))) (dCons (dOp ixW (dVar 5) (dC (.int 2))) dNil))))))
  (dSeq (dIfS (dOr (dNot (dTru (dIsi K (.type "bool") (dVar 6)))) (dBorrowT (dTest (dOp ne2 (dFn repr1 (dCons (dVar 5) dNil)) (dFn repr1 (dCons (dFz (dLst (dCons (dVar 1) (dCons (dVar 2) (dCons (dVar 4) dNil))))) dNil))))))
  (dRet (dC (.bl false)))
  dNx)
  (dSeq (dSet 7 (dCall (r q10) (dCons (dVar 1) (dCons (dVar 2) (dCons (dVar 4) dNil)))))
  (dSeq (dClearF 5 [(false,2)])
  (dSeq (dIfS (dOr (dTest (dOp ne2 (dVar 6) (dVar 7))) (dBorrowT (dTest (dOp nisW (dCall (r q13) (dCons (dOp ixW (dVar 5) (dC (.int 0))) (dCons (dOp ixW (dVar 5) (dC (.int 1))) (dCons (dOp ixW (dVar 5) (dC (.int 2))) dNil)))) (dC (.bl false))))))
  (dRet (dC (.bl false)))
  dNx)
  (dSeq (dClearF 5 [(false,0),(true,2)])
  (dRet (dOp eq2 (dCall (r q13) (dCons (dCall (r q08) (dCons (dVar 1) dNil)) (dCons (dCall (r q08) (dCons (dVar 2) dNil)) (dCons (dFz (dList (dCons (dVar 4) dNil))) dNil)))) (dVar 7)))))))))
def q4u(K:Fg)(a:Adr)(r:Nat->List W->FR):List S->SR:=
 (dSeq (dSet 3 (dCall (r q0k) (dCons (dVar 0) (dCons (dC (.int 21)) dNil))))
  (dSeq (dSet 4 (dCall (r q1z) (dCons (dVar 1) (dCons (dVar 2) dNil))))
  (dSeq (dIfS (dTest (dOp eq2 (dOp modW (dVar 3) (dC (.int 2))) (dC (.int 1))))
  (dSet 4 (dRevS (dVar 4) (dPart (dUn negW (dC (.int 1))))))
  dNx)
  (dSeq (dIfS (dTest (dOp eq2 (dOp modW (dOp fdivW (dVar 3) (dC (.int 2))) (dC (.int 2))) (dC (.int 1))))
  (dSet 4 (dOp addX (dVar 4) (dSlX (dVar 4) dNoPart (dPart (dC (.int 1))))))
  dNx)
  (dSeq (dSet 4 (dCall (r q1c) (dCons (dVar 1) (dCons (dVar 2) (dCons (dVar 4) (dCons (dCall (r q0k) (dCons (dVar 0) (dCons (dC (.int 22)) dNil))) dNil))))))
  (dSeq (dSetFz3 5 1 2 4 (r q08))
  (dBase (q5u K a r))))))))
def x4r(K:Fg)(a:Adr)(r:Nat->List W->FR)(sc:List Int->List W->Option FR)(o:List Int):List S->Option SR:=
 (seqD (dSet 1 (dCall (r q01) (dCons (dVar 0) (dCons (dC (.int 0)) dNil))))
  (seqC (dSec 2 sc (dCons (dVar 0) (dCons (dVar 1) dNil)) o)
  (q4u K a r)))
def body(K:Fg)(a:Adr)(r:Nat->List W->FR)(ws:List W):Nat->FR
 |0=>if ws.length=1 then(q4f K a r (init 3 ws)).fn else .no
 |1=>if ws.length=1 then(q2z K a r (init 6 ws)).fn else .no
 |2=>if ws.length=2 then(q3t K a r (init 2 ws)).fn else .no
 |3=>if ws.length=2 then(q3u K a r (init 2 ws)).fn else .no
 |4=>if ws.length=2 then(q3v K a r (init 2 ws)).fn else .no
 |5=>if ws.length=3 then(q54 K a r (init 5 ws)).fn else .no
 |6=>if ws.length=3 then(q27 K a r (init 5 ws)).fn else .no
 |7=>if ws.length=2 then(q28 K a r (init 2 ws)).fn else .no
 |8=>if ws.length=2 then(q3w K a r (init 3 ws)).fn else .no
 |9=>if ws.length=2 then(q4t K a r (init 4 ws)).fn else .no
 |10=>if ws.length=1 then(q29 K a r (init 1 ws)).fn else .no
 |11=>if ws.length=2 then(q3a K a r (init 16 ws)).fn else .no
 |12=>if ws.length=1 then(q4g K a r (init 1 ws)).fn else .no
 |13=>if ws.length=3 then(q3g K a r (init 6 ws)).fn else .no
 |15=>if ws.length=2 then(q4h K a r (init 7 ws)).fn else .no
 |16=>if ws.length=3 then(q4i K a r (init 8 ws)).fn else .no
 |17=>if ws.length=4 then(q3i K a r (init 11 ws)).fn else .no
 |19=>if ws.length=2 then exprFR (q18 K a r (ws.map .fr))else .no
 |_=>.no
def run(K:Fg)(a:Adr):Nat->Nat->List W->FR
 |0,_,_=>.no
 |n+1,i,ws=>body K a (run K a n) ws i
def sec(K:Fg)(a:Adr)(n:Nat)(o:List Int)(ws:List W):Option FR:=if ws.length=2 then(q2t K a (run K a (n+2)) (run K a n) o (init 11 ws)).map SR.fn else some .no
def runLaw(K:Fg)(a:Adr)(n:Nat)(ws:List W):FR:=if ws.length=1 then(dem (x4r K a (run K a (n+3)) (sec K a n)) (init 8 ws)).fn else .no
theorem q4n:run K a (n+1) q3e ws=if ws.length=1 then(q4f K a (run K a n) (init 3 ws)).fn else .no:=rfl
theorem q3d:run K a (n+1) q1v ws=if ws.length=1 then(q2z K a (run K a n) (init 6 ws)).fn else .no:=rfl
theorem q30:run K a (n+1) q2b ws=if ws.length=2 then(q3t K a (run K a n) (init 2 ws)).fn else .no:=rfl
theorem q38:run K a (n+1) q21 ws=if ws.length=2 then(q3u K a (run K a n) (init 2 ws)).fn else .no:=rfl
theorem q39:run K a (n+1) q22 ws=if ws.length=2 then(q3v K a (run K a n) (init 2 ws)).fn else .no:=rfl
theorem q55:run K a (n+1) q13 ws=if ws.length=3 then(q54 K a (run K a n) (init 5 ws)).fn else .no:=rfl
theorem q3j:run K a (n+1) q2j ws=if ws.length=3 then(q27 K a (run K a n) (init 5 ws)).fn else .no:=rfl
theorem q3k:run K a (n+1) q0k ws=if ws.length=2 then(q28 K a (run K a n) (init 2 ws)).fn else .no:=rfl
theorem q4a:run K a (n+1) q14 ws=if ws.length=2 then(q3w K a (run K a n) (init 3 ws)).fn else .no:=rfl
theorem q5c:run K a (n+1) q3r ws=if ws.length=2 then(q4t K a (run K a n) (init 4 ws)).fn else .no:=rfl
theorem q3l:run K a (n+1) q1e ws=if ws.length=1 then(q29 K a (run K a n) (init 1 ws)).fn else .no:=rfl
theorem q3m:run K a (n+1) q01 ws=if ws.length=2 then(q3a K a (run K a n) (init 16 ws)).fn else .no:=rfl
theorem q4o:run K a (n+1) q08 ws=if ws.length=1 then(q4g K a (run K a n) (init 1 ws)).fn else .no:=rfl
theorem q31:run K a (n+1) q1n ws=if ws.length=3 then(q3g K a (run K a n) (init 6 ws)).fn else .no:=rfl
theorem q4p:run K a (n+1) q1z ws=if ws.length=2 then(q4h K a (run K a n) (init 7 ws)).fn else .no:=rfl
theorem q4q:run K a (n+1) q10 ws=if ws.length=3 then(q4i K a (run K a n) (init 8 ws)).fn else .no:=rfl
theorem q32:run K a (n+1) q1c ws=if ws.length=4 then(q3i K a (run K a n) (init 11 ws)).fn else .no:=rfl
theorem q2k:run K a (n+1) q2w ws=if ws.length=2 then exprFR (q18 K a (run K a n) (ws.map .fr))else .no:=rfl
section
variable{P:Program}{w:World}{base:Heap}
structure Mks(K:Fg)(mg:Str->Option Value):Prop where
 _law_second:∀f oc od fd sl,mg "_law_second"=some (.ref f)->K.lookup f=some ⟨oc,od,.func fd,sl⟩->MakK K "_law_second" fd.code
structure Ats(K:Fg)(mg:Str->Option Value):Prop where
 rows_many:At K mg "rows_many" q2e ["many"]
 check_machine:At K mg "check_machine" q1l ["machine"]
 is_state:At K mg "is_state" q2m ["machine", "number"]
 check_both:At K mg "check_both" q15 ["machine", "other"]
 check_like:At K mg "check_like" q16 ["machine", "other"]
 closed:At K mg "closed" q23 ["machine", "other", "pairs"]
 stays_within:At K mg "stays_within" q1p ["state", "other", "known"]
 _law_cell_at:At K mg "_law_cell_at" q1q ["_law_script", "_law_k"]
 _law_mixed:At K mg "_law_mixed" q17 ["_law_cell", "_law_k"]
 _law_row:At K mg "_law_row" q2n ["_law_number", "_law_many"]
 _law_rows_of:At K mg "_law_rows_of" q1r ["_law_many"]
 _law_machine:At K mg "_law_machine" q1s ["_law_script", "_law_at"]
 _law_copy:At K mg "_law_copy" q11 ["_law_machine_here"]
 _law_fitted:At K mg "_law_fitted" q1o ["_law_machine_here", "_law_many", "_law_wide"]
 _law_second:At K mg "_law_second" q0o ["_law_script", "_law_machine_here"]
 _law_come:At K mg "_law_come" q2f ["_law_machine_here", "_law_other"]
 _law_good:At K mg "_law_good" q12 ["_law_machine_here", "_law_other", "_law_pairs"]
 _law_spoilt:At K mg "_law_spoilt" q1w ["_law_machine_here", "_law_other", "_law_pairs", "_law_cell"]
 law:At K mg "law" q3f ["_law_script"]
structure Cals(P:Program)(w:World)(K:Fg)(mg:Str->Option Value)(base:Heap)(a:Adr)(n:Nat):Prop where
 rows_many:Cal P w K mg base n "rows_many" ["many"] (spF K (run K a n q3e))
 check_machine:Cal P w K mg base n "check_machine" ["machine"] (spF K (run K a n q1v))
 is_state:Cal P w K mg base n "is_state" ["machine", "number"] (spF K (run K a n q2b))
 check_both:Cal P w K mg base n "check_both" ["machine", "other"] (spF K (run K a n q21))
 check_like:Cal P w K mg base n "check_like" ["machine", "other"] (spF K (run K a n q22))
 closed:Cal P w K mg base n "closed" ["machine", "other", "pairs"] (spF K (run K a n q13))
 stays_within:Cal P w K mg base n "stays_within" ["state", "other", "known"] (spF K (run K a n q2j))
 _law_cell_at:Cal P w K mg base n "_law_cell_at" ["_law_script", "_law_k"] (spF K (run K a n q0k))
 _law_mixed:Cal P w K mg base n "_law_mixed" ["_law_cell", "_law_k"] (spF K (run K a n q14))
 _law_row:Cal P w K mg base n "_law_row" ["_law_number", "_law_many"] (spF K (run K a n q3r))
 _law_rows_of:Cal P w K mg base n "_law_rows_of" ["_law_many"] (spF K (run K a n q1e))
 _law_machine:Cal P w K mg base n "_law_machine" ["_law_script", "_law_at"] (spF K (run K a n q01))
 _law_copy:Cal P w K mg base n "_law_copy" ["_law_machine_here"] (spF K (run K a n q08))
 _law_fitted:Cal P w K mg base n "_law_fitted" ["_law_machine_here", "_law_many", "_law_wide"] (spF K (run K a n q1n))
 _law_come:Cal P w K mg base n "_law_come" ["_law_machine_here", "_law_other"] (spF K (run K a n q1z))
 _law_good:Cal P w K mg base n "_law_good" ["_law_machine_here", "_law_other", "_law_pairs"] (spF K (run K a n q10))
 _law_spoilt:Cal P w K mg base n "_law_spoilt" ["_law_machine_here", "_law_other", "_law_pairs", "_law_cell"] (spF K (run K a n q1c))
 lam:FnV P w K mg base (CX1 P w) n (spV K lams (run K a n))
structure CalsH(P:Program)(w:World)(K:Fg)(mg:Str->Option Value)(base:Heap)(a:Adr)(n:Nat):Prop where
 z:True
section
variable(B:Blt mg)(M:Exs K mg a)(C:Cals P w K mg base a n)(CH:CalsH P w K mg base a n)(BM:BMain base mg)(MK:Mks K mg)
theorem lof{c:Prop} [Decidable c]{x r:FR}(e:r=if c then x else .no)(h:r≠.no):c/\x=r:=by
 rw[e]at h |-;split at h
 ·rename_i hl;rw[if_pos hl];exact⟨hl,rfl⟩
 ·exact absurd rfl h
include B M C CH BM MK
theorem x1q  (A:Ats K mg):Cal P w K mg base (n+1) "rows_many" ["many"] (spF K (run K a (n+1) q3e)):=
 con A.rows_many sc_rows_many (fun ws hw=>(lof q4n hw).1) fun ws hw f cdv A outer s H E Z hr=>⟨q4f K a (run K a n),(q0f (q0m 1 sc_rows_many.nd q0b)
  (q0f (q5m 2 sc_rows_many.nd PassesOwn.leaving rfl B.b_range (q0a (dv 0) q0e)
  (q0h (q0m 1 sc_rows_many.nd (q4j q0b (dv 1)))))
  (q0h (q02 (dv 1))))),(lof q4n hw).2⟩
theorem q7w  (A:Ats K mg):Cal P w K mg base (n+1) "check_machine" ["machine"] (spF K (run K a (n+1) q1v)):=
 con A.check_machine sc_check_machine (fun ws hw=>(lof q3d hw).1) fun ws hw f cdv A outer s H E Z hr=>⟨q2z K a (run K a n),(q0f (q0m 1 sc_check_machine.nd (q0g (dv 0) q0b))
  (q0f (q0m 2 sc_check_machine.nd (q0w C.rows_many hr pass1 (q0a (q0g (dv 0) q0b) q0e)))
  (q0f (q05 (q2g (q0l hr) (q1h B.b_len (q0a (dv 1) q0e)) q0b)
  (q0h q37)
  q0s)
  (q0h (x00 3 sc_check_machine.nd PassesOwn.leaving rfl (dv 1)
  (q0f (q05 (q4s (q0l hr) (q1h B.b_len (q0a (dv 3) q0e)) (dv 2))
  (q0h q37)
  q0s)
  (q0h (q5q 4 5 sc_check_machine.nd PassesOwn.leaving rfl (x07 (dv 3))
  (q0f (q05 (q4s (q0l hr) (q1h B.b_len (q0a (dv 4) q0e)) (q0g (dv 0) q0b))
  (q0h q37)
  q0s)
  (q0h (q05 (q5k (q8a (q0w C.is_state hr pass1 (q0a (dv 0) (q0a (dv 5) q0e)))))
  (q0h q37)
  q0s))))))))))),(lof q3d hw).2⟩
theorem x2e  (A:Ats K mg):Cal P w K mg base (n+1) "is_state" ["machine", "number"] (spF K (run K a (n+1) q2b)):=
 con A.is_state x2d (fun ws hw=>(lof q30 hw).1) fun ws hw f cdv A outer s H E Z hr=>⟨q3t K a (run K a n),(q0h (q02 (y5v (y9g q0b (dv 1)) (y5u (y9f (dv 1) (q1h B.b_len (q0a (q0g (dv 0) q0b) q0e))))))),(lof q30 hw).2⟩
theorem x0b  (A:Ats K mg):Cal P w K mg base (n+1) "check_both" ["machine", "other"] (spF K (run K a (n+1) q21)):=
 con A.check_both q99 (fun ws hw=>(lof q38 hw).1) fun ws hw f cdv A outer s H E Z hr=>⟨q3u K a (run K a n),(q0f (q6z (q0w C.check_machine hr pass1 (q0a (dv 0) q0e)))
  (q0f (q6z (q0w C.check_machine hr pass1 (q0a (dv 1) q0e)))
  (q0h (q05 (q4s (q0l hr) (q0g (dv 0) q0b) (q0g (dv 1) q0b))
  (q0h q37)
  q0s)))),(lof q38 hw).2⟩
theorem x0c  (A:Ats K mg):Cal P w K mg base (n+1) "check_like" ["machine", "other"] (spF K (run K a (n+1) q22)):=
 con A.check_like x0a (fun ws hw=>(lof q39 hw).1) fun ws hw f cdv A outer s H E Z hr=>⟨q3v K a (run K a n),(q0f (q6z (q0w C.check_both hr pass1 (q0a (dv 0) (q0a (dv 1) q0e))))
  (q0h (q05 (q4s (q0l hr) (q0g (dv 0) q0b) (q0g (dv 1) q0b))
  (q0h q37)
  q0s))),(lof q39 hw).2⟩
theorem x65  (A:Ats K mg):Cal P w K mg base (n+1) "closed" ["machine", "other", "pairs"] (spF K (run K a (n+1) q13)):=
 con A.closed sc_closed (fun ws hw=>(lof q55 hw).1) fun ws hw f cdv A outer s H E Z hr=>⟨q54 K a (run K a n),(q0f (q6z (q0w C.check_like hr pass1 (q0a (dv 0) (q0a (dv 1) q0e))))
  (q0f (y3v 3 (.tup [.int,.int]) sc_closed.nd)
  (q0f (x00 4 sc_closed.nd PassesOwn.leaving rfl (dv 2)
  (q0f (q05 (dt_w (q6y (q5k (q8a (q0w C.is_state hr pass1 (q0a (dv 0) (q0a (q0g (dv 4) q0b) q0e))))) (q5j (q5k (q8a (q0w C.is_state hr pass1 (q0a (dv 1) (q0a (q0g (dv 4) q0b) q0e))))))))
  (q0h (q02 q2x))
  q0s)
  (q0h (y4i 3 M.nt (q0l hr) q2x (dv 4)))))
  (q0f (q05 (q3n fun _=>(q68 M.nt (q0l hr) (q03 (q0a q0b (q0a q0b q0e))) (dv 3)))
  (q0h (q02 q2x))
  q0s)
  (q0h (q02 (y7q rfl B.b_all (q0a (q1u (x8n (x:="left") (y:="right") (Nf:=["machine", "other", "known"]) (js:=[0,1,3]) (sc:=defScope q23) (N:=["machine", "other", "pairs", "known", "pair"]) rfl (y4m 3) (by decide +kernel)
   (fun _ _ _ _ _ _=>q25)
   (fun _ _ _ _ _ _=>(q0w C.stays_within hr passE (q0a (q0g (q0g (dv 2) q0b) (dv 0)) (q0a (q0g (q0g (dv 3) q0b) (dv 1)) (q0a (dv 4) q0e)))))
   (fun _ _ _ _ _=>y7w (show(["left", "right", "machine", "other", "known"]:List Str).Nodup by decide +kernel) rfl))) q0e)))))))),(lof q55 hw).2⟩
theorem q8u  (A:Ats K mg):Cal P w K mg base (n+1) "stays_within" ["state", "other", "known"] (spF K (run K a (n+1) q2j)):=
 con A.stays_within sc_stays_within (fun ws hw=>(lof q3j hw).1) fun ws hw f cdv A outer s H E Z hr=>⟨q27 K a (run K a n),(q0f (q5q 3 4 sc_stays_within.nd PassesOwn.leaving rfl (x1d B.b_zip (q0a (dv 0) (q0a (dv 1) q0e)))
  (q0h (q05 (dt_w (q6y (q4s (q0l hr) (q0g (dv 3) q0b) (q0g (dv 4) q0b)) (q5j (q68 M.nt (q0l hr) (q03 (q0a (q0g (dv 3) q0b) (q0a (q0g (dv 4) q0b) q0e))) (dv 2)))))
  (q0h (q02 q2x))
  q0s)))
  (q0h (q02 q2x))),(lof q3j hw).2⟩
theorem q8v  (A:Ats K mg):Cal P w K mg base (n+1) "_law_cell_at" ["_law_script", "_law_k"] (spF K (run K a (n+1) q0k)):=
 con A._law_cell_at q8s (fun ws hw=>(lof q3k hw).1) fun ws hw f cdv A outer s H E Z hr=>⟨q28 K a (run K a n),(q0f (q05 (x34 (dv 1) (q1h B.b_len (q0a (dv 0) q0e)))
  (q0h (q02 (q0g (dv 0) (dv 1))))
  q0s)
  (q0h (q02 q0b))),(lof q3k hw).2⟩
theorem x0d  (A:Ats K mg):Cal P w K mg base (n+1) "_law_mixed" ["_law_cell", "_law_k"] (spF K (run K a (n+1) q14)):=
 con A._law_mixed sc__law_mixed (fun ws hw=>(lof q4a hw).1) fun ws hw f cdv A outer s H E Z hr=>⟨q3w K a (run K a n),(q0f (q0m 2 sc__law_mixed.nd (q0j (q4j (q0y (dv 0) (q4j q0b (dv 1))) q0b) q0b))
  (q0h (q02 (q0j (q0y (q0y (q4j (dv 2) (dv 2)) (q4j q0b (dv 2))) (dv 1)) q0b)))),(lof q4a hw).2⟩
theorem x2f  (A:Ats K mg):Cal P w K mg base (n+1) "_law_row" ["_law_number", "_law_many"] (spF K (run K a (n+1) q3r)):=
 con A._law_row sc__law_row (fun ws hw=>(lof q5c hw).1) fun ws hw f cdv A outer s H E Z hr=>⟨q4t K a (run K a n),(q0f (q5l 2 sc__law_row.nd (q1g q0e))
  (q0f (q5m 3 sc__law_row.nd PassesOwn.leaving rfl B.b_range (q0a (dv 1) q0e)
  (q0f (q5n 2 (q0a (x0h (q0l hr) (q0j (dv 0) q0b) q0b) q0e))
  (q0h (q0m 0 sc__law_row.nd (q0t (dv 0) q0b)))))
  (q0f (y73 2)
  (q0h (q02 (q7p B.b_tuple (q0a (dv 2) q0e))))))),(lof q5c hw).2⟩
theorem q8w  (A:Ats K mg):Cal P w K mg base (n+1) "_law_rows_of" ["_law_many"] (spF K (run K a (n+1) q1e)):=
 con A._law_rows_of q8t (fun ws hw=>(lof q3l hw).1) fun ws hw f cdv A outer s H E Z hr=>⟨q29 K a (run K a n),(q0h (q02 (q0g (q1u (q1g (q0a q0b (q0a q0b (q0a q0b (q0a q0b q0e)))))) (dv 0)))),(lof q3l hw).2⟩
theorem q8x  (A:Ats K mg):Cal P w K mg base (n+1) "_law_machine" ["_law_script", "_law_at"] (spF K (run K a (n+1) q01)):=
 con A._law_machine sc__law_machine (fun ws hw=>(lof q3m hw).1) fun ws hw f cdv A outer s H E Z hr=>⟨q3a K a (run K a n),(q0f (q0m 2 sc__law_machine.nd (q0w C._law_cell_at hr pass1 (q0a (dv 0) (q0a (dv 1) q0e))))
  (q0f (q0m 3 sc__law_machine.nd (q0w C._law_cell_at hr pass1 (q0a (dv 0) (q0a (q0y (dv 1) q0b) q0e))))
  (q0f (q0m 4 sc__law_machine.nd (q0g (q1u (q1g (q0a q0b (q0a q0b (q0a q0b (q0a (q0g (q1u (q1g (q0a q0b (q0a q0b (q0a q0b (q0a q0b q0e)))))) (q0j (q0t (dv 2) q0b) q0b)) q0e)))))) (q0j (dv 2) q0b)))
  (q0f (q0m 5 sc__law_machine.nd (q0g (q1u (q1g (q0a q0b (q0a q0b (q0a q0b (q0a q0b (q0a q0b (q0a (q0y q0b (q0j (q0t (dv 3) q0b) q0b)) (q0a q0b (q0a q0b q0e)))))))))) (q0j (q0t (dv 3) q0b) q0b)))
  (q0f (q0m 6 sc__law_machine.nd (q0y q0b (q0j (q0t (dv 2) q0b) q0b)))
  (q0f (q05 (q2g (q0l hr) (dv 6) q0b)
  (q0f (q0m 6 sc__law_machine.nd (q0y q0b (q0j (q0t (dv 2) q0b) q0b)))
  (q0h (q0m 4 sc__law_machine.nd (q85 rfl B.b_min (q0a (dv 4) (q0a q0b q0e))))))
  q0s)
  (q0f (q05 (dt_w (x0z (q2g (q0l hr) (dv 6) q0b) (x2p (q2g (q0l hr) (q0j (q0t (dv 2) q0b) q0b) q0b))))
  (q0f (q0m 6 sc__law_machine.nd (q0y q0b (q0j (q0t (dv 2) q0b) q0b)))
  (q0h (q0m 4 sc__law_machine.nd (q0j (dv 4) q0b))))
  q0s)
  (q0f (q0m 7 sc__law_machine.nd (q48 (dv 6) (q0j (q0t (dv 3) q0b) (dv 6))))
  (q0f (q5l 8 sc__law_machine.nd (q1g q0e))
  (q0f (q5m 9 sc__law_machine.nd PassesOwn.leaving rfl B.b_range (q0a (dv 6) q0e)
  (q0f (q5l 10 sc__law_machine.nd (q1g q0e))
  (q0f (q5m 11 sc__law_machine.nd PassesOwn.leaving rfl B.b_range (q0a (q0w C._law_rows_of hr pass1 (q0a (dv 4) q0e)) q0e)
  (q0f (q0m 12 sc__law_machine.nd (q0w C._law_mixed hr pass1 (q0a (q0w C._law_cell_at hr pass1 (q0a (dv 0) (q0a (q0y (q0y (dv 1) q0b) (q0j (q0j (dv 9) (dv 7)) q0b)) q0e))) (q0a (q0y (q4j q0b (q0j (dv 9) (dv 7))) (dv 11)) q0e))))
  (q0f (q0m 13 sc__law_machine.nd (x08 (q1u (q1g (q0a q2x q0e))) (dv 5)))
  (q0f (q05 (q2g (q0l hr) (q0j (dv 12) q0b) q0b)
  (q0h (q0m 13 sc__law_machine.nd (q1u (q5o B.b_list (q0a (q0w C._law_row hr pass1 (q0a (q0t (dv 12) q0b) (q0a (dv 5) q0e))) q0e)))))
  q0s)
  (q0f (q0m 14 sc__law_machine.nd (q0j (q0t (dv 12) q0b) (dv 7)))
  (q0f (q05 (q2g (q0l hr) (q0j (dv 3) q0b) q0b)
  (q0f (q0m 13 sc__law_machine.nd (x08 (q1u (q1g (q0a (x0h (q0l hr) (q0j (dv 9) (dv 7)) (q48 (dv 7) q0b)) q0e))) (dv 5)))
  (q0h (q0m 14 sc__law_machine.nd (q0g (q1u (q1g (q0a (q85 rfl B.b_min (q0a (q0y (q0j (dv 9) (dv 7)) q0b) (q0a (q48 (dv 7) q0b) q0e))) (q0a q0b q0e)))) (q85 rfl B.b_min (q0a (dv 11) (q0a q0b q0e)))))))
  q0s)
  (q0f (q0m 15 sc__law_machine.nd (q0j (q0w C._law_mixed hr pass1 (q0a (q0y (dv 3) (dv 9)) (q0a (dv 11) q0e))) (q0y (q0t (q48 (q48 (dv 6) q0b) (dv 14)) (dv 7)) q0b)))
  (q0h (q5n 10 (q0a (q03 (q0a (q7p B.b_tuple (q0a (dv 13) q0e)) (q0a (q0y (dv 14) (q4j (dv 7) (dv 15))) q0e))) q0e))))))))))
  (q0h (q5n 8 (q0a (dv 10) q0e))))))
  (q0h (q02 (q03 (q0a (dv 4) (q0a (dv 5) (q0a (dv 8) q0e)))))))))))))))),(lof q3m hw).2⟩
theorem x1r  (A:Ats K mg):Cal P w K mg base (n+1) "_law_copy" ["_law_machine_here"] (spF K (run K a (n+1) q08)):=
 conZ A._law_copy x1p (fun ws hw=>(lof q4o hw).1) fun ws hw f cdv A outer s H E Z hr hz=>⟨q4g K a (run K a n),(q0h (x9y hz.2 (q0g (dv 0) q0b) (q0g (dv 0) q0b) (y4f (x:="_law_state") (Nf:=[]) (js:=[]) (sc:=defScope q11) (N:=["_law_machine_here"]) rfl (q0g (dv 0) q0b) (by decide +kernel)
   (fun _ _ _ _ _ _=>(q5o B.b_list (q0a (dv 0) q0e)))
   (fun _ _ _ _ _=>q1y 0 (show(["_law_state"]:List Str).Nodup by decide +kernel))))),(lof q4o hw).2⟩
theorem q9b  (A:Ats K mg):Cal P w K mg base (n+1) "_law_fitted" ["_law_machine_here", "_law_many", "_law_wide"] (spF K (run K a (n+1) q1n)):=
 con A._law_fitted sc__law_fitted (fun ws hw=>(lof q31 hw).1) fun ws hw f cdv A outer s H E Z hr=>⟨q3g K a (run K a n),(q0f (q5l 3 sc__law_fitted.nd (q1g q0e))
  (q0f (x00 4 sc__law_fitted.nd PassesOwn.leaving rfl (q0g (dv 0) q0b)
  (q0f (x32 5 sc__law_fitted.nd (x:="_law_pair") (Nf:=["_law_wide"]) (js:=[2]) (sc:=defScope q1o) (N:=["_law_machine_here", "_law_many", "_law_wide", "_law_states", "_law_state", "_law_pairs"]) rfl (dv 4) (by decide +kernel)
   (fun _ _ _ _ _ _=>q25)
   (fun _ _ _ _ _ _=>(q03 (q0a (q2a (q0y (q0g (dv 0) q0b) (y3b (q03 (q0a q2x q0e)) q0b)) q26 (q2v (dv 1))) (q0a (q0g (dv 0) q0b) q0e))))
   (fun _ _ _ _ _=>q1y 0 (show(["_law_pair", "_law_wide"]:List Str).Nodup by decide +kernel)))
  (q0h (q5n 3 (q0a (q2a (x08 (dv 5) q0b) q26 (q2v (q0w C._law_rows_of hr pass1 (q0a (dv 1) q0e)))) q0e)))))
  (q0h (q02 (q03 (q0a (dv 1) (q0a (dv 2) (q0a (dv 3) q0e)))))))),(lof q31 hw).2⟩
theorem x1s  (A:Ats K mg):Cal P w K mg base (n+1) "_law_come" ["_law_machine_here", "_law_other"] (spF K (run K a (n+1) q1z)):=
 con A._law_come sc__law_come (fun ws hw=>(lof q4p hw).1) fun ws hw f cdv A outer s H E Z hr=>⟨q4h K a (run K a n),(q0f (q5l 2 sc__law_come.nd (q1g (q0a (q03 (q0a q0b (q0a q0b q0e))) q0e)))
  (q0f (x9o 3 (a:=(.inr 0)) (b:=(.inr 0)) (w:=(.bl true)) (hu1 (q0l hr)) sc__law_come.nd (x0s (q09 q4x (q09 q4x q2r))) y0k rfl)
  (q0f (q5m 4 sc__law_come.nd PassesOwn.leaving rfl B.b_range (q0a (q4j (q1h B.b_len (q0a (q0g (dv 0) q0b) q0e)) (q1h B.b_len (q0a (q0g (dv 1) q0b) q0e))) q0e)
  (q0h (q05 (x34 (dv 4) (q84 2 B.b_len))
  (q0h (q5q 5 6 sc__law_come.nd PassesOwn.leaving rfl (x1d B.b_zip (q0a (q0g (q0g (dv 0) q0b) (q0g (q47 2 (dv 4)) q0b)) (q0a (q0g (q0g (dv 1) q0b) (q0g (q47 2 (dv 4)) q0b)) q0e)))
  (q0h (q05 (q3n fun _=>(q68 M.nt (q0l hr) (q03 (q0a (q0g (dv 5) q0b) (q0a (q0g (dv 6) q0b) q0e))) (dv 3)))
  (q0f (y3w 3 M.nt (q0l hr) q2x (q03 (q0a (q0g (dv 5) q0b) (q0a (q0g (dv 6) q0b) q0e))))
  (q0h (q5n 2 (q0a (q03 (q0a (q0g (dv 5) q0b) (q0a (q0g (dv 6) q0b) q0e))) q0e))))
  q0s))))
  q0s)))
  (q0h (y1m 2))))),(lof q4p hw).2⟩
theorem x1t  (A:Ats K mg):Cal P w K mg base (n+1) "_law_good" ["_law_machine_here", "_law_other", "_law_pairs"] (spF K (run K a (n+1) q10)):=
 con A._law_good sc__law_good (fun ws hw=>(lof q4q hw).1) fun ws hw f cdv A outer s H E Z hr=>⟨q4i K a (run K a n),(q0f (x61 3 (.tup [.int,.int]) M.nt rfl (q0l hr) rfl sc__law_good.nd B.b_dict (q1u (q62 (x:="_law_pair") (Nf:=[]) (js:=[]) (sc:=defScope q12) (N:=["_law_machine_here", "_law_other", "_law_pairs", "_law_known", "_law_low", "_law_high", "_law_mine", "_law_theirs"]) rfl (dv 2) (by decide +kernel)
   (fun _ _ _ _ _ _=>q25)
   (fun _ _ _ _ _ _=>(q03 (q0a (dv 0) (q0a q2x q0e))))
   (fun _ _ _ _ _=>q1y 0 (show(["_law_pair"]:List Str).Nodup by decide +kernel)))))
  (q0f (q5q 4 5 sc__law_good.nd PassesOwn.leaving rfl (x07 (dv 2))
  (q0f (q05 (dt_w (q6y (q5k (x2z q0b (dv 4) (q1h B.b_len (q0a (q0g (dv 0) q0b) q0e)))) (q5j (q5k (x2z q0b (dv 5) (q1h B.b_len (q0a (q0g (dv 1) q0b) q0e)))))))
  (q0h (q02 q2x))
  q0s)
  (q0h (q5q 6 7 sc__law_good.nd PassesOwn.leaving rfl (x1d B.b_zip (q0a (q0g (q0g (dv 0) q0b) (dv 4)) (q0a (q0g (q0g (dv 1) q0b) (dv 5)) q0e)))
  (q0h (q05 (dt_w (q6y (q4s (q0l hr) (q0g (dv 6) q0b) (q0g (dv 7) q0b)) (q5j (q3n fun _=>(q68 M.nt (q0l hr) (q03 (q0a (q0g (dv 6) q0b) (q0a (q0g (dv 7) q0b) q0e))) (dv 3))))))
  (q0h (q02 q2x))
  q0s))))))
  (q0h (y36 3 (q02 (y8f M.nt (q0l hr) (q03 (q0a q0b (q0a q0b q0e))) (dv 3))))))),(lof q4q hw).2⟩
theorem q9c  (A:Ats K mg):Cal P w K mg base (n+1) "_law_spoilt" ["_law_machine_here", "_law_other", "_law_pairs", "_law_cell"] (spF K (run K a (n+1) q1c)):=
 con A._law_spoilt sc__law_spoilt (fun ws hw=>(lof q32 hw).1) fun ws hw f cdv A outer s H E Z hr=>⟨q3i K a (run K a n),(q0f (q0m 4 sc__law_spoilt.nd (q0j (q0t (dv 3) q0b) (q1h B.b_len (q0a (dv 2) q0e))))
  (q0f (y24 5 6 sc__law_spoilt.nd rfl (q0g (dv 2) (dv 4)))
  (q0f (q05 (q2g (q0l hr) (q0j (dv 3) q0b) q0b)
  (q0h (q02 (q0y (q2a (dv 2) q26 (q2v (dv 4))) (q2a (dv 2) (q2v (q0y (dv 4) q0b)) q26))))
  q0s)
  (q0f (q05 (q2g (q0l hr) (q0j (dv 3) q0b) q0b)
  (q0f (q0m 7 sc__law_spoilt.nd (q0g (q1u (q1g (q0a (x5l q0b) (q0a (q1h B.b_len (q0a (q0g (dv 0) q0b) q0e)) (q0a (q1h B.b_len (q0a (q0g (dv 1) q0b) q0e)) (q0a (y56 q0b q0b) q0e)))))) (q0j (q0t (dv 3) q0b) q0b)))
  (q0f (q0m 8 sc__law_spoilt.nd (q1u (q1g (q0a (q03 (q0a (q0j (q0t (dv 3) q0b) (q1h B.b_len (q0a (q0g (dv 0) q0b) q0e))) (q0a (dv 6) q0e))) (q0a (q03 (q0a (dv 5) (q0a (q0j (q0t (dv 3) q0b) (q1h B.b_len (q0a (q0g (dv 1) q0b) q0e))) q0e))) (q0a (q03 (q0a (dv 7) (q0a (dv 6) q0e))) (q0a (q03 (q0a (dv 5) (q0a (dv 7) q0e))) q0e)))))))
  (q0h (q02 (q0y (q0y (q2a (dv 2) q26 (q2v (dv 4))) (q1u (q1g (q0a (q0g (dv 8) (q0j (q0t (dv 3) q0b) q0b)) q0e)))) (q2a (dv 2) (q2v (q0y (dv 4) q0b)) q26))))))
  q0s)
  (q0f (q05 (q2g (q0l hr) (q0j (dv 3) q0b) q0b)
  (q0f (q0m 9 sc__law_spoilt.nd (q48 (q0j (q0t (dv 3) q0b) (q0y (q1h B.b_len (q0a (q0g (dv 0) q0b) q0e)) q0b)) q0b))
  (q0f (q0m 10 sc__law_spoilt.nd (q48 (q0j (q0t (dv 3) q0b) (q0y (q1h B.b_len (q0a (q0g (dv 1) q0b) q0e)) q0b)) q0b))
  (q0h (q02 (q0y (q0y (q2a (dv 2) q26 (q2v (dv 4))) (q1u (q1g (q0a (q03 (q0a (dv 9) (q0a (dv 10) q0e))) q0e)))) (q2a (dv 2) (q2v (dv 4)) q26))))))
  q0s)
  (q0h (q02 (dv 2)))))))),(lof q32 hw).2⟩
end
theorem allH(A:Ats K mg)(B:Blt mg)(M:Exs K mg a):∀n,CalsH P w K mg base a n
 |0=>⟨trivial⟩
 |n+1=>⟨trivial⟩
theorem q7a(B:Blt mg)(M:Exs K mg a)(C:Cals P w K mg base a n)(CH:CalsH P w K mg base a n):LamOk P w K mg base n q1b ["_law_k"] (run K a (n+1) q2w) where
 sc:=⟨rfl,rfl,rfl,by decide +kernel,by decide +kernel,by decide +kernel,by decide +kernel⟩
 bind:=fun cl pm c' ctv=>us1 fun _=>rfl
 len:=fun ws h=>by
  rw[q2k]at h;split at h
  ·assumption
  ·exact absurd rfl h
 body:=fun ws h Z f cd cl A outer s H hr=>⟨q18 K a (run K a n),(q0w C._law_mixed hr passE (q0a (dv 1) (q0a (dv 0) q0e))),by
  rw[q2k]at h |-;split at h
  ·rename_i hl;rw[if_pos hl]
  ·exact absurd rfl h⟩
theorem okl(B:Blt mg)(M:Exs K mg a)(C:Cals P w K mg base a n)(CH:CalsH P w K mg base a n):FnV P w K mg base (CX1 P w) (n+1) (spV K lams (run K a (n+1))):=y8h fun i l h=>by
 unfold lams at h;split at h
 ·cases h;exact⟨_,q7a B M C CH⟩
 ·cases h
theorem all(A:Ats K mg)(B:Blt mg)(M:Exs K mg a)(BM:BMain base mg)(MK:Mks K mg):∀n,Cals P w K mg base a n
 |0=>⟨con0 A.rows_many,con0 A.check_machine,con0 A.is_state,con0 A.check_both,con0 A.check_like,con0 A.closed,con0 A.stays_within,con0 A._law_cell_at,con0 A._law_mixed,con0 A._law_row,con0 A._law_rows_of,con0 A._law_machine,con0 A._law_copy,con0 A._law_fitted,con0 A._law_come,con0 A._law_good,con0 A._law_spoilt,fnV0⟩
 |n+1=>⟨x1q B M (all A B M BM MK n) (allH A B M n) BM MK A,q7w B M (all A B M BM MK n) (allH A B M n) BM MK A,x2e B M (all A B M BM MK n) (allH A B M n) BM MK A,x0b B M (all A B M BM MK n) (allH A B M n) BM MK A,x0c B M (all A B M BM MK n) (allH A B M n) BM MK A,x65 B M (all A B M BM MK n) (allH A B M n) BM MK A,q8u B M (all A B M BM MK n) (allH A B M n) BM MK A,q8v B M (all A B M BM MK n) (allH A B M n) BM MK A,x0d B M (all A B M BM MK n) (allH A B M n) BM MK A,x2f B M (all A B M BM MK n) (allH A B M n) BM MK A,q8w B M (all A B M BM MK n) (allH A B M n) BM MK A,q8x B M (all A B M BM MK n) (allH A B M n) BM MK A,x1r B M (all A B M BM MK n) (allH A B M n) BM MK A,q9b B M (all A B M BM MK n) (allH A B M n) BM MK A,x1s B M (all A B M BM MK n) (allH A B M n) BM MK A,x1t B M (all A B M BM MK n) (allH A B M n) BM MK A,q9c B M (all A B M BM MK n) (allH A B M n) BM MK A,okl B M (all A B M BM MK n) (allH A B M n)⟩
theorem x0e(B:Blt mg)(M:Exs K mg a)(C:Cals P w K mg base a (n+2))(CL:Cals P w K mg base a n)(CH:CalsH P w K mg base a (n+2))(BM:BMain base mg){cdv:Value}{A:Around}{outer:List Env}{s:Shared}{H:Hp}{E:XK}{Z:Zt}(hr:Room (n+2) (A.deeper (PyProof.Rows.envOfC "_law_second" (defScope q0o) s.heap.objs.size f cdv)))(hmk:MakK K "_law_second" cdv)(hz:Z.H=H/\Z.io=[]):
  DSsD Z (cxOf (CX1 P w) P w K mg base ["_law_script", "_law_machine_here", "_law_way", "_law_size", "_law_order", "_law_states", "_law_at", "_law_number", "_law_pair", "_law_told", "_law_twin"] "_law_second" (defScope q0o) f cdv A outer s H E) (fun _=>E) (defBody q0o) (q2t K a (run K a (n+2)) (run K a n)):=
 (q5g (q0m 2 sc__law_second.nd (q0w C._law_cell_at hr pass1 (q0a (dv 0) (q0a q0b q0e))))
  (q5g (q0m 3 sc__law_second.nd (q1h B.b_len (q0a (q0g (dv 1) q0b) q0e)))
  (q5g (q05 (q2g (q0l hr) (q0j (dv 2) q0b) q0b)
  (q0h (q02 (q0w C._law_fitted hr pass1 (q0a (q0w C._law_machine hr pass1 (q0a (dv 0) (q0a q0b q0e))) (q0a (q0g (dv 1) q0b) (q0a (q0g (dv 1) q0b) q0e))))))
  q0s)
  (q7f (y39 4 19 q1b (a:=(.inr 1)) (b:=(.inl 3)) sc__law_second.nd CL.lam hr rfl B.b_sorted B.b_range (z0q hmk BM) (fun _=>rfl) (q09 q4x (q09 (pv 3) q2r)) (sc:=defScope q0o) (N:=["_law_script", "_law_machine_here", "_law_way", "_law_size", "_law_order", "_law_states", "_law_at", "_law_number", "_law_pair", "_law_told", "_law_twin"]) (nf:=["_law_way"]) (by decide +kernel))
  (q0f (y8m (modIs 2 4 3) (x33 5 (x:="_law_k") (Nf:=["_law_machine_here", "_law_order"]) (js:=[1,4]) (sc:=defScope q0o) (N:=["_law_script", "_law_machine_here", "_law_way", "_law_size", "_law_order", "_law_states", "_law_at", "_law_number", "_law_pair", "_law_told", "_law_twin"]) sc__law_second.nd rfl (dv 4) (by decide +kernel)
   (fun _ _ _ _ _ _=>q25)
   (fun _ _ _ _ _ _=>(q1u (q62 (x:="_law_pair") (Nf:=["_law_order"]) (js:=[2]) (sc:=relabS (compScope (stVal (stAt 4 q0o))) (defScope q0o)) (N:=["_law_k", "_law_machine_here", "_law_order"]) rfl (q0g (q0g (dv 1) q0b) (dv 0)) (by decide +kernel)
   (fun _ _ _ _ _ _=>q25)
   (fun _ _ _ _ _ _=>(q03 (q0a (q0g (dv 0) q0b) (q0a (q9p (dv 1) (q0a (q0g (dv 0) q0b) q0e)) q0e))))
   (fun _ _ _ _ _=>q1y 0 (show(["_law_pair", "_law_order"]:List Str).Nodup by decide +kernel)))))
   (fun _ _ _ _ _=>q1y 0 (show(["_law_k", "_law_machine_here", "_law_order"]:List Str).Nodup by decide +kernel)))
   (y3l 5 (x:="_law_k") (Nf:=["_law_machine_here", "_law_order"]) (js:=[1,4]) (sc:=defScope q0o) (N:=["_law_script", "_law_machine_here", "_law_way", "_law_size", "_law_order", "_law_states", "_law_at", "_law_number", "_law_pair", "_law_told", "_law_twin"]) sc__law_second.nd rfl (dv 4) (by decide +kernel)
   (fun _ _ _ _ _ _=>(q62 (x:="_law_pair") (Nf:=["_law_order"]) (js:=[2]) (sc:=relabS (compScope (stVal (stAt 4 q0o))) (defScope q0o)) (N:=["_law_k", "_law_machine_here", "_law_order"]) rfl (q0g (q0g (dv 1) q0b) (dv 0)) (by decide +kernel)
   (fun _ _ _ _ _ _=>q25)
   (fun _ _ _ _ _ _=>(q03 (q0a (q0g (dv 0) q0b) (q0a (q9p (dv 1) (q0a (q0g (dv 0) q0b) q0e)) q0e))))
   (fun _ _ _ _ _=>q1y 0 (show(["_law_pair", "_law_order"]:List Str).Nodup by decide +kernel))))
   (fun _ _ _ _ _=>q1y 0 (show(["_law_k", "_law_machine_here", "_law_order"]:List Str).Nodup by decide +kernel))))
  (q0f (q05 (q2g (q0l hr) (q0j (dv 2) q0b) q0b)
  (q0f (q0m 6 sc__law_second.nd (q0j (q0t (dv 2) q0b) (dv 3)))
  (q0f (q0m 7 sc__law_second.nd (q0j (q0t (dv 2) q0b) (q6o fun _=>(q1h B.b_len (q0a (q47 5 (dv 6)) q0e)))))
  (q0f (q0m 8 sc__law_second.nd (x6q 5 (dv 6) (dv 7)))
  (q0f (q5l 9 sc__law_second.nd (q5o B.b_list (q0a (q0g (dv 8) q0b) q0e)))
  (q0f (q05 (q3n fun _=>(q4s (q0l hr) (dv 9) (q1u (q1g q0e))))
  (q0h (x50 9 (y5w (q47 9 (q0j (q0t (dv 2) q0b) (q84 9 B.b_len)))) (q0j (q0t (dv 2) q0b) (q84 9 B.b_len))))
  q0s)
  (q0h (x22 5 hz.1 (q03 (q0a (q7p B.b_tuple (q0a (dv 9) q0e)) (q0a (q0g (dv 8) q0b) q0e))) (dv 6) (dv 7))))))))
  q0s)
  (q0f (q05 (q2g (q0l hr) (q0j (dv 2) q0b) q0b)
  (q0f (q0m 6 sc__law_second.nd (q0j (q0t (dv 2) q0b) (dv 3)))
  (q0f (q0m 7 sc__law_second.nd (q0j (q0t (dv 2) q0b) (q6o fun _=>(q1h B.b_len (q0a (q47 5 (dv 6)) q0e)))))
  (q0h (x22 5 hz.1 (q03 (q0a (q0g (x6q 5 (dv 6) (dv 7)) q0b) (q0a (q0j (q0t (dv 2) q0b) (dv 3)) q0e))) (dv 6) (dv 7)))))
  q0s)
  (q0f (q05 (dt_w (x0z (q2g (q0l hr) (q0j (dv 2) q0b) q0b) (x0z (q2g (q0l hr) (q0j (q0t (dv 2) q0b) q0b) q0b) (x2p (x34 (dv 3) q0b)))))
  (q0f (q0m 10 sc__law_second.nd (q0j (q0t (dv 2) q0b) (dv 3)))
  (q0f (q0m 6 sc__law_second.nd (q0j (q0t (dv 2) q0b) (dv 3)))
  (q0f (q5n 5 (q0a (q1u (q5o B.b_list (q0a (q47 5 (dv 10)) q0e))) q0e))
  (q0h (x50 5 (q1u (q62 (x:="_law_pair") (Nf:=["_law_size", "_law_twin"]) (js:=[3,10]) (sc:=defScope q0o) (N:=["_law_script", "_law_machine_here", "_law_way", "_law_size", "_law_order", "_law_states", "_law_at", "_law_number", "_law_pair", "_law_told", "_law_twin"]) rfl (q47 5 (dv 6)) (by decide +kernel)
   (fun _ _ _ _ _ _=>q25)
   (fun _ _ _ _ _ _=>(q03 (q0a (q0g (dv 0) q0b) (q0a (q0g (q1u (q1g (q0a (q0g (dv 0) q0b) (q0a (dv 1) q0e)))) (y2w B.b_int (q0a (x0h (q0l hr) (q0g (dv 0) q0b) (dv 2)) q0e))) q0e))))
   (fun _ _ _ _ _=>q1y 0 (show(["_law_pair", "_law_size", "_law_twin"]:List Str).Nodup by decide +kernel)))) (dv 6))))))
  q0s)
  (q0h (q02 (q03 (q0a (q0g (dv 1) q0b) (q0a (q0g (dv 1) q0b) (q0a (dv 5) q0e))))))))))) []) []) [])
theorem q9d(A:Ats K mg)(B:Blt mg)(M:Exs K mg a)(BM:BMain base mg)(MK:Mks K mg):Cal P w K mg base (n+3) "_law_second" ["_law_script", "_law_machine_here"] (spD K (sec K a n)):=
 conMD A._law_second MK._law_second sc__law_second (fun ws hw=>by
  have:=hw [];unfold sec at this;split at this
  ·assumption
  ·exact absurd rfl this) fun ws hw f cdv A' outer s H E Z hr hmk hz=>⟨_,x0e B M (all A B M BM MK (n+2)) (all A B M BM MK n) (allH A B M (n+2)) BM hr hmk hz,fun o=>by
  have:=hw o;unfold sec at this |-
  split at this
  ·rename_i hl;rw[if_pos hl];rfl
  ·exact absurd rfl this⟩
theorem z0z(B:Blt mg)(M:Exs K mg a)(C:Cals P w K mg base a (n+3))(CS:Cal P w K mg base (n+3) "_law_second" ["_law_script", "_law_machine_here"] (spD K (sec K a n)))(CH:CalsH P w K mg base a (n+3)){cdv:Value}{A:Around}{outer:List Env}{s:Shared}{H:Hp}{E:XK}{Z:Zt}(hr:Room (n+3) (A.deeper (PyProof.Rows.envOfC "law" (defScope q3f) s.heap.objs.size f cdv)))(hz:Z.H=H/\Z.io=[]):
  DSsD Z (cxOf (CX1 P w) P w K mg base ["_law_script", "_law_machine_here", "_law_other", "_law_cell", "_law_pairs", "_law_handed", "_law_found", "_law_due"] "law" (defScope q3f) f cdv A outer s H E) (fun _=>E) (defBody q3f) (x4r K a (run K a (n+3)) (sec K a n)):=
 (q5g (q0m 1 sc_law.nd (q0w C._law_machine hr pass1 (q0a (dv 0) (q0a q0b q0e))))
  (q7f (y38 2 sc_law.nd CS hr pass1 (q0a (dv 0) (q0a (dv 1) q0e)) [])
  (q0f (q0m 3 sc_law.nd (q0w C._law_cell_at hr pass1 (q0a (dv 0) (q0a q0b q0e))))
  (q0f (q0m 4 sc_law.nd (q0w C._law_come hr pass1 (q0a (dv 1) (q0a (dv 2) q0e))))
  (q0f (q05 (q2g (q0l hr) (q0j (dv 3) q0b) q0b)
  (q0h (q0m 4 sc_law.nd (y8q (dv 4) (q2v (x5l q0b)))))
  q0s)
  (q0f (q05 (q2g (q0l hr) (q0j (q0t (dv 3) q0b) q0b) q0b)
  (q0h (q0m 4 sc_law.nd (q0y (dv 4) (q2a (dv 4) q26 (q2v q0b)))))
  q0s)
  (q0f (q0m 4 sc_law.nd (q0w C._law_spoilt hr pass1 (q0a (dv 1) (q0a (dv 2) (q0a (dv 4) (q0a (q0w C._law_cell_at hr pass1 (q0a (dv 0) (q0a q0b q0e))) q0e))))))
  (q0f (x6z 5 1 2 4 sc_law.nd B.b_list C._law_copy hr pass1)
  (x9t hz.1 hz.2 fun _ hzb hG hio=>
  (q3o (q0m 6 sc_law.nd (q6o fun _=>(q0w C.closed hr pass1 (q0a (q0g (dv 5) q0b) (q0a (q0g (dv 5) q0b) (q0a (q0g (dv 5) q0b) q0e))))))
  (q3o (q05 (dt_w (q6y (q5k (q8a (y58 (c0:=.ty _) rfl (y1s PyProof.Rows.Boot.«bool» B.b_bool) B.b_isinstance (dv 6)))) (q5j (q3n fun _=>(q4s (q0l hr) (x20 (q0l hr) hr.gd B.b_repr (q0a (dv 5) q0e)) (x20 (q0l hr) hr.gd B.b_repr (q0a (q1u (q1g (q0a (dv 1) (q0a (dv 2) (q0a (dv 4) q0e))))) q0e)))))))
  (q0h (q02 q2x))
  q0s)
  (q3o (q0m 7 sc_law.nd (q0w C._law_good hr pass1 (q0a (dv 1) (q0a (dv 2) (q0a (dv 4) q0e)))))
  (q3o (q9w 5 hzb hG hio (pw_L 2 (y0x 5)))
  (q3o (q05 (dt_w (q6y (q4s (q0l hr) (dv 6) (dv 7)) (q5j (q3n fun _=>(y57 (q0w C.closed hr pass1 (q0a (q0g (dv 5) q0b) (q0a (q0g (dv 5) q0b) (q0a (q0g (dv 5) q0b) q0e)))) q2x)))))
  (q0h (q02 q2x))
  q0s)
  (q3o (q9w 5 hzb hG hio (pw_T 2 (pw_L 0 (y0x 5))))
  (x9s (q02 (x0h (q0l hr) (q0w C.closed hr pass1 (q0a (q0w C._law_copy hr pass1 (q0a (dv 1) q0e)) (q0a (q0w C._law_copy hr pass1 (q0a (dv 2) q0e)) (q0a (q1u (q5o B.b_list (q0a (dv 4) q0e))) q0e)))) (dv 7)))))))))))))))))) [])
theorem law_fn{fd:FuncData}(A:Ats K mg)(B:Blt mg)(M:Exs K mg a)(BM:BMain base mg)(MK:Mks K mg)(F:Fun K "law" "law" q3f f fd)(n:Nat):FnOk P w K mg base (CX1 P w) (n+4) f fd ["_law_script"] (spF K (runLaw K a n)):=
 conFZ F sc_law (fun ws hw=>(lof rfl hw).1) fun ws hw cdv A' outer s H E Z hr hz=>⟨_,y37 (z0z B M (all A B M BM MK (n+3)) (q9d A B M BM MK) (allH A B M (n+3)) hr hz),(lof rfl hw).2⟩
end
theorem mk{l:PySem.W.OpenLaw}{w:World}{h:Heap}{fa:Addr}(X:K.In h)(G:h.Ns mainGlobals mg)(hfa:mg "law"=some (.ref fa))
  {f0:Addr}{od0 an0:Option Addr}{sl0:Array (Option Value)}{oc0 kV0 dc0 pm0 cd0 ct0:Value}
  {f1:Addr}{od1 an1:Option Addr}{sl1:Array (Option Value)}{oc1 kV1 dc1 pm1 cd1 ct1:Value}
  {f2:Addr}{od2 an2:Option Addr}{sl2:Array (Option Value)}{oc2 kV2 dc2 pm2 cd2 ct2:Value}
  {f3:Addr}{od3 an3:Option Addr}{sl3:Array (Option Value)}{oc3 kV3 dc3 pm3 cd3 ct3:Value}
  {f4:Addr}{od4 an4:Option Addr}{sl4:Array (Option Value)}{oc4 kV4 dc4 pm4 cd4 ct4:Value}
  {f5:Addr}{od5 an5:Option Addr}{sl5:Array (Option Value)}{oc5 kV5 dc5 pm5 cd5 ct5:Value}
  {f6:Addr}{od6 an6:Option Addr}{sl6:Array (Option Value)}{oc6 kV6 dc6 pm6 cd6 ct6:Value}
  {f7:Addr}{od7 an7:Option Addr}{sl7:Array (Option Value)}{oc7 kV7 dc7 pm7 cd7 ct7:Value}
  {f8:Addr}{od8 an8:Option Addr}{sl8:Array (Option Value)}{oc8 kV8 dc8 pm8 cd8 ct8:Value}
  {f9:Addr}{od9 an9:Option Addr}{sl9:Array (Option Value)}{oc9 kV9 dc9 pm9 cd9 ct9:Value}
  {f10:Addr}{od10 an10:Option Addr}{sl10:Array (Option Value)}{oc10 kV10 dc10 pm10 cd10 ct10:Value}
  {f11:Addr}{od11 an11:Option Addr}{sl11:Array (Option Value)}{oc11 kV11 dc11 pm11 cd11 ct11:Value}
  {f12:Addr}{od12 an12:Option Addr}{sl12:Array (Option Value)}{oc12 kV12 dc12 pm12 cd12 ct12:Value}
  {f13:Addr}{od13 an13:Option Addr}{sl13:Array (Option Value)}{oc13 kV13 dc13 pm13 cd13 ct13:Value}
  {f14:Addr}{od14 an14:Option Addr}{sl14:Array (Option Value)}{oc14 kV14 dc14 pm14 cd14 ct14:Value}
  {f15:Addr}{od15 an15:Option Addr}{sl15:Array (Option Value)}{oc15 kV15 dc15 pm15 cd15 ct15:Value}
  {f16:Addr}{od16 an16:Option Addr}{sl16:Array (Option Value)}{oc16 kV16 dc16 pm16 cd16 ct16:Value}
  {f17:Addr}{od17 an17:Option Addr}{sl17:Array (Option Value)}{oc17 kV17 dc17 pm17 cd17 ct17:Value}
  {f18:Addr}{od18 an18:Option Addr}{sl18:Array (Option Value)}{oc18 kV18 dc18 pm18 cd18 ct18:Value}
  {A_CircuitError:Addr}
  {A_UnlikeSizes:Addr}
  {A_NoMachine:Addr}
  {cc14 PP14:Addr}
  (a0:PySem.W.nsIn K mainGlobals "rows_many"=some (some (.ref f0)))
  (l0:K.lookup f0=some ⟨oc0,od0,.func (PySem.W.fnOf "rows_many" "rows_many" (defArgs q2e) (defBody q2e) (defScope q2e) .none kV0 dc0 pm0 an0 cd0 ct0),sl0⟩)
  (c0:PySem.W.codeIn K cd0 "rows_many"=true)
  (k0:keepIn K (.ref f0)=true)
  (a1:PySem.W.nsIn K mainGlobals "check_machine"=some (some (.ref f1)))
  (l1:K.lookup f1=some ⟨oc1,od1,.func (PySem.W.fnOf "check_machine" "check_machine" (defArgs q1l) (defBody q1l) (defScope q1l) .none kV1 dc1 pm1 an1 cd1 ct1),sl1⟩)
  (c1:PySem.W.codeIn K cd1 "check_machine"=true)
  (k1:keepIn K (.ref f1)=true)
  (a2:PySem.W.nsIn K mainGlobals "is_state"=some (some (.ref f2)))
  (l2:K.lookup f2=some ⟨oc2,od2,.func (PySem.W.fnOf "is_state" "is_state" (defArgs q2m) (defBody q2m) (defScope q2m) .none kV2 dc2 pm2 an2 cd2 ct2),sl2⟩)
  (c2:PySem.W.codeIn K cd2 "is_state"=true)
  (k2:keepIn K (.ref f2)=true)
  (a3:PySem.W.nsIn K mainGlobals "check_both"=some (some (.ref f3)))
  (l3:K.lookup f3=some ⟨oc3,od3,.func (PySem.W.fnOf "check_both" "check_both" (defArgs q15) (defBody q15) (defScope q15) .none kV3 dc3 pm3 an3 cd3 ct3),sl3⟩)
  (c3:PySem.W.codeIn K cd3 "check_both"=true)
  (k3:keepIn K (.ref f3)=true)
  (a4:PySem.W.nsIn K mainGlobals "check_like"=some (some (.ref f4)))
  (l4:K.lookup f4=some ⟨oc4,od4,.func (PySem.W.fnOf "check_like" "check_like" (defArgs q16) (defBody q16) (defScope q16) .none kV4 dc4 pm4 an4 cd4 ct4),sl4⟩)
  (c4:PySem.W.codeIn K cd4 "check_like"=true)
  (k4:keepIn K (.ref f4)=true)
  (a5:PySem.W.nsIn K mainGlobals "closed"=some (some (.ref f5)))
  (l5:K.lookup f5=some ⟨oc5,od5,.func (PySem.W.fnOf "closed" "closed" (defArgs q23) (defBody q23) (defScope q23) .none kV5 dc5 pm5 an5 cd5 ct5),sl5⟩)
  (c5:PySem.W.codeIn K cd5 "closed"=true)
  (k5:keepIn K (.ref f5)=true)
  (a6:PySem.W.nsIn K mainGlobals "stays_within"=some (some (.ref f6)))
  (l6:K.lookup f6=some ⟨oc6,od6,.func (PySem.W.fnOf "stays_within" "stays_within" (defArgs q1p) (defBody q1p) (defScope q1p) .none kV6 dc6 pm6 an6 cd6 ct6),sl6⟩)
  (c6:PySem.W.codeIn K cd6 "stays_within"=true)
  (k6:keepIn K (.ref f6)=true)
  (a7:PySem.W.nsIn K mainGlobals "_law_cell_at"=some (some (.ref f7)))
  (l7:K.lookup f7=some ⟨oc7,od7,.func (PySem.W.fnOf "_law_cell_at" "_law_cell_at" (defArgs q1q) (defBody q1q) (defScope q1q) .none kV7 dc7 pm7 an7 cd7 ct7),sl7⟩)
  (c7:PySem.W.codeIn K cd7 "_law_cell_at"=true)
  (k7:keepIn K (.ref f7)=true)
  (a8:PySem.W.nsIn K mainGlobals "_law_mixed"=some (some (.ref f8)))
  (l8:K.lookup f8=some ⟨oc8,od8,.func (PySem.W.fnOf "_law_mixed" "_law_mixed" (defArgs q17) (defBody q17) (defScope q17) .none kV8 dc8 pm8 an8 cd8 ct8),sl8⟩)
  (c8:PySem.W.codeIn K cd8 "_law_mixed"=true)
  (k8:keepIn K (.ref f8)=true)
  (a9:PySem.W.nsIn K mainGlobals "_law_row"=some (some (.ref f9)))
  (l9:K.lookup f9=some ⟨oc9,od9,.func (PySem.W.fnOf "_law_row" "_law_row" (defArgs q2n) (defBody q2n) (defScope q2n) .none kV9 dc9 pm9 an9 cd9 ct9),sl9⟩)
  (c9:PySem.W.codeIn K cd9 "_law_row"=true)
  (k9:keepIn K (.ref f9)=true)
  (a10:PySem.W.nsIn K mainGlobals "_law_rows_of"=some (some (.ref f10)))
  (l10:K.lookup f10=some ⟨oc10,od10,.func (PySem.W.fnOf "_law_rows_of" "_law_rows_of" (defArgs q1r) (defBody q1r) (defScope q1r) .none kV10 dc10 pm10 an10 cd10 ct10),sl10⟩)
  (c10:PySem.W.codeIn K cd10 "_law_rows_of"=true)
  (k10:keepIn K (.ref f10)=true)
  (a11:PySem.W.nsIn K mainGlobals "_law_machine"=some (some (.ref f11)))
  (l11:K.lookup f11=some ⟨oc11,od11,.func (PySem.W.fnOf "_law_machine" "_law_machine" (defArgs q1s) (defBody q1s) (defScope q1s) .none kV11 dc11 pm11 an11 cd11 ct11),sl11⟩)
  (c11:PySem.W.codeIn K cd11 "_law_machine"=true)
  (k11:keepIn K (.ref f11)=true)
  (a12:PySem.W.nsIn K mainGlobals "_law_copy"=some (some (.ref f12)))
  (l12:K.lookup f12=some ⟨oc12,od12,.func (PySem.W.fnOf "_law_copy" "_law_copy" (defArgs q11) (defBody q11) (defScope q11) .none kV12 dc12 pm12 an12 cd12 ct12),sl12⟩)
  (c12:PySem.W.codeIn K cd12 "_law_copy"=true)
  (k12:keepIn K (.ref f12)=true)
  (a13:PySem.W.nsIn K mainGlobals "_law_fitted"=some (some (.ref f13)))
  (l13:K.lookup f13=some ⟨oc13,od13,.func (PySem.W.fnOf "_law_fitted" "_law_fitted" (defArgs q1o) (defBody q1o) (defScope q1o) .none kV13 dc13 pm13 an13 cd13 ct13),sl13⟩)
  (c13:PySem.W.codeIn K cd13 "_law_fitted"=true)
  (k13:keepIn K (.ref f13)=true)
  (a14:PySem.W.nsIn K mainGlobals "_law_second"=some (some (.ref f14)))
  (l14:K.lookup f14=some ⟨oc14,od14,.func (PySem.W.fnOf "_law_second" "_law_second" (defArgs q0o) (defBody q0o) (defScope q0o) .none kV14 dc14 pm14 an14 cd14 ct14),sl14⟩)
  (c14:PySem.W.codeIn K cd14 "_law_second"=true)
  (k14:keepIn K (.ref f14)=true)
  (a15:PySem.W.nsIn K mainGlobals "_law_come"=some (some (.ref f15)))
  (l15:K.lookup f15=some ⟨oc15,od15,.func (PySem.W.fnOf "_law_come" "_law_come" (defArgs q2f) (defBody q2f) (defScope q2f) .none kV15 dc15 pm15 an15 cd15 ct15),sl15⟩)
  (c15:PySem.W.codeIn K cd15 "_law_come"=true)
  (k15:keepIn K (.ref f15)=true)
  (a16:PySem.W.nsIn K mainGlobals "_law_good"=some (some (.ref f16)))
  (l16:K.lookup f16=some ⟨oc16,od16,.func (PySem.W.fnOf "_law_good" "_law_good" (defArgs q12) (defBody q12) (defScope q12) .none kV16 dc16 pm16 an16 cd16 ct16),sl16⟩)
  (c16:PySem.W.codeIn K cd16 "_law_good"=true)
  (k16:keepIn K (.ref f16)=true)
  (a17:PySem.W.nsIn K mainGlobals "_law_spoilt"=some (some (.ref f17)))
  (l17:K.lookup f17=some ⟨oc17,od17,.func (PySem.W.fnOf "_law_spoilt" "_law_spoilt" (defArgs q1w) (defBody q1w) (defScope q1w) .none kV17 dc17 pm17 an17 cd17 ct17),sl17⟩)
  (c17:PySem.W.codeIn K cd17 "_law_spoilt"=true)
  (k17:keepIn K (.ref f17)=true)
  (a18:PySem.W.nsIn K mainGlobals "law"=some (some (.ref f18)))
  (l18:K.lookup f18=some ⟨oc18,od18,.func (PySem.W.fnOf "law" "law" (defArgs q3f) (defBody q3f) (defScope q3f) .none kV18 dc18 pm18 an18 cd18 ct18),sl18⟩)
  (c18:PySem.W.codeIn K cd18 "law"=true)
  (k18:keepIn K (.ref f18)=true)
  (v14:cd14=.ref cc14)
  (h14:codeHdIn K cc14 PP14=true)
  (m14:(mainGlobals,markO PP14 (("_law_second"++".<locals>.")++"<lambda>"))∈K)
  (n_CircuitError:PySem.W.nsIn K mainGlobals "CircuitError"=some (some (.ref A_CircuitError)))
  (n_UnlikeSizes:PySem.W.nsIn K mainGlobals "UnlikeSizes"=some (some (.ref A_UnlikeSizes)))
  (n_NoMachine:PySem.W.nsIn K mainGlobals "NoMachine"=some (some (.ref A_NoMachine)))
  (z_all:PySem.W.nsIn K mainGlobals "all"=some none)
  (z_bool:PySem.W.nsIn K mainGlobals "bool"=some none)
  (z_dict:PySem.W.nsIn K mainGlobals "dict"=some none)
  (z_int:PySem.W.nsIn K mainGlobals "int"=some none)
  (z_isinstance:PySem.W.nsIn K mainGlobals "isinstance"=some none)
  (z_len:PySem.W.nsIn K mainGlobals "len"=some none)
  (z_list:PySem.W.nsIn K mainGlobals "list"=some none)
  (z_min:PySem.W.nsIn K mainGlobals "min"=some none)
  (z_range:PySem.W.nsIn K mainGlobals "range"=some none)
  (z_repr:PySem.W.nsIn K mainGlobals "repr"=some none)
  (z_sorted:PySem.W.nsIn K mainGlobals "sorted"=some none)
  (z_tuple:PySem.W.nsIn K mainGlobals "tuple"=some none)
  (z_zip:PySem.W.nsIn K mainGlobals "zip"=some none)
  (t_NoneType_bool:kitOne K (.type "NoneType") (.type "bool")=some false)
  (t_bool_bool:kitOne K (.type "bool") (.type "bool")=some true)
  (t_int_bool:kitOne K (.type "int") (.type "bool")=some false)
  (t_str_bool:kitOne K (.type "str") (.type "bool")=some false)
  (t_tuple_bool:kitOne K (.type "tuple") (.type "bool")=some false)
  (t_list_bool:kitOne K (.type "list") (.type "bool")=some false)
  (nt:NoTup K)
  (n:Nat)(hL:∀a:Adr,Exs K mg a->∀ns:List Int,ns.length<=63->runLaw K a n [.lst (ns.map .int)]=.ok (.fr (.bl true))):
  ∃fd:FuncData,(∀(s:Shared)(v:Value),BindsTo s fd ⟨[v],[]⟩ [("_law_script", v)])/\∀base:Heap,K.In base->base.Ns mainGlobals mg->BMain base mg->FnOk l.prog w K mg base (CX1 l.prog w) (n+4) fa fd ["_law_script"] (spLaw K):=by
 have e:=hfa.symm.trans (mg_of X G a18);cases e
 have A:Ats K mg:=⟨⟨⟨_,_,q0q (st:=q2e) l0 c0 k0,mg_of X G a0,(q0q (st:=q2e) l0 c0 k0).binds (ps:=["many"]) fun _ _ _ _ _ _=>us1 fun _=>rfl⟩⟩,
  ⟨⟨_,_,q0q (st:=q1l) l1 c1 k1,mg_of X G a1,(q0q (st:=q1l) l1 c1 k1).binds (ps:=["machine"]) fun _ _ _ _ _ _=>us1 fun _=>rfl⟩⟩,
  ⟨⟨_,_,q0q (st:=q2m) l2 c2 k2,mg_of X G a2,(q0q (st:=q2m) l2 c2 k2).binds (ps:=["machine", "number"]) fun _ _ _ _ _ _=>us2 fun _ _=>rfl⟩⟩,
  ⟨⟨_,_,q0q (st:=q15) l3 c3 k3,mg_of X G a3,(q0q (st:=q15) l3 c3 k3).binds (ps:=["machine", "other"]) fun _ _ _ _ _ _=>us2 fun _ _=>rfl⟩⟩,
  ⟨⟨_,_,q0q (st:=q16) l4 c4 k4,mg_of X G a4,(q0q (st:=q16) l4 c4 k4).binds (ps:=["machine", "other"]) fun _ _ _ _ _ _=>us2 fun _ _=>rfl⟩⟩,
  ⟨⟨_,_,q0q (st:=q23) l5 c5 k5,mg_of X G a5,(q0q (st:=q23) l5 c5 k5).binds (ps:=["machine", "other", "pairs"]) fun _ _ _ _ _ _=>us3 fun _ _ _=>rfl⟩⟩,
  ⟨⟨_,_,q0q (st:=q1p) l6 c6 k6,mg_of X G a6,(q0q (st:=q1p) l6 c6 k6).binds (ps:=["state", "other", "known"]) fun _ _ _ _ _ _=>us3 fun _ _ _=>rfl⟩⟩,
  ⟨⟨_,_,q0q (st:=q1q) l7 c7 k7,mg_of X G a7,(q0q (st:=q1q) l7 c7 k7).binds (ps:=["_law_script", "_law_k"]) fun _ _ _ _ _ _=>us2 fun _ _=>rfl⟩⟩,
  ⟨⟨_,_,q0q (st:=q17) l8 c8 k8,mg_of X G a8,(q0q (st:=q17) l8 c8 k8).binds (ps:=["_law_cell", "_law_k"]) fun _ _ _ _ _ _=>us2 fun _ _=>rfl⟩⟩,
  ⟨⟨_,_,q0q (st:=q2n) l9 c9 k9,mg_of X G a9,(q0q (st:=q2n) l9 c9 k9).binds (ps:=["_law_number", "_law_many"]) fun _ _ _ _ _ _=>us2 fun _ _=>rfl⟩⟩,
  ⟨⟨_,_,q0q (st:=q1r) l10 c10 k10,mg_of X G a10,(q0q (st:=q1r) l10 c10 k10).binds (ps:=["_law_many"]) fun _ _ _ _ _ _=>us1 fun _=>rfl⟩⟩,
  ⟨⟨_,_,q0q (st:=q1s) l11 c11 k11,mg_of X G a11,(q0q (st:=q1s) l11 c11 k11).binds (ps:=["_law_script", "_law_at"]) fun _ _ _ _ _ _=>us2 fun _ _=>rfl⟩⟩,
  ⟨⟨_,_,q0q (st:=q11) l12 c12 k12,mg_of X G a12,(q0q (st:=q11) l12 c12 k12).binds (ps:=["_law_machine_here"]) fun _ _ _ _ _ _=>us1 fun _=>rfl⟩⟩,
  ⟨⟨_,_,q0q (st:=q1o) l13 c13 k13,mg_of X G a13,(q0q (st:=q1o) l13 c13 k13).binds (ps:=["_law_machine_here", "_law_many", "_law_wide"]) fun _ _ _ _ _ _=>us3 fun _ _ _=>rfl⟩⟩,
  ⟨⟨_,_,q0q (st:=q0o) l14 c14 k14,mg_of X G a14,(q0q (st:=q0o) l14 c14 k14).binds (ps:=["_law_script", "_law_machine_here"]) fun _ _ _ _ _ _=>us2 fun _ _=>rfl⟩⟩,
  ⟨⟨_,_,q0q (st:=q2f) l15 c15 k15,mg_of X G a15,(q0q (st:=q2f) l15 c15 k15).binds (ps:=["_law_machine_here", "_law_other"]) fun _ _ _ _ _ _=>us2 fun _ _=>rfl⟩⟩,
  ⟨⟨_,_,q0q (st:=q12) l16 c16 k16,mg_of X G a16,(q0q (st:=q12) l16 c16 k16).binds (ps:=["_law_machine_here", "_law_other", "_law_pairs"]) fun _ _ _ _ _ _=>us3 fun _ _ _=>rfl⟩⟩,
  ⟨⟨_,_,q0q (st:=q1w) l17 c17 k17,mg_of X G a17,(q0q (st:=q1w) l17 c17 k17).binds (ps:=["_law_machine_here", "_law_other", "_law_pairs", "_law_cell"]) fun _ _ _ _ _ _=>us4 fun _ _ _ _=>rfl⟩⟩,
  ⟨⟨_,_,q0q (st:=q3f) l18 c18 k18,mg_of X G a18,(q0q (st:=q3f) l18 c18 k18).binds (ps:=["_law_script"]) fun _ _ _ _ _ _=>us1 fun _=>rfl⟩⟩⟩
 have B:Blt mg:=⟨mg_none_of X G z_all,mg_none_of X G z_bool,mg_none_of X G z_dict,mg_none_of X G z_int,mg_none_of X G z_isinstance,mg_none_of X G z_len,mg_none_of X G z_list,mg_none_of X G z_min,mg_none_of X G z_range,mg_none_of X G z_repr,mg_none_of X G z_sorted,mg_none_of X G z_tuple,mg_none_of X G z_zip⟩;have M:Exs K mg ⟨A_CircuitError,A_UnlikeSizes,A_NoMachine⟩:=⟨trivial,mg_of X G n_CircuitError,mg_of X G n_UnlikeSizes,mg_of X G n_NoMachine,t_NoneType_bool,t_bool_bool,t_int_bool,t_str_bool,t_tuple_bool,t_list_bool,nt⟩
 have MK:Mks K mg:=⟨fun f oc od fd sl e1 e2=>by
  have z:=(mg_of X G a14).symm.trans e1;cases z;rw[l14]at e2;cases e2;exact⟨cc14,PP14,_,v14,h14,m14⟩⟩
 exact⟨_,fun s v=>.of_eq rfl,fun base _ _ BM=>(law_fn A B M BM MK (q0q (st:=q3f) l18 c18 k18) n).imp fun vs H Q E q=>x78 (hL _ M) q⟩
local macro_rules | `(tactic| walk_at "den") => do
 let l:=(("y4n y4j y4k x60 x94 x6v x9j y3x y3y y3z y31 y3m x4m x4n y78 y79 y8a y8b y3n y3o y3p y3q y8c x6p y3d y3e y3f y3g x87 x6j x6k x6f x4b x6g x6h x4c x4d x4e x2b x85 x6i x86 y27 y28 y25 x81 x82 x83 y26 y74 y72 x8x x8y x8z x80 y7t x8k x8l q6m x51 y2y y7u y7v y2z x8o x8p x8q x8r x8s x8t x54 y7x x39 x8u x8v q2s q2i y6d y6e y6f y6g y6h y1w q5p y1t y1u x79 x5o y6b y6c y1v y9h y9i y9j y9k y6i q8g x35 x5p y6j y6k y1z dC_s y0u y9l y16 y17 y6l y6m y9m y6n y18 y6o y19 y6p x5q x2v y6q y6r y0v y9n y2a y9o y9p y2b y6s y2c y2d y6t y6u y6v y2e y2g y2h x8b y2i y2j x8c x5r x8d x5s y6w x2w q9n q64 y2k y2l y2m y2n y2o x8e y6x x5t y9q y60 y61 y62 y2p y63 y9s y9t x5u y2q x8f y64 y65 y2r y2s x36 x37 y66 x8h x5v y2u x8i y68 y69 y7a y7b x5x y2v y7c y7d y9u y9v y9w y9x y9y y9z y90 y91 y92 y93 y94 y95 y96 y97 y98 y99 y7e y7f y7g y7h y7i y7j y7k ix_t ix_l z0a z0b z0c z0d z0e z0f z0g z0h z0i z0j z0k z0l z0m sc_i sc_b sc_s sc_n sl_l at0 at1 at2 y7m rng1 rng2 init Option.map_some Option.bind_some List.map_cons List.map_nil List.length_cons List.length_nil List.replicate_succ List.replicate_zero List.cons_append List.nil_append List.getElem?_cons_zero List.getElem?_cons_succ List.set_cons_zero List.set_cons_succ if_true if_false decide_eq_true_eq reduceIte Bool.false_eq_true ite_true ite_false Nat.reduceSub Nat.reduceAdd Nat.reduceLeDiff Nat.zero_add Nat.le_refl Int.reduceLT Int.reduceLE Int.reduceNeg true_and and_true true_or or_true false_and and_false false_or or_false not_true_eq_false not_false_eq_true decide_true decide_false Bool.not_true Bool.not_false String.reduceEq Nat.reduceEqDiff x8j y7r y7s z0n z0o Int.reduceToNat Int.reducePow Nat.reduceLT cast0 cast1 Int.reduceEq Int.reduceMod Int.reduceDiv Int.reduceAdd Int.reduceSub Int.reduceMul y8j z0r y4a y8n x9q z0u z0v z0w x9r y8o y4b y8p x9u y8t y4e x9v y8u y8v x9w x9x y1x y1y y6y y6z y9r x8a x9z x90 x91 y4g y2f y4d y8r z0x x6y q6t x1j y4h x92 y8w True.intro".splitOn " ").map fun s=>Lean.mkIdent s.toName).toArray
 `(tactic| try simp only [$[$l:ident],*])
theorem q4b(n:Nat)(ns:List Int){k:Int}(hk:0<=k):run K a (n+1) q0k [.lst (ns.map .int),.int k]=.ok (.fr (.int (ns.getD k.toNat 0))):=by
 rw[q3k];unfold q28;walk_at "den"
 by_cases h:k<ns.length
 ·rw[if_pos (by simpa using h),y7l hk]
  have e:(ns.map W.int)[k.toNat]?=some (.int (ns.getD k.toNat 0)):=by
   have:k.toNat<ns.length:=by omega
   simp[List.getD,this]
  rw[e];walk_at "den"
 ·rw[if_neg (by simpa using h)]
  have:ns.getD k.toNat 0=0:=by
   have:¬k.toNat<ns.length:=by omega
   simp[List.getD,this]
  rw[this]
theorem x27{i:Nat}(I:Nat->List S->Prop):∀(ws:List W)(k:Nat)(e:List S),I k e->(∀(j:Nat)(w:W)(e:List S),w∈ws->I j e->∃e',b (e.set i (.fr w))=.nx e'/\I (j+1) e')->∃e',forD i b ws e=.nx e'/\I (k+ws.length) e'
 |[],k,e,h0,_=>⟨e,rfl,h0⟩
 |w::ws,k,e,h0,h=>by
  obtain⟨e1,h1,h2⟩:=h k w e (by simp) h0;obtain⟨e2,h3,h4⟩:=x27 I ws (k+1) e1 h2 fun j u e hu=>h j u e (by simp[hu])
  refine⟨e2,?_,?_⟩
  ·rw[q7q,h1,q64,h3]
  ·rw[w0x];have:k+1+ws.length=k+(ws.length+1):=by omega
   rw[<- this];exact h4
theorem len_range{lo hi:Int}:(rangeW lo hi).length=(hi-lo).toNat:=by simp[rangeW]
def mix2(c k:Int):Int:=((c+7919*k)*48271%2147483647*((c+7919*k)*48271%2147483647)+7*((c+7919*k)*48271%2147483647)+k)%2147483629
theorem q7x(n:Nat)(c k:Int):run K a (n+1) q14 [.int c,.int k]=.ok (.fr (.int (mix2 c k))):=by
 rw[q4a];unfold q3w;walk_at "den";rw[if_pos (by omega)];rfl
theorem x96(n:Nat)(c:Int)(m:Nat)(hm:m<=1000):∃bs:List Bool,run K a (n+1) q3r [.int c,.int (m:Int)]=.ok (.fr (.tup (bs.map .bl)))/\bs.length=m:=by
 rw[q5c];unfold q4t;walk_at "den";rw[if_pos (q44 (by omega) (by omega))];walk_at "den"
 obtain⟨e',h2,bs,c',z,rfl,hl⟩:=q3p (b:=q5b K a (run K a n)) (i:=3) (lo:=0) (hi:=(m:Int)) m (by omega) (fun j e=>∃(bs:List Bool)(c':Int)(z:S),e=[.fr (.int c'),.fr (.int (m:Int)),.own none (bs.map .bl),z]/\bs.length=j) [.fr (.int c),.fr (.int (m:Int)),.own none [],.no] ⟨[],_,_,rfl,rfl⟩ (by
  rintro j e hj ⟨bs,c',z,rfl,hl⟩;unfold q5b;walk_at "den";rw[if_pos (by rw[w0a];omega)];walk_at "den";exact⟨_,rfl,bs++[_],_,_,by rw[w0m];rfl,by simp[hl]⟩)
 rw[h2];walk_at "den";exact⟨bs.reverse,by rw[w3t],by simpa using hl⟩
def encB(bs:List Bool):W:=.tup (bs.map .bl)
noncomputable abbrev Pr:=List Bool×Nat
structure Mc where
 m:Nat
 wide:Nat
 states:List (List Pr)
structure Mc.Ok(c:Mc):Prop where
 few:c.m<=3
 wd:c.wide<=12
 pos:0<c.states.length
 most:c.states.length<=20
 st:∀s∈c.states,s.length=2^c.m
 pr:∀s∈c.states,∀p∈s,p.1.length=c.wide/\p.2<c.states.length
def bN1(b:Bool):Nat:=if b=true then 1 else 0
def numF(row:List Bool):Nat:=row.foldl (fun n b=>2*n+bN1 b) 0
def Mc.at(c:Mc)(s:Nat)(row:List Bool):Pr:=(c.states.getD s []).getD (numF row) ([],0)
theorem y4o{size base goal v:Int}(h1:0<base)(h2:base<=size)(h3:0<=goal)(h4:goal<base):0<(size-1-goal) / base+1/\0<=goal+base*(v%((size-1-goal) / base+1))/\goal+base*(v%((size-1-goal) / base+1))<size:=by
 have q0:0<=(size-1-goal) / base:=Int.ediv_nonneg (by omega) (by omega);have q1:base*((size-1-goal) / base)<=size-1-goal:=Int.mul_ediv_self_le (by omega);generalize (size-1-goal) / base=q at q0 q1;have t0:0<=v%(q+1):=w1l _ (by omega);have t1:v%(q+1)<q+1:=w1i _ (by omega);generalize v%(q+1)=t at t0 t1;have m0:0<=base*t:=Int.mul_nonneg (by omega) t0;have m1:base*t<=base*q:=Int.mul_le_mul_of_nonneg_left (by omega) (by omega);exact⟨by omega,by omega,by omega⟩
def encPr(p:Pr):W:=.tup [encB p.1,.int (p.2:Int)]
def encSt(s:List Pr):W:=.lst (s.map encPr)
def encMc(c:Mc):W:=.tup [.int (c.m:Int),.int (c.wide:Int),.lst (c.states.map encSt)]
theorem x97(n m:Nat)(hm:m<=100):run K a (n+1) q3e [.int (m:Int)]=.ok (.fr (.int ((2^m:Nat):Int))):=by
 rw[q4n];unfold q4f;walk_at "den";rw[if_pos (q44 (by omega) (by omega))];walk_at "den"
 obtain⟨e',h2,z,rfl⟩:=q3p (b:=q4l K a (run K a n)) (i:=2) (lo:=0) (hi:=(m:Int)) m (by omega) (fun j e=>∃z,e=[.fr (.int (m:Int)),.fr (.int ((2^j:Nat):Int)),z]) [.fr (.int (m:Int)),.fr (.int 1),.no] ⟨.no,rfl⟩ (by
  rintro j e hj ⟨z,rfl⟩;unfold q4l;walk_at "den";refine⟨_,rfl,.fr (.int (0+(j:Int))),?_⟩;rw[Nat.pow_succ,w3z,Int.mul_comm];rfl)
 rw[h2];walk_at "den"
theorem x2g(n:Nat)(c:Mc){s:Nat}(h:s<c.states.length):run K a (n+1) q2b [encMc c,.int (s:Int)]=.ok (.fr (.bl true)):=by
 rw[q30];unfold q3t encMc;walk_at "den";rw[w0a,if_pos (show(0:Int)<=s by omega),decide_eq_true (show(s:Int)<(c.states.length:Int) by omega)]
theorem x2h(l:List Pr):pairsW (l.map encPr)=some (l.map fun p=>(encB p.1,W.int (p.2:Int))):=by
 induction l with
 |nil=>rfl
 |cons p l ih=>
  rw[w0v,w0v];show(pairsW (l.map encPr)).map _=_;rw[ih];rfl
theorem x1u{i j:Nat}(I:List S->Prop):∀(ps:List (W×W))(e:List S),I e->(∀p∈ps,∀e,I e->∃e',b ((e.set i (.fr p.1)).set j (.fr p.2))=.nx e'/\I e')->∃e',forP i j b ps e=.nx e'/\I e'
 |[],e,h,_=>⟨e,rfl,h⟩
 |p::ps,e,h,st=>by
  obtain⟨e1,h1,h2⟩:=st p (by simp) e h;obtain⟨e2,h3,h4⟩:=x1u I ps e1 h2 (fun q hq=>st q (by simp[hq]))
  refine⟨e2,?_,h4⟩;show(b ((e.set i (.fr p.1)).set j (.fr p.2))).turnT (forP i j b ps)=_;rw[h1];exact h3
theorem q5v(c:Mc):ixW (encMc c) (.int 0)=some (.int (c.m:Int)):=rfl
theorem q5w(c:Mc):ixW (encMc c) (.int 1)=some (.int (c.wide:Int)):=rfl
theorem q04(c:Mc):ixW (encMc c) (.int 2)=some (.lst (c.states.map encSt)):=rfl
theorem q9z(n:Nat)(c:Mc)(hc:c.Ok):run K a (n+2) q1v [encMc c]=.ok (.fr .non):=by
 rw[q3d];unfold q2z;walk_at "den";rw[q04];walk_at "den";rw[q5v];walk_at "den";rw[x97 n c.m (by have:=hc.few;omega)];walk_at "den";rw[w0a,if_neg (by have:=hc.pos;omega)];walk_at "den"
 obtain⟨e',k1,z3,z4,z5,k2⟩:=x27 (i:=3) (b:=q3c K a (run K a (n+1))) (fun _ e=>∃z3 z4 z5,e=[.fr (encMc c),.fr (.lst (c.states.map encSt)),.fr (.int ((2^c.m:Nat):Int)),z3,z4,z5]) (c.states.map encSt) 0 [.fr (encMc c),.fr (.lst (c.states.map encSt)),.fr (.int ((2^c.m:Nat):Int)),.no,.no,.no] ⟨_,_,_,rfl⟩ (by
  rintro j w e hw ⟨z3,z4,z5,rfl⟩;obtain⟨s,hs,rfl⟩:=w0z.mp hw;unfold q3c;simp only[encSt];walk_at "den";rw[w0a,hc.st s hs,if_neg (by simp)];walk_at "den";rw[x2h];walk_at "den"
  obtain⟨e1,h1,z4,z5,rfl⟩:=x1u (i:=4) (j:=5) (b:=q3b K a (run K a (n+1))) (fun e=>∃z4 z5,e=[.fr (encMc c),.fr (.lst (c.states.map encSt)),.fr (.int ((2^c.m:Nat):Int)),.fr (.lst (s.map encPr)),z4,z5]) (s.map fun p=>(encB p.1,W.int (p.2:Int))) [.fr (encMc c),.fr (.lst (c.states.map encSt)),.fr (.int ((2^c.m:Nat):Int)),.fr (.lst (s.map encPr)),z4,z5] ⟨_,_,rfl⟩ (by
   rintro q hq e ⟨z4,z5,rfl⟩;obtain⟨p,hp,rfl⟩:=w0z.mp hq;obtain⟨p1,p2⟩:=hc.pr s hs p hp;unfold q3b;simp only[encB];walk_at "den";rw[q5w];walk_at "den";rw[w0a,p1,if_neg (by simp)];walk_at "den";rw[x2g n c p2];walk_at "den";exact⟨_,rfl,_,_,rfl⟩)
  rw[h1];exact⟨_,rfl,_,_,_,rfl⟩)
 rw[k1,k2];rfl
theorem q56{c:Mc}{s:Nat}(hs:s<c.states.length):atI (c.states.map encSt) (s:Int)=some (encSt (c.states.getD s [])):=by
 refine q19 ?_;rw[w0j,w0d hs];simp[List.getD,hs]
theorem y0y(b:Bool)(m:Nat)(h:m<=100):repW (.lst [.bl b]) (.int (m:Int))=some (.lst ((List.replicate m b).map .bl)):=by
 rw[x57,if_pos ⟨q44 (by omega) (by omega),by simp;omega⟩,w1y];congr 2
 have:∀k:Nat,(List.replicate k [W.bl b]).flatten=(List.replicate k b).map W.bl:=fun k=>by
  induction k with
  |zero=>rfl
  |succ k ih=>rw[w1e,w1n,ih,w1e];rfl
 exact this _
theorem at4(h:m<=3):atI [W.int 1,.int 2,.int 4,.int 8] (m:Int)=some (.int ((2^m:Nat):Int)):=by
 have:m=0\/m=1\/m=2\/m=3:=by omega
 rcases this with rfl|rfl|rfl|rfl<;>rfl
theorem q8y(n m:Nat)(h:m<=3):run K a (n+1) q1e [.int (m:Int)]=.ok (.fr (.int ((2^m:Nat):Int))):=by
 rw[q3l];unfold q29;walk_at "den";rw[at4 h];walk_at "den"
theorem q4v{c:Mc}{i:Nat}(h:i<c.states.length):c.states.getD i []∈c.states:=by
 have e:c.states.getD i []=c.states[i]:=by simp[List.getD,h]
 rw[e];exact w2o h
theorem x28:∀x y:List Bool,eqWs (x.map .bl) (y.map .bl)=some (decide (x=y))
 |[],[]=>rfl
 |[],_::_=>rfl
 |_::_,[]=>rfl
 |a::x,b::y=>by
  show(match eqW (.bl a) (.bl b),eqWs (x.map .bl) (y.map .bl)with|some p,some q=>some (p&&q)|_,_=>none)=_;rw[x28 x y];show some ((a==b)&&decide (x=y))=_;congr 1;cases a<;>cases b<;>simp
theorem q33(p:Pr):ixW (encPr p) (.int 0)=some (encB p.1):=rfl
theorem q1x(p:Pr):ixW (encPr p) (.int 1)=some (.int (p.2:Int)):=rfl
def prAt(c:Mc)(i r:Nat):Pr:=(c.states.getD i []).getD r ([],0)
theorem x4s(q:Nat)(r:List Bool)(h:r.length<=q):plainW (encB r)=true/\depW (encB r)=1/\wgt (encB r)<=q:=by
 obtain⟨h1,h2,h3⟩:=q4d r;refine⟨h1,?_,?_⟩
 ·show depWs (r.map .bl)+1=1;rw[h2]
 ·show wgts (r.map .bl)<=q;rw[h3];exact h
theorem q90(hw:wide<=12)(hs:size<=20):∀s:List Pr,(∀p∈s,p.1.length=wide/\p.2<size)->plainWs (s.map encPr)=true/\depWs (s.map encPr)<=2/\wgts (s.map encPr)<=30*s.length
 |[],_=>⟨rfl,w1b _,w1b _⟩
 |p::s,h=>by
  obtain⟨i1,i2,i3⟩:=q90 hw hs s fun q hq=>h q (by simp[hq])
  obtain⟨p1,p2⟩:=h p (by simp);obtain⟨b1,b2,b3⟩:=x4s 12 p.1 (by omega);have hi:plainW (.int (p.2:Int))=true:=decide_eq_true ⟨by omega,by omega⟩;have hg:=q65 (n:=p.2) (by omega);refine⟨?_,?_,?_⟩
  ·show((plainW (encB p.1)&&(plainW (.int (p.2:Int))&&true))&&plainWs (s.map encPr))=true;rw[b1,hi,i1];rfl
  ·show max (max (depW (encB p.1)) (max 0 0)+1) (depWs (s.map encPr))<=2;rw[b2];omega
  ·show(wgt (encB p.1)+1+(wgt (.int (p.2:Int))+1+0))+1+wgts (s.map encPr)<=30*(s.length+1);omega
theorem q91(hm:m<=3)(hw:wide<=12)(hs:size<=20):∀l:List (List Pr),(∀s∈l,s.length=2^m/\∀p∈s,p.1.length=wide/\p.2<size)->plainWs (l.map encSt)=true/\depWs (l.map encSt)<=3/\wgts (l.map encSt)<=250*l.length
 |[],_=>⟨rfl,w1b _,w1b _⟩
 |s::l,h=>by
  obtain⟨i1,i2,i3⟩:=q91 hm hw hs l fun q hq=>h q (by simp[hq])
  obtain⟨s1,s2⟩:=h s (by simp);obtain⟨b1,b2,b3⟩:=q90 hw hs s s2;have hp:2^m<=2^3:=w3e (by decide) hm;have hp8:(2:Nat)^3=8:=rfl;refine⟨?_,?_,?_⟩
  ·show(plainWs (s.map encPr)&&plainWs (l.map encSt))=true;rw[b1,i1];rfl
  ·show max (depWs (s.map encPr)+1) (depWs (l.map encSt))<=3;omega
  ·show wgts (s.map encPr)+1+wgts (l.map encSt)<=250*(l.length+1);omega
def unl:W->List W
 |.lst ws=>ws
 |_=>[]
def inn(c:Mc):List (List W):=c.states.map fun s=>s.map encPr
theorem y4p(c:Mc):(inn c).map W.lst=c.states.map encSt:=by
 unfold inn;rw[w1q];rfl
theorem q7y(c:Mc):W.tup [.int (c.m:Int),.int (c.wide:Int),.lst (List.map W.lst (inn c))]=encMc c:=by rw[y4p];rfl
theorem x98(n:Nat)(c:Mc)(hc:c.Ok):run K a (n+1) q08 [encMc c]=.ok (.x (.tn [.int (c.m:Int),.int (c.wide:Int)] (inn c))):=by
 have hmost:=hc.most;have p8:2^c.m<=8:=w1c (w3e (by decide) hc.few) (by decide);rw[q4o];unfold q4g;walk_at "den";rw[q5v];walk_at "den";rw[q5w];walk_at "den";rw[q04];walk_at "den";rw[if_pos (by rw[w0a];omega),q9r (g:=unl)]
 ·rw[show(c.states.map encSt).map unl=inn c by unfold inn;rw[w1q];rfl];walk_at "den"
 ·intro w hw;obtain⟨s,hs,rfl⟩:=w0z.mp hw;have hl:=hc.st s hs;unfold encSt;walk_at "den";exact⟨_,rfl⟩
theorem x1v(n:Nat)(z0 z1 z2 z4 z5 z8 z12 z15:S)(kinds k num goal size base:Int)(h1:0<base)(h2:base<=size)(h3:size<=20)(h4:0<=goal)(h5:goal<base)(st:List Pr)(hl:st.length<=100)(bs:List Bool):
  ∃p:Pr,∃z,p.1.length=bs.length/\(p.2:Int)<size/\pair44 K a (run K a (n+2)) [z0,z1,z2,.fr (.int kinds),z4,z5,.fr (.int size),.fr (.int base),z8,.fr (.int k),.own none (st.map encPr),.fr (.int num),z12,.fr (.lst (bs.map .bl)),.fr (.int goal),z15] =
   .nx [z0,z1,z2,.fr (.int kinds),z4,z5,.fr (.int size),.fr (.int base),z8,.fr (.int k),.own none ((st++[p]).map encPr),.fr (.int num),z12,.fr (.lst (bs.map .bl)),.fr (.int goal),z]:=by
 have t:=y4o (size:=size) (base:=base) (goal:=goal) (v:=mix2 (kinds+k) num) h1 h2 h4 h5;unfold pair44;walk_at "den";rw[q7x (n+1)];walk_at "den";rw[if_pos ⟨h1,by omega⟩,if_pos t.1,if_pos (.inl ⟨by omega,by omega⟩),if_pos (by rw[w0a];omega)];obtain⟨q,hq⟩:∃q:Nat,goal+base*(mix2 (kinds+k) num%((size-1-goal) / base+1))=(q:Int):=⟨(goal+base*(mix2 (kinds+k) num%((size-1-goal) / base+1))).toNat,by have:=t.2.1;omega⟩;have t3:=t.2.2;rw[hq]at t3;refine⟨(bs,q),.fr (.int (mix2 (kinds+k) num%((size-1-goal) / base+1))),rfl,t3,?_⟩;rw[hq,w0m];rfl
theorem x1w(n:Nat)(z0 z1 z2 z4 z8 z14 z15:S)(wide:Nat)(hw:wide<=12)(kinds k left size base:Int)(num:Nat)(h1:0<base)(h2:base<=size)(h3:size<=20)(st:List Pr)(hl:st.length<=100)(bs:List Bool)(hb:bs.length=wide):
  ∃p:Pr,∃z13 z14' z15',p.1.length=wide/\(p.2:Int)<size/\goal44 K a (run K a (n+2)) [z0,z1,z2,.fr (.int kinds),z4,.fr (.int (wide:Int)),.fr (.int size),.fr (.int base),z8,.fr (.int k),.own none (st.map encPr),.fr (.int (num:Int)),.fr (.int left),.fr (.lst (bs.map .bl)),z14,z15] =
   .nx [z0,z1,z2,.fr (.int kinds),z4,.fr (.int (wide:Int)),.fr (.int size),.fr (.int base),z8,.fr (.int k),.own none ((st++[p]).map encPr),.fr (.int (num:Int)),.fr (.int left),z13,z14',z15']:=by
 have g0:=w1l (left / 64) (show base≠0 by omega);have g1:=w1i (left / 64) h1;unfold goal44;walk_at "den";rw[if_pos h1];walk_at "den"
 by_cases hc:kinds%3=1
 ·rw[if_pos hc,if_pos h1];walk_at "den";rw[y0y _ _ (by omega)];walk_at "den";rw[if_pos h1];have k0:=w1l k (show base≠0 by omega);have k1:=w1i k h1
  have gg:∃g:Int,atI [W.int (if base-1<k%base+1 then base-1 else k%base+1),W.int 0] (if 1<(num:Int)then 1 else(num:Int))=some (.int g)/\0<=g/\g<base:=by
   by_cases q:num=0
   ·subst q;refine⟨_,rfl,?_,?_⟩<;>split<;>omega
   ·have e:(if 1<(num:Int)then 1 else(num:Int))=1:=by split<;>omega
    rw[e];exact⟨0,rfl,by omega,by omega⟩
  obtain⟨g,e1,e2,e3⟩:=gg;rw[e1];walk_at "den";obtain⟨p,z,p1,p2,p3⟩:=x1v (K:=K) (a:=a) n z0 z1 z2 z4 (.fr (.int (wide:Int))) z8 (.fr (.int left)) z15 kinds k (num:Int) g size base h1 h2 h3 e2 e3 st hl (List.replicate wide (decide (k%base=base-1)));exact⟨p,_,_,z,by rw[p1,w1k],p2,p3⟩
 ·rw[if_neg hc];walk_at "den";obtain⟨p,z,p1,p2,p3⟩:=x1v (K:=K) (a:=a) n z0 z1 z2 z4 (.fr (.int (wide:Int))) z8 (.fr (.int left)) z15 kinds k (num:Int) (left / 64%base) size base h1 h2 h3 g0 g1 st hl bs;exact⟨p,_,_,z,by rw[p1,hb],p2,p3⟩
theorem x99(n:Nat)(ns:List Int)(p:Nat)(z2 z4 z8 z12 z13 z14 z15:S)(wide:Nat)(hw:wide<=12)(kinds k size base:Int)(num:Nat)(h1:0<base)(h2:base<=size)(h3:size<=20)(st:List Pr)(hl:st.length<=100):
  ∃q:Pr,∃z12' z13' z14' z15',q.1.length=wide/\(q.2:Int)<size/\q2p K a (run K a (n+2)) [.fr (.lst (ns.map .int)),.fr (.int (p:Int)),z2,.fr (.int kinds),z4,.fr (.int (wide:Int)),.fr (.int size),.fr (.int base),z8,.fr (.int k),.own none (st.map encPr),.fr (.int (num:Int)),z12,z13,z14,z15] =
   .nx [.fr (.lst (ns.map .int)),.fr (.int (p:Int)),z2,.fr (.int kinds),z4,.fr (.int (wide:Int)),.fr (.int size),.fr (.int base),z8,.fr (.int k),.own none ((st++[q]).map encPr),.fr (.int (num:Int)),z12',z13',z14',z15']:=by
 have k0:=w1l k (show base≠0 by omega);unfold q2p;walk_at "den";rw[if_pos h1];walk_at "den";rw[q4b (n+1) ns (by omega)];walk_at "den";rw[if_pos h1];walk_at "den";rw[q7x (n+1)];walk_at "den";rw[y0y _ _ (by omega)];walk_at "den";generalize mix2 _ _=left
 by_cases hc:left%4=0
 ·rw[if_pos hc];obtain⟨bs,b1,b2⟩:=x96 (K:=K) (a:=a) (n+1) (left / 4) wide (by omega);rw[b1];walk_at "den";obtain⟨q,y13,y14,y15,q1,q2,q3⟩:=x1w (K:=K) (a:=a) n (.fr (.lst (ns.map .int))) (.fr (.int (p:Int))) z2 z4 z8 z14 z15 wide hw kinds k left size base num h1 h2 h3 st hl bs b2;exact⟨q,_,y13,y14,y15,q1,q2,q3⟩
 ·rw[if_neg hc];walk_at "den";obtain⟨q,y13,y14,y15,q1,q2,q3⟩:=x1w (K:=K) (a:=a) n (.fr (.lst (ns.map .int))) (.fr (.int (p:Int))) z2 z4 z8 z14 z15 wide hw kinds k left size base num h1 h2 h3 st hl (List.replicate wide false) w1k;exact⟨q,_,y13,y14,y15,q1,q2,q3⟩
theorem x66(n:Nat)(ns:List Int)(p:Nat)(z2 z10 z11 z12 z13 z14 z15:S)(m wide:Nat)(hm:m<=3)(hw:wide<=12)(kinds k size base:Int)(h1:0<base)(h2:base<=size)(h3:size<=20)(sts:List (List Pr))(hl:sts.length<=100):
  ∃s:List Pr,∃y10 y11 y12 y13 y14 y15,s.length=2^m/\(∀q∈s,q.1.length=wide/\(q.2:Int)<size)/\q2q K a (run K a (n+2)) [.fr (.lst (ns.map .int)),.fr (.int (p:Int)),z2,.fr (.int kinds),.fr (.int (m:Int)),.fr (.int (wide:Int)),.fr (.int size),.fr (.int base),.own none (sts.map encSt),.fr (.int k),z10,z11,z12,z13,z14,z15] =
   .nx [.fr (.lst (ns.map .int)),.fr (.int (p:Int)),z2,.fr (.int kinds),.fr (.int (m:Int)),.fr (.int (wide:Int)),.fr (.int size),.fr (.int base),.own none ((sts++[s]).map encSt),.fr (.int k),y10,y11,y12,y13,y14,y15]:=by
 have hp:2^m<=2^3:=w3e (by decide) hm;have hp8:(2:Nat)^3=8:=rfl;unfold q2q;walk_at "den";rw[q8y (n+1) m hm];generalize hR:2^m=R at hp;walk_at "den";rw[if_pos (q44 (by omega) (by omega))];walk_at "den"
 obtain⟨e',h4,s,y11,y12,y13,y14,y15,rfl,s1,s2⟩:=q3p (b:=q2p K a (run K a (n+2))) (i:=11) (lo:=0) (hi:=(R:Int)) R (by omega) (fun j e=>∃(s:List Pr)(z11 z12 z13 z14 z15:S),e=[.fr (.lst (ns.map .int)),.fr (.int (p:Int)),z2,.fr (.int kinds),.fr (.int (m:Int)),.fr (.int (wide:Int)),.fr (.int size),.fr (.int base),.own none (sts.map encSt),.fr (.int k),.own none (s.map encPr),z11,z12,z13,z14,z15]/\s.length=j/\∀q∈s,q.1.length=wide/\(q.2:Int)<size)
  [.fr (.lst (ns.map .int)),.fr (.int (p:Int)),z2,.fr (.int kinds),.fr (.int (m:Int)),.fr (.int (wide:Int)),.fr (.int size),.fr (.int base),.own none (sts.map encSt),.fr (.int k),.own none [],z11,z12,z13,z14,z15] ⟨[],z11,z12,z13,z14,z15,rfl,rfl,fun q hq=>nomatch hq⟩ (by
  rintro j e hj ⟨s,z11,z12,z13,z14,z15,rfl,s1,s2⟩;rw[Int.zero_add];obtain⟨q,y12,y13,y14,y15,q1,q2,q3⟩:=x99 (K:=K) (a:=a) n ns p z2 (.fr (.int (m:Int))) (.own none (sts.map encSt)) z12 z13 z14 z15 wide hw kinds k size base j h1 h2 h3 s (by omega);refine⟨_,q3,s++[q],_,y12,y13,y14,y15,rfl,by simp[s1],fun x hx=>?_⟩
  rcases w1a.mp hx with z|z
  ·exact s2 x z
  ·rw[w0q.mp z];exact⟨q1,q2⟩)
 rw[h4];walk_at "den";rw[if_pos (by rw[w0a];omega)];refine⟨s,.fr (.lst (s.map encPr)),y11,y12,y13,y14,y15,s1,s2,?_⟩;rw[w0m];rfl
theorem x29(n:Nat)(ns:List Int)(p:Nat)(z2:S)(m wide size:Nat)(hm:m<=3)(hw:wide<=12)(kinds:Int)(h0:0<size)(h3:size<=20):
  ∃c:Mc,c.Ok/\(sts44 K a (run K a (n+2)) [.fr (.lst (ns.map .int)),.fr (.int (p:Int)),z2,.fr (.int kinds),.fr (.int (m:Int)),.fr (.int (wide:Int)),.fr (.int (size:Int)),.no,.no,.no,.no,.no,.no,.no,.no,.no]).fn=.ok (.fr (encMc c))/\c.m=m:=by
 have b0:=w1l (kinds / 24) (show(size:Int)≠0 by omega);have b1:=w1i (kinds / 24) (show(0:Int)<(size:Int) by omega);obtain⟨base,hb⟩:∃b:Int,(size:Int)-kinds / 24%(size:Int)=b:=⟨_,rfl⟩;unfold sts44;walk_at "den";rw[if_pos (show(0:Int)<(size:Int) by omega)];walk_at "den";rw[hb,if_pos (q44 (by omega) (by omega))];walk_at "den"
 obtain⟨e',h4,sts,y9,y10,y11,y12,y13,y14,y15,rfl,s1,s2⟩:=q3p (b:=q2q K a (run K a (n+2))) (i:=9) (lo:=0) (hi:=(size:Int)) size (by omega) (fun j e=>∃(sts:List (List Pr))(z9 z10 z11 z12 z13 z14 z15:S),e=[.fr (.lst (ns.map .int)),.fr (.int (p:Int)),z2,.fr (.int kinds),.fr (.int (m:Int)),.fr (.int (wide:Int)),.fr (.int (size:Int)),.fr (.int base),.own none (sts.map encSt),z9,z10,z11,z12,z13,z14,z15]/\sts.length=j/\∀s∈sts,s.length=2^m/\∀q∈s,q.1.length=wide/\(q.2:Int)<(size:Int))
  [.fr (.lst (ns.map .int)),.fr (.int (p:Int)),z2,.fr (.int kinds),.fr (.int (m:Int)),.fr (.int (wide:Int)),.fr (.int (size:Int)),.fr (.int base),.own none [],.no,.no,.no,.no,.no,.no,.no] ⟨[],_,_,_,_,_,_,_,rfl,rfl,fun q hq=>nomatch hq⟩ (by
  rintro j e hj ⟨sts,z9,z10,z11,z12,z13,z14,z15,rfl,s1,s2⟩;obtain⟨s,y10,y11,y12,y13,y14,y15,q1,q2,q3⟩:=x66 (K:=K) (a:=a) n ns p z2 z10 z11 z12 z13 z14 z15 m wide hm hw kinds (0+(j:Int)) (size:Int) base (by omega) (by omega) (by omega) sts (by omega);refine⟨_,q3,sts++[s],_,y10,y11,y12,y13,y14,y15,rfl,by simp[s1],fun x hx=>?_⟩
  rcases w1a.mp hx with z|z
  ·exact s2 x z
  ·rw[w0q.mp z];exact⟨q1,q2⟩)
 rw[h4];walk_at "den";refine⟨⟨m,wide,sts⟩,⟨hm,hw,by show 0<sts.length;omega,by show sts.length<=20;omega,fun s hs=>(s2 s hs).1,fun s hs q hq=>⟨((s2 s hs).2 q hq).1,?_⟩⟩,rfl,rfl⟩
 have:=((s2 s hs).2 q hq).2;show q.2<sts.length;omega
theorem wide8{j:Int}{x:Int}(h0:0<=j)(h1:j<8)(hx:0<=x)(hx2:x<9):∃w:Nat,atI [W.int 1,.int 2,.int 1,.int 0,.int 3,.int (4+x),.int 2,.int 1] j=some (.int (w:Int))/\w<=12:=by
 have:j=0\/j=1\/j=2\/j=3\/j=4\/j=5\/j=6\/j=7:=by omega
 rcases this with rfl|rfl|rfl|rfl|rfl|rfl|rfl|rfl
 ·exact⟨1,rfl,by omega⟩
 ·exact⟨2,rfl,by omega⟩
 ·exact⟨1,rfl,by omega⟩
 ·exact⟨0,rfl,by omega⟩
 ·exact⟨3,rfl,by omega⟩
 ·refine⟨(4+x).toNat,?_,by omega⟩;rw[show(((4+x).toNat:Nat):Int)=4+x by omega];rfl
 ·exact⟨2,rfl,by omega⟩
 ·exact⟨1,rfl,by omega⟩
theorem x3a(n:Nat)(ns:List Int)(p:Nat)(m wide size:Nat)(hm:m<=3)(hw:wide<=12)(cell kinds:Int)(h0:0<size)(h3:size<=12):
  ∃c:Mc,c.Ok/\(sec44 K a (run K a (n+2)) [.fr (.lst (ns.map .int)),.fr (.int (p:Int)),.fr (.int cell),.fr (.int kinds),.fr (.int (m:Int)),.fr (.int (wide:Int)),.fr (.int (size:Int)),.no,.no,.no,.no,.no,.no,.no,.no,.no]).fn=.ok (.fr (encMc c)):=by
 have keep:=x29 (K:=K) (a:=a) n ns p (.fr (.int cell)) m wide size hm hw kinds h0 (by omega);obtain⟨sz,e1,e2,e3⟩:∃s:Nat,12+cell / 112%9=(s:Int)/\0<s/\s<=20:=⟨(12+cell / 112%9).toNat,by omega,by omega,by omega⟩;obtain⟨mm,e4,e5⟩:∃s:Nat,(m:Int)%2=(s:Int)/\s<=3:=⟨((m:Int)%2).toNat,by omega,by omega⟩;have big:=x29 (K:=K) (a:=a) n ns p (.fr (.int cell)) mm wide sz e5 hw kinds e2 e3;unfold sec44;walk_at "den"
 by_cases hc:(size:Int)=7
 ·rw[if_pos hc];walk_at "den"
  by_cases hd:cell / 28%4=1
  ·rw[if_pos hd];walk_at "den";rw[e1,e4];obtain⟨c,c1,c2,_⟩:=big;exact⟨c,c1,c2⟩
  ·rw[if_neg hd];walk_at "den";obtain⟨c,c1,c2,_⟩:=keep;exact⟨c,c1,c2⟩
 ·rw[if_neg hc];walk_at "den";obtain⟨c,c1,c2,_⟩:=keep;exact⟨c,c1,c2⟩
theorem at4m{j k:Int}(h0:0<=j)(h1:j<4)(k0:0<=k)(k1:k<4):∃y m:Nat,atI [W.int 1,.int 1,.int 2,.int 3] k=some (.int (y:Int))/\atI [W.int 0,.int 1,.int 2,.int (y:Int)] j=some (.int (m:Int))/\m<=3:=by
 obtain⟨y,hy,hy3⟩:∃y:Nat,atI [W.int 1,.int 1,.int 2,.int 3] k=some (.int (y:Int))/\y<=3:=by
  have:k=0\/k=1\/k=2\/k=3:=by omega
  rcases this with rfl|rfl|rfl|rfl
  ·exact⟨1,rfl,by omega⟩
  ·exact⟨1,rfl,by omega⟩
  ·exact⟨2,rfl,by omega⟩
  ·exact⟨3,rfl,by omega⟩
 have:j=0\/j=1\/j=2\/j=3:=by omega
 rcases this with rfl|rfl|rfl|rfl
 ·exact⟨y,0,hy,rfl,by omega⟩
 ·exact⟨y,1,hy,rfl,by omega⟩
 ·exact⟨y,2,hy,rfl,by omega⟩
 ·exact⟨y,y,hy,rfl,hy3⟩
theorem q7h(n:Nat)(ns:List Int)(p:Nat):∃c:Mc,c.Ok/\run K a (n+3) q01 [.lst (ns.map .int),.int (p:Int)]=.ok (.fr (encMc c)):=by
 rw[q3m];unfold q3a;walk_at "den";rw[q4b (n+1) ns (by omega)];walk_at "den";rw[q4b (n+1) ns (by omega)];walk_at "den";generalize ns.getD _ 0=cell;generalize ns.getD _ 0=kinds;obtain⟨y,m,y1,m1,m2⟩:=at4m (j:=cell%4) (k:=cell / 28%4) (by omega) (by omega) (by omega) (by omega);rw[y1];walk_at "den";rw[m1];walk_at "den";obtain⟨wide,w1,w2⟩:=wide8 (j:=kinds / 3%8) (x:=kinds / 24%9) (by omega) (by omega) (by omega) (by omega);rw[w1];obtain⟨s,s1,s2,s3⟩:∃s:Nat,1+cell / 4%7=(s:Int)/\0<s/\s<=11:=⟨(1+cell / 4%7).toNat,by omega,by omega,by omega⟩;walk_at "den";rw[s1]
 by_cases h6:(s:Int)=6
 ·rw[if_pos h6];walk_at "den";obtain⟨s',e1,e2,e3⟩:∃s:Nat,6+cell / 28%5=(s:Int)/\0<s/\s<=12:=⟨(6+cell / 28%5).toNat,by omega,by omega,by omega⟩
  obtain⟨mm,e4,e5⟩:∃q:Nat,(if(2:Int)<(m:Int)then(2:Int)else(m:Int))=(q:Int)/\q<=3:=by
   by_cases z:(2:Int)<(m:Int)
   ·exact⟨2,by rw[if_pos z];rfl,by omega⟩
   ·exact⟨m,by rw[if_neg z],m2⟩
  rw[e1,e4];exact x3a n ns p mm wide s' e5 w2 cell kinds e2 e3
 ·rw[if_neg h6];walk_at "den";exact x3a n ns p m wide s m2 w2 cell kinds s2 (by omega)
theorem x1x:∀(n:Nat){l:List Nat},l.Nodup->(∀x∈l,x<n)->l.length<=n
 |0,l,_,h=>by
  cases l with
  |nil=>simp
  |cons x l=>exact absurd (h x (by simp)) (by omega)
 |n+1,l,hn,h=>by
  by_cases m:n∈l
  ·have e:=List.length_erase_of_mem m
   have:=x1x n (hn.erase n) (fun x hx=>by
    have:=(hn.mem_erase_iff).mp hx;have:=h x this.2;omega)
   have:0<l.length:=List.length_pos_of_mem m;omega
  ·have:=x1x n hn (fun x hx=>by
    have:=h x hx;have:x≠n:=fun z=>m (z ▸ hx)
    omega)
   omega
structure Gr where
 R:Nat
 bad:Nat×Nat->Nat->Bool
 nx:Nat×Nat->Nat->Nat×Nat
theorem neB(x y:List Bool):ne2 (encB x) (encB y)=some (.bl (!decide (x=y))):=by
 have h:depWs (x.map .bl)=0:=(q4d x).2.1;unfold ne2 encB;rw[if_pos (show depW (.tup (x.map .bl))<=150 by show depWs (x.map .bl)+1<=150;omega)];show(eqWs (x.map .bl) (y.map .bl)).map _=_;rw[x28];rfl
structure Two(c d:Mc):Prop where
 oc:c.Ok
 od:d.Ok
 hm:c.m=d.m
 hw:c.wide=d.wide
def prod(c d:Mc):Gr:=⟨2^c.m,fun x r=>!decide ((prAt c x.1 r).1=(prAt d x.2 r).1),fun x r=>((prAt c x.1 r).2,(prAt d x.2 r).2)⟩
def InP(c d:Mc)(x:Nat×Nat):Prop:=x.1<c.states.length/\x.2<d.states.length
theorem x3b{c:Mc}(hc:c.Ok){s r:Nat}(hs:s<c.states.length)(hr:r<2^c.m):(prAt c s r).2<c.states.length/\(prAt c s r).1.length=c.wide:=by
 have hl:=hc.st _ (q4v hs);have hr':r<(c.states.getD s []).length:=by omega
 have hm:prAt c s r∈c.states.getD s []:=by
  unfold prAt;generalize c.states.getD s []=l at hr';rw[w2l,w0d hr'];exact w2o hr'
 exact⟨(hc.pr _ (q4v hs) _ hm).2,(hc.pr _ (q4v hs) _ hm).1⟩
theorem Two.nx{c d:Mc}(T:Two c d)(h:InP c d x){r:Nat}(hr:r<(prod c d).R):InP c d ((prod c d).nx x r):=
 ⟨(x3b T.oc h.1 hr).1,(x3b T.od h.2 (by rw[<- T.hm];exact hr)).1⟩
noncomputable abbrev shN:Sh:=.tup [.int,.int]
theorem x67{c d:Mc}(T:Two c d)(hn:l.Nodup)(h:∀x∈l,InP c d x):l.length<=c.states.length*d.states.length:=by
 have inj:∀x∈l,∀y∈l,x.1*d.states.length+x.2=y.1*d.states.length+y.2->x=y:=fun x hx y hy e=>by
  have h1:=(h x hx).2;have h2:=(h y hy).2;have m1:(x.1*d.states.length+x.2)%d.states.length=x.2:=by rw[w3i,Nat.mul_add_mod,Nat.mod_eq_of_lt h1]
  have m2:(y.1*d.states.length+y.2)%d.states.length=y.2:=by rw[w3i,Nat.mul_add_mod,Nat.mod_eq_of_lt h2]
  have e2:x.2=y.2:=by rw[<- m1,<- m2,e]
  have e1:x.1=y.1:=Nat.eq_of_mul_eq_mul_right (show 0<d.states.length by omega) (by omega);exact Prod.ext e1 e2
 have:=x1x (c.states.length*d.states.length) (l:=l.map fun x=>x.1*d.states.length+x.2) (List.pairwise_map.mpr (List.Pairwise.imp_of_mem (fun {x y} hx hy hne e=>hne (inj x hx y hy e)) hn)) fun z hz=>by
  obtain⟨x,hx,rfl⟩:=w0z.mp hz;obtain⟨h1,h2⟩:=h x hx;have:(x.1+1)*d.states.length<=c.states.length*d.states.length:=Nat.mul_le_mul_right _ h1;rw[Nat.add_mul]at this;omega
 rwa [w0a]at this
theorem y0z{c d:Mc}(T:Two c d):c.states.length*d.states.length<=400:=Nat.mul_le_mul T.oc.most T.od.most
def nI(k:Nat):W:=.int (k:Int)
theorem x1y{i j:Nat}(I:Nat->List S->Prop)(Rt:S->Prop):∀(ps:List (W×W))(k:Nat)(e:List S),I k e ->
  (∀(m:Nat)(p:W×W),ps[m]?=some p->∀e,I (k+m) e->(∃e',b ((e.set i (.fr p.1)).set j (.fr p.2))=.nx e'/\I (k+m+1) e')\/∃s e',b ((e.set i (.fr p.1)).set j (.fr p.2))=.rt s e'/\Rt s) ->
  (∃e',forP i j b ps e=.nx e'/\I (k+ps.length) e')\/∃s e',forP i j b ps e=.rt s e'/\Rt s
 |[],k,e,h,_=>.inl ⟨e,rfl,h⟩
 |p::ps,k,e,h,st=>by
  rcases st 0 p rfl e h with⟨e1,h1,h2⟩|⟨s,e1,h1,h2⟩
  ·have:=x1y I Rt ps (k+1) e1 h2 fun m q hq e he=>by
    have z:=st (m+1) q (by simpa using hq) e (by rw[show k+(m+1)=k+1+m by omega];exact he);rw[show k+(m+1)=k+1+m by omega]at z;exact z
   rcases this with⟨e2,h3,h4⟩|⟨s,e2,h3,h4⟩
   ·refine .inl ⟨e2,?_,by rw[w0x,show k+(ps.length+1)=k+1+ps.length by omega];exact h4⟩;show(b ((e.set i (.fr p.1)).set j (.fr p.2))).turnT (forP i j b ps)=_;rw[h1];exact h3
   ·refine .inr ⟨s,e2,?_,h4⟩;show(b ((e.set i (.fr p.1)).set j (.fr p.2))).turnT (forP i j b ps)=_;rw[h1];exact h3
  ·refine .inr ⟨s,e1,?_,h2⟩;show(b ((e.set i (.fr p.1)).set j (.fr p.2))).turnT (forP i j b ps)=_;rw[h1];rfl
theorem x3c{c:Mc}{s r:Nat}(h:r<(c.states.getD s []).length):((c.states.getD s []).map encPr)[r]?=some (encPr (prAt c s r)):=by
 unfold prAt;generalize c.states.getD s []=l at h |-
 rw[w0j,w2l,w0d h];rfl
theorem y4q{c d:Mc}(T:Two c d)(h:InP c d x):((c.states.getD x.1 []).map encPr).zip ((d.states.getD x.2 []).map encPr)=(List.range (prod c d).R).map fun r=>(encPr (prAt c x.1 r),encPr (prAt d x.2 r)):=by
 have l1:(c.states.getD x.1 []).length=2^c.m:=T.oc.st _ (q4v h.1);have l2:(d.states.getD x.2 []).length=2^c.m:=by rw[T.hm];exact T.od.st _ (q4v h.2)
 apply w2y;intro r
 by_cases hr:r<2^c.m
 ·rw[w0j,List.getElem?_range (show r<(prod c d).R from hr),(w2n (z:=(encPr (prAt c x.1 r),encPr (prAt d x.2 r)))).mpr ⟨x3c (c:=c) (s:=x.1) (r:=r) (by omega),x3c (c:=d) (s:=x.2) (r:=r) (by omega)⟩];rfl
 ·rw[w2c (by rw[List.length_zip,w0a,w0a];omega),w2c (by rw[w0a,w3p];exact Nat.le_of_not_lt hr)]
theorem y0a(n:Nat){c d:Mc}(T:Two c d):run K a (n+4) q22 [encMc c,encMc d]=.ok (.fr .non):=by
 have both:run K a (n+3) q21 [encMc c,encMc d]=.ok (.fr .non):=by
  rw[q38];unfold q3u;walk_at "den";rw[q9z n c T.oc];walk_at "den";rw[q9z n d T.od];walk_at "den";rw[q5v];walk_at "den";rw[q5v];walk_at "den";rw[T.hm];walk_at "den"
 rw[q39];unfold q3v;walk_at "den";rw[both];walk_at "den";rw[q5w];walk_at "den";rw[q5w];walk_at "den";rw[T.hw];walk_at "den"
theorem x3d:∀ks:List Nat,intsW (ks.map nI)=some (ks.map fun(k:Nat)=>(k:Int))
 |[]=>rfl
 |k::ks=>by
  show(intsW (ks.map nI)).map _=_;rw[x3d ks];rfl
theorem x1z:∀{ks:List Nat},k∈ks->idxI (k:Int) (ks.map fun k:Nat=>(k:Int))=some (ks.idxOf k)
 |[],h=>nomatch h
 |y::ks,h=>by
  show(if(y:Int)=(k:Int)then some 0 else(idxI (k:Int) (ks.map fun k:Nat=>(k:Int))).map (·+1))=_
  by_cases e:y=k
  ·subst e;rw[if_pos rfl,List.idxOf_cons_self]
  ·rw[if_neg (by omega),x1z ((w0p.mp h).resolve_left fun z=>e z.symm),List.idxOf_cons,beq_false_of_ne e]
   rfl
theorem y4r{ks:List Nat}(h:k∈ks):indexI (.lst (ks.map nI)) [.int (k:Int)]=some (.int ((ks.idxOf k:Nat):Int)):=by
 show(match intsW (ks.map nI)with
  |some ys=>match idxI (k:Int) ys with
   |some j=>some (W.int (j:Int))
   |none=>none
  |none=>none)=_
 rw[x3d];dsimp only;rw[x1z h]
theorem q6v{d:Den W}{pe:List S}{f h:α->W}:∀(l:List α),(∀x∈l,∃e',d (.fr (f x)::pe)=.ok (h x) e')->compD dYes d pe (l.map f)=some (l.map h)
 |[],_=>rfl
 |x::l,H=>by
  obtain⟨e',h1⟩:=H x (by simp);rw[w0v,x5w];show(match d (.fr (f x)::pe)with|.ok w _=>(compD dYes d pe (l.map f)).map (w::·)|_=>none)=_;rw[h1,q6v l fun y hy=>H y (by simp[hy])]
  rfl
theorem x3e{d:Den (List W)}{pe:List S}{f:α->W}{h:α->List W}:∀(l:List α),(∀x∈l,∃e',d (.fr (f x)::pe)=.ok (h x) e')->compN d pe (l.map f)=some (l.map h)
 |[],_=>rfl
 |x::l,H=>by
  obtain⟨e',h1⟩:=H x (by simp);unfold compN;rw[w0v];dsimp only;rw[h1,x3e l fun y hy=>H y (by simp[hy])]
  rfl
def f0(c:Mc)(ord:List Nat)(k:Nat):List Pr:=(c.states.getD k []).map fun p=>(p.1,ord.idxOf p.2)
theorem y8x(r:Nat->List W->FR){p:Pr}(h:p.2∈ord):∃e',q3z K a r [.fr (encPr p),.fr (.lst (ord.map nI))]=.ok (encPr (p.1,ord.idxOf p.2)) e':=by
 unfold q3z;walk_at "den";rw[q33];walk_at "den";rw[q1x];walk_at "den";rw[y4r h];walk_at "den";exact⟨_,rfl⟩
theorem x68(r:Nat->List W->FR){c:Mc}(hc:c.Ok)(ho:∀x,x<c.states.length->x∈ord)(hk:k<c.states.length):∃e',q06 K a r [.fr (.int (k:Int)),.fr (encMc c),.fr (.lst (ord.map nI))]=.ok ((f0 c ord k).map encPr) e':=by
 have hl:=hc.st _ (q4v hk)
 have p8:2^c.m<=8:=by
  have:c.m=0\/c.m=1\/c.m=2\/c.m=3:=by have:=hc.few;omega
  rcases this with h|h|h|h<;>rw[h]<;>decide
 unfold q06;walk_at "den";rw[q04];walk_at "den";rw[q56 hk];unfold encSt;walk_at "den";rw[if_pos (by rw[w0a];omega),y2t (w:=.lst (ord.map nI)) rfl,y67 (w:=.lst (ord.map nI)) rfl,q6v (h:=fun p=>encPr (p.1,ord.idxOf p.2)) _ fun p hp=>y8x r (ho _ (hc.pr _ (q4v hk) p hp).2)]
 walk_at "den";refine⟨[.fr (.int (k:Int)),.fr (encMc c),.fr (.lst (ord.map nI))],?_⟩;unfold f0;rw[w1q];rfl
structure GS(c:Mc)(size:Nat)(sts:List (List Pr)):Prop where
 len:sts.length=size
 st:∀s∈sts,s.length=2^c.m
 pr:∀s∈sts,∀p∈s,p.1.length=c.wide/\p.2<size
theorem GS.two{c:Mc}{sts:List (List Pr)}(h:GS c size sts)(hc:c.Ok)(h0:0<size)(h1:size<=20):Two c ⟨c.m,c.wide,sts⟩:=
 ⟨hc,⟨hc.few,hc.wd,by show 0<sts.length;rw[h.len];exact h0,by show sts.length<=20;rw[h.len];exact h1,h.st,fun s hs p hp=>⟨(h.pr s hs p hp).1,by show p.2<sts.length;rw[h.len];exact(h.pr s hs p hp).2⟩⟩,rfl,rfl⟩
theorem q69{l:List α}{v x:α}(h:x∈l.set k v):x∈l\/x=v:=List.mem_or_eq_of_mem_set h
theorem GS.set{c:Mc}{sts:List (List Pr)}(h:GS c size sts){s:List Pr}(h1:s.length=2^c.m)(h2:∀p∈s,p.1.length=c.wide/\p.2<size):GS c size (sts.set k s):=by
 refine⟨by rw[w2w];exact h.len,fun t ht=>?_,fun t ht=>?_⟩
 ·rcases q69 ht with z|rfl
  ·exact h.st t z
  ·exact h1
 ·rcases q69 ht with z|rfl
  ·exact h.pr t z
  ·exact h2
theorem GS.get{c:Mc}{sts:List (List Pr)}(h:GS c size sts)(hk:k<size):sts.getD k []∈sts/\sts[k]?=some (sts.getD k []):=by
 have:k<sts.length:=by rw[h.len];exact hk
 rw[w2l,w0d this];exact⟨w2o this,rfl⟩
structure Or(n:Nat)(ord:List Nat):Prop where
 len:ord.length=n
 all:∀x,x<n->x∈ord
 lt:∀x∈ord,x<n
theorem gs0{c:Mc}(hc:c.Ok)(ho:Or c.states.length ord):GS c c.states.length (ord.map (f0 c ord)):=by
 refine⟨by rw[w0a];exact ho.len,fun s hs=>?_,fun s hs p hp=>?_⟩
 ·obtain⟨k,hk,rfl⟩:=w0z.mp hs;unfold f0;rw[w0a];exact hc.st _ (q4v (ho.lt k hk))
 ·obtain⟨k,hk,rfl⟩:=w0z.mp hs;obtain⟨q,hq,rfl⟩:=w0z.mp hp;obtain⟨h1,h2⟩:=hc.pr _ (q4v (ho.lt k hk)) q hq;exact⟨h1,by rw[<- ho.len];exact List.idxOf_lt_length_iff.mpr (ho.all _ h2)⟩
def env2(A:W)(c:Mc)(way:Int)(ord:List Nat)(z5 z6 z7 z8 z9 z10:S):List S:=[.fr A,.fr (encMc c),.fr (.int way),.fr (.int (c.states.length:Int)),.fr (.lst (ord.map nI)),z5,z6,z7,z8,z9,z10]
theorem y8y(r:Nat->List W->FR)(A:W){c:Mc}(hc:c.Ok)(ho:Or c.states.length ord)(hw:way%4=3):
  (dAlt (modIs 2 4 3) (dSetO 5 (dComp [1,4] (dVar 4) dYes (dFz (q06 K a r)))) (dSetN 5 [1,4] (dVar 4) (q06 K a r))) (env2 A c way ord .no .no .no .no .no .no)=.nx (env2 A c way ord (.own none ((ord.map (f0 c ord)).map encSt)) .no .no .no .no .no):=by
 have hm:=hc.most;have hl:=ho.len;unfold env2;walk_at "den";rw[hw];walk_at "den";rw[if_pos (by rw[w0a];omega)];simp only[frz1,pj1,w0w,w1v]
 rw[q6v (h:=fun k=>encSt (f0 c ord k)) _ fun k hk=>by
  obtain⟨e',z⟩:=x68 (K:=K) (a:=a) r hc ho.all (ho.lt k hk);refine⟨e',?_⟩;have z:q06 K a r [.fr (nI k),.fr (encMc c),.fr (.lst (ord.map nI))]=_:=z;rw[y0v,z];rfl]
 walk_at "den";rw[w1q];rfl
theorem x3f(r:Nat->List W->FR)(A:W){c:Mc}(hc:c.Ok)(ho:Or c.states.length ord)(hw:¬way%4=3):
  (dAlt (modIs 2 4 3) (dSetO 5 (dComp [1,4] (dVar 4) dYes (dFz (q06 K a r)))) (dSetN 5 [1,4] (dVar 4) (q06 K a r))) (env2 A c way ord .no .no .no .no .no .no)=.nx (env2 A c way ord (.nest ((ord.map (f0 c ord)).map fun s=>s.map encPr)) .no .no .no .no .no):=by
 have hm:=hc.most;have hl:=ho.len;unfold env2;walk_at "den";rw[if_neg hw,if_pos (by rw[w0a];omega)];simp only[frz1,pj1,w0w,w1v]
 rw[x3e (h:=fun k=>(f0 c ord k).map encPr) _ fun k hk=>by
  obtain⟨e',z⟩:=x68 (K:=K) (a:=a) r hc ho.all (ho.lt k hk);exact⟨e',z⟩]
 walk_at "den";rw[w1q];rfl
theorem q8z(h:k<n):ixN n (k:Int)=some k:=by
 unfold ixN;rw[if_pos (by omega)]
 first
  |rw[if_pos (by omega),w1y]
  |simp[h]
theorem q4k{v:Int}(h:0<n):∃k:Nat,v%(n:Int)=(k:Int)/\k<n:=by
 have h1:=w1l v (show(n:Int)≠0 by omega);have h2:=w1i v (show(0:Int)<(n:Int) by omega);exact⟨(v%(n:Int)).toNat,by omega,by omega⟩
theorem atN{sts:List (List Pr)}{s:List Pr}(h:sts[k]?=some s):atI (sts.map fun s=>s.map encPr) (k:Int)=some (s.map encPr):=by
 refine q19 ?_;rw[w0j,h];rfl
theorem atP{s:List Pr}{p:Pr}(h:s[k]?=some p):atI (s.map encPr) (k:Int)=some (encPr p):=by
 refine q19 ?_;rw[w0j,h];rfl
theorem atE{sts:List (List Pr)}{s:List Pr}(h:sts[k]?=some s):atI (sts.map encSt) (k:Int)=some (encSt s):=by
 refine q19 ?_;rw[w0j,h];rfl
theorem q7z(sts:List (List Pr)):(sts.map fun s=>s.map encPr).map W.lst=sts.map encSt:=by
 rw[w1q];rfl
theorem q70(sts:List (List Pr))(j:Nat)(s:List Pr):((sts.map fun s=>s.map encPr).set j (s.map encPr)).map W.lst=(sts.set j s).map encSt:=by
 rw[<- q7z,w3d,w3d,w3d]
theorem ret2(A:W){c:Mc}{sts:List (List Pr)}{z5:S}(hz:z5=.fr (.lst (sts.map encSt))\/z5=.own none (sts.map encSt))(z6 z7 z8 z9 z10:S):
  ∃e',(dRet (dTup (dCons (dOp ixW (dVar 1) (dC (.int 0))) (dCons (dOp ixW (dVar 1) (dC (.int 1))) (dCons (dVar 5) dNil))))) (env2 A c way ord z5 z6 z7 z8 z9 z10)=.rt (.fr (encMc ⟨c.m,c.wide,sts⟩)) e':=by
 unfold env2;walk_at "den";rw[q5v];walk_at "den";rw[q5w];walk_at "den";rcases hz with rfl|rfl
 ·walk_at "den";exact⟨_,rfl⟩
 ·walk_at "den";exact⟨_,rfl⟩
theorem x69{sts:List (List Pr)}{j:Nat}{s:List Pr}{p:Pr}(hj:sts[j]?=some s)(hk:k<s.length):((atI (sts.map fun s=>s.map encPr) (j:Int)).bind fun ws=>putF (encPr p) ws [.int (k:Int)])=some ((s.set k p).map encPr):=by
 rw[atN hj,Option.bind_some,y8d (by rw[w0a];exact hk),w3d]
theorem way2(r:Nat->List W->FR)(A:W){c:Mc}(hc:c.Ok)(ho:Or c.states.length ord)(hw:way%4=2):
  ∃sts e',GS c c.states.length sts/\q0z K a r (env2 A c way ord .no .no .no .no .no .no)=.rt (.fr (encMc ⟨c.m,c.wide,sts⟩)) e':=by
 have g0:=gs0 hc ho;have sn:=x3f (K:=K) (a:=a) r A hc ho (way:=way) (by omega);generalize ord.map (f0 c ord)=sts0 at g0 sn;obtain⟨j,j1,j2⟩:=q4k (v:=way / 4) hc.pos;obtain⟨m1,m2⟩:=g0.get j2;generalize sts0.getD j []=s at m1 m2;have hsl:=g0.st s m1;obtain⟨k,k1,k2⟩:=q4k (v:=way / 80) (n:=s.length) (by rw[hsl];exact Nat.two_pow_pos _);obtain⟨f,f1,f2⟩:=q4k (v:=way / 640) hc.pos;have hp:s[k]?=some s[k]:=w0d k2;generalize s[k]=p at hp;have hpm:=g0.pr s m1 p (w0n hp)
 have gd:GS c c.states.length (sts0.set j (s.set k (p.1,f))):=g0.set (by rw[w2w];exact hsl) fun q hq=>by
  rcases q69 hq with z|rfl
  ·exact g0.pr s m1 q z
  ·exact⟨hpm.1,f2⟩
 have rt:=ret2 A (c:=c) (way:=way) (ord:=ord) (sts:=sts0.set j (s.set k (p.1,f))) (.inl rfl);have pp:=x69 (p:=(p.1,f)) m2 k2;have hix:ixN (sts0.map fun s=>s.map encPr).length (j:Int)=some j:=q8z (by rw[w0a,g0.len];exact j2)
 unfold q0z;rw[q2s,sn,q2i];generalize (dRet (dTup (dCons (dOp ixW (dVar 1) (dC (.int 0))) (dCons (dOp ixW (dVar 1) (dC (.int 1))) (dCons (dVar 5) dNil)))))=RT at rt |-
 unfold env2 at rt |-
 walk_at "den";rw[hw];walk_at "den";rw[if_pos (by have:=hc.pos;omega),j1,q7z,atE m2];unfold encSt;walk_at "den";rw[w0a,if_pos (by omega),k1];walk_at "den";rw[atN m2];walk_at "den";rw[atP hp];walk_at "den";rw[q33];walk_at "den";have hpos:(0:Int)<(c.states.length:Int):=by have:=hc.pos;omega
 rw[if_pos hpos,f1];have hn:=fun e h3=>x23 (e:=e) (i:=5) (us:=[.int (k:Int)]) hix pp h3
 rw[atN m2];simp only[w2j,if_true];rw[show mutNB 5 (D.putF (W.tup [encB p.fst,W.int ↑f])) ↑j [W.int ↑k] _ _=_ from hn _ rfl,q70];walk_at "den";rw[hw];walk_at "den";obtain⟨e',z⟩:=rt (.fr (.int (j:Int))) (.fr (.int (k:Int))) .no .no .no;exact⟨_,e',gd,z⟩
theorem z00(bs:List Bool):ne2 (.lst (bs.map W.bl)) (.lst [])=some (.bl (!bs.isEmpty)):=by
 cases bs with
 |nil=>rfl
 |cons b bs=>
  have h:depWs ((b::bs).map .bl)=0:=(q4d _).2.1;rw[w0v]at h;simp[ne2,eqW,eqWs,depW,h]
theorem way1(r:Nat->List W->FR)(A:W){c:Mc}(hc:c.Ok)(ho:Or c.states.length ord)(hw:way%4=1):
  ∃sts e',GS c c.states.length sts/\q0z K a r (env2 A c way ord .no .no .no .no .no .no)=.rt (.fr (encMc ⟨c.m,c.wide,sts⟩)) e':=by
 have g0:=gs0 hc ho;have sn:=x3f (K:=K) (a:=a) r A hc ho (way:=way) (by omega);generalize ord.map (f0 c ord)=sts0 at g0 sn;obtain⟨j,j1,j2⟩:=q4k (v:=way / 4) hc.pos;obtain⟨m1,m2⟩:=g0.get j2;generalize sts0.getD j []=s at m1 m2;have hsl:=g0.st s m1;obtain⟨k,k1,k2⟩:=q4k (v:=way / 80) (n:=s.length) (by rw[hsl];exact Nat.two_pow_pos _);have hp:s[k]?=some s[k]:=w0d k2;generalize s[k]=p at hp;have hpm:=g0.pr s m1 p (w0n hp);have hwd:=hc.wd
 have gd:∀bs:List Bool,bs.length=c.wide->GS c c.states.length (sts0.set j (s.set k (bs,p.2))):=fun bs hb=>g0.set (by rw[w2w];exact hsl) fun q hq=>by
  rcases q69 hq with z|rfl
  ·exact g0.pr s m1 q z
  ·exact⟨hb,hpm.2⟩
 have rt:=fun bs:List Bool=>ret2 A (c:=c) (way:=way) (ord:=ord) (sts:=sts0.set j (s.set k (bs,p.2))) (.inl rfl)
 have pp:=fun bs:List Bool=>x69 (p:=(bs,p.2)) m2 k2
 have hix:ixN (sts0.map fun s=>s.map encPr).length (j:Int)=some j:=q8z (by rw[w0a,g0.len];exact j2)
 have hn:=fun bs e h3=>x23 (e:=e) (i:=5) (us:=[.int (k:Int)]) hix (pp bs) h3
 have hpos:(0:Int)<(c.states.length:Int):=by have:=hc.pos;omega
 unfold q0z;rw[q2s,sn,q2i];generalize (dRet (dTup (dCons (dOp ixW (dVar 1) (dC (.int 0))) (dCons (dOp ixW (dVar 1) (dC (.int 1))) (dCons (dVar 5) dNil)))))=RT at rt |-
 unfold env2 at rt |-
 walk_at "den";rw[hw];walk_at "den";rw[if_pos hpos,j1,q7z,atE m2];unfold encSt;walk_at "den";rw[w0a,if_pos (by omega),k1];walk_at "den";rw[atN m2];walk_at "den";rw[atP hp];walk_at "den";rw[q33];unfold encB;walk_at "den";simp only[w2j,if_true];rw[z00]
 by_cases hb:p.1=[]
 ·rw[hb];have hn:=hn [];rw[hb]at hpm;simp only[List.isEmpty_nil,w4f];walk_at "den";rw[q1x];walk_at "den";rw[atN m2];simp only[w2j,if_true];rw[show mutNB 5 (D.putF (W.tup [W.tup [],W.int ↑p.snd])) ↑j [W.int ↑k] _ _=_ from hn _ rfl,q70];walk_at "den";rw[hw];walk_at "den";obtain⟨e',z⟩:=rt [] (.fr (.int (j:Int))) (.fr (.int (k:Int))) (.fr (encPr p)) (.fr (.lst [])) .no;exact⟨_,e',gd _ hpm.1,z⟩
 ·obtain⟨q,q1,q2⟩:=q4k (v:=way / 640) (n:=p.1.length) (List.length_pos_iff.mpr hb);have hq:atI (p.1.map W.bl) (q:Int)=some (.bl p.1[q]):=q19 (by rw[w0j,w0d q2];rfl);rw[show p.1.isEmpty=false by cases h:p.1 with|nil=>exact absurd h hb|cons=>rfl];generalize hbs:(!p.1[q])=b';walk_at "den";rw[w0a,if_pos (show(0:Int)<(p.1.length:Int) by omega),q1,hq];walk_at "den";rw[hbs,w0a,q1,q8z q2,if_pos (show(0:Int)<(p.1.length:Int) by omega),q6m,<- w3d];have hn:=hn (p.1.set q b');walk_at "den";rw[q1x];walk_at "den";rw[atN m2];simp only[w2j,if_true];rw[show mutNB 5 (D.putF (W.tup [W.tup ((p.1.set q b').map W.bl),W.int ↑p.snd])) ↑j [W.int ↑k] _ _=_ from hn _ rfl,q70];walk_at "den";rw[hw];walk_at "den";obtain⟨e',z⟩:=rt (p.1.set q b') (.fr (.int (j:Int))) (.fr (.int (k:Int))) (.fr (encPr p)) (.fr (.lst ((p.1.set q b').map W.bl))) .no;exact⟨_,e',gd _ (by rw[w2w];exact hpm.1),z⟩
def twin(size t:Nat)(p:Pr):Pr:=(p.1,if p.2=t then size else p.2)
theorem y8z(r:Nat->List W->FR){t:Nat}(p:Pr):∃e',q3y K a r [.fr (encPr p),.fr (.int (size:Int)),.fr (.int (t:Int))]=.ok (encPr (twin size t p)) e':=by
 unfold q3y;walk_at "den";rw[q33];walk_at "den";rw[q1x];walk_at "den";rw[q1x];walk_at "den";unfold twin
 by_cases h:p.2=t
 ·rw[h];walk_at "den";exact⟨_,rfl⟩
 ·rw[if_neg h];rw[if_neg (show ¬(p.2:Int)=(t:Int) by omega)];walk_at "den";exact⟨_,rfl⟩
theorem way3(r:Nat->List W->FR)(A:W){c:Mc}(hc:c.Ok)(ho:Or c.states.length ord)(hw:way%4=3):
  ∃size sts e',0<size/\size<=20/\GS c size sts/\q0z K a r (env2 A c way ord .no .no .no .no .no .no)=.rt (.fr (encMc ⟨c.m,c.wide,sts⟩)) e':=by
 have g0:=gs0 hc ho;have sn:=y8y (K:=K) (a:=a) r A hc ho hw;generalize ord.map (f0 c ord)=sts0 at g0 sn;have rt:=fun sts=>ret2 A (c:=c) (way:=way) (ord:=ord) (sts:=sts) (.inr rfl)
 have hpos:(0:Int)<(c.states.length:Int):=by have:=hc.pos;omega
 unfold q0z;rw[q2s,sn,q2i];generalize (dRet (dTup (dCons (dOp ixW (dVar 1) (dC (.int 0))) (dCons (dOp ixW (dVar 1) (dC (.int 1))) (dCons (dVar 5) dNil)))))=RT at rt |-
 unfold env2 at rt |-
 walk_at "den";rw[hw];walk_at "den"
 by_cases h1:way / 4%2=1
 ·rw[h1]
  by_cases h2:c.states.length<20
  ·obtain⟨t,t1,t2⟩:=q4k (v:=way / 8) hc.pos;obtain⟨j,j1,j2⟩:=q4k (v:=way / 160) hc.pos;obtain⟨mt1,mt2⟩:=g0.get t2;generalize sts0.getD t []=s at mt1 mt2;obtain⟨mj1,mj2⟩:=g0.get j2;generalize sts0.getD j []=s2 at mj1 mj2
   have gd:GS c (c.states.length+1) ((sts0++[s]).set j (s2.map (twin c.states.length t))):=by
    have g1:GS c (c.states.length+1) (sts0++[s]):=by
     refine⟨by rw[w0l,g0.len];rfl,fun x hx=>?_,fun x hx p hp=>?_⟩
     ·rcases w1a.mp hx with z|z
      ·exact g0.st x z
      ·rw[w0q.mp z];exact g0.st s mt1
     ·have:p.1.length=c.wide/\p.2<c.states.length:=by
       rcases w1a.mp hx with z|z
       ·exact g0.pr x z p hp
       ·rw[w0q.mp z]at hp;exact g0.pr s mt1 p hp
      exact⟨this.1,by omega⟩
    refine g1.set (by rw[w0a];exact g0.st s2 mj1) fun q hq=>?_
    obtain⟨p,hp,rfl⟩:=w0z.mp hq;obtain⟨h3,h4⟩:=g0.pr s2 mj1 p hp;refine⟨h3,?_⟩;show(if p.2=t then c.states.length else p.2)<_;split<;>omega
   have hj3:(sts0++[s])[j]?=some s2:=by rw[w1m (by rw[g0.len];exact j2)];exact mj2
   have hs2:=g0.st s2 mj1
   have p8:2^c.m<=8:=by
    have:c.m=0\/c.m=1\/c.m=2\/c.m=3:=by have:=hc.few;omega
    rcases this with h|h|h|h<;>rw[h]<;>decide
   walk_at "den";rw[if_pos (by omega),if_pos hpos,if_pos hpos,t1,j1,atE mt2];unfold encSt;walk_at "den";have fl:(fun s=>W.lst (List.map encPr s))=encSt:=rfl
   have fa:sts0.map encSt++[W.lst (s.map encPr)]=(sts0++[s]).map encSt:=by rw[w0m];rfl
   have le:(sts0++[s]).length=c.states.length+1:=by rw[w0l,g0.len];rfl
   rw[fl,fa,atE hj3,w0a,if_pos (by rw[g0.len];omega)];unfold encSt;walk_at "den";rw[fl,if_pos (by rw[w0a];omega)];simp only[frzs,frz1,pjS,pj1,w0w,w1v];rw[q6v (h:=fun p=>encPr (twin c.states.length t p)) _ fun p hp=>y8z (K:=K) (a:=a) r p]
   walk_at "den";have fe:W.lst (List.map (fun p=>encPr (twin c.states.length t p)) s2)=encSt (s2.map (twin c.states.length t)):=by unfold encSt;rw[w1q];rfl
   rw[w0a,le,q8z (by omega),q6m,fe,<- w3d,q2i];obtain⟨e',z⟩:=rt ((sts0++[s]).set j (s2.map (twin c.states.length t))) (.fr (.int (j:Int))) .no .no .no (.fr (.int (t:Int)));exact⟨_,_,e',by omega,by omega,gd,z⟩
  ·walk_at "den";rw[if_neg (by omega)];obtain⟨e',z⟩:=rt sts0 .no .no .no .no .no;exact⟨_,_,e',hc.pos,hc.most,g0,z⟩
 ·rw[if_neg h1];obtain⟨e',z⟩:=rt sts0 .no .no .no .no .no;exact⟨_,_,e',hc.pos,hc.most,g0,z⟩
def fitP(wide:Nat)(p:Pr):Pr:=((p.1++List.replicate 12 false).take wide,p.2)
theorem x7a{l:List W}(h:k<=l.length):cutW l none (some (k:Int))=l.take k:=by
 unfold cutW;rw[HT.sIx_none,HT.sIx_nat,List.drop_zero,Nat.sub_zero,Nat.min_eq_left h]
theorem slT{bs:List Bool}(h:k<=bs.length):slX (.tup (bs.map W.bl)) none (some (k:Int))=some (encB (bs.take k)):=by
 by_cases e:k=bs.length
 ·rw[z0t (by rw[HT.sIx_none,HT.sIx_nat,w0a];omega),List.take_of_length_le (by omega)];rfl
 ·rw[z0s (by rw[HT.sIx_none,HT.sIx_nat,w0a];omega),x7a (by rw[w0a];exact h),<- w4k];rfl
theorem y80(r:Nat->List W->FR)(hw:wide<=12){p:Pr}(hp:p.1.length<=100):∃e',q3x K a r [.fr (encPr p),.fr (.int (wide:Int))]=.ok (encPr (fitP wide p)) e':=by
 unfold q3x;walk_at "den";rw[q33];unfold encB;walk_at "den";rw[y3c (by omega) (by omega)];walk_at "den";rw[if_pos (by rw[w0a];omega)];have e12:List.map W.bl p.fst++[W.bl false,W.bl false,W.bl false,W.bl false,W.bl false,W.bl false,W.bl false,W.bl false,W.bl false,W.bl false,W.bl false,W.bl false]=(p.1++List.replicate 12 false).map W.bl:=by rw[w0m];rfl
 rw[e12,slT (by rw[w0l,w1k];omega)];walk_at "den";rw[q1x];walk_at "den";exact⟨_,rfl⟩
def fit(m wide:Nat)(s:List Pr):List Pr:=((List.replicate 8 (s.map (fitP wide))).flatten).take (2^m)
theorem len_rep(n:Nat)(l:List α):(List.replicate n l).flatten.length=n*l.length:=by
 induction n with
 |zero=>simp
 |succ n ih=>rw[w1e,w1n,w0l,ih,Nat.succ_mul];omega
theorem y0b(hm:m<=3)(hw:wide<=12)(hR:r q1e [.int (m:Int)]=.ok (.fr (.int ((2^m:Nat):Int))))(A:W){s:List Pr}(h1:0<s.length)(h2:s.length<=8)(h3:∀p∈s,p.1.length<=100)(done:List (List Pr))(hd:done.length<=100)(z5:S):
  ∃z5',q2d K a r [.fr A,.fr (.int (m:Int)),.fr (.int (wide:Int)),.own none (done.map encSt),.fr (encSt s),z5]=.nx [.fr A,.fr (.int (m:Int)),.fr (.int (wide:Int)),.own none ((done++[fit m wide s]).map encSt),.fr (encSt s),z5']:=by
 have p8:2^m<=8:=by
  have:m=0\/m=1\/m=2\/m=3:=by omega
  rcases this with h|h|h|h<;>rw[h]<;>decide
 have fl:(fun s=>W.lst (List.map encPr s))=encSt:=rfl
 refine⟨.fr (.lst ((s.map (fitP wide)).map encPr)),?_⟩;unfold q2d;walk_at "den";rw[show seqW (encSt s)=some (s.map encPr)from rfl];walk_at "den";rw[if_pos (by rw[w0a];omega)];simp only[frzs,frz1,pjS,pj1,w0w,w1v];rw[q6v (h:=fun p=>encPr (fitP wide p)) _ fun p hp=>y80 (K:=K) (a:=a) r hw (h3 p hp)]
 rw[show s.map (fun p=>encPr (fitP wide p))=(s.map (fitP wide)).map encPr by rw[w1q];rfl]
 walk_at "den"
 have e8:repW (.lst ((s.map (fitP wide)).map encPr)) (.int 8)=some (.lst (((List.replicate 8 (s.map (fitP wide))).flatten).map encPr)):=by
  rw[x57,if_pos ⟨rfl,by rw[w0a,w0a];show s.length*8<=_;omega⟩];show some (W.lst (List.replicate 8 ((s.map (fitP wide)).map encPr)).flatten)=_;rw[List.map_flatten,List.map_replicate]
 rw[e8];unfold fit;have hl:=len_rep 8 (s.map (fitP wide));rw[w0a]at hl;generalize (List.replicate 8 (s.map (fitP wide))).flatten=L at hl |-
 walk_at "den";rw[hR];walk_at "den";rw[x7a (by rw[w0a];omega),<- w4k,if_pos (by rw[w0a];omega),w0m];rfl
theorem x10(hm:m<=3)(hw:wide<=12)(hR:r q1e [.int (m:Int)]=.ok (.fr (.int ((2^m:Nat):Int))))(A:W):∀(rest done:List (List Pr))(z4 z5:S),(∀s∈rest,0<s.length/\s.length<=8/\∀p∈s,p.1.length<=100)->done.length+rest.length<=100 ->
  ∃z4' z5',forD 4 (q2d K a r) (rest.map encSt) [.fr A,.fr (.int (m:Int)),.fr (.int (wide:Int)),.own none (done.map encSt),z4,z5]=.nx [.fr A,.fr (.int (m:Int)),.fr (.int (wide:Int)),.own none ((done++rest.map (fit m wide)).map encSt),z4',z5']
 |[],done,z4,z5,_,_=>⟨z4,z5,by rw[w3c,w3c,w1j];rfl⟩
 |s::rest,done,z4,z5,h,hd=>by
  rw[w0x]at hd;obtain⟨h1,h2,h3⟩:=h s (by simp);obtain⟨y5,t⟩:=y0b (K:=K) (a:=a) hm hw hR A h1 h2 h3 done (by omega) z5;obtain⟨y4,q5,t2⟩:=x10 hm hw hR A rest (done++[fit m wide s]) (.fr (encSt s)) y5 (fun x hx=>h x (by simp[hx])) (by rw[w0l,w3w];omega)
  refine⟨y4,q5,?_⟩;rw[w0v,q7q];simp only[w3j,w3k];rw[t,q64,t2,w0v,w2g];rfl
theorem y4s{s:List Pr}{p:Pr}(h:p∈fit m wide s):∃q∈s,p=fitP wide q:=by
 have h:=w4a h;obtain⟨l,hl,hp⟩:=List.mem_flatten.mp h;rw[(List.mem_replicate.mp hl).2]at hp;obtain⟨q,hq,rfl⟩:=w0z.mp hp;exact⟨q,hq,rfl⟩
theorem x4t(n:Nat){c o:Mc}(hc:c.Ok)(ho:o.Ok):∃d,Two c d/\run K a (n+2) q1n [encMc o,.int (c.m:Int),.int (c.wide:Int)]=.ok (.fr (encMc d)):=by
 have ro:=q8y (K:=K) (a:=a) n c.m hc.few
 have pw:∀m,m<=3->0<2^m/\2^m<=8:=fun m h=>by
  have:m=0\/m=1\/m=2\/m=3:=by omega
  rcases this with h|h|h|h<;>rw[h]<;>decide
 have hwo:=ho.wd
 have hst:∀s∈o.states,0<s.length/\s.length<=8/\∀p∈s,p.1.length<=100:=fun s hs=>by
  rw[ho.st s hs];exact⟨(pw _ ho.few).1,(pw _ ho.few).2,fun p hp=>by rw[(ho.pr s hs p hp).1];omega⟩
 obtain⟨z4,z5,f⟩:=x10 (K:=K) (a:=a) hc.few hc.wd ro (encMc o) o.states [] .no .no hst (by have:=ho.most;simp;omega)
 have gs:GS c o.states.length (o.states.map (fit c.m c.wide)):=by
  refine⟨w0a _,fun s hs=>?_,fun s hs p hp=>?_⟩
  ·obtain⟨q,hq,rfl⟩:=w0z.mp hs;unfold fit;rw[w2b,len_rep,w0a];have:=hst q hq;have:=pw _ hc.few;omega
  ·obtain⟨q,hq,rfl⟩:=w0z.mp hs;obtain⟨p,hp2,rfl⟩:=y4s hp;refine⟨?_,(ho.pr q hq p hp2).2⟩;show((p.1++List.replicate 12 false).take c.wide).length=_;have:=hc.wd;rw[w2b,w0l,w1k];omega
 refine⟨_,gs.two hc ho.pos ho.most,?_⟩;rw[q31];generalize run K a (n+1)=r at ro f |-
 rw[if_pos (show[encMc o,W.int (c.m:Int),W.int (c.wide:Int)].length=3 from rfl)];unfold q3g init;generalize q2d K a r=LL at f |-
 walk_at "den";rw[q04];walk_at "den";have f:forD 4 LL (List.map encSt o.states) [S.fr (encMc o),S.fr (W.int ↑c.m),S.fr (W.int ↑c.wide),S.own none [],S.no,S.no]=_:=f;rw[f];walk_at "den";rfl
theorem z01(h0:0<n){o:List Int}(hp:o.Perm (rangeI 1 (n:Int))):Or n (0::o.map Int.toNat)/\(0::o.map Int.toNat).map nI=W.int 0::o.map .int:=by
 have mem:∀i,i∈o↔∃k:Nat,k<n-1/\i=1+(k:Int):=fun i=>by
  rw[hp.mem_iff];unfold rangeI;rw[w0z];constructor
  ·rintro⟨k,hk,rfl⟩;have:=w1x.mp hk;exact⟨k,by omega,rfl⟩
  ·rintro⟨k,hk,rfl⟩;exact⟨k,w1x.mpr (by omega),rfl⟩
 refine⟨⟨?_,fun x hx=>?_,fun x hx=>?_⟩,?_⟩
 ·rw[w0x,w0a,hp.length_eq];unfold rangeI;rw[w0a,w3p];omega
 ·by_cases e:x=0
  ·rw[e];exact w1d
  ·refine w0k _ (w0z.mpr ⟨(x:Int),(mem _).mpr ⟨x-1,by omega,by omega⟩,by omega⟩)
 ·rcases w0p.mp hx with rfl|z
  ·exact h0
  ·obtain⟨i,hi,rfl⟩:=w0z.mp z;obtain⟨k,hk,rfl⟩:=(mem _).mp hi;omega
 ·rw[w0v,w1q];congr 1;refine w3g fun i hi=>?_
  obtain⟨k,hk,rfl⟩:=(mem _).mp hi;show W.int (((1+(k:Int)).toNat:Nat):Int)=_;congr 1
  all_goals omega
theorem y0c{rl:Nat->List W->FR}{A:W}{c:Mc}(hc:c.Ok)(o:List Int)(h1:r q0k [A,.int 20]=.ok (.fr (.int way))){oc:Mc}(hoc:oc.Ok)(h2:r q01 [A,.int 8]=.ok (.fr (encMc oc)))
  (h3:∃d,Two c d/\r q1n [encMc oc,.int (c.m:Int),.int (c.wide:Int)]=.ok (.fr (encMc d)))(h4:∀i w:Int,∃n:Int,rl 19 [.int i,.int w]=.ok (.fr (.int n))):
  (q2t K a r rl o (init 11 [A,encMc c])).map SR.fn=none\/∃d,Two c d/\(q2t K a r rl o (init 11 [A,encMc c])).map SR.fn=some (.ok (.fr (encMc d))):=by
 have hm:=hc.most;have hpos:=hc.pos
 have e1:dSet 2 (dCall (r q0k) (dCons (dVar 0) (dCons (dC (.int 20)) dNil))) (init 11 [A,encMc c])=.nx [.fr A,.fr (encMc c),.fr (.int way),.no,.no,.no,.no,.no,.no,.no,.no]:=by
  unfold init;walk_at "den";rw[h1];walk_at "den"
 have e2:dSet 3 (dFn len1 (dCons (dOp ixW (dVar 1) (dC (.int 2))) dNil)) [.fr A,.fr (encMc c),.fr (.int way),.no,.no,.no,.no,.no,.no,.no,.no]=.nx [.fr A,.fr (encMc c),.fr (.int way),.fr (.int (c.states.length:Int)),.no,.no,.no,.no,.no,.no,.no]:=by
  walk_at "den";rw[q04];walk_at "den";rw[w0a]
 unfold q2t seqD;rw[e1];simp only;rw[e2];simp only
 by_cases hw:way%4=0
 ·obtain⟨d,T,h3⟩:=h3;refine .inr ⟨d,T,?_⟩
  have e3:(dIfS (dTest (dOp eq2 (dOp modW (dVar 2) (dC (.int 4))) (dC (.int 0)))) (dRet (dCall (r q1n) (dCons (dCall (r q01) (dCons (dVar 0) (dCons (dC (.int 8)) dNil))) (dCons (dOp ixW (dVar 1) (dC (.int 0))) (dCons (dOp ixW (dVar 1) (dC (.int 1))) dNil))))) dNx) [.fr A,.fr (encMc c),.fr (.int way),.fr (.int (c.states.length:Int)),.no,.no,.no,.no,.no,.no,.no]=.rt (.fr (encMc d)) [.fr A,.fr (encMc c),.fr (.int way),.fr (.int (c.states.length:Int)),.no,.no,.no,.no,.no,.no,.no]:=by
   walk_at "den";rw[hw];walk_at "den";rw[h2];walk_at "den";rw[q5v];walk_at "den";rw[q5w];walk_at "den";rw[h3];walk_at "den"
  rw[e3];rfl
 ·have e3:∀B,(dIfS (dTest (dOp eq2 (dOp modW (dVar 2) (dC (.int 4))) (dC (.int 0)))) B dNx) [.fr A,.fr (encMc c),.fr (.int way),.fr (.int (c.states.length:Int)),.no,.no,.no,.no,.no,.no,.no]=.nx [.fr A,.fr (encMc c),.fr (.int way),.fr (.int (c.states.length:Int)),.no,.no,.no,.no,.no,.no,.no]:=fun B=>by
   walk_at "den";rw[if_neg hw]
  rw[e3];simp only;have ok:ordOk lams rl 19 q1b [.int way] 1 (c.states.length:Int):=⟨by omega,by omega,by omega,by omega,by omega,q6u,rfl,fun i _=>h4 i way⟩
  have eo:dOrd 4 lams rl 19 q1b [2] (.inr 1) (.inl 3) o [.fr A,.fr (encMc c),.fr (.int way),.fr (.int (c.states.length:Int)),.no,.no,.no,.no,.no,.no,.no]=ordK 4 lams rl 19 q1b o [.fr A,.fr (encMc c),.fr (.int way),.fr (.int (c.states.length:Int)),.no,.no,.no,.no,.no,.no,.no] (some 1) (some (c.states.length:Int)) (some [.int way]):=rfl;unfold seqC;rw[eo];unfold ordK;simp only;rw[if_pos ok]
  by_cases hp:o.Perm (rangeI 1 (c.states.length:Int))
  ·rw[if_pos hp];obtain⟨ho,em⟩:=z01 hpos hp;generalize 0::o.map Int.toNat=ord at ho em;rw[<- em];refine .inr ?_
   have key:∃d e',Two c d/\q0z K a r (env2 A c way ord .no .no .no .no .no .no)=.rt (.fr (encMc d)) e':=by
    have:way%4=1\/way%4=2\/way%4=3:=by omega
    rcases this with h|h|h
    ·obtain⟨sts,e',g,z⟩:=way1 (K:=K) (a:=a) r A hc ho h;exact⟨_,e',g.two hc hpos hm,z⟩
    ·obtain⟨sts,e',g,z⟩:=way2 (K:=K) (a:=a) r A hc ho h;exact⟨_,e',g.two hc hpos hm,z⟩
    ·obtain⟨size,sts,e',s1,s2,g,z⟩:=way3 (K:=K) (a:=a) r A hc ho h;exact⟨_,e',g.two hc s1 s2,z⟩
   obtain⟨d,e',T,z⟩:=key;refine⟨d,T,?_⟩;show(some (q0z K a r (env2 A c way ord .no .no .no .no .no .no))).map SR.fn=_;rw[z];rfl
  ·rw[if_neg hp];exact .inl rfl
theorem lam_run(n:Nat)(i w:Int):∃k:Int,run K a (n+2) 19 [.int i,.int w]=.ok (.fr (.int k)):=by
 refine⟨mix2 w i,?_⟩;show run K a (n+1+1) q2w _=_;rw[q2k,if_pos (show[W.int i,W.int w].length=2 from rfl)];unfold q18;have m:=q7x (K:=K) (a:=a) n w i;generalize run K a (n+1)=r at m |-
 simp only[w0v,w3c];walk_at "den";rw[m];rfl
theorem y81(ns:List Int)(c:Mc)(hc:c.Ok)(o:List Int):sec K a 147 o [.lst (ns.map .int),encMc c]=none\/∃d,Two c d/\sec K a 147 o [.lst (ns.map .int),encMc c]=some (.ok (.fr (encMc d))):=by
 obtain⟨oc,hoc,h2⟩:=q7h (K:=K) (a:=a) 146 ns 8;have h1:run K a 149 q0k [.lst (ns.map .int),.int 20]=_:=q4b (K:=K) (a:=a) 148 ns (k:=20) (by omega);have h2:run K a 149 q01 [.lst (ns.map .int),.int 8]=_:=h2;have h3:∃d,Two c d/\run K a 149 q1n _=_:=x4t (K:=K) (a:=a) 147 hc hoc;have h4:=lam_run (K:=K) (a:=a) 145;have h4:∀i w:Int,∃n:Int,run K a 147 19 [.int i,.int w]=.ok (.fr (.int n)):=h4;unfold sec;rw[if_pos (show[W.lst (ns.map .int),encMc c].length=2 from rfl)];exact y0c (K:=K) (a:=a) hc o h1 hoc h2 h3 h4
def encI(x:Int×Int):W:=.tup [.int x.1,.int x.2]
def keyI(x:Int×Int):Kx:=.tup [.int x.1,.int x.2]
theorem q71(x:Int×Int):keyT (encI x)=some (keyI x):=rfl
theorem q6w(x:Int×Int):fits (keyI x) shN:=⟨⟨trivial,trivial,trivial⟩,by simp[keyI,Kx.depth,Kx.depths]⟩
theorem x11{x y:Int×Int}(h:keyI x=keyI y):x=y:=by
 unfold keyI at h;injection h with h
 injection h with h1 h
 injection h with h2 _
 injection h1 with h1
 injection h2 with h2
 exact Prod.ext h1 h2
theorem lk_I{x:Int×Int}:∀{ks:List (Int×Int)},(lkW (ks.map keyI) (trues (ks.map keyI)) (keyI x)).isSome=decide (x∈ks)
 |[]=>rfl
 |k::ks=>by
  show(if keyI k=keyI x then some (W.bl true)else lkW (ks.map keyI) (trues (ks.map keyI)) (keyI x)).isSome=_
  by_cases h:k=x
  ·subst h;rw[if_pos rfl];exact(decide_eq_true (by simp)).symm
  ·rw[if_neg fun z=>h (x11 z),lk_I (ks:=ks)]
   exact decide_eq_decide.mpr ⟨fun z=>w0k _ z,fun z=>(w0p.mp z).elim (fun e=>absurd e.symm h) id⟩
def knW(fz:Bool)(ks:List (Int×Int)):W:=.dw fz shN (ks.map keyI) (trues (ks.map keyI))
def knS(ks:List (Int×Int)):S:=.dw shN (ks.map keyI) (trues (ks.map keyI))
theorem x0i(fz:Bool)(ks:List (Int×Int))(x:Int×Int):ninT (encI x) (knW fz ks)=some (.bl (!decide (x∈ks))):=by
 rw[show ninT (encI x) (knW fz ks)=_ from y8g (q71 x) (q6w x),lk_I]
theorem in_I(fz:Bool)(ks:List (Int×Int))(x:Int×Int):inT (encI x) (knW fz ks)=some (.bl (decide (x∈ks))):=by
 have e:inT (encI x) (knW fz ks)=some (.bl (lkW (ks.map keyI) (trues (ks.map keyI)) (keyI x)).isSome):=if_pos (q6w x);rw[e,lk_I]
def okPr(ks:List (Int×Int))(p q:Pr):Bool:=decide (p.1=q.1)&&decide (((p.2:Int),(q.2:Int))∈ks)
theorem x7b(r:Nat->List W->FR)(fz:Bool)(s t:W)(ks:List (Int×Int))(p q:Pr):q07 K a r [.fr s,.fr t,.fr (knW fz ks),.fr (encPr p),.fr (encPr q)]=if okPr ks p q=true then .nx [.fr s,.fr t,.fr (knW fz ks),.fr (encPr p),.fr (encPr q)]else .rt (.fr (.bl false)) [.fr s,.fr t,.fr (knW fz ks),.fr (encPr p),.fr (encPr q)]:=by
 unfold q07;walk_at "den";rw[q33];walk_at "den";rw[q33];walk_at "den";rw[neB];walk_at "den";unfold okPr
 by_cases h:p.1=q.1
 ·rw[if_neg (by rw[decide_eq_true h];exact w0r)];rw[q1x];walk_at "den";rw[q1x];walk_at "den";rw[show W.tup [.int (p.2:Int),.int (q.2:Int)]=encI ((p.2:Int),(q.2:Int))from rfl,x0i];walk_at "den";rw[decide_eq_true h,w1w]
  by_cases g:((p.2:Int),(q.2:Int))∈ks
  ·rw[decide_eq_true g];rfl
  ·rw[decide_eq_false g];rfl
 ·rw[if_pos (by rw[decide_eq_false h];rfl),decide_eq_false h];rfl
theorem q92(r:Nat->List W->FR)(fz:Bool)(s t:W)(ks:List (Int×Int)):∀(l:List (Pr×Pr))(z3 z4:S),
  (l.all (fun p=>okPr ks p.1 p.2)=true/\∃e,forP 3 4 (q07 K a r) (l.map fun p=>(encPr p.1,encPr p.2)) [.fr s,.fr t,.fr (knW fz ks),z3,z4]=.nx e)\/(l.all (fun p=>okPr ks p.1 p.2)=false/\∃e,forP 3 4 (q07 K a r) (l.map fun p=>(encPr p.1,encPr p.2)) [.fr s,.fr t,.fr (knW fz ks),z3,z4]=.rt (.fr (.bl false)) e)
 |[],z3,z4=>.inl ⟨rfl,_,rfl⟩
 |p::l,z3,z4=>by
  have e:=x7b (K:=K) (a:=a) r fz s t ks p.1 p.2;have u:∀x,q07 K a r [.fr s,.fr t,.fr (knW fz ks),.fr (encPr p.1),.fr (encPr p.2)]=x->forP 3 4 (q07 K a r) ((p::l).map fun p=>(encPr p.1,encPr p.2)) [.fr s,.fr t,.fr (knW fz ks),z3,z4]=x.turnT (forP 3 4 (q07 K a r) (l.map fun p=>(encPr p.1,encPr p.2))):=fun x h=>by rw[<- h];rfl
  by_cases h:okPr ks p.1 p.2=true
  ·rw[if_pos h]at e;rw[u _ e,w1o,h,w1w];exact q92 r fz s t ks l (.fr (encPr p.1)) (.fr (encPr p.2))
  ·rw[if_neg h]at e;rw[u _ e,w1o,w1h.mpr h,w1t];exact .inr ⟨rfl,_,rfl⟩
theorem x7c(n:Nat)(fz:Bool)(s t:List Pr)(ks:List (Int×Int)):run K a (n+1) q2j [encSt s,encSt t,knW fz ks]=.ok (.fr (.bl ((s.zip t).all fun p=>okPr ks p.1 p.2))):=by
 have hz:(s.map encPr).zip (t.map encPr)=(s.zip t).map fun p=>(encPr p.1,encPr p.2):=by
  rw[List.zip_map];rfl
 rw[q3j];unfold q27 encSt;walk_at "den";rw[hz];rcases q92 (K:=K) (a:=a) (run K a n) fz (.lst (s.map encPr)) (.lst (t.map encPr)) ks (s.zip t) .no .no with⟨h1,e,h2⟩|⟨h1,e,h2⟩
 ·rw[h2,h1];walk_at "den"
 ·rw[h2,h1];walk_at "den"
theorem x12(n:Nat)(c:Mc)(f:Int):run K a (n+1) q2b [encMc c,.int f]=.ok (.fr (.bl (decide (0<=f/\f<(c.states.length:Int))))):=by
 rw[q30];unfold q3t;walk_at "den"
 by_cases h:(0:Int)<=f
 ·rw[if_pos h,q04];walk_at "den";rw[w0a];simp[h]
 ·rw[if_neg h];simp[h]
def inR(c d:Mc)(x:Int×Int):Bool:=decide (0<=x.1/\x.1<(c.states.length:Int))&&decide (0<=x.2/\x.2<(d.states.length:Int))
def plus(ks:List (Int×Int))(x:Int×Int):List (Int×Int):=if x∈ks then ks else ks++[x]
def addI:List (Int×Int)->List (Int×Int)->List (Int×Int)
 |[],ks=>ks
 |x::r,ks=>addI r (plus ks x)
theorem y0d{x y:Int×Int}:y∈plus ks x↔y∈ks\/y=x:=by
 unfold plus;split
 ·rename_i h;exact⟨.inl,fun z=>z.elim id fun e=>e ▸ h⟩
 ·simp
theorem mem_addI:∀{l ks:List (Int×Int)}{y:Int×Int},y∈addI l ks↔y∈ks\/y∈l
 |[],ks,y=>by simp[addI]
 |x::l,ks,y=>by
  unfold addI;rw[mem_addI (l:=l),y0d,w0p,or_assoc]
theorem x13(ks:List (Int×Int))(x:Int×Int):(plus ks x).length<=ks.length+1:=by
 unfold plus;split<;>simp
theorem x14:∀(l ks:List (Int×Int)),(addI l ks).length<=ks.length+l.length
 |[],ks=>by simp[addI]
 |x::l,ks=>by
  unfold addI;have:=x14 l (plus ks x);have:=x13 ks x;rw[w0x];omega
theorem q7i:∀ks:List Kx,allTr (trues ks)=true
 |[]=>rfl
 |_::ks=>q7i ks
theorem x3g:∀(l ks:List (Int×Int)),addKs (l.map keyI) (ks.map keyI)=(addI l ks).map keyI
 |[],ks=>rfl
 |x::l,ks=>by
  show addKs (l.map keyI) (if keyI x∈ks.map keyI then ks.map keyI else ks.map keyI++[keyI x])=(addI l (plus ks x)).map keyI;rw[<- x3g l];unfold plus
  by_cases h:x∈ks
  ·rw[if_pos h,if_pos (w3h h)]
  ·rw[if_neg h,if_neg fun z=>by obtain⟨y,h1,h2⟩:=w0z.mp z;rw[<- x11 h2]at h;exact h h1]
   rw[w0m];rfl
theorem y82{i:Nat}{e:List S}{x:Int×Int}(hl:ks.length<16777216)(hd:(e.set i .no).all (fun s=>!isDw s)=true)(he:e.set i (knS ks)=e):putXC i (.bl true) (encI x) e (some (knS ks))=.nx (e.set i (knS (plus ks x))):=by
 have e1:putXC i (.bl true) (encI x) e (some (knS ks))=if(ks.map keyI).length<16777216/\(e.set i .no).all (fun s=>!isDw s)=true/\fits (keyI x) shN/\(allTr (trues (ks.map keyI))&&allTr [.bl true])=true then(if(lkW (ks.map keyI) (trues (ks.map keyI)) (keyI x)).isSome=true then .nx e else .nx (e.set i (.dw shN (ks.map keyI++[keyI x]) (trues (ks.map keyI)++[.bl true]))))else .no:=rfl
 rw[e1,if_pos ⟨by rw[w0a];exact hl,hd,q6w x,by rw[q7i];rfl⟩,lk_I];unfold plus
 by_cases h:x∈ks
 ·rw[if_pos (decide_eq_true h),if_pos h,he]
 ·rw[if_neg (by rw[decide_eq_false h];exact w0r),if_neg h];unfold knS trues;rw[w0m,w0m];rfl
theorem z02(x:Int×Int):ixW (encI x) (.int 0)=some (.int x.1):=rfl
theorem z03(x:Int×Int):ixW (encI x) (.int 1)=some (.int x.2):=rfl
theorem y4t(n:Nat)(c d:Mc)(P:W)(hl:ks.length<16777216)(x:Int×Int):q2c K a (run K a (n+1)) [.fr (encMc c),.fr (encMc d),.fr P,knS ks,.fr (encI x)]=if inR c d x=true then .nx [.fr (encMc c),.fr (encMc d),.fr P,knS (plus ks x),.fr (encI x)]else .rt (.fr (.bl false)) [.fr (encMc c),.fr (encMc d),.fr P,knS ks,.fr (encI x)]:=by
 unfold q2c;walk_at "den";rw[z02];walk_at "den";rw[x12];walk_at "den";unfold inR
 by_cases h:0<=x.1/\x.1<(c.states.length:Int)
 ·rw[decide_eq_true h];walk_at "den";rw[z03];walk_at "den";rw[x12];walk_at "den"
  by_cases g:0<=x.2/\x.2<(d.states.length:Int)
  ·rw[decide_eq_true g];walk_at "den";unfold knS;walk_at "den";refine(y82 (i:=3) (x:=x) (e:=[.fr (encMc c),.fr (encMc d),.fr P,knS ks,.fr (encI x)]) hl rfl rfl).trans ?_;rfl
  ·rw[decide_eq_false g];walk_at "den";rfl
 ·rw[decide_eq_false h];walk_at "den";rfl
def stayI(c d:Mc)(ks:List (Int×Int))(x:Int×Int):Bool:=((c.states.getD x.1.toNat []).zip (d.states.getD x.2.toNat [])).all fun p=>okPr ks p.1 p.2
def goodI(c d:Mc)(l:List (Int×Int)):Bool:=l.all (inR c d)&&(decide (((0:Int),(0:Int))∈addI l [])&&(addI l []).all (stayI c d (addI l [])))
theorem x3h(n:Nat)(c d:Mc)(P:W):∀(l ks:List (Int×Int))(z4:S),isDw z4=false->ks.length+l.length<16777216 ->
  (l.all (inR c d)=true/\∃z4',isDw z4'=false/\forD 4 (q2c K a (run K a (n+1))) (l.map encI) [.fr (encMc c),.fr (encMc d),.fr P,knS ks,z4]=.nx [.fr (encMc c),.fr (encMc d),.fr P,knS (addI l ks),z4']) \/
  (l.all (inR c d)=false/\∃e,forD 4 (q2c K a (run K a (n+1))) (l.map encI) [.fr (encMc c),.fr (encMc d),.fr P,knS ks,z4]=.rt (.fr (.bl false)) e)
 |[],ks,z4,hz,_=>.inl ⟨rfl,z4,hz,rfl⟩
 |x::l,ks,z4,hz,hl=>by
  have e:=y4t (K:=K) (a:=a) n c d P (ks:=ks) (by simp at hl;omega) x;have u:∀y,q2c K a (run K a (n+1)) [.fr (encMc c),.fr (encMc d),.fr P,knS ks,.fr (encI x)]=y->forD 4 (q2c K a (run K a (n+1))) ((x::l).map encI) [.fr (encMc c),.fr (encMc d),.fr P,knS ks,z4]=y.turnT (forD 4 (q2c K a (run K a (n+1))) (l.map encI)):=fun y h=>by rw[<- h];rfl
  by_cases h:inR c d x=true
  ·rw[if_pos h]at e;rw[u _ e,w1o,h,w1w];have hp:=x13 ks x;exact x3h n c d P l (plus ks x) (.fr (encI x)) rfl (by simp at hl;omega)
  ·rw[if_neg h]at e;rw[u _ e,w1o,w1h.mpr h,w1t];exact .inr ⟨rfl,_,rfl⟩
theorem x3i:∀ks:List (Int×Int),pairsW ((ks.map keyI).map wK)=some (ks.map fun x=>(.int x.1,.int x.2))
 |[]=>rfl
 |x::ks=>by
  show(pairsW ((ks.map keyI).map wK)).map ((W.int x.1,W.int x.2)::·)=_;rw[x3i ks];rfl
theorem y83(n:Nat){c d:Mc}{x:Int×Int}(h:inR c d x=true):q2o K a (run K a (n+1)) [.fr (.int x.1),.fr (.int x.2),.fr (encMc c),.fr (encMc d),.fr (knW true ks)]=.ok (.bl (stayI c d ks x)) [.fr (.int x.1),.fr (.int x.2),.fr (encMc c),.fr (encMc d),.fr (knW true ks)]:=by
 unfold inR at h;obtain⟨h1,h2⟩:=(w0s _ _).mp h;have h1:=of_decide_eq_true h1;have h2:=of_decide_eq_true h2;obtain⟨i,hi⟩:=w1p h1.1;obtain⟨j,hj⟩:=w1p h2.1;have b1:i<c.states.length:=by omega
 have b2:j<d.states.length:=by omega
 unfold q2o stayI;rw[hi,hj];walk_at "den";rw[q04];walk_at "den";rw[q56 b1];walk_at "den";rw[q04];walk_at "den";rw[q56 b2];walk_at "den";rw[x7c];rfl
theorem x3j(n:Nat){c d:Mc}{ks:List (Int×Int)}:∀{l:List (Int×Int)},(∀x∈l,inR c d x=true)->compP dYes (q2o K a (run K a (n+1))) [.fr (encMc c),.fr (encMc d),.fr (knW true ks)] (l.map fun x=>(.int x.1,.int x.2))=some (l.map fun x=>.bl (stayI c d ks x))
 |[],_=>rfl
 |x::l,h=>by
  have e:=y83 (K:=K) (a:=a) n (ks:=ks) (h x (by simp));have r:=x3j n (ks:=ks) (l:=l) fun y hy=>h y (w0k _ hy)
  show(match q2o K a (run K a (n+1)) [.fr (.int x.1),.fr (.int x.2),.fr (encMc c),.fr (encMc d),.fr (knW true ks)]with
   |.ok y _=>(compP dYes (q2o K a (run K a (n+1))) [.fr (encMc c),.fr (encMc d),.fr (knW true ks)] (l.map fun x:Int×Int=>(W.int x.1,W.int x.2))).map (y::·)
   |_=>none)=_
  rw[e,r];rfl
theorem x15:∀bs:List Bool,boolsW (bs.map .bl)=some bs
 |[]=>rfl
 |b::bs=>by
  show(boolsW (bs.map .bl)).map (b::·)=_;rw[x15 bs];rfl
theorem y84(bs:List Bool):all1 [.lst (bs.map .bl)]=some (.bl (bs.all id)):=by
 show(boolsW (bs.map .bl)).map _=_;rw[x15];rfl
theorem y4u(n:Nat){c d:Mc}(T:Two c d){l:List (Int×Int)}(hl:l.length<10000):run K a (n+5) q13 [encMc c,encMc d,.lst (l.map encI)]=.ok (.fr (.bl (goodI c d l))):=by
 have lk:=x14 l [];rw[List.length_nil,w4m]at lk;rw[q55];unfold q54;walk_at "den";rw[y0a n T];walk_at "den";rw[show S.dw (Sh.tup [Sh.int,Sh.int]) [] []=knS []from rfl];unfold goodI;rcases x3h (K:=K) (a:=a) (n+3) c d (.lst (l.map encI)) l [] .no rfl (by simp;omega)with⟨h1,z4,hz,h2⟩|⟨h1,e,h2⟩
 ·rw[h2,h1,w1w];unfold knS;walk_at "den";rw[show W.dw false shN ((addI l []).map keyI) (trues ((addI l []).map keyI))=knW false (addI l [])from rfl,show W.tup [.int 0,.int 0]=encI (0,0)from rfl,x0i];walk_at "den"
  by_cases h0:((0:Int),(0:Int))∈addI l []
  ·rw[decide_eq_true h0];walk_at "den";have hr:∀x∈addI l [],inR c d x=true:=fun x hx=>w0o.mp h1 x ((mem_addI.mp hx).elim (fun z=>nomatch z) id)
   have cm:=x3j (K:=K) (a:=a) (n+3) (ks:=addI l []) hr;unfold knW at cm;rw[x95 (by simp only[w3j,w3k,w1o,w4o,hz];rfl) rfl,x3i];walk_at "den";rw[w0a,if_pos (by omega)];have ef:frz1 (frz1 (frz1 [.fr (encMc c),.fr (encMc d),.fr (.lst (l.map encI)),.fr (.dw true shN ((addI l []).map keyI) (trues ((addI l []).map keyI))),z4] 0) 1) 3=([.fr (encMc c),.fr (encMc d),.fr (.lst (l.map encI)),.fr (.dw true shN ((addI l []).map keyI) (trues ((addI l []).map keyI))),z4]:List S):=rfl;have cm':compP dYes (q2o K a (run K a (n+4))) [pj1 [.fr (encMc c),.fr (encMc d),.fr (.lst (l.map encI)),.fr (.dw true shN ((addI l []).map keyI) (trues ((addI l []).map keyI))),z4] 0,pj1 [.fr (encMc c),.fr (encMc d),.fr (.lst (l.map encI)),.fr (.dw true shN ((addI l []).map keyI) (trues ((addI l []).map keyI))),z4] 1,pj1 [.fr (encMc c),.fr (encMc d),.fr (.lst (l.map encI)),.fr (.dw true shN ((addI l []).map keyI) (trues ((addI l []).map keyI))),z4] 3] ((addI l []).map fun x=>(W.int x.1,W.int x.2))=some ((addI l []).map fun x=>W.bl (stayI c d (addI l []) x)):=cm
   rw[ef,cm'];walk_at "den";rw[show((addI l []).map fun x=>W.bl (stayI c d (addI l []) x))=((addI l []).map (stayI c d (addI l []))).map W.bl by rw[w1q];rfl,y84,w4l]
   rfl
  ·rw[decide_eq_false h0];walk_at "den";rfl
 ·rw[h2,h1];walk_at "den";rfl
def envG(c d:Mc)(P:W)(ks:List (Int×Int))(x y:Int)(z6 z7:S):List S:=[.fr (encMc c),.fr (encMc d),.fr P,knS ks,.fr (.int x),.fr (.int y),z6,z7]
theorem y85(r:Nat->List W->FR)(c d:Mc)(P:W)(ks:List (Int×Int))(x y:Int)(p q:Pr):q1d K a r (envG c d P ks x y (.fr (encPr p)) (.fr (encPr q)))=if okPr ks p q=true then .nx (envG c d P ks x y (.fr (encPr p)) (.fr (encPr q)))else .rt (.fr (.bl false)) (envG c d P ks x y (.fr (encPr p)) (.fr (encPr q))):=by
 unfold q1d envG;walk_at "den";rw[q33];walk_at "den";rw[q33];walk_at "den";rw[neB];walk_at "den";unfold okPr
 by_cases h:p.1=q.1
 ·rw[if_neg (by rw[decide_eq_true h];exact w0r)];unfold knS;walk_at "den";rw[q1x];walk_at "den";rw[q1x];walk_at "den";rw[show W.tup [.int (p.2:Int),.int (q.2:Int)]=encI ((p.2:Int),(q.2:Int))from rfl,show W.dw false shN (ks.map keyI) (trues (ks.map keyI))=knW false ks from rfl,x0i];walk_at "den";rw[decide_eq_true h,w1w]
  by_cases g:((p.2:Int),(q.2:Int))∈ks
  ·rw[decide_eq_true g];rfl
  ·rw[decide_eq_false g];rfl
 ·rw[if_pos (by rw[decide_eq_false h];rfl),decide_eq_false h];rfl
theorem x3k(r:Nat->List W->FR)(c d:Mc)(P:W)(ks:List (Int×Int))(x y:Int):∀(l:List (Pr×Pr))(z6 z7:S),isDw z6=false->isDw z7=false ->
  (l.all (fun p=>okPr ks p.1 p.2)=true/\∃z6' z7',isDw z6'=false/\isDw z7'=false/\forP 6 7 (q1d K a r) (l.map fun p=>(encPr p.1,encPr p.2)) (envG c d P ks x y z6 z7)=.nx (envG c d P ks x y z6' z7'))\/(l.all (fun p=>okPr ks p.1 p.2)=false/\∃e,forP 6 7 (q1d K a r) (l.map fun p=>(encPr p.1,encPr p.2)) (envG c d P ks x y z6 z7)=.rt (.fr (.bl false)) e)
 |[],z6,z7,h6,h7=>.inl ⟨rfl,_,_,h6,h7,rfl⟩
 |p::l,z6,z7,_,_=>by
  have e:=y85 (K:=K) (a:=a) r c d P ks x y p.1 p.2;have u:∀w,q1d K a r (envG c d P ks x y (.fr (encPr p.1)) (.fr (encPr p.2)))=w->forP 6 7 (q1d K a r) ((p::l).map fun p=>(encPr p.1,encPr p.2)) (envG c d P ks x y z6 z7)=w.turnT (forP 6 7 (q1d K a r) (l.map fun p=>(encPr p.1,encPr p.2))):=fun w h=>by rw[<- h];rfl
  by_cases h:okPr ks p.1 p.2=true
  ·rw[if_pos h]at e;rw[u _ e,w1o,h,w1w];exact x3k r c d P ks x y l (.fr (encPr p.1)) (.fr (encPr p.2)) rfl rfl
  ·rw[if_neg h]at e;rw[u _ e,w1o,w1h.mpr h,w1t];exact .inr ⟨rfl,_,rfl⟩
theorem y4v(r:Nat->List W->FR)(c d:Mc)(P:W)(ks:List (Int×Int))(x:Int×Int)(z6 z7:S)(h6:isDw z6=false)(h7:isDw z7=false):
  ((inR c d x&&stayI c d ks x)=true/\∃z6' z7',isDw z6'=false/\isDw z7'=false/\q00 K a r (envG c d P ks x.1 x.2 z6 z7)=.nx (envG c d P ks x.1 x.2 z6' z7'))\/((inR c d x&&stayI c d ks x)=false/\∃e,q00 K a r (envG c d P ks x.1 x.2 z6 z7)=.rt (.fr (.bl false)) e):=by
 by_cases hx:0<=x.1/\x.1<(c.states.length:Int)
 ·by_cases hy:0<=x.2/\x.2<(d.states.length:Int)
  ·have hR:inR c d x=true:=by unfold inR;rw[decide_eq_true hx,decide_eq_true hy];rfl
   rw[hR,w1w];obtain⟨i,hi⟩:=w1p hx.1;obtain⟨j,hj⟩:=w1p hy.1;have b1:i<c.states.length:=by omega
   have b2:j<d.states.length:=by omega
   have hz:((c.states.getD i []).map encPr).zip ((d.states.getD j []).map encPr)=((c.states.getD i []).zip (d.states.getD j [])).map fun p=>(encPr p.1,encPr p.2):=by rw[List.zip_map];rfl
   have G:=x3k (K:=K) (a:=a) r c d P ks x.1 x.2 ((c.states.getD i []).zip (d.states.getD j [])) z6 z7 h6 h7
   have key:q00 K a r (envG c d P ks x.1 x.2 z6 z7)=forP 6 7 (q1d K a r) (((c.states.getD i []).zip (d.states.getD j [])).map fun p=>(encPr p.1,encPr p.2)) (envG c d P ks x.1 x.2 z6 z7):=by
    unfold q00 envG;walk_at "den";rw[q04];walk_at "den";rw[q04];walk_at "den";rw[if_pos hx.1,if_neg (by rw[w0a,decide_eq_true hx.2];exact w0r),if_pos hy.1,if_neg (by rw[w0a,decide_eq_true hy.2];exact w0r),q04];walk_at "den";rw[show atI (c.states.map encSt) x.1=some (encSt (c.states.getD i [])) by rw[hi];exact q56 b1];walk_at "den";rw[q04];walk_at "den";rw[show atI (d.states.map encSt) x.2=some (encSt (d.states.getD j [])) by rw[hj];exact q56 b2];unfold encSt;walk_at "den";rw[hz]
   rw[key]
   have es:stayI c d ks x=((c.states.getD i []).zip (d.states.getD j [])).all fun p=>okPr ks p.1 p.2:=by
    unfold stayI;rw[hi,hj];rfl
   rw[es];exact G
  ·have hR:inR c d x=false:=by unfold inR;rw[decide_eq_false hy,w4b]
   rw[hR,w1t];refine .inr ⟨rfl,envG c d P ks x.1 x.2 z6 z7,?_⟩;unfold q00 envG;walk_at "den";rw[q04];walk_at "den";rw[q04];walk_at "den";rw[if_pos hx.1,if_neg (by rw[w0a,decide_eq_true hx.2];exact w0r)]
   by_cases h1:0<=x.2
   ·rw[if_pos h1,if_pos (by rw[w0a,decide_eq_false fun z=>hy ⟨h1,z⟩];rfl)]
   ·rw[if_neg h1]
    first|rfl|walk_at "den"
 ·have hR:inR c d x=false:=by unfold inR;rw[decide_eq_false hx,w1t]
  rw[hR,w1t];refine .inr ⟨rfl,envG c d P ks x.1 x.2 z6 z7,?_⟩;unfold q00 envG;walk_at "den";rw[q04];walk_at "den"
  by_cases h1:0<=x.1
  ·rw[if_pos h1,if_pos (by rw[w0a,decide_eq_false fun z=>hx ⟨h1,z⟩];rfl)]
  ·rw[if_neg h1]
   first|rfl|walk_at "den"
theorem x3l(r:Nat->List W->FR)(c d:Mc)(P:W)(ks:List (Int×Int)):∀(l:List (Int×Int))(z4 z5 z6 z7:S),isDw z4=false->isDw z5=false->isDw z6=false->isDw z7=false ->
  (l.all (fun x=>inR c d x&&stayI c d ks x)=true/\∃z4' z5' z6' z7',(isDw z4'=false/\isDw z5'=false/\isDw z6'=false/\isDw z7'=false)/\forP 4 5 (q00 K a r) (l.map fun x=>(.int x.1,.int x.2)) [.fr (encMc c),.fr (encMc d),.fr P,knS ks,z4,z5,z6,z7]=.nx [.fr (encMc c),.fr (encMc d),.fr P,knS ks,z4',z5',z6',z7']) \/
  (l.all (fun x=>inR c d x&&stayI c d ks x)=false/\∃e,forP 4 5 (q00 K a r) (l.map fun x=>(.int x.1,.int x.2)) [.fr (encMc c),.fr (encMc d),.fr P,knS ks,z4,z5,z6,z7]=.rt (.fr (.bl false)) e)
 |[],z4,z5,z6,z7,h4,h5,h6,h7=>.inl ⟨rfl,_,_,_,_,⟨h4,h5,h6,h7⟩,rfl⟩
 |x::l,z4,z5,z6,z7,_,_,h6,h7=>by
  have u:∀w,q00 K a r (envG c d P ks x.1 x.2 z6 z7)=w->forP 4 5 (q00 K a r) ((x::l).map fun x=>(W.int x.1,W.int x.2)) [.fr (encMc c),.fr (encMc d),.fr P,knS ks,z4,z5,z6,z7]=w.turnT (forP 4 5 (q00 K a r) (l.map fun x=>(W.int x.1,W.int x.2))):=fun w h=>by rw[<- h];rfl
  rw[w1o];rcases y4v (K:=K) (a:=a) r c d P ks x z6 z7 h6 h7 with⟨h1,z6',z7',k6,k7,e⟩|⟨h1,e',e⟩
  ·rw[h1,w1w,u _ e];exact x3l r c d P ks l (.fr (.int x.1)) (.fr (.int x.2)) z6' z7' rfl rfl k6 k7
  ·rw[h1,w1t,u _ e];exact .inr ⟨rfl,_,rfl⟩
theorem y4w(c d:Mc)(l:List (Int×Int)):(l.all (fun x=>inR c d x&&stayI c d (addI l []) x)&&decide (((0:Int),(0:Int))∈addI l []))=goodI c d l:=by
 have e:(addI l []).all (stayI c d (addI l []))=l.all (stayI c d (addI l [])):=by
  rw[w2h,w0o,w0o];exact⟨fun h x m=>h x (mem_addI.mpr (.inr m)),fun h x m=>h x ((mem_addI.mp m).elim (fun z=>nomatch z) id)⟩
 have e2:∀(f g:Int×Int->Bool)(l:List (Int×Int)),l.all (fun x=>f x&&g x)=(l.all f&&l.all g):=fun f g l=>by
  rw[w2h,w0s,w0o,w0o,w0o];exact⟨fun h=>⟨fun x m=>((w0s _ _).mp (h x m)).1,fun x m=>((w0s _ _).mp (h x m)).2⟩,fun h x m=>(w0s _ _).mpr ⟨h.1 x m,h.2 x m⟩⟩
 unfold goodI;rw[e,e2,Bool.and_assoc,Bool.and_comm (l.all (stayI c d (addI l [])))]
theorem q93(c:Mc)(hc:c.Ok):plainW (encMc c)=true/\depW (encMc c)<=6/\wgt (encMc c)<=6000:=by
 obtain⟨b1,b2,b3⟩:=q91 hc.few hc.wd hc.most c.states fun s hs=>⟨hc.st s hs,hc.pr s hs⟩
 have h1:plainW (.int (c.m:Int))=true:=decide_eq_true ⟨by omega,by have:=hc.few;omega⟩;have h2:plainW (.int (c.wide:Int))=true:=decide_eq_true ⟨by omega,by have:=hc.wd;omega⟩;have g1:=q65 (n:=c.m) (by have:=hc.few;omega);have g2:=q65 (n:=c.wide) (by have:=hc.wd;omega);have hm:=hc.most;refine⟨?_,?_,?_⟩
 ·show(plainW (.int (c.m:Int))&&(plainW (.int (c.wide:Int))&&(plainWs (c.states.map encSt)&&true)))=true;rw[h1,h2,b1];rfl
 ·show max 0 (max 0 (max (depWs (c.states.map encSt)+1) 0))+1<=6;omega
 ·show wgt (.int (c.m:Int))+1+(wgt (.int (c.wide:Int))+1+(wgts (c.states.map encSt)+1+0))<=6000;omega
theorem y00(c:Mc):tnW [.int (c.m:Int),.int (c.wide:Int)] (inn c)=encMc c:=q7y c
theorem y4x(p:Pr):flatW (encPr p)=true:=by
 show(flatWs (p.1.map .bl)&&true)=true;rw[w4g]
 induction p.1 with
 |nil=>rfl
 |cons b l ih=>exact ih
theorem x16:∀s:List Pr,flatWs (s.map encPr)=true
 |[]=>rfl
 |p::s=>by show(flatW (encPr p)&&flatWs (s.map encPr))=true;rw[y4x,x16 s];rfl
theorem x3m(c:Mc):flatTN [.int (c.m:Int),.int (c.wide:Int)] (inn c)=true:=by
 show(true&&(inn c).all flatWs)=true;rw[w1w,w0o];intro l hl;unfold inn at hl;obtain⟨s,_,rfl⟩:=w0z.mp hl;exact x16 s
theorem x7d:∀l:List (Int×Int),keysOfP shN (l.map fun x=>.tup [encI x,.bl true])=some (l.map keyI)
 |[]=>rfl
 |x::l=>by
  show(match keyT (encI x),keysOfP shN (l.map fun x=>.tup [encI x,.bl true])with
   |some k,some ks=>if fits k shN then some (k::ks)else none
   |_,_=>none)=_
  rw[x7d l,q71];exact if_pos (q6w x)
theorem q94:∀l:List (Int×Int),pairsW (l.map encI)=some (l.map fun x=>(.int x.1,.int x.2))
 |[]=>rfl
 |x::l=>by
  show(pairsW (l.map encI)).map ((W.int x.1,W.int x.2)::·)=_;rw[q94 l];rfl
theorem x3n(r:Nat->List W->FR):∀l:List (Int×Int),compD dYes (q4m K a r) [] (l.map encI)=some (l.map fun x=>.tup [encI x,.bl true])
 |[]=>rfl
 |x::l=>by
  show(compD dYes (q4m K a r) [] (l.map encI)).map (W.tup [encI x,.bl true]::·)=_;rw[x3n r l];rfl
theorem x7e(n:Nat)(c d:Mc){l:List (Int×Int)}(hl:l.length<10000):run K a (n+1) q10 [encMc c,encMc d,.lst (l.map encI)]=.ok (.fr (.bl (goodI c d l))):=by
 rw[q4q];unfold q4i;walk_at "den"
 have ek:S.dw shN (addKs (l.map keyI) []) (trues (addKs (l.map keyI) []))=knS (addI l []):=by
  have:=x3g l [];rw[w3c]at this;rw[this];rfl
 rw[w0a,if_pos (by omega),x3n];walk_at "den";rw[y4l (x7d l) (by rw[w0a];omega),ek];walk_at "den";rw[q94];walk_at "den";rw[<- y4w];rcases x3l (K:=K) (a:=a) (run K a n) c d (.lst (l.map encI)) (addI l []) l .no .no .no .no rfl rfl rfl rfl with⟨h1,z4,z5,z6,z7,⟨k4,k5,k6,k7⟩,e⟩|⟨h1,e',e⟩
 ·rw[e,h1,w1w];unfold knS;walk_at "den";rw[if_pos (by simp only[w1o,w4o,k4,k5,k6,k7];rfl)];walk_at "den";rw[show W.dw false shN ((addI l []).map keyI) (trues ((addI l []).map keyI))=knW false (addI l [])from rfl,show W.tup [.int 0,.int 0]=encI (0,0)from rfl,in_I];walk_at "den"
 ·rw[e,h1,w1t];walk_at "den"
def toI(x:Nat×Nat):Int×Int:=((x.1:Int),(x.2:Int))
theorem y4y{y:Nat×Nat}(h:toI x=toI y):x=y:=by
 have h1:((x.1:Nat):Int)=(y.1:Int):=congrArg Prod.fst h;have h2:((x.2:Nat):Int)=(y.2:Int):=congrArg Prod.snd h;exact Prod.ext (by omega) (by omega)
theorem mem_toI:toI x∈l.map toI↔x∈l:=
 ⟨fun h=>by obtain⟨y,h1,h2⟩:=w0z.mp h;rw[<- y4y h2];exact h1,w3h⟩
structure Cm(c d:Mc)(l:List (Nat×Nat)):Prop where
 nd:l.Nodup
 inp:∀x∈l,InP c d x
 pos:0<l.length
theorem Cm.len{c d:Mc}(T:Two c d)(h:Cm c d l):l.length<=400:=w1c (x67 T h.nd h.inp) (y0z T)
def envM(c d:Mc)(l:List (Nat×Nat))(z4 z5 z6:S):List S:=[.fr (encMc c),.fr (encMc d),.own none ((l.map toI).map encI),knS (l.map toI),z4,z5,z6]
theorem y86(r:Nat->List W->FR){c d:Mc}(T:Two c d)(h:Cm c d l)(z4:S)(h4:isDw z4=false)(p q:Pr)(hp:InP c d (p.2,q.2)):
  ∃t,Cm c d (l++t)/\q3h K a r (envM c d l z4 (.fr (encPr p)) (.fr (encPr q)))=.nx (envM c d (l++t) z4 (.fr (encPr p)) (.fr (encPr q))):=by
 have hl:=h.len T;have ey:W.tup [.int (p.2:Int),.int (q.2:Int)]=encI (toI (p.2,q.2)):=rfl
 have hn:toI (p.2,q.2)∉l.map toI->lkW ((l.map toI).map keyI) (trues ((l.map toI).map keyI)) (keyI (toI (p.2,q.2)))=none:=fun z=>by
  have:=lk_I (x:=toI (p.2,q.2)) (ks:=l.map toI);rw[decide_eq_false z]at this;exact Option.isNone_iff_eq_none.mp (by rw[<- Option.not_isSome,this];rfl)
 unfold q3h envM knS;walk_at "den";rw[q1x];walk_at "den";rw[q1x];walk_at "den";rw[ey,show W.dw false shN ((l.map toI).map keyI) (trues ((l.map toI).map keyI))=knW false (l.map toI)from rfl,x0i];walk_at "den"
 by_cases hin:(p.2,q.2)∈l
 ·rw[decide_eq_true (mem_toI.mpr hin)];walk_at "den";exact⟨[],by rw[w1j];exact h,by rw[w1j]⟩
 ·have hx:toI (p.2,q.2)∉l.map toI:=fun z=>hin (mem_toI.mp z)
  rw[decide_eq_false hx];walk_at "den";rw[q1x];walk_at "den";rw[q1x];walk_at "den";rw[ey,y30 (q71 _) (by rw[w0a,w0a];omega) (by simp only[w3j,w3k,w1o,w4o,h4];rfl) (q6w _) (hn hx)];walk_at "den";rw[q1x];walk_at "den";rw[q1x];walk_at "den";rw[if_pos (by rw[w0a,w0a];omega),ey];refine⟨[(p.2,q.2)],⟨?_,fun x hx=>?_,by rw[w0l];have:=h.pos;omega⟩,?_⟩
  ·refine w2i.mpr ⟨h.nd,by simp,fun a ha b hb e=>?_⟩
   rw[w0q.mp hb]at e;exact hin (e ▸ ha)
  ·rcases w1a.mp hx with z|z
   ·exact h.inp x z
   ·rw[w0q.mp z];exact hp
  ·unfold trues;rw[w0m,w0m,w0m,w0m];rfl
theorem y4z(r:Nat->List W->FR){c d:Mc}(T:Two c d)(h:Cm c d l)(p:Nat)(z5 z6:S)(h5:isDw z5=false)(h6:isDw z6=false):
  ∃l' z5' z6',Cm c d l'/\isDw z5'=false/\isDw z6'=false/\q2u K a r (envM c d l (.fr (.int (p:Int))) z5 z6)=.nx (envM c d l' (.fr (.int (p:Int))) z5' z6'):=by
 have hl:=h.len T
 by_cases hp:p<l.length
 ·obtain⟨x,hx⟩:∃x,l[p]?=some x:=⟨_,w0d hp⟩;have hin:=h.inp x (w0n hx);have hat:atI ((l.map toI).map encI) (p:Int)=some (encI (toI x)):=q19 (by rw[w0j,w0j,hx];rfl)
  have lp:=x1y (i:=5) (j:=6) (b:=q3h K a r) (fun k e=>∃l' z5 z6,Cm c d l'/\isDw z5=false/\isDw z6=false/\e=envM c d l' (.fr (.int (p:Int))) z5 z6) (fun _=>False)
   ((List.range (prod c d).R).map fun r=>(encPr (prAt c x.1 r),encPr (prAt d x.2 r))) 0 (envM c d l (.fr (.int (p:Int))) z5 z6) ⟨l,z5,z6,h,h5,h6,rfl⟩ fun m pr hm e he=>by
    obtain⟨l1,y5,y6,k1,_,_,rfl⟩:=he
    obtain⟨r',hr,rfl⟩:∃r',(List.range (prod c d).R)[m]?=some r'/\(encPr (prAt c x.1 r'),encPr (prAt d x.2 r'))=pr:=by
     rw[w0j]at hm;exact w0e.mp hm
    obtain⟨hlt,rfl⟩:=w0b.mp hr;rw[w4j];rw[w3p]at hlt;obtain⟨t,k2,k3⟩:=y86 (K:=K) (a:=a) r T k1 (.fr (.int (p:Int))) rfl (prAt c x.1 m) (prAt d x.2 m) (T.nx hin hlt);exact .inl ⟨_,k3,_,_,_,k2,rfl,rfl,rfl⟩
  rcases lp with⟨e',h1,l1,y5,y6,k1,k5,k6,rfl⟩|⟨_,_,_,h⟩
  ·refine⟨l1,y5,y6,k1,k5,k6,?_⟩;unfold q2u envM;walk_at "den";rw[if_pos (show(p:Int)<(((l.map toI).map encI).length:Int) by rw[w0a,w0a];omega),q04];walk_at "den";rw[hat];walk_at "den";rw[show ixW (encI (toI x)) (.int 0)=some (.int (x.1:Int))from rfl];walk_at "den";rw[q56 hin.1];walk_at "den";rw[q04];walk_at "den";rw[hat];walk_at "den";rw[show ixW (encI (toI x)) (.int 1)=some (.int (x.2:Int))from rfl];walk_at "den";rw[q56 hin.2];unfold encSt;walk_at "den";rw[y4q T hin];exact h1
  ·exact h.elim
 ·refine⟨l,z5,z6,h,h5,h6,?_⟩;unfold q2u envM;walk_at "den";rw[if_neg (show ¬((p:Int)<(((l.map toI).map encI).length:Int)) by rw[w0a,w0a];omega)]
theorem x7f{i:Int}(h1:0<=i)(h2:i<=1000):mulW (.int i) (.int j)=some (.int (i*j)):=by rw[x5x,if_pos (.inl ⟨by omega,by omega⟩)]
theorem x7g(h1:0<=j)(h2:j<=1000):rng1 [.int j]=some (rangeW 0 j):=by
 show(if okI j=true then some (rangeW 0 j)else none)=_;rw[if_pos (q44 (by omega) (by omega))]
theorem y0e(n:Nat){c d:Mc}(T:Two c d):∃l,Cm c d l/\run K a (n+1) q1z [encMc c,encMc d]=.ok (.own none ((l.map toI).map encI)):=by
 have hs:=y0z T
 obtain⟨e2,h2,l,z4,z5,z6,h3,⟨hz4,hz5,hz6⟩,rfl⟩:=q3p (b:=q2u K a (run K a n)) (i:=4) (lo:=0) (hi:=((c.states.length*d.states.length:Nat):Int)) (c.states.length*d.states.length) (by omega)
  (fun j e=>∃l z4 z5 z6,Cm c d l/\(isDw z4=false/\isDw z5=false/\isDw z6=false)/\e=envM c d l z4 z5 z6)
  (envM c d [(0,0)] .no .no .no) ⟨[(0,0)],.no,.no,.no,⟨by simp,fun x hx=>by rw[w0q.mp hx];exact⟨T.oc.pos,T.od.pos⟩,by simp⟩,⟨rfl,rfl,rfl⟩,rfl⟩ fun j e hj he=>by
   obtain⟨l1,y4,y5,y6,k1,⟨_,k5,k6⟩,rfl⟩:=he;rw[Int.zero_add];obtain⟨l2,w5,w6,m1,m5,m6,m7⟩:=y4z (K:=K) (a:=a) (run K a n) T k1 j y5 y6 k5 k6;exact⟨_,m7,l2,_,w5,w6,m1,⟨rfl,m5,m6⟩,rfl⟩
 refine⟨l,h3,?_⟩;have b1:=T.oc.most;have b2:=T.od.most
 have E:∀e:List S,e[0]?=some (.fr (encMc c))->e[1]?=some (.fr (encMc d))->(dCons (dOp mulW (dFn len1 (dCons (dOp ixW (dVar 0) (dC (.int 2))) dNil)) (dFn len1 (dCons (dOp ixW (dVar 1) (dC (.int 2))) dNil))) dNil) e=.ok [.int ((c.states.length*d.states.length:Nat):Int)] e:=fun e h0 h1=>by
  have e1:dFn len1 (dCons (dOp ixW (dVar 0) (dC (.int 2))) dNil) e=.ok (.int (c.states.length:Int)) e:=by
   walk_at "den";rw[h0];walk_at "den";rw[q04];walk_at "den";rw[w0a]
  have e2:dFn len1 (dCons (dOp ixW (dVar 1) (dC (.int 2))) dNil) e=.ok (.int (d.states.length:Int)) e:=by
   walk_at "den";rw[h1];walk_at "den";rw[q04];walk_at "den";rw[w0a]
  rw[x2v,y0u,e1,q5p,e2,q5p,x7f (by omega) (by omega),q8g,q5p,x5q,q5p,w3z]
 have e0:(dSeq (dSetO 2 (dLst (dCons (dTup (dCons (dC (.int 0)) (dCons (dC (.int 0)) dNil))) dNil))) (dSetD2 3 (.inr 0) (.inr 0) (.bl true))) (init 7 [encMc c,encMc d])=.nx (envM c d [(0,0)] .no .no .no):=by
  unfold init;walk_at "den";rfl
 rw[q2s]at e0;rw[q4p,if_pos (show[encMc c,encMc d].length=2 from rfl)];unfold q4h;rw[q2s];cases q:dSetO 2 (dLst (dCons (dTup (dCons (dC (.int 0)) (dCons (dC (.int 0)) dNil))) dNil)) (init 7 [encMc c,encMc d])with
 |nx e1=>
  rw[q,q2i]at e0;rw[q2i,q2s,e0,q2i,q2s,x2w,E _ rfl rfl,x5o,x7g (by omega) (by omega),q9n,h2,q2i];unfold envM;walk_at "den"
 |_=>rw[q]at e0;cases e0
def BdI(x:Int×Int):Prop:=((0<=x.1/\x.1<32)\/x.1=-1\/x.1=1000000000000)/\((0<=x.2/\x.2<32)\/x.2=-1\/x.2=1000000000000)
theorem x0j(l:List (Int×Int))(lo hi:Option Int):∃m:List (Int×Int),cutW (l.map encI) lo hi=m.map encI/\(∀x∈m,x∈l)/\m.length<=l.length:=by
 refine⟨(l.drop (HT.sIx l.length 0 lo)).take (HT.sIx l.length l.length hi-HT.sIx l.length 0 lo),?_,fun x hx=>List.mem_of_mem_drop (w4a hx),?_⟩
 ·unfold cutW;rw[w0a,w4k,List.map_drop]
 ·rw[w2b,w3s];omega
theorem y87{l:List (Int×Int)}{k:Int}(h0:0<=k)(h1:k<(l.length:Int)):∃x∈l,atI (l.map encI) k=some (encI x):=by
 obtain⟨j,rfl⟩:=w1p h0;obtain⟨x,hx⟩:∃x,l[j]?=some x:=⟨_,w0d (by omega)⟩;exact⟨x,w0n hx,q19 (by rw[w0j,hx];rfl)⟩
theorem at4w{w0 w1 w2 w3:W}(h0:0<=j)(h1:j<4):∃w,atI [w0,w1,w2,w3] j=some w/\(w=w0\/w=w1\/w=w2\/w=w3):=by
 have:j=0\/j=1\/j=2\/j=3:=by omega
 rcases this with rfl|rfl|rfl|rfl
 ·exact⟨w0,rfl,.inl rfl⟩
 ·exact⟨w1,rfl,.inr (.inl rfl)⟩
 ·exact⟨w2,rfl,.inr (.inr (.inl rfl))⟩
 ·exact⟨w3,rfl,.inr (.inr (.inr rfl))⟩
theorem x4u(n:Nat){c d:Mc}(T:Two c d){l:List (Int×Int)}(h0:0<l.length)(h1:l.length<=500)(hb:∀x∈l,BdI x)(cell:Int):
  ∃m:List (Int×Int),m.length<=1100/\(∀x∈m,BdI x)/\run K a (n+1) q1c [encMc c,encMc d,.lst (l.map encI),.int cell]=.ok (.fr (.lst (m.map encI))):=by
 have m1:=T.oc.most;have m2:=T.od.most;have p1:=T.oc.pos;have p2:=T.od.pos;have hpos:(0:Int)<(l.length:Int):=by omega
 obtain⟨x,hx,hat⟩:=y87 (l:=l) (k:=cell / 4%(l.length:Int)) (w1l _ (by omega)) (w1i _ hpos);have hk0:=w1l (cell / 4) (show(l.length:Int)≠0 by omega);have bx:=hb x hx;obtain⟨l1,e1,g1,f1⟩:=x0j l none (some (cell / 4%(l.length:Int)));obtain⟨l2,e2,g2,f2⟩:=x0j l (some (cell / 4%(l.length:Int)+1)) none;obtain⟨l3,e3,g3,f3⟩:=x0j l (some (cell / 4%(l.length:Int))) none
 have app:∀(u v:List (Int×Int)),u.length<=500->v.length<=500->(∀x∈u,BdI x)->(∀x∈v,BdI x)->∀y,BdI y->(u++[y]++v).length<=1100/\(∀x∈u++[y]++v,BdI x):=fun u v hu hv bu bv y by'=>⟨by simp;omega,fun z hz=>by
  rcases w1a.mp hz with hz|hz
  ·rcases w1a.mp hz with hz|hz
   ·exact bu z hz
   ·rw[w0q.mp hz];exact by'
  ·exact bv z hz⟩
 have b1:∀x∈l1,BdI x:=fun x h=>hb x (g1 x h)
 have b2:∀x∈l2,BdI x:=fun x h=>hb x (g2 x h)
 have b3:∀x∈l3,BdI x:=fun x h=>hb x (g3 x h)
 rw[q32];unfold q3i;walk_at "den";rw[w0a,if_pos hpos];walk_at "den";rw[hat];unfold encI at hat |-
 walk_at "den";have c4:cell%4=0\/cell%4=1\/cell%4=2\/cell%4=3:=by omega
 have enc:∀m:List (Int×Int),List.map (fun x:Int×Int=>W.tup [.int x.1,.int x.2]) m=m.map encI:=fun m=>rfl
 rcases c4 with h|h|h|h
 ·rw[h];walk_at "den";exact⟨l,by omega,hb,rfl⟩
 ·rw[h];walk_at "den";rw[enc,e1,e2,w0a,w0a,if_pos (by omega)];walk_at "den";refine⟨l1++l2,by rw[w0l];omega,fun z hz=>(w1a.mp hz).elim (b1 z) (b2 z),?_⟩
  rw[w0m];rfl
 ·rw[h];walk_at "den";rw[q04];walk_at "den";rw[q04];walk_at "den";obtain⟨w,hw,ww⟩:=at4w (w0:=.int (-1)) (w1:=.int ((c.states.map encSt).length:Int)) (w2:=.int ((d.states.map encSt).length:Int)) (w3:=.int 1000000000000) (j:=cell / 400%4) (by omega) (by omega)
  obtain⟨far,rfl,bf⟩:∃far:Int,w=.int far/\((0<=far/\far<32)\/far=-1\/far=1000000000000):=by
   rw[w0a,w0a]at ww;rcases ww with rfl|rfl|rfl|rfl
   ·exact⟨_,rfl,.inr (.inl rfl)⟩
   ·exact⟨_,rfl,.inl ⟨by omega,by omega⟩⟩
   ·exact⟨_,rfl,.inl ⟨by omega,by omega⟩⟩
   ·exact⟨_,rfl,.inr (.inr rfl)⟩
  rw[hw];walk_at "den";rw[q04];walk_at "den";rw[w0a,if_pos (show(0:Int)<(c.states.length:Int) by omega)];walk_at "den";rw[q04];walk_at "den";rw[w0a,if_pos (show(0:Int)<(d.states.length:Int) by omega)];walk_at "den";have s1:=w1l (cell / 1600) (show(c.states.length:Int)≠0 by omega);have s2:=w1i (cell / 1600) (show(0:Int)<(c.states.length:Int) by omega);have s3:=w1l (cell / 1600) (show(d.states.length:Int)≠0 by omega);have s4:=w1i (cell / 1600) (show(0:Int)<(d.states.length:Int) by omega);obtain⟨v,hv,vv⟩:=at4w (w0:=encI (cell / 1600%(c.states.length:Int),x.2)) (w1:=encI (x.1,cell / 1600%(d.states.length:Int))) (w2:=encI (far,x.2)) (w3:=encI (x.1,far)) (j:=cell / 100%4) (by omega) (by omega)
  obtain⟨y,rfl,by'⟩:∃y,v=encI y/\BdI y:=by
   rcases vv with rfl|rfl|rfl|rfl
   ·exact⟨_,rfl,.inl ⟨s1,by omega⟩,bx.2⟩
   ·exact⟨_,rfl,bx.1,.inl ⟨s3,by omega⟩⟩
   ·exact⟨_,rfl,bf,bx.2⟩
   ·exact⟨_,rfl,bx.1,bf⟩
  unfold encI at hv;rw[enc,e1,hv];walk_at "den";rw[w0a,if_pos (by omega)];walk_at "den";rw[e2,w0l,w0a,w0a,if_pos (by simp;omega)];obtain⟨k1,k2⟩:=app l1 l2 (by omega) (by omega) b1 b2 y by'
  refine⟨_,k1,k2,?_⟩;rw[w0m,w0m];walk_at "den";rfl
 ·rw[h];walk_at "den";rw[q04];walk_at "den";rw[w0a,if_pos (show(0:Int)<(c.states.length:Int)+2 by omega)];walk_at "den";rw[q04];walk_at "den";rw[w0a,if_pos (show(0:Int)<(d.states.length:Int)+2 by omega)];walk_at "den";have s1:=w1l (cell / 400) (show(c.states.length:Int)+2≠0 by omega);have s2:=w1i (cell / 400) (show(0:Int)<(c.states.length:Int)+2 by omega);have s3:=w1l (cell / 10000) (show(d.states.length:Int)+2≠0 by omega);have s4:=w1i (cell / 10000) (show(0:Int)<(d.states.length:Int)+2 by omega);obtain⟨y,ey,by'⟩:∃y:Int×Int,W.tup [.int (cell / 400%((c.states.length:Int)+2)-1),.int (cell / 10000%((d.states.length:Int)+2)-1)]=encI y/\BdI y:=⟨(_,_),rfl,by show _\/_;simp only[];omega,by show _\/_;simp only[];omega⟩;rw[enc,e1,ey,w0a,if_pos (by omega)];walk_at "den";rw[e3,w0l,w0a,w0a,if_pos (by simp;omega)];obtain⟨k1,k2⟩:=app l1 l3 (by omega) (by omega) b1 b3 y by'
  refine⟨_,k1,k2,?_⟩;rw[w0m,w0m];walk_at "den";rfl
theorem x7h:∀l:List (Int×Int),flatWs (l.map encI)=true
 |[]=>rfl
 |x::l=>by show(flatW (encI x)&&flatWs (l.map encI))=true;rw[x7h l];rfl
theorem x3o{i:Int}(h:(0<=i/\i<32)\/i=-1\/i=1000000000000):plX (.int i)=true/\wgt (.int i)<=100:=by
 refine⟨decide_eq_true h,?_⟩;rcases h with h|rfl|rfl
 ·obtain⟨k,rfl⟩:=w1p h.1;have:=q65 (n:=k) (by omega);exact w1c this (by decide)
 ·exact wgtX.1
 ·exact wgtX.2
theorem x3p:∀l:List (Int×Int),(∀x∈l,BdI x)->plXs (l.map encI)=true/\depWs (l.map encI)<=1/\wgts (l.map encI)<=203*l.length
 |[],_=>⟨rfl,w1b _,w1b _⟩
 |x::l,h=>by
  obtain⟨i1,i2,i3⟩:=x3p l fun q hq=>h q (w0k _ hq)
  obtain⟨b1,b2⟩:=h x w1d;obtain⟨p1,w1⟩:=x3o b1;obtain⟨p2,w2⟩:=x3o b2;refine⟨?_,?_,?_⟩
  ·show((plX (.int x.1)&&(plX (.int x.2)&&true))&&plXs (l.map encI))=true;rw[p1,p2,i1];rfl
  ·show max 1 (depWs (l.map encI))<=1;omega
  ·show(wgt (.int x.1)+1+(wgt (.int x.2)+1+0))+1+wgts (l.map encI)<=203*(l.length+1);omega
theorem y0f(c d:Mc)(hc:c.Ok)(hd:d.Ok){l:List (Int×Int)}(hl:l.length<=1100)(h:∀x∈l,BdI x):∃x:Str,repr1 [.lst [encMc c,encMc d,.lst (l.map encI)]]=some (.str x):=by
 obtain⟨a1,a2,a3⟩:=q93 c hc;obtain⟨b1,b2,b3⟩:=q93 d hd;obtain⟨c1,c2,c3⟩:=x3p l h;refine x64 ?_ ?_ ?_
 ·show(plX (encMc c)&&(plX (encMc d)&&(plXs (l.map encI)&&true)))=true;rw[x1m _ a1,x1m _ b1,c1];rfl
 ·show max (depW (encMc c)) (max (depW (encMc d)) (max (depWs (l.map encI)+1) 0))<=90;omega
 ·show wgt (encMc c)+1+(wgt (encMc d)+1+(wgts (l.map encI)+1+0))<=1000000;omega
theorem y40(c d:Mc)(l:List W):clrW [(false,2)] (.lst [encMc c,encMc d,.lst l])=some (.lst [encMc c,encMc d,.lst []]):=rfl
theorem y41(c d:Mc)(l:List W):clrW [(false,0),(true,2)] (.lst [encMc c,encMc d,.lst l])=some (.lst [.tup [.int (c.m:Int),.int (c.wide:Int),.lst []],encMc d,.lst l]):=rfl
theorem y0g(M:Exs K mg a)(R:Nat->List W->FR)(A:W)(cell:Int){c d:Mc}(T:Two c d){l:List (Int×Int)}{b:Bool}(hcl:R q13 [encMc c,encMc d,.lst (l.map encI)]=.ok (.fr (.bl b)))(hc0:R q13 [encMc c,encMc d,.lst []]=.ok (.fr (.bl false)))
  (hg:R q10 [encMc c,encMc d,.lst (l.map encI)]=.ok (.fr (.bl b))){s:Str}(hs:repr1 [.lst [encMc c,encMc d,.lst (l.map encI)]]=some (.str s))(hc:∀c:Mc,c.Ok->R q08 [encMc c]=.ok (.x (.tn [.int (c.m:Int),.int (c.wide:Int)] (inn c)))):
  ∃e',q5u K a R [.x (.old A),.x (.old (encMc c)),.x (.old (encMc d)),.x (.old (.int cell)),.x (.old (.lst (l.map encI))),.x (.fzo (.lst [encMc c,encMc d,.lst (l.map encI)])),.no,.no]=.rt (.fr (.bl true)) e'/\e'.length=8:=by
 unfold q5u;walk_at "den";rw[hcl];walk_at "den";rw[x8g M.t_bool_bool];walk_at "den";rw[hs];walk_at "den";rw[hs];walk_at "den";rw[hg];walk_at "den";rw[q6t (y40 c d _) (by rfl)];walk_at "den";rw[hc0];walk_at "den";rw[q6t (y41 c d _) (by rfl)];walk_at "den";rw[hc c T.oc];walk_at "den";rw[hc d T.od];walk_at "den";rw[q7y,q7y,hcl];walk_at "den";exact⟨_,rfl,rfl⟩
theorem y0h(M:Exs K mg a)(R:Nat->List W->FR)(A:W){c d:Mc}(T:Two c d){cell cell2:Int}{b:List (Int×Int)->Bool}(hcl:∀l:List (Int×Int),l.length<10000->R q13 [encMc c,encMc d,.lst (l.map encI)]=.ok (.fr (.bl (b l))))(hb0:b []=false)
  (hg:∀l:List (Int×Int),l.length<10000->R q10 [encMc c,encMc d,.lst (l.map encI)]=.ok (.fr (.bl (b l))))(hc:∀c:Mc,c.Ok->R q08 [encMc c]=.ok (.x (.tn [.int (c.m:Int),.int (c.wide:Int)] (inn c))))
  (h21:R q0k [A,.int 21]=.ok (.fr (.int cell)))(h22:R q0k [A,.int 22]=.ok (.fr (.int cell2)))
  (hm:∃l,Cm c d l/\R q1z [encMc c,encMc d]=.ok (.own none ((l.map toI).map encI)))
  (hsp:∀l:List (Int×Int),0<l.length->l.length<=500->(∀x∈l,BdI x)->∃m:List (Int×Int),m.length<=1100/\(∀x∈m,BdI x)/\R q1c [encMc c,encMc d,.lst (l.map encI),.int cell2]=.ok (.fr (.lst (m.map encI)))):
  ∃e',q4u K a R [.fr A,.fr (encMc c),.fr (encMc d),.no,.no,.no,.no,.no]=.rt (.fr (.bl true)) e'/\e'.length=8:=by
 obtain⟨l,C,hm⟩:=hm;have hl:=C.len T;have hpos:=C.pos
 have hbd:∀x∈l.map toI,BdI x:=fun x hx=>by
  obtain⟨y,hy,rfl⟩:=w0z.mp hx;have i:=C.inp y hy;have m1:=T.oc.most;have m2:=T.od.most;have i1:=i.1;have i2:=i.2;exact⟨.inl ⟨by show(0:Int)<=(y.1:Int);omega,by show(y.1:Int)<32;omega⟩,.inl ⟨by show(0:Int)<=(y.2:Int);omega,by show(y.2:Int)<32;omega⟩⟩
 have fin:∀l1:List (Int×Int),0<l1.length->l1.length<=500->(∀x∈l1,BdI x)->∃e',(dSeq (dSet 4 (dCall (R q1c) (dCons (dVar 1) (dCons (dVar 2) (dCons (dVar 4) (dCons (dCall (R q0k) (dCons (dVar 0) (dCons (dC (.int 22)) dNil))) dNil)))))) (dSeq (dSetFz3 5 1 2 4 (R q08)) (dBase (q5u K a R)))) [.fr A,.fr (encMc c),.fr (encMc d),.fr (.int cell),.fr (.lst (l1.map encI)),.no,.no,.no]=.rt (.fr (.bl true)) e'/\e'.length=8:=fun l1 k1 k2 k3=>by
  obtain⟨m,q1,q2,q3⟩:=hsp l1 k1 k2 k3;obtain⟨s,hs⟩:=y0f c d T.oc T.od q1 q2;obtain⟨e',tl,el⟩:=y0g (K:=K) (a:=a) M R A cell T (hcl m (by omega)) (by have:=hcl [] (by simp);rw[hb0]at this;exact this) (hg m (by omega)) hs hc;refine⟨e'.map fun _=>.no,?_,by rw[w0a];exact el⟩
  walk_at "den";rw[h22];walk_at "den";rw[q3];walk_at "den";rw[x93 (u1:=encMc c) (u2:=encMc d) (by rw[hc c T.oc,x1j (x3m c),y00]) (by rw[hc d T.od,x1j (x3m d),y00]) (x7h m)];walk_at "den";rw[tl];rfl
 have c2:cell%2=0\/cell%2=1:=by omega
 have c3:cell / 2%2=0\/cell / 2%2=1:=by omega
 have go:∀l1:List (Int×Int),0<l1.length->l1.length<=400->(∀x∈l1,BdI x)->∃e',(dSeq (dIfS (dTest (dOp eq2 (dOp modW (dOp fdivW (dVar 3) (dC (.int 2))) (dC (.int 2))) (dC (.int 1))))
   (dSet 4 (dOp addX (dVar 4) (dSlX (dVar 4) dNoPart (dPart (dC (.int 1)))))) dNx) (dSeq (dSet 4 (dCall (R q1c) (dCons (dVar 1) (dCons (dVar 2) (dCons (dVar 4) (dCons (dCall (R q0k) (dCons (dVar 0) (dCons (dC (.int 22)) dNil))) dNil)))))) (dSeq (dSetFz3 5 1 2 4 (R q08)) (dBase (q5u K a R))))) [.fr A,.fr (encMc c),.fr (encMc d),.fr (.int cell),.fr (.lst (l1.map encI)),.no,.no,.no]=.rt (.fr (.bl true)) e'/\e'.length=8:=fun l1 k1 k2 k3=>by
  rw[q2s];rcases c3 with h|h
  ·obtain⟨e',z1,z2⟩:=fin l1 k1 (by omega) k3;refine⟨e',?_,z2⟩
   rw[show(dIfS (dTest (dOp eq2 (dOp modW (dOp fdivW (dVar 3) (dC (.int 2))) (dC (.int 2))) (dC (.int 1)))) (dSet 4 (dOp addX (dVar 4) (dSlX (dVar 4) dNoPart (dPart (dC (.int 1)))))) dNx) [.fr A,.fr (encMc c),.fr (encMc d),.fr (.int cell),.fr (.lst (l1.map encI)),.no,.no,.no]=.nx [.fr A,.fr (encMc c),.fr (encMc d),.fr (.int cell),.fr (.lst (l1.map encI)),.no,.no,.no] by
    walk_at "den";rw[h];walk_at "den"]
   exact z1
  ·obtain⟨m,e1,e2,e3⟩:=x0j l1 none (some 1)
   obtain⟨e',z1,z2⟩:=fin (l1++m) (by rw[w0l];omega) (by
    have:m.length<=1:=by
     have e4:=congrArg List.length e1;unfold cutW at e4;rw[w2b,w0a,w0a]at e4;have:HT.sIx l1.length l1.length (some 1)<=1:=by unfold HT.sIx;simp;omega
     omega
    rw[w0l];omega) fun x hx=>(w1a.mp hx).elim (k3 x) fun z=>k3 x (e2 x z)
   refine⟨e',?_,z2⟩
   rw[show(dIfS (dTest (dOp eq2 (dOp modW (dOp fdivW (dVar 3) (dC (.int 2))) (dC (.int 2))) (dC (.int 1)))) (dSet 4 (dOp addX (dVar 4) (dSlX (dVar 4) dNoPart (dPart (dC (.int 1)))))) dNx) [.fr A,.fr (encMc c),.fr (encMc d),.fr (.int cell),.fr (.lst (l1.map encI)),.no,.no,.no]=.nx [.fr A,.fr (encMc c),.fr (encMc d),.fr (.int cell),.fr (.lst ((l1++m).map encI)),.no,.no,.no] by
    walk_at "den";rw[h];walk_at "den";rw[e1,w0a,w0a,if_pos (by omega),w0m];walk_at "den"]
   exact z1
 unfold q4u
 rw[q2s,show dSet 3 (dCall (R q0k) (dCons (dVar 0) (dCons (dC (.int 21)) dNil))) [.fr A,.fr (encMc c),.fr (encMc d),.no,.no,.no,.no,.no]=.nx [.fr A,.fr (encMc c),.fr (encMc d),.fr (.int cell),.no,.no,.no,.no] by
  walk_at "den";rw[h21];walk_at "den", q2i,q2s,show dSet 4 (dCall (R q1z) (dCons (dVar 1) (dCons (dVar 2) dNil))) [.fr A,.fr (encMc c),.fr (encMc d),.fr (.int cell),.no,.no,.no,.no]=.nx [.fr A,.fr (encMc c),.fr (encMc d),.fr (.int cell),.fr (.lst ((l.map toI).map encI)),.no,.no,.no] by
  walk_at "den";rw[hm];walk_at "den", q2i,q2s]
 rcases c2 with h|h
 ·rw[show(dIfS (dTest (dOp eq2 (dOp modW (dVar 3) (dC (.int 2))) (dC (.int 1)))) (dSet 4 (dRevS (dVar 4) (dPart (dUn negW (dC (.int 1)))))) dNx) [.fr A,.fr (encMc c),.fr (encMc d),.fr (.int cell),.fr (.lst ((l.map toI).map encI)),.no,.no,.no]=.nx [.fr A,.fr (encMc c),.fr (encMc d),.fr (.int cell),.fr (.lst ((l.map toI).map encI)),.no,.no,.no] by
   walk_at "den";rw[h];walk_at "den", q2i]
  exact go _ (by rw[w0a];exact hpos) (by rw[w0a];exact hl) hbd
 ·rw[show(dIfS (dTest (dOp eq2 (dOp modW (dVar 3) (dC (.int 2))) (dC (.int 1)))) (dSet 4 (dRevS (dVar 4) (dPart (dUn negW (dC (.int 1)))))) dNx) [.fr A,.fr (encMc c),.fr (encMc d),.fr (.int cell),.fr (.lst ((l.map toI).map encI)),.no,.no,.no]=.nx [.fr A,.fr (encMc c),.fr (encMc d),.fr (.int cell),.fr (.lst ((l.map toI).reverse.map encI)),.no,.no,.no] by
   walk_at "den";rw[h];walk_at "den";rw[w3t],q2i]
  exact go _ (by rw[w2s,w0a];exact hpos) (by rw[w2s,w0a];exact hl) fun x hx=>hbd x (List.mem_reverse.mp hx)
theorem y0i(c d:Mc):goodI c d []=false:=by rfl
theorem y0j(M:Exs K mg a)(ns:List Int)(hl:ns.length<=63):runLaw K a 147 [.lst (ns.map .int)]=.ok (.fr (.bl true)):=by
 obtain⟨c,hc,mr⟩:=q7h (K:=K) (a:=a) 147 ns 0;have mr:run K a 150 q01 [.lst (ns.map .int),.int 0]=.ok (.fr (encMc c)):=mr;have so:=fun o=>y81 (K:=K) (a:=a) ns c hc o
 have cp:∀c:Mc,c.Ok->run K a 150 q08 [encMc c]=.ok (.x (.tn [.int (c.m:Int),.int (c.wide:Int)] (inn c))):=fun c hc=>x98 (K:=K) (a:=a) 149 c hc
 have h21:run K a 150 q0k [.lst (ns.map .int),.int 21]=_:=q4b (K:=K) (a:=a) 149 ns (k:=21) (by omega);have h22:run K a 150 q0k [.lst (ns.map .int),.int 22]=_:=q4b (K:=K) (a:=a) 149 ns (k:=22) (by omega);have kc:∀d,Two c d->∀l:List (Int×Int),l.length<10000->run K a 150 q13 [encMc c,encMc d,.lst (l.map encI)]=.ok (.fr (.bl (goodI c d l))):=fun d T l h=>y4u (K:=K) (a:=a) 145 T h
 have kg:∀d,Two c d->∀l:List (Int×Int),l.length<10000->run K a 150 q10 [encMc c,encMc d,.lst (l.map encI)]=.ok (.fr (.bl (goodI c d l))):=fun d T l h=>x7e (K:=K) (a:=a) 149 c d h
 have km:∀d,Two c d->∃l,Cm c d l/\run K a 150 q1z [encMc c,encMc d]=.ok (.own none ((l.map toI).map encI)):=fun d T=>y0e (K:=K) (a:=a) 149 T
 have ks:∀d,Two c d->∀(cell:Int)(l:List (Int×Int)),0<l.length->l.length<=500->(∀x∈l,BdI x)->∃m:List (Int×Int),m.length<=1100/\(∀x∈m,BdI x)/\run K a 150 q1c [encMc c,encMc d,.lst (l.map encI),.int cell]=.ok (.fr (.lst (m.map encI))):=fun d T cell l h0 h1 hb=>x4u (K:=K) (a:=a) 149 T h0 h1 hb cell
 unfold runLaw;rw[if_pos (show[W.lst (ns.map .int)].length=1 from rfl)];refine x9p (n:=8) fun o r hr=>?_
 generalize run K a (147+3)=R at *;unfold x4r seqD at hr
 have e1:(dSet 1 (dCall (R q01) (dCons (dVar 0) (dCons (dC (.int 0)) dNil)))) (init 8 [.lst (ns.map .int)])=.nx [.fr (.lst (ns.map .int)),.fr (encMc c),.no,.no,.no,.no,.no,.no]:=by
  unfold init;walk_at "den";rw[mr];walk_at "den"
 rw[e1]at hr;unfold seqC dSec at hr
 have e2:(dCons (dVar 0) (dCons (dVar 1) dNil)) [.fr (.lst (ns.map .int)),.fr (encMc c),.no,.no,.no,.no,.no,.no]=.ok [.lst (ns.map .int),encMc c] [.fr (.lst (ns.map .int)),.fr (encMc c),.no,.no,.no,.no,.no,.no]:=by
  walk_at "den"
 simp only[e2]at hr;rcases so o with z|⟨d,T,z⟩
 ·rw[z]at hr;cases hr
 ·rw[z]at hr;obtain⟨e',h1,h2⟩:=y0h (K:=K) (a:=a) M R (.lst (ns.map .int)) T (kc d T) (y0i c d) (kg d T) cp h21 h22 (km d T) (ks d T _);have hr:some (q4u K a R [.fr (.lst (ns.map .int)),.fr (encMc c),.fr (encMc d),.no,.no,.no,.no,.no])=some r:=hr;rw[h1]at hr;cases hr;exact⟨e',rfl,h2⟩
theorem walk{l:PySem.W.OpenLaw}{q:Program}{loose:List Str}{XP:(Str->Option Value)->Heap->Prop}{YP:World->Heap->Prop}{d:DefRec}{K:Params->Fg}{tabs:List (Addr×Str)}(hn:l.most=some 63)(hdf:d.params.defaults=[])
  (hY:∀(w:World)(h:Heap),YP w h->(K w.params).In h)(hT:∀(w:World)(h:Heap),YP w h->∀P∈tabs.map (·.1),h.get? P=some (tabObj #[]))
  (hG:∀w:World,((D.dropT (K w.params)).lookup mainGlobals).isSome=true)(hNM:∀w:World,noMark (K w.params)=true)(hd:tabs.all (fun p=>tabs.lookup p.1==some p.2)=true)
  (hK:∀w:World,tabs.all (fun p=>((D.dropT (K w.params)).lookup p.1).isNone)=true)(hc:∀w:World,∀p∈tabs,∃c,codeHdIn (K w.params) c p.1=true)
  (F:∀(w:World)(mg:Str->Option Value)(fa:Addr)(h:Heap),(D.markT (D.dropT (K w.params)) tabs).In h->h.Ns mainGlobals mg->mg d.name=some (.ref fa) ->
   ∃fd:FuncData,(∀(s:Shared)(u:Value),BindsTo s fd ⟨[u],[]⟩ [("_law_script", u)])/\∀base:Heap,(D.markT (D.dropT (K w.params)) tabs).In base->base.Ns mainGlobals mg->BMain base mg->FnOk l.prog w (D.markT (D.dropT (K w.params)) tabs) mg base (CX1 l.prog w) 151 fa fd ["_law_script"] (spLaw (D.markT (D.dropT (K w.params)) tabs))):
  PySem.W.WalkO q loose XP YP l.row.toRowW d [] (fun f vs=>PySem.call f vs):=
 L2.x9i (K:=fun p=>D.markT (D.dropT (K p)) tabs) (tabs:=tabs) (n:=63) (k:=151) (x:="_law_script") (CX:=fun w=>CX1 l.prog w) (sp:=fun w=>spLaw (D.markT (D.dropT (K w.params)) tabs)) hn (by decide) hdf ⟨rfl,by decide,by decide,rfl⟩ (fun w h Y=>D.in_m (hG w) (D.x9g (hY w h Y))) F (fun _ _ a ns hl hS=>⟨a,ns,rfl,hS,hl,fun _=>rfl⟩) (fun _ _ _ _ _ z=>y6a z)
  (fun w=>D.x4o (D.x2c (hNM w)) hd) (fun w h Y=>D.y32 (hY w h Y) (hT w h Y) (hc w)) (fun w=>D.tabs_none (hG w) (hK w))
end Q
open PySem PySem.W PyProof.Rows
set_option maxRecDepth 100000 in
set_option maxHeartbeats 0 in
theorem PySem.Challenge.cw_circuits_k61_closed_holds : PySem.Challenge.rw_circuits_k61_closed.Holds := by
 w_on; o_law; k_head; (case hw => w_witness2)
 k_fill
 refine Q.walk (l := PySem.Challenge.rw_circuits_k61_closed) (tabs := [(145, ("_law_second" ++ ".<locals>.") ++ "<lambda>")]) rfl rfl (fun w h Y => PySem.W.km_in_of Y) (fun w h Y => PySem.W.km_tabs_of Y) (fun w => by kernel_rfl) (fun w => by kernel_rfl) (by decide +kernel) (fun w => by kernel_rfl) (fun w => List.forall_mem_cons.mpr ⟨⟨147, by kernel_rfl⟩, fun _ h => nomatch h⟩) ?F
 case F =>
  intro w mg fa h KX G hmg;refine' Q.mk KX G hmg ?a0 ?l0 ?c0 ?k0 ?a1 ?l1 ?c1 ?k1 ?a2 ?l2 ?c2 ?k2 ?a3 ?l3 ?c3 ?k3 ?a4 ?l4 ?c4 ?k4 ?a5 ?l5 ?c5 ?k5 ?a6 ?l6 ?c6 ?k6 ?a7 ?l7 ?c7 ?k7 ?a8 ?l8 ?c8 ?k8 ?a9 ?l9 ?c9 ?k9 ?a10 ?l10 ?c10 ?k10 ?a11 ?l11 ?c11 ?k11 ?a12 ?l12 ?c12 ?k12 ?a13 ?l13 ?c13 ?k13 ?a14 ?l14 ?c14 ?k14 ?a15 ?l15 ?c15 ?k15 ?a16 ?l16 ?c16 ?k16 ?a17 ?l17 ?c17 ?k17 ?a18 ?l18 ?c18 ?k18 ?v14 ?h14 ?m14 ?n_CircuitError ?n_UnlikeSizes ?n_NoMachine ?z_all ?z_bool ?z_dict ?z_int ?z_isinstance ?z_len ?z_list ?z_min ?z_range ?z_repr ?z_sorted ?z_tuple ?z_zip ?t_NoneType_bool ?t_bool_bool ?t_int_bool ?t_str_bool ?t_tuple_bool ?t_list_bool ?nt 147 ?hL
  (case a0 => exact D.ns_m (D.q0i (by k_is) (by kernel_rfl)))
  (case l0 => exact D.q1a (D.q0p (by k_is) (by kernel_rfl)))
  (case c0 => exact D.q1j (D.q0r (by k_is) (by kernel_rfl)))
  (case k0 => exact D.q1k (by kernel_rfl))
  (case a1 => exact D.ns_m (D.q0i (by k_is) (by kernel_rfl)))
  (case l1 => exact D.q1a (D.q0p (by k_is) (by kernel_rfl)))
  (case c1 => exact D.q1j (D.q0r (by k_is) (by kernel_rfl)))
  (case k1 => exact D.q1k (by kernel_rfl))
  (case a2 => exact D.ns_m (D.q0i (by k_is) (by kernel_rfl)))
  (case l2 => exact D.q1a (D.q0p (by k_is) (by kernel_rfl)))
  (case c2 => exact D.q1j (D.q0r (by k_is) (by kernel_rfl)))
  (case k2 => exact D.q1k (by kernel_rfl))
  (case a3 => exact D.ns_m (D.q0i (by k_is) (by kernel_rfl)))
  (case l3 => exact D.q1a (D.q0p (by k_is) (by kernel_rfl)))
  (case c3 => exact D.q1j (D.q0r (by k_is) (by kernel_rfl)))
  (case k3 => exact D.q1k (by kernel_rfl))
  (case a4 => exact D.ns_m (D.q0i (by k_is) (by kernel_rfl)))
  (case l4 => exact D.q1a (D.q0p (by k_is) (by kernel_rfl)))
  (case c4 => exact D.q1j (D.q0r (by k_is) (by kernel_rfl)))
  (case k4 => exact D.q1k (by kernel_rfl))
  (case a5 => exact D.ns_m (D.q0i (by k_is) (by kernel_rfl)))
  (case l5 => exact D.q1a (D.q0p (by k_is) (by kernel_rfl)))
  (case c5 => exact D.q1j (D.q0r (by k_is) (by kernel_rfl)))
  (case k5 => exact D.q1k (by kernel_rfl))
  (case a6 => exact D.ns_m (D.q0i (by k_is) (by kernel_rfl)))
  (case l6 => exact D.q1a (D.q0p (by k_is) (by kernel_rfl)))
  (case c6 => exact D.q1j (D.q0r (by k_is) (by kernel_rfl)))
  (case k6 => exact D.q1k (by kernel_rfl))
  (case a7 => exact D.ns_m (D.q0i (by k_is) (by kernel_rfl)))
  (case l7 => exact D.q1a (D.q0p (by k_is) (by kernel_rfl)))
  (case c7 => exact D.q1j (D.q0r (by k_is) (by kernel_rfl)))
  (case k7 => exact D.q1k (by kernel_rfl))
  (case a8 => exact D.ns_m (D.q0i (by k_is) (by kernel_rfl)))
  (case l8 => exact D.q1a (D.q0p (by k_is) (by kernel_rfl)))
  (case c8 => exact D.q1j (D.q0r (by k_is) (by kernel_rfl)))
  (case k8 => exact D.q1k (by kernel_rfl))
  (case a9 => exact D.ns_m (D.q0i (by k_is) (by kernel_rfl)))
  (case l9 => exact D.q1a (D.q0p (by k_is) (by kernel_rfl)))
  (case c9 => exact D.q1j (D.q0r (by k_is) (by kernel_rfl)))
  (case k9 => exact D.q1k (by kernel_rfl))
  (case a10 => exact D.ns_m (D.q0i (by k_is) (by kernel_rfl)))
  (case l10 => exact D.q1a (D.q0p (by k_is) (by kernel_rfl)))
  (case c10 => exact D.q1j (D.q0r (by k_is) (by kernel_rfl)))
  (case k10 => exact D.q1k (by kernel_rfl))
  (case a11 => exact D.ns_m (D.q0i (by k_is) (by kernel_rfl)))
  (case l11 => exact D.q1a (D.q0p (by k_is) (by kernel_rfl)))
  (case c11 => exact D.q1j (D.q0r (by k_is) (by kernel_rfl)))
  (case k11 => exact D.q1k (by kernel_rfl))
  (case a12 => exact D.ns_m (D.q0i (by k_is) (by kernel_rfl)))
  (case l12 => exact D.q1a (D.q0p (by k_is) (by kernel_rfl)))
  (case c12 => exact D.q1j (D.q0r (by k_is) (by kernel_rfl)))
  (case k12 => exact D.q1k (by kernel_rfl))
  (case a13 => exact D.ns_m (D.q0i (by k_is) (by kernel_rfl)))
  (case l13 => exact D.q1a (D.q0p (by k_is) (by kernel_rfl)))
  (case c13 => exact D.q1j (D.q0r (by k_is) (by kernel_rfl)))
  (case k13 => exact D.q1k (by kernel_rfl))
  (case a14 => exact D.ns_m (D.q0i (by k_is) (by kernel_rfl)))
  (case l14 => exact D.q1a (D.q0p (by k_is) (by kernel_rfl)))
  (case c14 => exact D.q1j (D.q0r (by k_is) (by kernel_rfl)))
  (case k14 => exact D.q1k (by kernel_rfl))
  (case a15 => exact D.ns_m (D.q0i (by k_is) (by kernel_rfl)))
  (case l15 => exact D.q1a (D.q0p (by k_is) (by kernel_rfl)))
  (case c15 => exact D.q1j (D.q0r (by k_is) (by kernel_rfl)))
  (case k15 => exact D.q1k (by kernel_rfl))
  (case a16 => exact D.ns_m (D.q0i (by k_is) (by kernel_rfl)))
  (case l16 => exact D.q1a (D.q0p (by k_is) (by kernel_rfl)))
  (case c16 => exact D.q1j (D.q0r (by k_is) (by kernel_rfl)))
  (case k16 => exact D.q1k (by kernel_rfl))
  (case a17 => exact D.ns_m (D.q0i (by k_is) (by kernel_rfl)))
  (case l17 => exact D.q1a (D.q0p (by k_is) (by kernel_rfl)))
  (case c17 => exact D.q1j (D.q0r (by k_is) (by kernel_rfl)))
  (case k17 => exact D.q1k (by kernel_rfl))
  (case a18 => exact D.ns_m (D.q0i (by k_is) (by kernel_rfl)))
  (case l18 => exact D.q1a (D.q0p (by k_is) (by kernel_rfl)))
  (case c18 => exact D.q1j (D.q0r (by k_is) (by kernel_rfl)))
  (case k18 => exact D.q1k (by kernel_rfl))
  (case v14 => exact rfl)
  (case h14 => exact (show codeHdIn _ _ 145 = true by kernel_rfl))
  (case m14 => exact w0i _ (by simp))
  (case n_CircuitError => exact D.ns_m (D.q0i (by k_is) (by kernel_rfl)))
  (case n_UnlikeSizes => exact D.ns_m (D.q0i (by k_is) (by kernel_rfl)))
  (case n_NoMachine => exact D.ns_m (D.q0i (by k_is) (by kernel_rfl)))
  (case z_all => exact D.ns_m (D.q0i (by k_is) (by kernel_rfl)))
  (case z_bool => exact D.ns_m (D.q0i (by k_is) (by kernel_rfl)))
  (case z_dict => exact D.ns_m (D.q0i (by k_is) (by kernel_rfl)))
  (case z_int => exact D.ns_m (D.q0i (by k_is) (by kernel_rfl)))
  (case z_isinstance => exact D.ns_m (D.q0i (by k_is) (by kernel_rfl)))
  (case z_len => exact D.ns_m (D.q0i (by k_is) (by kernel_rfl)))
  (case z_list => exact D.ns_m (D.q0i (by k_is) (by kernel_rfl)))
  (case z_min => exact D.ns_m (D.q0i (by k_is) (by kernel_rfl)))
  (case z_range => exact D.ns_m (D.q0i (by k_is) (by kernel_rfl)))
  (case z_repr => exact D.ns_m (D.q0i (by k_is) (by kernel_rfl)))
  (case z_sorted => exact D.ns_m (D.q0i (by k_is) (by kernel_rfl)))
  (case z_tuple => exact D.ns_m (D.q0i (by k_is) (by kernel_rfl)))
  (case z_zip => exact D.ns_m (D.q0i (by k_is) (by kernel_rfl)))
  (case t_NoneType_bool => kernel_rfl)
  (case t_bool_bool => kernel_rfl)
  (case t_int_bool => kernel_rfl)
  (case t_str_bool => kernel_rfl)
  (case t_tuple_bool => kernel_rfl)
  (case t_list_bool => kernel_rfl)
  (case nt => exact D.no_m (by kernel_rfl) D.x9h)
  (case hL => exact fun a M ns hl => Q.y0j M ns hl)
